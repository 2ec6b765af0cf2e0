/-
  The exported functions of package wide, each by a contract: comparisons.
-/
import Derived.Test.YtadicbpfbhpooaaWmul
namespace Go.Proofs.Ytadicbpfbhpooaa
open Go.RowKit
set_option linter.unusedVariables false

end Go.Proofs.Ytadicbpfbhpooaa
