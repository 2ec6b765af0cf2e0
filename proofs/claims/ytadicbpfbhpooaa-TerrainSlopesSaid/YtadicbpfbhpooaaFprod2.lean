/-
  The functions of package fraction, each by a contract: sum of every two valid fractions.
-/
import Derived.Test.YtadicbpfbhpooaaFprod1
import Derived.Test.YtadicbpfbhpooaaFsum
namespace Go.Proofs.Ytadicbpfbhpooaa
open Go.RowKit
set_option linter.unusedVariables false

end Go.Proofs.Ytadicbpfbhpooaa
