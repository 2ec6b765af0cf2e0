/-
  The exported functions of package wide, each by a contract: comparisons.
-/
import Derived.Test.YtmdaanigkhikfaaWmul
namespace Go.Proofs.Ytmdaanigkhikfaa
open Go.RowKit
set_option linter.unusedVariables false

end Go.Proofs.Ytmdaanigkhikfaa
