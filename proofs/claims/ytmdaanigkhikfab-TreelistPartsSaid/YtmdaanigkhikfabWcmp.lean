/-
  The exported functions of package wide, each by a contract: comparisons.
-/
import Derived.Test.YtmdaanigkhikfabWmul
namespace Go.Proofs.Ytmdaanigkhikfab
open Go.RowKit
set_option linter.unusedVariables false

end Go.Proofs.Ytmdaanigkhikfab
