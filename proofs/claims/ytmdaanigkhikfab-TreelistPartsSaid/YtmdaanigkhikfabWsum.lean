/-
  The functions of package wide, each by a contract: sums and comparisons.
-/
import Derived.Test.YtmdaanigkhikfabWcode
import Derived.Shelf.Spec.BitsCarry
namespace Go.Proofs.Ytmdaanigkhikfab
open Go.RowKit
set_option linter.unusedVariables false

end Go.Proofs.Ytmdaanigkhikfab
