/-
  Layer 10: Mass and Carbon of the reference, by contract.
-/
import Derived.Test.YtmdaanigkhikfabSy
namespace Go.Proofs.Ytmdaanigkhikfab
open Go.RowKit
set_option linter.unusedVariables false
set_option linter.unusedSimpArgs false

end Go.Proofs.Ytmdaanigkhikfab
