/-
  The functions of package interval, each by a contract: differences, negatives, joins and meets.
-/
import Derived.Test.YtmdaanigkhikfabIcode
import Derived.Deep.RegionHeld3
import Derived.Deep.QuietTactic
import Derived.BigQuiet
namespace Go.Proofs.Ytmdaanigkhikfab
open Go.RowKit
set_option linter.unusedVariables false
set_option linter.unusedSimpArgs false

end Go.Proofs.Ytmdaanigkhikfab
