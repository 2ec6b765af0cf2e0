/-
  The functions of package couperef01, each by a contract: differences of magnitudes.
-/
import Derived.Test.YtfdnmlggemonhaaWrefsum
import Derived.Deep.DeepCutAuto
import Derived.Deep.RegionHeld3
import Derived.Deep.QuietTactic
import Derived.BigQuiet
namespace Go.Proofs.Ytfdnmlggemonhaa
open Go.RowKit
set_option linter.unusedVariables false
set_option linter.unusedSimpArgs false

end Go.Proofs.Ytfdnmlggemonhaa
