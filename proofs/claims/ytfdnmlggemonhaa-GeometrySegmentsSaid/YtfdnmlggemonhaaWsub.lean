/-
  The exported functions of package wide, each by a contract: differences.
-/
import Derived.Test.YtfdnmlggemonhaaWtop
import Derived.Deep.RegionHeld3
namespace Go.Proofs.Ytfdnmlggemonhaa
open Go.RowKit
set_option linter.unusedVariables false

end Go.Proofs.Ytfdnmlggemonhaa
