/-
  The functions of package couperef01, each by a contract: Of, Int, Gcd.
-/
import Derived.Test.YtfdnmlggemonhaaWrefdiv
import Derived.Test.YtfdnmlggemonhaaWrefadd3
import Derived.Test.YtfdnmlggemonhaaWint
namespace Go.Proofs.Ytfdnmlggemonhaa
open Go.RowKit
set_option linter.unusedVariables false
set_option linter.unusedSimpArgs false

end Go.Proofs.Ytfdnmlggemonhaa
