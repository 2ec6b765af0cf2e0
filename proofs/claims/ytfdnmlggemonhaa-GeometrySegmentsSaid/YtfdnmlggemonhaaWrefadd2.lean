/-
  The functions of package couperef01, each by a contract: add, turned, Add, Sub, Neg.
-/
import Derived.Test.YtfdnmlggemonhaaWrefadd
namespace Go.Proofs.Ytfdnmlggemonhaa
open Go.RowKit
set_option linter.unusedVariables false
set_option linter.unusedSimpArgs false

end Go.Proofs.Ytfdnmlggemonhaa
