/-
  The functions of package fraction, each by a contract: sum of every two valid fractions.
-/
import Derived.Test.YtmdaanigkhikfaaFprod1
import Derived.Test.YtmdaanigkhikfaaFsum
namespace Go.Proofs.Ytmdaanigkhikfaa
open Go.RowKit
set_option linter.unusedVariables false

end Go.Proofs.Ytmdaanigkhikfaa
