/-
  The functions of package fraction, each by a contract: sum of every two valid fractions.
-/
import Derived.Test.YtjeedlglonnngaaFprod1
import Derived.Test.YtjeedlglonnngaaFsum
namespace Go.Proofs.Ytjeedlglonnngaa
open Go.RowKit
set_option linter.unusedVariables false

end Go.Proofs.Ytjeedlglonnngaa
