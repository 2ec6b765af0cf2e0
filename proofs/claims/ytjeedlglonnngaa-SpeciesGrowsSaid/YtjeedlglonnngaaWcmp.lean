/-
  The exported functions of package wide, each by a contract: comparisons.
-/
import Derived.Test.YtjeedlglonnngaaWmul
namespace Go.Proofs.Ytjeedlglonnngaa
open Go.RowKit
set_option linter.unusedVariables false

end Go.Proofs.Ytjeedlglonnngaa
