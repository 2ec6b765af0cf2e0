/-
  The functions of package fraction, each by a contract: sum of every two valid fractions.
-/
import Derived.Test.YtgfjofdjicepiaaDoorFprod1
import Derived.Test.YtgfjofdjicepiaaDoorFsum
namespace Go.Proofs.YtgfjofdjicepiaaDoor
open Go.RowKit
set_option linter.unusedVariables false

end Go.Proofs.YtgfjofdjicepiaaDoor
