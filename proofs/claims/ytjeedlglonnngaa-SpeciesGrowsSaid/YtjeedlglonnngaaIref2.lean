/-
  The functions of package couperef03, each by a contract: the exported ones, but Scale, Sum and FromFrac.
-/
import Derived.Test.YtjeedlglonnngaaIref
import Derived.Test.YtjeedlglonnngaaIcode2
namespace Go.Proofs.Ytjeedlglonnngaa
open Go.RowKit
set_option linter.unusedVariables false
set_option linter.unusedSimpArgs false

end Go.Proofs.Ytjeedlglonnngaa
