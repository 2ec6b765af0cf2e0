/-
  The exported functions of package wide, each by a contract: comparisons.
-/
import Derived.Test.YtdimncchejbaaaaWmul
namespace Go.Proofs.Ytdimncchejbaaaa
open Go.RowKit
set_option linter.unusedVariables false

end Go.Proofs.Ytdimncchejbaaaa
