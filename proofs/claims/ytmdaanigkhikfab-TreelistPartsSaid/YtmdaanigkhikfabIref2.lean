/-
  The functions of package couperef03, each by a contract: the exported ones, but Scale, Sum and FromFrac.
-/
import Derived.Test.YtmdaanigkhikfabIref
import Derived.Test.YtmdaanigkhikfabIcode2
namespace Go.Proofs.Ytmdaanigkhikfab
open Go.RowKit
set_option linter.unusedVariables false
set_option linter.unusedSimpArgs false

end Go.Proofs.Ytmdaanigkhikfab
