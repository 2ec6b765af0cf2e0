/-
  The exported functions of package wide, each by a contract.
-/
import Derived.Test.YtmdaanigkhikfabWsum
import Derived.Test.YtmdaanigkhikfabWdiv
namespace Go.Proofs.Ytmdaanigkhikfab
open Go.RowKit
set_option linter.unusedVariables false

/-- What is valid, of the halves alone. -/
theorem chk_of {n : Bool} {h l : Int} (hc : Wd.chk ⟨n, h, l⟩ = 0) : h < 9223372036854775808 := by
  unfold Wd.chk at hc
  apply Int.lt_of_not_ge
  intro hx
  rw [if_pos hx] at hc
  omega
end Go.Proofs.Ytmdaanigkhikfab
