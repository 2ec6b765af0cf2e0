/-
  The functions of package fraction, each by a contract: Div, Compare, Round.
-/
import Derived.Test.YtmdaanigkhikfabFops
namespace Go.Proofs.Ytmdaanigkhikfab
open Go.RowKit
set_option linter.unusedVariables false
set_option linter.unusedSimpArgs false

theorem fchk_recip {n d : Int} (h : Sp.fchk n d = 0) (n0 : 0 < n) : Sp.fchk d n = 0 := by
  rw [Sp.fchk_zero] at h ⊢
  rw [Int.gcd_comm]; omega
theorem fchk_recip_neg {n d : Int} (h : Sp.fchk n d = 0) (n0 : n < 0) : Sp.fchk (-d) (-n) = 0 := by
  rw [Sp.fchk_zero] at h ⊢
  rw [Int.gcd_comm, Int.neg_gcd, Int.gcd_neg]; omega
end Go.Proofs.Ytmdaanigkhikfab
