/-
  The functions of package fraction that package interval calls, each by a contract.
-/
import Derived.Test.YtmdaanigkhikfabFmath
import Derived.Test.YtmdaanigkhikfabWint
import Derived.Test.YtmdaanigkhikfabIcode2
namespace Go.Proofs.Ytmdaanigkhikfab
open Go.RowKit
set_option linter.unusedVariables false
set_option linter.unusedSimpArgs false

theorem fmag_any (a : Int) (h0 : -9223372036854775808 ≤ a) (h1 : a ≤ 9223372036854775807) (w : World) :
    Calls Try.prog 59 #[.int .i64 a] w fun e w' => e = .returned (.int .u64 (a.natAbs : Int)) ∧ w' = w := by
  by_cases c : a < 0
  · go_enter Try.func59, Try.ntmps59
    go_wp2
    go_ret
    refine ⟨ret_u64 ?_, rfl⟩
    rw [IntKind.wrap_u64, IntKind.wrap_u64]; omega
  · go_enter Try.func59, Try.ntmps59
    go_wp2
    go_ret
    refine ⟨ret_u64 ?_, rfl⟩
    omega
/-- A call answers a value, and has drawn some orders. -/
def Quiet (v : Value) (w : World) (e : Ending) (w' : World) : Prop := e = .returned v ∧ ∃ q, w' = w.drewN q
/-- The loop of the greatest common divisor. -/
def Gq (G : Nat) (w : World) (v v' : Value) (wr : World) : Prop :=
  ∃ (x y : Int) (q : Nat), v = .int .u64 x ∧ v' = .int .u64 y ∧ 0 ≤ x ∧ x ≤ 9223372036854775808 ∧ 0 ≤ y ∧ y ≤ 9223372036854775808 ∧ Int.gcd x y = G ∧ wr = w.drewN q
theorem fdivisor_any (a b : Int) (a0 : 0 ≤ a) (a1 : a ≤ 9223372036854775808) (b0 : 0 ≤ b) (b1 : b ≤ 9223372036854775808) (G : Nat) (hG : Int.gcd a b = G) (w : World) :
    Calls Try.prog 60 #[.int .u64 a, .int .u64 b] w (Quiet (.int .u64 (G : Int)) w) := by
  have HG := hid hG
  clear hG
  go_enter Try.func60, Try.ntmps60
  go_wp2_with fail
  go_loopw [0, 1] (fun v v' wr => Gq G w v v' wr) (fun _ v _ => (intOf v).toNat)
  case atStart => exact ⟨a, b, 0, rfl, rfl, by omega, a1, b0, by omega, HG.out, rfl⟩
  case round =>
    obtain ⟨x, y, q, rfl, rfl, x0, x1, y0, y1, hg, rfl⟩ := hrel
    have GH := hid hg
    clear hg
    by_cases hy : y = 0
    · subst hy
      have hx : x = (G : Int) := by
        have := GH.out
        rw [Int.gcd_zero_right] at this
        omega
      subst hx
      go_wp2
      go_ret
      exact ⟨rfl, q, rfl⟩
    · have hy1 : 1 ≤ y := by omega
      have gy : (y == 0) = false := by simp; exact hy
      have gyn : (y != 0) = true := by simp; exact hy
      have m0 := Int.emod_nonneg x hy
      have m1 := Int.emod_lt_of_pos x (show 0 < y by omega)
      have st := hid (gcd_step (x := x) x0 y0)
      go_wp2
      go_quiet (fail)
      go_wp2
      go_roundw
      case rel => exact ⟨y, x % y, q + nq, rfl, rfl, by omega, by omega, by omega, by omega, by rw [st.out]; exact GH.out, World.drewN_drewN _ _ _⟩
      case measure => simp [intOf]; omega
end Go.Proofs.Ytmdaanigkhikfab
