/-
  The functions of package couperef02, each by a contract: Abs, Gcd, Check, Valid, Floor, Ceil, Round; and those of package fraction for every input.
-/
import Derived.Test.YtcbecfimikpljaaFops2
namespace Go.Proofs.Ytcbecfimikpljaa
open Go.RowKit
set_option linter.unusedVariables false
set_option linter.unusedSimpArgs false

theorem rabs_any (n : Int) (h0 : -9223372036854775808 < n) (h1 : n ≤ 9223372036854775807) (w : World) :
    Calls Try.prog 50 #[.int .i64 n] w fun e w' => e = .returned (.int .i64 (n.natAbs : Int)) ∧ w' = w := by
  by_cases c : n < 0
  · go_enter Try.func50, Try.ntmps50
    go_wp2
    go_ret
    exact ⟨ret_i64 (by omega), rfl⟩
  · go_enter Try.func50, Try.ntmps50
    go_wp2
    go_ret
    exact ⟨ret_i64 (by omega), rfl⟩
/-- The loop of the reference's greatest common divisor. -/
def Gr (G : Nat) (w : World) (v v' : Value) (wr : World) : Prop :=
  ∃ (x y : Int) (q : Nat), v = .int .i64 x ∧ v' = .int .i64 y ∧ 0 ≤ x ∧ x ≤ 1000000000000000 ∧ 0 ≤ y ∧ y ≤ 1000000000000000 ∧ Int.gcd x y = G ∧ wr = w.drewN q
theorem rgcd_any (a b : Int) (a0 : 0 ≤ a) (a1 : a ≤ 1000000000000000) (b0 : 0 ≤ b) (b1 : b ≤ 1000000000000000) (G : Nat) (hG : Int.gcd a b = G) (w : World) :
    Calls Try.prog 49 #[.int .i64 a, .int .i64 b] w (Quiet (.int .i64 (G : Int)) w) := by
  have HG := hid hG
  clear hG
  go_enter Try.func49, Try.ntmps49
  go_wp2_with fail
  go_loopw [0, 1] (fun v v' wr => Gr G w v v' wr) (fun _ v _ => (intOf v).toNat)
  case atStart => exact ⟨a, b, 0, rfl, rfl, by omega, a1, b0, by omega, HG.out, rfl⟩
  case round =>
    obtain ⟨x, y, q, rfl, rfl, x0, x1, y0, y1, hg, rfl⟩ := hrel
    have GH := hid hg
    clear hg
    by_cases hy : y = 0
    · subst hy
      have hx : x = (G : Int) := by
        have := GH.out
        rw [Int.gcd_zero_right] at this
        omega
      subst hx
      go_wp2
      go_ret
      exact ⟨rfl, q, rfl⟩
    · have hy1 : 1 ≤ y := by omega
      have gy : (y == 0) = false := by simp; exact hy
      have gyn : (y != 0) = true := by simp; exact hy
      have m0 := Int.emod_nonneg x hy
      have m1 := Int.emod_lt_of_pos x (show 0 < y by omega)
      have st := hid (gcd_step (x := x) x0 y0)
      go_wp2
      go_quiet (fail)
      go_wp2
      go_roundw
      case rel => exact ⟨y, x % y, q + nq, rfl, rfl, by omega, by omega, by omega, by omega, by rw [st.out]; exact GH.out, World.drewN_drewN _ _ _⟩
      case measure => simp [intOf]; omega
theorem rfcheck_any (n d : Int) (n0 : -9223372036854775808 ≤ n) (n1 : n ≤ 9223372036854775807) (d0 : -9223372036854775808 ≤ d) (d1 : d ≤ 9223372036854775807) (w : World) :
    Calls Try.prog 28 #[.agg #[.int .i64 n, .int .i64 d]] w (Gives (.int .i64 (Sp.fchk n d)) w) := by
  by_cases c1 : d ≤ 0
  · have e : Sp.fchk n d = 3 := by unfold Sp.fchk; rw [if_pos c1]
    rw [e]
    clear e
    go_enter Try.func28, Try.ntmps28
    go_wp2
    go_ret
    exact Gives.mk rfl (by repeat' (first | (with_reducible exact Below.refl _ _) | (with_reducible refine Below.alloc ?_ ?_ _) | (with_reducible refine Below.setCell ?_ ?_ _) | (with_reducible refine Below.drew ?_) | (with_reducible refine Below.trans ?_ (Below.mono (by assumption) ?_)) | (simp; done) | (simp; omega) | omega))
  · by_cases c2 : n < -1000000000000000 ∨ 1000000000000000 < n ∨ 1000000000000000 < d
    · have e : Sp.fchk n d = 8 := by unfold Sp.fchk; rw [if_neg c1, if_pos c2]
      rw [e]
      clear e
      have c6 : 1 ≤ d := by omega
      clear c1
      rcases c2 with c2 | c2 | c2
      all_goals
        go_enter Try.func28, Try.ntmps28
        go_wp2
        all_goals (go_ret; exact Gives.mk rfl (by repeat' (first | (with_reducible exact Below.refl _ _) | (with_reducible refine Below.alloc ?_ ?_ _) | (with_reducible refine Below.setCell ?_ ?_ _) | (with_reducible refine Below.drew ?_) | (with_reducible refine Below.trans ?_ (Below.mono (by assumption) ?_)) | (simp; done) | (simp; omega) | omega)))
    · obtain ⟨G, hG⟩ : ∃ G, Int.gcd n d = G := ⟨_, rfl⟩
      have hG2 : Int.gcd (n.natAbs : Int) d = G := by rw [← hG]; simp [Int.gcd]
      have G0 : 0 < G := by rw [← hG]; exact Nat.pos_of_ne_zero (fun h => by rw [Int.gcd_eq_zero_iff] at h; omega)
      have e : Sp.fchk n d = if 1 < G then 3 else 0 := by unfold Sp.fchk; rw [if_neg c1, if_neg c2, hG]
      have mg := fun w => rabs_any n (by omega) n1 w
      obtain ⟨N, hN⟩ : ∃ N : Int, (n.natAbs : Int) = N := ⟨_, rfl⟩
      rw [hN] at mg hG2
      have dv := fun w => rgcd_any N d (by omega) (by omega) (by omega) (by omega) G hG2 w
      rw [e]
      clear e hG hG2
      have c3 : -1000000000000000 ≤ n := by omega
      have c4 : n ≤ 1000000000000000 := by omega
      have c5 : d ≤ 1000000000000000 := by omega
      have c6 : 1 ≤ d := by omega
      clear c1 c2 hN
      by_cases g1 : 1 < G
      · rw [if_pos g1]
        have gg : (((G : Int)) != 1) = true := by simp; omega
        clear g1
        go_enter Try.func28, Try.ntmps28
        go_wp2
        go_quiet ((first | (go_at_call 50; (with_reducible exact Calls.quiet_of_same (mg _))) | (go_at_call 49; (with_reducible exact Calls.quiet_of (dv _)))))
        go_wp2
        all_goals
          go_ret
          exact Gives.mk rfl (by repeat' (first | (with_reducible exact Below.refl _ _) | (with_reducible refine Below.alloc ?_ ?_ _) | (with_reducible refine Below.setCell ?_ ?_ _) | (with_reducible refine Below.drew ?_) | (with_reducible refine below_dn ?_ _) | (with_reducible refine Below.trans ?_ (Below.mono (by assumption) ?_)) | (simp; done) | (simp; omega) | omega))
      · have g2 : G = 1 := by omega
        subst g2
        rw [if_neg (by omega)]
        go_enter Try.func28, Try.ntmps28
        go_wp2
        go_quiet ((first | (go_at_call 50; (with_reducible exact Calls.quiet_of_same (mg _))) | (go_at_call 49; (with_reducible exact Calls.quiet_of (dv _)))))
        go_wp2
        all_goals
          go_ret
          exact Gives.mk rfl (by repeat' (first | (with_reducible exact Below.refl _ _) | (with_reducible refine Below.alloc ?_ ?_ _) | (with_reducible refine Below.setCell ?_ ?_ _) | (with_reducible refine Below.drew ?_) | (with_reducible refine below_dn ?_ _) | (with_reducible refine Below.trans ?_ (Below.mono (by assumption) ?_)) | (simp; done) | (simp; omega) | omega))

namespace Sp
theorem tdiv_ceil {n d : Int} (hd : 0 < d) : -((-n) / d) = if 0 < n.tmod d then n.tdiv d + 1 else n.tdiv d := by
  rw [tdiv_floor hd, Int.neg_tmod, Int.neg_tdiv]
  split <;> split <;> omega
theorem round_half {m d : Int} (m0 : 0 ≤ m) (hd : 0 < d) : (2 * m + d) / (2 * d) = if d ≤ 2 * (m % d) then m / d + 1 else m / d := by
  have h1 := Int.emod_nonneg m (show d ≠ 0 by omega)
  have h2 := Int.emod_lt_of_pos m hd
  have h3 := Int.emod_add_mul_ediv m d
  generalize m / d = q at *
  generalize m % d = r at *
  have e : 2 * m + d = (2 * r + d) + (2 * d) * q := by
    rw [Int.mul_assoc]; omega
  rw [e, Int.add_mul_ediv_left _ _ (by omega)]
  split
  · have : (2 * r + d) / (2 * d) = 1 := by
      have a := (Int.le_ediv_iff_mul_le (a := 1) (b := 2 * r + d) (show 0 < 2 * d by omega)).2 (by omega)
      have b := (Int.ediv_lt_iff_lt_mul (a := 2 * r + d) (b := 2) (show 0 < 2 * d by omega)).2 (by omega)
      omega
    omega
  · have : (2 * r + d) / (2 * d) = 0 := Int.ediv_eq_zero_of_lt (by omega) (by omega)
    omega
end Sp
theorem ffloor_all (n d : Int) (N0 : -9223372036854775808 ≤ n) (N1 : n ≤ 9223372036854775807) (D0 : -9223372036854775808 ≤ d) (D1 : d ≤ 9223372036854775807) (w : World) :
    Calls Try.prog 43 #[.agg #[.int .i64 n, .int .i64 d]] w (Gives (.int .i64 (Sp.floorF n d)) w) := by
  unfold Sp.floorF
  by_cases hv : Sp.fchk n d = 0
  · rw [if_neg (by omega)]
    exact ffloor_any n d hv w
  · rw [if_pos hv]
    have ck := fun w => fcheck_any n d N0 N1 D0 D1 w
    obtain ⟨y, hy⟩ : ∃ y, Sp.fchk n d = y := ⟨_, rfl⟩
    rw [hy] at ck hv
    clear hy
    go_enter Try.func43, Try.ntmps43
    go_wp2_with (go_at_call 47; refine (ck _).mono ?_; rintro e w1 ⟨rfl, hb⟩)
    go_ret
    exact Gives.mk rfl (by repeat' (first | (with_reducible exact Below.refl _ _) | (with_reducible refine Below.alloc ?_ ?_ _) | (with_reducible refine Below.setCell ?_ ?_ _) | (with_reducible refine Below.drew ?_) | (with_reducible refine below_dn ?_ _) | (with_reducible refine Below.trans ?_ (Below.mono (by assumption) ?_)) | (simp; done) | (simp; omega) | omega))
theorem fceil_all (n d : Int) (N0 : -9223372036854775808 ≤ n) (N1 : n ≤ 9223372036854775807) (D0 : -9223372036854775808 ≤ d) (D1 : d ≤ 9223372036854775807) (w : World) :
    Calls Try.prog 44 #[.agg #[.int .i64 n, .int .i64 d]] w (Gives (.int .i64 (Sp.ceilF n d)) w) := by
  unfold Sp.ceilF
  by_cases hv : Sp.fchk n d = 0
  · rw [if_neg (by omega)]
    exact fceil_any n d hv w
  · rw [if_pos hv]
    have ck := fun w => fcheck_any n d N0 N1 D0 D1 w
    obtain ⟨y, hy⟩ : ∃ y, Sp.fchk n d = y := ⟨_, rfl⟩
    rw [hy] at ck hv
    clear hy
    go_enter Try.func44, Try.ntmps44
    go_wp2_with (go_at_call 47; refine (ck _).mono ?_; rintro e w1 ⟨rfl, hb⟩)
    go_ret
    exact Gives.mk rfl (by repeat' (first | (with_reducible exact Below.refl _ _) | (with_reducible refine Below.alloc ?_ ?_ _) | (with_reducible refine Below.setCell ?_ ?_ _) | (with_reducible refine Below.drew ?_) | (with_reducible refine below_dn ?_ _) | (with_reducible refine Below.trans ?_ (Below.mono (by assumption) ?_)) | (simp; done) | (simp; omega) | omega))
end Go.Proofs.Ytcbecfimikpljaa
