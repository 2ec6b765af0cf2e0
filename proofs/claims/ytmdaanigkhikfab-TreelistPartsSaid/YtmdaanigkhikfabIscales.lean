/-
  Scale and FromFrac of package couperef03, by contract; IntervalScales.
-/
import Derived.Test.YtmdaanigkhikfabIquot
import Derived.Test.YtmdaanigkhikfabIawake
namespace Go.Proofs.Ytmdaanigkhikfab
open Go.RowKit
set_option linter.unusedVariables false
set_option linter.unusedSimpArgs false

theorem rabs_any (n : Int) (h0 : -9223372036854775808 < n) (h1 : n ≤ 9223372036854775807) (w : World) :
    Calls Try.prog 65 #[.int .i64 n] w fun e w' => e = .returned (.int .i64 (n.natAbs : Int)) ∧ w' = w := by
  by_cases c : n < 0
  · go_enter Try.func65, Try.ntmps65
    go_wp2
    go_ret
    exact ⟨ret_i64 (by omega), rfl⟩
  · go_enter Try.func65, Try.ntmps65
    go_wp2
    go_ret
    exact ⟨ret_i64 (by omega), rfl⟩
/-- The loop of the reference's greatest common divisor. -/
def Gr (G : Nat) (w : World) (v v' : Value) (wr : World) : Prop :=
  ∃ (x y : Int) (q : Nat), v = .int .i64 x ∧ v' = .int .i64 y ∧ 0 ≤ x ∧ x ≤ 1000000000000000 ∧ 0 ≤ y ∧ y ≤ 1000000000000000 ∧ Int.gcd x y = G ∧ wr = w.drewN q
theorem rgcd_any (a b : Int) (a0 : 0 ≤ a) (a1 : a ≤ 1000000000000000) (b0 : 0 ≤ b) (b1 : b ≤ 1000000000000000) (G : Nat) (hG : Int.gcd a b = G) (w : World) :
    Calls Try.prog 71 #[.int .i64 a, .int .i64 b] w (Quiet (.int .i64 (G : Int)) w) := by
  have HG := hid hG
  clear hG
  go_enter Try.func71, Try.ntmps71
  go_wp2_with fail
  go_loopw [0, 1] (fun v v' wr => Gr G w v v' wr) (fun _ v _ => (intOf v).toNat)
  case atStart => exact ⟨a, b, 0, rfl, rfl, by omega, a1, b0, by omega, HG.out, rfl⟩
  case round =>
    obtain ⟨x, y, q, rfl, rfl, x0, x1, y0, y1, hg, rfl⟩ := hrel
    have GH := hid hg
    clear hg
    by_cases hy : y = 0
    · subst hy
      have hx : x = (G : Int) := by
        have := GH.out
        rw [Int.gcd_zero_right] at this
        omega
      subst hx
      go_wp2
      go_ret
      exact ⟨rfl, q, rfl⟩
    · have hy1 : 1 ≤ y := by omega
      have gy : (y == 0) = false := by simp; exact hy
      have gyn : (y != 0) = true := by simp; exact hy
      have m0 := Int.emod_nonneg x hy
      have m1 := Int.emod_lt_of_pos x (show 0 < y by omega)
      have st := hid (gcd_step (x := x) x0 y0)
      go_wp2
      go_quiet (fail)
      go_wp2
      go_roundw
      case rel => exact ⟨y, x % y, q + nq, rfl, rfl, by omega, by omega, by omega, by omega, by rw [st.out]; exact GH.out, World.drewN_drewN _ _ _⟩
      case measure => simp [intOf]; omega
theorem rfcheck_any (n d : Int) (n0 : -9223372036854775808 ≤ n) (n1 : n ≤ 9223372036854775807) (d0 : -9223372036854775808 ≤ d) (d1 : d ≤ 9223372036854775807) (w : World) :
    Calls Try.prog 62 #[.agg #[.int .i64 n, .int .i64 d]] w (Gives (.int .i64 (Sp.fchk n d)) w) := by
  by_cases c1 : d ≤ 0
  · have e : Sp.fchk n d = 3 := by unfold Sp.fchk; rw [if_pos c1]
    rw [e]
    clear e
    go_enter Try.func62, Try.ntmps62
    go_wp2
    go_ret
    exact Gives.mk rfl (by repeat' (first | (with_reducible exact Below.refl _ _) | (with_reducible refine Below.alloc ?_ ?_ _) | (with_reducible refine Below.setCell ?_ ?_ _) | (with_reducible refine Below.drew ?_) | (with_reducible refine Below.trans ?_ (Below.mono (by assumption) ?_)) | (simp; done) | (simp; omega) | omega))
  · by_cases c2 : n < -1000000000000000 ∨ 1000000000000000 < n ∨ 1000000000000000 < d
    · have e : Sp.fchk n d = 8 := by unfold Sp.fchk; rw [if_neg c1, if_pos c2]
      rw [e]
      clear e
      have c6 : 1 ≤ d := by omega
      clear c1
      rcases c2 with c2 | c2 | c2
      all_goals
        go_enter Try.func62, Try.ntmps62
        go_wp2
        all_goals (go_ret; exact Gives.mk rfl (by repeat' (first | (with_reducible exact Below.refl _ _) | (with_reducible refine Below.alloc ?_ ?_ _) | (with_reducible refine Below.setCell ?_ ?_ _) | (with_reducible refine Below.drew ?_) | (with_reducible refine Below.trans ?_ (Below.mono (by assumption) ?_)) | (simp; done) | (simp; omega) | omega)))
    · obtain ⟨G, hG⟩ : ∃ G, Int.gcd n d = G := ⟨_, rfl⟩
      have hG2 : Int.gcd (n.natAbs : Int) d = G := by rw [← hG]; simp [Int.gcd]
      have G0 : 0 < G := by rw [← hG]; exact Nat.pos_of_ne_zero (fun h => by rw [Int.gcd_eq_zero_iff] at h; omega)
      have e : Sp.fchk n d = if 1 < G then 3 else 0 := by unfold Sp.fchk; rw [if_neg c1, if_neg c2, hG]
      have mg := fun w => rabs_any n (by omega) n1 w
      obtain ⟨N, hN⟩ : ∃ N : Int, (n.natAbs : Int) = N := ⟨_, rfl⟩
      rw [hN] at mg hG2
      have dv := fun w => rgcd_any N d (by omega) (by omega) (by omega) (by omega) G hG2 w
      rw [e]
      clear e hG hG2
      have c3 : -1000000000000000 ≤ n := by omega
      have c4 : n ≤ 1000000000000000 := by omega
      have c5 : d ≤ 1000000000000000 := by omega
      have c6 : 1 ≤ d := by omega
      clear c1 c2 hN
      by_cases g1 : 1 < G
      · rw [if_pos g1]
        have gg : (((G : Int)) != 1) = true := by simp; omega
        clear g1
        go_enter Try.func62, Try.ntmps62
        go_wp2
        go_quiet ((first | (go_at_call 65; (with_reducible exact Calls.quiet_of_same (mg _))) | (go_at_call 71; (with_reducible exact Calls.quiet_of (dv _)))))
        go_wp2
        all_goals
          go_ret
          exact Gives.mk rfl (by repeat' (first | (with_reducible exact Below.refl _ _) | (with_reducible refine Below.alloc ?_ ?_ _) | (with_reducible refine Below.setCell ?_ ?_ _) | (with_reducible refine Below.drew ?_) | (with_reducible refine below_dn ?_ _) | (with_reducible refine Below.trans ?_ (Below.mono (by assumption) ?_)) | (simp; done) | (simp; omega) | omega))
      · have g2 : G = 1 := by omega
        subst g2
        rw [if_neg (by omega)]
        go_enter Try.func62, Try.ntmps62
        go_wp2
        go_quiet ((first | (go_at_call 65; (with_reducible exact Calls.quiet_of_same (mg _))) | (go_at_call 71; (with_reducible exact Calls.quiet_of (dv _)))))
        go_wp2
        all_goals
          go_ret
          exact Gives.mk rfl (by repeat' (first | (with_reducible exact Below.refl _ _) | (with_reducible refine Below.alloc ?_ ?_ _) | (with_reducible refine Below.setCell ?_ ?_ _) | (with_reducible refine Below.drew ?_) | (with_reducible refine below_dn ?_ _) | (with_reducible refine Below.trans ?_ (Below.mono (by assumption) ?_)) | (simp; done) | (simp; omega) | omega))
/-- What the two floors make. -/
def floorsS (va vb : Int) : Int × Int × Int :=
  if (-1000000000000000 ≤ va ∧ va ≤ 1000000000000000) ∧ (-1000000000000000 ≤ vb ∧ vb ≤ 1000000000000000) then (va, -vb, 0) else (0, 0, 8)
end Go.Proofs.Ytmdaanigkhikfab
