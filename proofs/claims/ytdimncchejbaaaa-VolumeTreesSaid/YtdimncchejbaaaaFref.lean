/-
  The functions of package couperef02, each by a contract: Abs, Gcd, Check, Valid, Floor, Ceil, Round; and those of package fraction for every input.
-/
import Derived.Test.YtdimncchejbaaaaFops2
namespace Go.Proofs.Ytdimncchejbaaaa
open Go.RowKit
set_option linter.unusedVariables false
set_option linter.unusedSimpArgs false

theorem rabs_any (n : Int) (h0 : -9223372036854775808 < n) (h1 : n ≤ 9223372036854775807) (w : World) :
    Calls Try.prog 59 #[.int .i64 n] w fun e w' => e = .returned (.int .i64 (n.natAbs : Int)) ∧ w' = w := by
  by_cases c : n < 0
  · go_enter Try.func59, Try.ntmps59
    go_wp2
    go_ret
    exact ⟨ret_i64 (by omega), rfl⟩
  · go_enter Try.func59, Try.ntmps59
    go_wp2
    go_ret
    exact ⟨ret_i64 (by omega), rfl⟩
/-- The loop of the reference's greatest common divisor. -/
def Gr (G : Nat) (w : World) (v v' : Value) (wr : World) : Prop :=
  ∃ (x y : Int) (q : Nat), v = .int .i64 x ∧ v' = .int .i64 y ∧ 0 ≤ x ∧ x ≤ 1000000000000000 ∧ 0 ≤ y ∧ y ≤ 1000000000000000 ∧ Int.gcd x y = G ∧ wr = w.drewN q
theorem rgcd_any (a b : Int) (a0 : 0 ≤ a) (a1 : a ≤ 1000000000000000) (b0 : 0 ≤ b) (b1 : b ≤ 1000000000000000) (G : Nat) (hG : Int.gcd a b = G) (w : World) :
    Calls Try.prog 83 #[.int .i64 a, .int .i64 b] w (Quiet (.int .i64 (G : Int)) w) := by
  have HG := hid hG
  clear hG
  go_enter Try.func83, Try.ntmps83
  go_wp2_with fail
  go_loopw [0, 1] (fun v v' wr => Gr G w v v' wr) (fun _ v _ => (intOf v).toNat)
  case atStart => exact ⟨a, b, 0, rfl, rfl, by omega, a1, b0, by omega, HG.out, rfl⟩
  case round =>
    obtain ⟨x, y, q, rfl, rfl, x0, x1, y0, y1, hg, rfl⟩ := hrel
    have GH := hid hg
    clear hg
    by_cases hy : y = 0
    · subst hy
      have hx : x = (G : Int) := by
        have := GH.out
        rw [Int.gcd_zero_right] at this
        omega
      subst hx
      go_wp2
      go_ret
      exact ⟨rfl, q, rfl⟩
    · have hy1 : 1 ≤ y := by omega
      have gy : (y == 0) = false := by simp; exact hy
      have gyn : (y != 0) = true := by simp; exact hy
      have m0 := Int.emod_nonneg x hy
      have m1 := Int.emod_lt_of_pos x (show 0 < y by omega)
      have st := hid (gcd_step (x := x) x0 y0)
      go_wp2
      go_quiet (fail)
      go_wp2
      go_roundw
      case rel => exact ⟨y, x % y, q + nq, rfl, rfl, by omega, by omega, by omega, by omega, by rw [st.out]; exact GH.out, World.drewN_drewN _ _ _⟩
      case measure => simp [intOf]; omega
theorem rfcheck_any (n d : Int) (n0 : -9223372036854775808 ≤ n) (n1 : n ≤ 9223372036854775807) (d0 : -9223372036854775808 ≤ d) (d1 : d ≤ 9223372036854775807) (w : World) :
    Calls Try.prog 77 #[.agg #[.int .i64 n, .int .i64 d]] w (Gives (.int .i64 (Sp.fchk n d)) w) := by
  by_cases c1 : d ≤ 0
  · have e : Sp.fchk n d = 3 := by unfold Sp.fchk; rw [if_pos c1]
    rw [e]
    clear e
    go_enter Try.func77, Try.ntmps77
    go_wp2
    go_ret
    exact Gives.mk rfl (by repeat' (first | (with_reducible exact Below.refl _ _) | (with_reducible refine Below.alloc ?_ ?_ _) | (with_reducible refine Below.setCell ?_ ?_ _) | (with_reducible refine Below.drew ?_) | (with_reducible refine Below.trans ?_ (Below.mono (by assumption) ?_)) | (simp; done) | (simp; omega) | omega))
  · by_cases c2 : n < -1000000000000000 ∨ 1000000000000000 < n ∨ 1000000000000000 < d
    · have e : Sp.fchk n d = 8 := by unfold Sp.fchk; rw [if_neg c1, if_pos c2]
      rw [e]
      clear e
      have c6 : 1 ≤ d := by omega
      clear c1
      rcases c2 with c2 | c2 | c2
      all_goals
        go_enter Try.func77, Try.ntmps77
        go_wp2
        all_goals (go_ret; exact Gives.mk rfl (by repeat' (first | (with_reducible exact Below.refl _ _) | (with_reducible refine Below.alloc ?_ ?_ _) | (with_reducible refine Below.setCell ?_ ?_ _) | (with_reducible refine Below.drew ?_) | (with_reducible refine Below.trans ?_ (Below.mono (by assumption) ?_)) | (simp; done) | (simp; omega) | omega)))
    · obtain ⟨G, hG⟩ : ∃ G, Int.gcd n d = G := ⟨_, rfl⟩
      have hG2 : Int.gcd (n.natAbs : Int) d = G := by rw [← hG]; simp [Int.gcd]
      have G0 : 0 < G := by rw [← hG]; exact Nat.pos_of_ne_zero (fun h => by rw [Int.gcd_eq_zero_iff] at h; omega)
      have e : Sp.fchk n d = if 1 < G then 3 else 0 := by unfold Sp.fchk; rw [if_neg c1, if_neg c2, hG]
      have mg := fun w => rabs_any n (by omega) n1 w
      obtain ⟨N, hN⟩ : ∃ N : Int, (n.natAbs : Int) = N := ⟨_, rfl⟩
      rw [hN] at mg hG2
      have dv := fun w => rgcd_any N d (by omega) (by omega) (by omega) (by omega) G hG2 w
      rw [e]
      clear e hG hG2
      have c3 : -1000000000000000 ≤ n := by omega
      have c4 : n ≤ 1000000000000000 := by omega
      have c5 : d ≤ 1000000000000000 := by omega
      have c6 : 1 ≤ d := by omega
      clear c1 c2 hN
      by_cases g1 : 1 < G
      · rw [if_pos g1]
        have gg : (((G : Int)) != 1) = true := by simp; omega
        clear g1
        go_enter Try.func77, Try.ntmps77
        go_wp2
        go_quiet ((first | (go_at_call 59; (with_reducible exact Calls.quiet_of_same (mg _))) | (go_at_call 83; (with_reducible exact Calls.quiet_of (dv _)))))
        go_wp2
        all_goals
          go_ret
          exact Gives.mk rfl (by repeat' (first | (with_reducible exact Below.refl _ _) | (with_reducible refine Below.alloc ?_ ?_ _) | (with_reducible refine Below.setCell ?_ ?_ _) | (with_reducible refine Below.drew ?_) | (with_reducible refine below_dn ?_ _) | (with_reducible refine Below.trans ?_ (Below.mono (by assumption) ?_)) | (simp; done) | (simp; omega) | omega))
      · have g2 : G = 1 := by omega
        subst g2
        rw [if_neg (by omega)]
        go_enter Try.func77, Try.ntmps77
        go_wp2
        go_quiet ((first | (go_at_call 59; (with_reducible exact Calls.quiet_of_same (mg _))) | (go_at_call 83; (with_reducible exact Calls.quiet_of (dv _)))))
        go_wp2
        all_goals
          go_ret
          exact Gives.mk rfl (by repeat' (first | (with_reducible exact Below.refl _ _) | (with_reducible refine Below.alloc ?_ ?_ _) | (with_reducible refine Below.setCell ?_ ?_ _) | (with_reducible refine Below.drew ?_) | (with_reducible refine below_dn ?_ _) | (with_reducible refine Below.trans ?_ (Below.mono (by assumption) ?_)) | (simp; done) | (simp; omega) | omega))

namespace Sp
theorem tdiv_ceil {n d : Int} (hd : 0 < d) : -((-n) / d) = if 0 < n.tmod d then n.tdiv d + 1 else n.tdiv d := by
  rw [tdiv_floor hd, Int.neg_tmod, Int.neg_tdiv]
  split <;> split <;> omega
theorem round_half {m d : Int} (m0 : 0 ≤ m) (hd : 0 < d) : (2 * m + d) / (2 * d) = if d ≤ 2 * (m % d) then m / d + 1 else m / d := by
  have h1 := Int.emod_nonneg m (show d ≠ 0 by omega)
  have h2 := Int.emod_lt_of_pos m hd
  have h3 := Int.emod_add_mul_ediv m d
  generalize m / d = q at *
  generalize m % d = r at *
  have e : 2 * m + d = (2 * r + d) + (2 * d) * q := by
    rw [Int.mul_assoc]; omega
  rw [e, Int.add_mul_ediv_left _ _ (by omega)]
  split
  · have : (2 * r + d) / (2 * d) = 1 := by
      have a := (Int.le_ediv_iff_mul_le (a := 1) (b := 2 * r + d) (show 0 < 2 * d by omega)).2 (by omega)
      have b := (Int.ediv_lt_iff_lt_mul (a := 2 * r + d) (b := 2) (show 0 < 2 * d by omega)).2 (by omega)
      omega
    omega
  · have : (2 * r + d) / (2 * d) = 0 := Int.ediv_eq_zero_of_lt (by omega) (by omega)
    omega
end Sp
theorem rvalid_any (n d : Int) (n0 : -9223372036854775808 ≤ n) (n1 : n ≤ 9223372036854775807) (d0 : -9223372036854775808 ≤ d) (d1 : d ≤ 9223372036854775807) (b : Bool) (hb : decide (Sp.fchk n d = 0) = b) (w : World) :
    Calls Try.prog 58 #[.agg #[.int .i64 n, .int .i64 d]] w (Gives (.bool b) w) := by
  have ck := fun w => rfcheck_any n d n0 n1 d0 d1 w
  obtain ⟨y, hy⟩ : ∃ y, Sp.fchk n d = y := ⟨_, rfl⟩
  rw [hy] at ck hb
  clear hy
  by_cases y0 : y = 0
  · subst y0
    have e : b = true := by rw [← hb]; rfl
    subst e
    clear hb
    go_enter Try.func58, Try.ntmps58
    go_wp2_with (go_at_call 77; refine (ck _).mono ?_; rintro _ w1 ⟨rfl, hb⟩)
    go_ret
    exact Gives.mk rfl (by repeat' (first | (with_reducible exact Below.refl _ _) | (with_reducible refine Below.alloc ?_ ?_ _) | (with_reducible refine Below.setCell ?_ ?_ _) | (with_reducible refine Below.drew ?_) | (with_reducible refine below_dn ?_ _) | (with_reducible refine Below.trans ?_ (Below.mono (by assumption) ?_)) | (simp; done) | (simp; omega) | omega))
  · have e : b = false := by rw [← hb]; simp [y0]
    subst e
    have g : (y == 0) = false := by simp; exact y0
    clear hb
    go_enter Try.func58, Try.ntmps58
    go_wp2_with (go_at_call 77; refine (ck _).mono ?_; rintro _ w1 ⟨rfl, hb⟩)
    go_ret
    exact Gives.mk rfl (by repeat' (first | (with_reducible exact Below.refl _ _) | (with_reducible refine Below.alloc ?_ ?_ _) | (with_reducible refine Below.setCell ?_ ?_ _) | (with_reducible refine Below.drew ?_) | (with_reducible refine below_dn ?_ _) | (with_reducible refine Below.trans ?_ (Below.mono (by assumption) ?_)) | (simp; done) | (simp; omega) | omega))
theorem rfloor_any (n d : Int) (N0 : -9223372036854775808 ≤ n) (N1 : n ≤ 9223372036854775807) (D0 : -9223372036854775808 ≤ d) (D1 : d ≤ 9223372036854775807) (w : World) :
    Calls Try.prog 67 #[.agg #[.int .i64 n, .int .i64 d]] w (Gives (.int .i64 (Sp.floorF n d)) w) := by
  unfold Sp.floorF
  by_cases hv : Sp.fchk n d = 0
  · rw [if_neg (by omega)]
    obtain ⟨d0, n0, n1, d1, _⟩ := Sp.fchk_zero.1 hv
    have va := fun w => rvalid_any n d N0 N1 D0 D1 true (by simp [hv]) w
    rw [Sp.tdiv_floor d0]
    have g : (d == 0) = false := by simp; omega
    obtain ⟨t, ht⟩ : ∃ t, n.tmod d = t := ⟨_, rfl⟩
    obtain ⟨q, hq⟩ : ∃ q, n.tdiv d = q := ⟨_, rfl⟩
    have qb : -1000000000000000 ≤ q ∧ q ≤ 1000000000000000 := by
      have e1 := Int.natAbs_tdiv n d
      have e2 := Nat.div_le_self n.natAbs d.natAbs
      rw [hq] at e1
      have e3 : q.natAbs ≤ n.natAbs := by rw [e1]; exact e2
      omega
    have q0 := qb.1
    have q1 := qb.2
    clear hv qb
    go_enter Try.func67, Try.ntmps67
    go_wp2_with (go_at_call 58; refine (va _).mono ?_; rintro _ w1 ⟨rfl, hb⟩; have pz : w.heap.size < (w1).heap.size := Nat.lt_of_lt_of_le (show w.heap.size < _ from (by first | assumption | (simp; done) | (simp; omega) | (dsimp only; omega) | omega)) hb.size; have p0 : (w1).cell? ⟨w.heap.size, 0, none⟩ = some (.int .i64 n) := (hb.cell (p := ⟨w.heap.size, 0, none⟩) (by first | assumption | (simp; done) | (simp; omega) | (dsimp only; omega) | omega)).trans (by first | assumption | (simp [go_sem]; done) | (simp [go_sem, *]; done)); have p1 : (w1).cell? ⟨w.heap.size, 1, none⟩ = some (.int .i64 d) := (hb.cell (p := ⟨w.heap.size, 1, none⟩) (by first | assumption | (simp; done) | (simp; omega) | (dsimp only; omega) | omega)).trans (by first | assumption | (simp [go_sem]; done) | (simp [go_sem, *]; done)); have pf : ∀ o, (w1).frozen? ⟨w.heap.size, o, none⟩ = false := fun o => (hb.frozen (p := ⟨w.heap.size, o, none⟩) (by first | assumption | (simp; done) | (simp; omega) | (dsimp only; omega) | omega)).trans (by first | (simp [go_sem]; done) | (simp [*]; done)))
    all_goals
      go_ret
      exact Gives.mk rfl (by repeat' (first | (with_reducible exact Below.refl _ _) | (with_reducible refine Below.alloc ?_ ?_ _) | (with_reducible refine Below.setCell ?_ ?_ _) | (with_reducible refine Below.drew ?_) | (with_reducible refine below_dn ?_ _) | (with_reducible refine Below.trans ?_ (Below.mono (by assumption) ?_)) | (simp; done) | (simp; omega) | omega))
  · rw [if_pos hv]
    have va := fun w => rvalid_any n d N0 N1 D0 D1 false (by simp [hv]) w
    clear hv
    go_enter Try.func67, Try.ntmps67
    go_wp2_with (go_at_call 58; refine (va _).mono ?_; rintro _ w1 ⟨rfl, hb⟩; have pz : w.heap.size < (w1).heap.size := Nat.lt_of_lt_of_le (show w.heap.size < _ from (by first | assumption | (simp; done) | (simp; omega) | (dsimp only; omega) | omega)) hb.size; have p0 : (w1).cell? ⟨w.heap.size, 0, none⟩ = some (.int .i64 n) := (hb.cell (p := ⟨w.heap.size, 0, none⟩) (by first | assumption | (simp; done) | (simp; omega) | (dsimp only; omega) | omega)).trans (by first | assumption | (simp [go_sem]; done) | (simp [go_sem, *]; done)); have p1 : (w1).cell? ⟨w.heap.size, 1, none⟩ = some (.int .i64 d) := (hb.cell (p := ⟨w.heap.size, 1, none⟩) (by first | assumption | (simp; done) | (simp; omega) | (dsimp only; omega) | omega)).trans (by first | assumption | (simp [go_sem]; done) | (simp [go_sem, *]; done)); have pf : ∀ o, (w1).frozen? ⟨w.heap.size, o, none⟩ = false := fun o => (hb.frozen (p := ⟨w.heap.size, o, none⟩) (by first | assumption | (simp; done) | (simp; omega) | (dsimp only; omega) | omega)).trans (by first | (simp [go_sem]; done) | (simp [*]; done)))
    go_ret
    exact Gives.mk rfl (by repeat' (first | (with_reducible exact Below.refl _ _) | (with_reducible refine Below.alloc ?_ ?_ _) | (with_reducible refine Below.setCell ?_ ?_ _) | (with_reducible refine Below.drew ?_) | (with_reducible refine below_dn ?_ _) | (with_reducible refine Below.trans ?_ (Below.mono (by assumption) ?_)) | (simp; done) | (simp; omega) | omega))
theorem rround_any (n d : Int) (N0 : -9223372036854775808 ≤ n) (N1 : n ≤ 9223372036854775807) (D0 : -9223372036854775808 ≤ d) (D1 : d ≤ 9223372036854775807) (w : World) :
    Calls Try.prog 37 #[.agg #[.int .i64 n, .int .i64 d]] w (Gives (.int .i64 (Sp.roundF n d)) w) := by
  unfold Sp.roundF
  by_cases hv : Sp.fchk n d = 0
  · rw [if_neg (by omega)]
    obtain ⟨d0, n0, n1, d1, _⟩ := Sp.fchk_zero.1 hv
    have va := fun w => rvalid_any n d N0 N1 D0 D1 true (by simp [hv]) w
    have ab := fun w => rabs_any n (by omega) (by omega) w
    have hr := Sp.round_half (m := (n.natAbs : Int)) (by omega) d0
    have e0 : (if n < 0 then -((2 * (-n) + d) / (2 * d)) else (2 * n + d) / (2 * d)) = if n < 0 then -((2 * (n.natAbs : Int) + d) / (2 * d)) else (2 * (n.natAbs : Int) + d) / (2 * d) := by
      by_cases hn : n < 0
      · rw [if_pos hn, if_pos hn, show (n.natAbs : Int) = -n by omega]
      · rw [if_neg hn, if_neg hn, show (n.natAbs : Int) = n by omega]
    rw [e0, hr]
    clear e0 hr
    obtain ⟨m, hm⟩ : ∃ m : Int, (n.natAbs : Int) = m := ⟨_, rfl⟩
    have m0 : 0 ≤ m := by omega
    have m1 : m ≤ 1000000000000000 := by omega
    rw [hm] at ab ⊢
    have g : (d == 0) = false := by simp; omega
    have gn : ¬ d = 0 := by omega
    have e1 : m.tdiv d = m / d := Int.tdiv_eq_ediv_of_nonneg m0
    have e2 : m.tmod d = m % d := Int.tmod_eq_emod_of_nonneg m0
    have b1 := Int.ediv_nonneg m0 (show 0 ≤ d by omega)
    have b2 := Int.ediv_le_self d m0
    have b3 := Int.emod_nonneg m gn
    have b4 := Int.emod_lt_of_pos m d0
    obtain ⟨q, hq⟩ : ∃ q, m / d = q := ⟨_, rfl⟩
    obtain ⟨r, hr⟩ : ∃ r, m % d = r := ⟨_, rfl⟩
    rw [hq] at e1 b1 b2 ⊢
    rw [hr] at e2 b3 b4 ⊢
    have qw : IntKind.i64.wrap q = q := wrap_in (by omega)
    have q1 : q ≤ 1000000000000000 := by omega
    have r1 : r ≤ 1000000000000000 := by omega
    clear hv hm hq hr b2 b4
    go_enter Try.func37, Try.ntmps37
    go_wp2_with (go_at_call 58; refine (va _).mono ?_; rintro _ w1 ⟨rfl, hb⟩; have pz : w.heap.size < (w1).heap.size := Nat.lt_of_lt_of_le (show w.heap.size < _ from (by first | assumption | (simp; done) | (simp; omega) | (dsimp only; omega) | omega)) hb.size; have p0 : (w1).cell? ⟨w.heap.size, 0, none⟩ = some (.int .i64 n) := (hb.cell (p := ⟨w.heap.size, 0, none⟩) (by first | assumption | (simp; done) | (simp; omega) | (dsimp only; omega) | omega)).trans (by first | assumption | (simp [go_sem]; done) | (simp [go_sem, *]; done)); have p1 : (w1).cell? ⟨w.heap.size, 1, none⟩ = some (.int .i64 d) := (hb.cell (p := ⟨w.heap.size, 1, none⟩) (by first | assumption | (simp; done) | (simp; omega) | (dsimp only; omega) | omega)).trans (by first | assumption | (simp [go_sem]; done) | (simp [go_sem, *]; done)); have pf : ∀ o, (w1).frozen? ⟨w.heap.size, o, none⟩ = false := fun o => (hb.frozen (p := ⟨w.heap.size, o, none⟩) (by first | assumption | (simp; done) | (simp; omega) | (dsimp only; omega) | omega)).trans (by first | (simp [go_sem]; done) | (simp [*]; done)))
    all_goals
      go_quiet ((go_at_call 59; (with_reducible exact Calls.quiet_of_same (ab _))))
      go_wp2
      all_goals
        go_ret
        exact Gives.mk rfl (by repeat' (first | (with_reducible exact Below.refl _ _) | (with_reducible refine Below.alloc ?_ ?_ _) | (with_reducible refine Below.setCell ?_ ?_ _) | (with_reducible refine Below.drew ?_) | (with_reducible refine below_dn ?_ _) | (with_reducible refine Below.trans ?_ (Below.mono (by assumption) ?_)) | (simp; done) | (simp; omega) | omega))
  · rw [if_pos hv]
    have va := fun w => rvalid_any n d N0 N1 D0 D1 false (by simp [hv]) w
    clear hv
    go_enter Try.func37, Try.ntmps37
    go_wp2_with (go_at_call 58; refine (va _).mono ?_; rintro _ w1 ⟨rfl, hb⟩; have pz : w.heap.size < (w1).heap.size := Nat.lt_of_lt_of_le (show w.heap.size < _ from (by first | assumption | (simp; done) | (simp; omega) | (dsimp only; omega) | omega)) hb.size; have p0 : (w1).cell? ⟨w.heap.size, 0, none⟩ = some (.int .i64 n) := (hb.cell (p := ⟨w.heap.size, 0, none⟩) (by first | assumption | (simp; done) | (simp; omega) | (dsimp only; omega) | omega)).trans (by first | assumption | (simp [go_sem]; done) | (simp [go_sem, *]; done)); have p1 : (w1).cell? ⟨w.heap.size, 1, none⟩ = some (.int .i64 d) := (hb.cell (p := ⟨w.heap.size, 1, none⟩) (by first | assumption | (simp; done) | (simp; omega) | (dsimp only; omega) | omega)).trans (by first | assumption | (simp [go_sem]; done) | (simp [go_sem, *]; done)); have pf : ∀ o, (w1).frozen? ⟨w.heap.size, o, none⟩ = false := fun o => (hb.frozen (p := ⟨w.heap.size, o, none⟩) (by first | assumption | (simp; done) | (simp; omega) | (dsimp only; omega) | omega)).trans (by first | (simp [go_sem]; done) | (simp [*]; done)))
    go_ret
    exact Gives.mk rfl (by repeat' (first | (with_reducible exact Below.refl _ _) | (with_reducible refine Below.alloc ?_ ?_ _) | (with_reducible refine Below.setCell ?_ ?_ _) | (with_reducible refine Below.drew ?_) | (with_reducible refine below_dn ?_ _) | (with_reducible refine Below.trans ?_ (Below.mono (by assumption) ?_)) | (simp; done) | (simp; omega) | omega))
theorem ffloor_all (n d : Int) (N0 : -9223372036854775808 ≤ n) (N1 : n ≤ 9223372036854775807) (D0 : -9223372036854775808 ≤ d) (D1 : d ≤ 9223372036854775807) (w : World) :
    Calls Try.prog 64 #[.agg #[.int .i64 n, .int .i64 d]] w (Gives (.int .i64 (Sp.floorF n d)) w) := by
  unfold Sp.floorF
  by_cases hv : Sp.fchk n d = 0
  · rw [if_neg (by omega)]
    exact ffloor_any n d hv w
  · rw [if_pos hv]
    have ck := fun w => fcheck_any n d N0 N1 D0 D1 w
    obtain ⟨y, hy⟩ : ∃ y, Sp.fchk n d = y := ⟨_, rfl⟩
    rw [hy] at ck hv
    clear hy
    go_enter Try.func64, Try.ntmps64
    go_wp2_with (go_at_call 54; refine (ck _).mono ?_; rintro e w1 ⟨rfl, hb⟩)
    go_ret
    exact Gives.mk rfl (by repeat' (first | (with_reducible exact Below.refl _ _) | (with_reducible refine Below.alloc ?_ ?_ _) | (with_reducible refine Below.setCell ?_ ?_ _) | (with_reducible refine Below.drew ?_) | (with_reducible refine below_dn ?_ _) | (with_reducible refine Below.trans ?_ (Below.mono (by assumption) ?_)) | (simp; done) | (simp; omega) | omega))
end Go.Proofs.Ytdimncchejbaaaa
