/-
  The functions of package fraction that package interval calls, each by a contract.
-/
import Derived.Test.YtmdaanigkhikfaaFmath
import Derived.Test.YtmdaanigkhikfaaWint
import Derived.Test.YtmdaanigkhikfaaIcode2
namespace Go.Proofs.Ytmdaanigkhikfaa
open Go.RowKit
set_option linter.unusedVariables false
set_option linter.unusedSimpArgs false

theorem fmag_any (a : Int) (h0 : -9223372036854775808 ≤ a) (h1 : a ≤ 9223372036854775807) (w : World) :
    Calls Try.prog 64 #[.int .i64 a] w fun e w' => e = .returned (.int .u64 (a.natAbs : Int)) ∧ w' = w := by
  by_cases c : a < 0
  · go_enter Try.func64, Try.ntmps64
    go_wp2
    go_ret
    refine ⟨ret_u64 ?_, rfl⟩
    rw [IntKind.wrap_u64, IntKind.wrap_u64]; omega
  · go_enter Try.func64, Try.ntmps64
    go_wp2
    go_ret
    refine ⟨ret_u64 ?_, rfl⟩
    omega
/-- A call answers a value, and has drawn some orders. -/
def Quiet (v : Value) (w : World) (e : Ending) (w' : World) : Prop := e = .returned v ∧ ∃ q, w' = w.drewN q
/-- The loop of the greatest common divisor. -/
def Gq (G : Nat) (w : World) (v v' : Value) (wr : World) : Prop :=
  ∃ (x y : Int) (q : Nat), v = .int .u64 x ∧ v' = .int .u64 y ∧ 0 ≤ x ∧ x ≤ 9223372036854775808 ∧ 0 ≤ y ∧ y ≤ 9223372036854775808 ∧ Int.gcd x y = G ∧ wr = w.drewN q
theorem fdivisor_any (a b : Int) (a0 : 0 ≤ a) (a1 : a ≤ 9223372036854775808) (b0 : 0 ≤ b) (b1 : b ≤ 9223372036854775808) (G : Nat) (hG : Int.gcd a b = G) (w : World) :
    Calls Try.prog 65 #[.int .u64 a, .int .u64 b] w (Quiet (.int .u64 (G : Int)) w) := by
  have HG := hid hG
  clear hG
  go_enter Try.func65, Try.ntmps65
  go_wp2_with fail
  go_loopw [0, 1] (fun v v' wr => Gq G w v v' wr) (fun _ v _ => (intOf v).toNat)
  case atStart => exact ⟨a, b, 0, rfl, rfl, by omega, a1, b0, by omega, HG.out, rfl⟩
  case round =>
    obtain ⟨x, y, q, rfl, rfl, x0, x1, y0, y1, hg, rfl⟩ := hrel
    have GH := hid hg
    clear hg
    by_cases hy : y = 0
    · subst hy
      have hx : x = (G : Int) := by
        have := GH.out
        rw [Int.gcd_zero_right] at this
        omega
      subst hx
      go_wp2
      go_ret
      exact ⟨rfl, q, rfl⟩
    · have hy1 : 1 ≤ y := by omega
      have gy : (y == 0) = false := by simp; exact hy
      have gyn : (y != 0) = true := by simp; exact hy
      have m0 := Int.emod_nonneg x hy
      have m1 := Int.emod_lt_of_pos x (show 0 < y by omega)
      have st := hid (gcd_step (x := x) x0 y0)
      go_wp2
      go_quiet (fail)
      go_wp2
      go_roundw
      case rel => exact ⟨y, x % y, q + nq, rfl, rfl, by omega, by omega, by omega, by omega, by rw [st.out]; exact GH.out, World.drewN_drewN _ _ _⟩
      case measure => simp [intOf]; omega
theorem fcheck_any (n d : Int) (n0 : -9223372036854775808 ≤ n) (n1 : n ≤ 9223372036854775807) (d0 : -9223372036854775808 ≤ d) (d1 : d ≤ 9223372036854775807) (w : World) :
    Calls Try.prog 62 #[.agg #[.int .i64 n, .int .i64 d]] w (Gives (.int .i64 (Sp.fchk n d)) w) := by
  by_cases c1 : d ≤ 0
  · have e : Sp.fchk n d = 3 := by unfold Sp.fchk; rw [if_pos c1]
    rw [e]
    clear e
    go_enter Try.func62, Try.ntmps62
    go_wp2
    go_ret
    exact Gives.mk rfl (by repeat' (first | (with_reducible exact Below.refl _ _) | (with_reducible refine Below.alloc ?_ ?_ _) | (with_reducible refine Below.setCell ?_ ?_ _) | (with_reducible refine Below.drew ?_) | (with_reducible refine Below.trans ?_ (Below.mono (by assumption) ?_)) | (simp; done) | (simp; omega) | omega))
  · by_cases c2 : n < -1000000000000000 ∨ 1000000000000000 < n ∨ 1000000000000000 < d
    · have e : Sp.fchk n d = 8 := by unfold Sp.fchk; rw [if_neg c1, if_pos c2]
      rw [e]
      clear e
      rcases c2 with c2 | c2 | c2
      all_goals
        go_enter Try.func62, Try.ntmps62
        go_wp2
        all_goals (go_ret; exact Gives.mk rfl (by repeat' (first | (with_reducible exact Below.refl _ _) | (with_reducible refine Below.alloc ?_ ?_ _) | (with_reducible refine Below.setCell ?_ ?_ _) | (with_reducible refine Below.drew ?_) | (with_reducible refine Below.trans ?_ (Below.mono (by assumption) ?_)) | (simp; done) | (simp; omega) | omega)))
    · obtain ⟨G, hG⟩ : ∃ G, Int.gcd n d = G := ⟨_, rfl⟩
      have e : Sp.fchk n d = if 1 < G then 3 else 0 := by unfold Sp.fchk; rw [if_neg c1, if_neg c2, hG]
      have hG2 : Int.gcd (n.natAbs : Int) (d.natAbs : Int) = G := by rw [← hG]; simp [Int.gcd]
      have mg := fun w => fmag_any n n0 n1 w
      have mg2 := fun w => fmag_any d d0 d1 w
      obtain ⟨N, hN⟩ : ∃ N : Int, (n.natAbs : Int) = N := ⟨_, rfl⟩
      obtain ⟨D, hD⟩ : ∃ D : Int, (d.natAbs : Int) = D := ⟨_, rfl⟩
      rw [hN] at mg hG2
      rw [hD] at mg2 hG2
      have dv := fun w => fdivisor_any N D (by omega) (by omega) (by omega) (by omega) G hG2 w
      rw [e]
      clear e hG hG2
      have c3 : -1000000000000000 ≤ n := by omega
      have c4 : n ≤ 1000000000000000 := by omega
      have c5 : d ≤ 1000000000000000 := by omega
      have c6 : 1 ≤ d := by omega
      clear c1 c2 hN hD
      go_enter Try.func62, Try.ntmps62
      go_wp2
      all_goals
        go_quiet ((first | (go_at_call 64; (with_reducible exact Calls.quiet_of_same (mg _))) | (go_at_call 64; (with_reducible exact Calls.quiet_of_same (mg2 _))) | (go_at_call 65; (with_reducible exact Calls.quiet_of (dv _)))))
        go_wp2
        all_goals
          go_ret
          exact Gives.mk rfl (by repeat' (first | (with_reducible exact Below.refl _ _) | (with_reducible refine Below.alloc ?_ ?_ _) | (with_reducible refine Below.setCell ?_ ?_ _) | (with_reducible refine Below.drew ?_) | (with_reducible refine below_dn ?_ _) | (with_reducible refine Below.trans ?_ (Below.mono (by assumption) ?_)) | (simp; done) | (simp; omega) | omega))
theorem fopp_any (n d : Int) (a1 : -9223372036854775808 < n) (a2 : n ≤ 9223372036854775807) (w : World) :
    Calls Try.prog 63 #[.agg #[.int .i64 n, .int .i64 d]] w fun e w' => e = .returned (.agg #[.int .i64 (-n), .int .i64 d]) ∧ w' = (w.alloc (Obj.cells #[.int .i64 n, .int .i64 d] 30)).alloc (Obj.cells #[.int .i64 (-n), .int .i64 d] 30) := by
  go_enter Try.func63, Try.ntmps63
  go_wp2_with fail
  go_returns
  exact ⟨rfl, rfl⟩
theorem ffloor_any (n d : Int) (hv : Sp.fchk n d = 0) (w : World) :
    Calls Try.prog 32 #[.agg #[.int .i64 n, .int .i64 d]] w (Gives (.int .i64 (n / d)) w) := by
  obtain ⟨d0, n0, n1, d1, _⟩ := Sp.fchk_zero.1 hv
  have ck := fun w => fcheck_any n d (by omega) (by omega) (by omega) (by omega) w
  rw [hv] at ck
  rw [Sp.tdiv_floor d0]
  have g : (d == 0) = false := by simp; omega
  obtain ⟨t, ht⟩ : ∃ t, n.tmod d = t := ⟨_, rfl⟩
  obtain ⟨q, hq⟩ : ∃ q, n.tdiv d = q := ⟨_, rfl⟩
  have qb : -1000000000000000 ≤ q ∧ q ≤ 1000000000000000 := by
    have e1 := Int.natAbs_tdiv n d
    have e2 := Nat.div_le_self n.natAbs d.natAbs
    rw [hq] at e1
    have e3 : q.natAbs ≤ n.natAbs := by rw [e1]; exact e2
    omega
  have q0 := qb.1
  have q1 := qb.2
  clear hv qb
  go_enter Try.func32, Try.ntmps32
  go_wp2_with (go_at_call 62; refine (ck _).mono ?_; rintro e w1 ⟨rfl, hb⟩; have pz : w.heap.size < (w1).heap.size := Nat.lt_of_lt_of_le (show w.heap.size < _ from (by first | assumption | (simp; done) | (simp; omega) | (dsimp only; omega) | omega)) hb.size; have p0 : (w1).cell? ⟨w.heap.size, 0, none⟩ = some (.int .i64 n) := (hb.cell (p := ⟨w.heap.size, 0, none⟩) (by first | assumption | (simp; done) | (simp; omega) | (dsimp only; omega) | omega)).trans (by first | assumption | (simp [go_sem]; done) | (simp [go_sem, *]; done)); have p1 : (w1).cell? ⟨w.heap.size, 1, none⟩ = some (.int .i64 d) := (hb.cell (p := ⟨w.heap.size, 1, none⟩) (by first | assumption | (simp; done) | (simp; omega) | (dsimp only; omega) | omega)).trans (by first | assumption | (simp [go_sem]; done) | (simp [go_sem, *]; done)); have pf : ∀ o, (w1).frozen? ⟨w.heap.size, o, none⟩ = false := fun o => (hb.frozen (p := ⟨w.heap.size, o, none⟩) (by first | assumption | (simp; done) | (simp; omega) | (dsimp only; omega) | omega)).trans (by first | (simp [go_sem]; done) | (simp [*]; done)))
  all_goals
    go_ret
    exact Gives.mk rfl (by repeat' (first | (with_reducible exact Below.refl _ _) | (with_reducible refine Below.alloc ?_ ?_ _) | (with_reducible refine Below.setCell ?_ ?_ _) | (with_reducible refine Below.drew ?_) | (with_reducible refine below_dn ?_ _) | (with_reducible refine Below.trans ?_ (Below.mono (by assumption) ?_)) | (simp; done) | (simp; omega) | omega))
theorem fceil_any (n d : Int) (hv : Sp.fchk n d = 0) (w : World) :
    Calls Try.prog 33 #[.agg #[.int .i64 n, .int .i64 d]] w (Gives (.int .i64 (-((-n) / d))) w) := by
  have hv2 : Sp.fchk (-n) d = 0 := by
    rw [Sp.fchk_zero] at hv ⊢
    rw [Int.neg_gcd]; omega
  obtain ⟨d0, n0, n1, d1, _⟩ := Sp.fchk_zero.1 hv
  have ck := fun w => fcheck_any n d (by omega) (by omega) (by omega) (by omega) w
  rw [hv] at ck
  have op := fun w => fopp_any n d (by omega) (by omega) w
  have fl := fun w => ffloor_any (-n) d hv2 w
  obtain ⟨q, hq⟩ : ∃ q, (-n) / d = q := ⟨_, rfl⟩
  have qb : -1000000000000000 ≤ q ∧ q ≤ 1000000000000000 := by
    rw [← hq]
    constructor
    · rw [Int.le_ediv_iff_mul_le d0]
      have : -1000000000000000 * d ≤ -1000000000000000 * 1 := by omega
      omega
    · have : (-n) / d ≤ 1000000000000000 / d := Int.ediv_le_ediv d0 (by omega)
      have h2 : (1000000000000000 : Int) / d ≤ 1000000000000000 := Int.ediv_le_self _ (by omega)
      omega
  rw [hq] at fl ⊢
  have q0 := qb.1
  have q1 := qb.2
  clear hv hv2 qb hq
  go_enter Try.func33, Try.ntmps33
  go_wp2_with (first | (go_at_call 62; refine (ck _).mono ?_; rintro e w1 ⟨rfl, hb⟩; have pz : w.heap.size < (w1).heap.size := Nat.lt_of_lt_of_le (show w.heap.size < _ from (by first | assumption | (simp; done) | (simp; omega) | (dsimp only; omega) | omega)) hb.size; have p0 : (w1).cell? ⟨w.heap.size, 0, none⟩ = some (.int .i64 n) := (hb.cell (p := ⟨w.heap.size, 0, none⟩) (by first | assumption | (simp; done) | (simp; omega) | (dsimp only; omega) | omega)).trans (by first | assumption | (simp [go_sem]; done) | (simp [go_sem, *]; done)); have p1 : (w1).cell? ⟨w.heap.size, 1, none⟩ = some (.int .i64 d) := (hb.cell (p := ⟨w.heap.size, 1, none⟩) (by first | assumption | (simp; done) | (simp; omega) | (dsimp only; omega) | omega)).trans (by first | assumption | (simp [go_sem]; done) | (simp [go_sem, *]; done)); have pf : ∀ o, (w1).frozen? ⟨w.heap.size, o, none⟩ = false := fun o => (hb.frozen (p := ⟨w.heap.size, o, none⟩) (by first | assumption | (simp; done) | (simp; omega) | (dsimp only; omega) | omega)).trans (by first | (simp [go_sem]; done) | (simp [*]; done))) | (go_at_call 63; refine (op _).mono ?_; rintro e w' ⟨rfl, rfl⟩) | (go_at_call 32; refine (fl _).mono ?_; rintro e w2 ⟨rfl, hb2⟩))
  go_ret
  exact Gives.mk rfl (by repeat' (first | (with_reducible exact Below.refl _ _) | (with_reducible refine Below.alloc ?_ ?_ _) | (with_reducible refine Below.setCell ?_ ?_ _) | (with_reducible refine Below.drew ?_) | (with_reducible refine below_dn ?_ _) | (with_reducible refine Below.trans ?_ (Below.mono (by assumption) ?_)) | (simp; done) | (simp; omega) | omega))
end Go.Proofs.Ytmdaanigkhikfaa
