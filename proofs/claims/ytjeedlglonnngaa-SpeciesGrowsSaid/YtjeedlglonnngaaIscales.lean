/-
  Scale and FromFrac of package couperef03, by contract; IntervalScales.
-/
import Derived.Test.YtjeedlglonnngaaIquot
import Derived.Test.YtjeedlglonnngaaIawake
namespace Go.Proofs.Ytjeedlglonnngaa
open Go.RowKit
set_option linter.unusedVariables false
set_option linter.unusedSimpArgs false

theorem rabs_any (n : Int) (h0 : -9223372036854775808 < n) (h1 : n ≤ 9223372036854775807) (w : World) :
    Calls Try.prog 50 #[.int .i64 n] w fun e w' => e = .returned (.int .i64 (n.natAbs : Int)) ∧ w' = w := by
  by_cases c : n < 0
  · go_enter Try.func50, Try.ntmps50
    go_wp2
    go_ret
    exact ⟨ret_i64 (by omega), rfl⟩
  · go_enter Try.func50, Try.ntmps50
    go_wp2
    go_ret
    exact ⟨ret_i64 (by omega), rfl⟩
/-- The loop of the reference's greatest common divisor. -/
def Gr (G : Nat) (w : World) (v v' : Value) (wr : World) : Prop :=
  ∃ (x y : Int) (q : Nat), v = .int .i64 x ∧ v' = .int .i64 y ∧ 0 ≤ x ∧ x ≤ 1000000000000000 ∧ 0 ≤ y ∧ y ≤ 1000000000000000 ∧ Int.gcd x y = G ∧ wr = w.drewN q
theorem rgcd_any (a b : Int) (a0 : 0 ≤ a) (a1 : a ≤ 1000000000000000) (b0 : 0 ≤ b) (b1 : b ≤ 1000000000000000) (G : Nat) (hG : Int.gcd a b = G) (w : World) :
    Calls Try.prog 49 #[.int .i64 a, .int .i64 b] w (Quiet (.int .i64 (G : Int)) w) := by
  have HG := hid hG
  clear hG
  go_enter Try.func49, Try.ntmps49
  go_wp2_with fail
  go_loopw [0, 1] (fun v v' wr => Gr G w v v' wr) (fun _ v _ => (intOf v).toNat)
  case atStart => exact ⟨a, b, 0, rfl, rfl, by omega, a1, b0, by omega, HG.out, rfl⟩
  case round =>
    obtain ⟨x, y, q, rfl, rfl, x0, x1, y0, y1, hg, rfl⟩ := hrel
    have GH := hid hg
    clear hg
    by_cases hy : y = 0
    · subst hy
      have hx : x = (G : Int) := by
        have := GH.out
        rw [Int.gcd_zero_right] at this
        omega
      subst hx
      go_wp2
      go_ret
      exact ⟨rfl, q, rfl⟩
    · have hy1 : 1 ≤ y := by omega
      have gy : (y == 0) = false := by simp; exact hy
      have gyn : (y != 0) = true := by simp; exact hy
      have m0 := Int.emod_nonneg x hy
      have m1 := Int.emod_lt_of_pos x (show 0 < y by omega)
      have st := hid (gcd_step (x := x) x0 y0)
      go_wp2
      go_quiet (fail)
      go_wp2
      go_roundw
      case rel => exact ⟨y, x % y, q + nq, rfl, rfl, by omega, by omega, by omega, by omega, by rw [st.out]; exact GH.out, World.drewN_drewN _ _ _⟩
      case measure => simp [intOf]; omega
theorem rfcheck_any (n d : Int) (n0 : -9223372036854775808 ≤ n) (n1 : n ≤ 9223372036854775807) (d0 : -9223372036854775808 ≤ d) (d1 : d ≤ 9223372036854775807) (w : World) :
    Calls Try.prog 42 #[.agg #[.int .i64 n, .int .i64 d]] w (Gives (.int .i64 (Sp.fchk n d)) w) := by
  by_cases c1 : d ≤ 0
  · have e : Sp.fchk n d = 3 := by unfold Sp.fchk; rw [if_pos c1]
    rw [e]
    clear e
    go_enter Try.func42, Try.ntmps42
    go_wp2
    go_ret
    exact Gives.mk rfl (by repeat' (first | (with_reducible exact Below.refl _ _) | (with_reducible refine Below.alloc ?_ ?_ _) | (with_reducible refine Below.setCell ?_ ?_ _) | (with_reducible refine Below.drew ?_) | (with_reducible refine Below.trans ?_ (Below.mono (by assumption) ?_)) | (simp; done) | (simp; omega) | omega))
  · by_cases c2 : n < -1000000000000000 ∨ 1000000000000000 < n ∨ 1000000000000000 < d
    · have e : Sp.fchk n d = 8 := by unfold Sp.fchk; rw [if_neg c1, if_pos c2]
      rw [e]
      clear e
      have c6 : 1 ≤ d := by omega
      clear c1
      rcases c2 with c2 | c2 | c2
      all_goals
        go_enter Try.func42, Try.ntmps42
        go_wp2
        all_goals (go_ret; exact Gives.mk rfl (by repeat' (first | (with_reducible exact Below.refl _ _) | (with_reducible refine Below.alloc ?_ ?_ _) | (with_reducible refine Below.setCell ?_ ?_ _) | (with_reducible refine Below.drew ?_) | (with_reducible refine Below.trans ?_ (Below.mono (by assumption) ?_)) | (simp; done) | (simp; omega) | omega)))
    · obtain ⟨G, hG⟩ : ∃ G, Int.gcd n d = G := ⟨_, rfl⟩
      have hG2 : Int.gcd (n.natAbs : Int) d = G := by rw [← hG]; simp [Int.gcd]
      have G0 : 0 < G := by rw [← hG]; exact Nat.pos_of_ne_zero (fun h => by rw [Int.gcd_eq_zero_iff] at h; omega)
      have e : Sp.fchk n d = if 1 < G then 3 else 0 := by unfold Sp.fchk; rw [if_neg c1, if_neg c2, hG]
      have mg := fun w => rabs_any n (by omega) n1 w
      obtain ⟨N, hN⟩ : ∃ N : Int, (n.natAbs : Int) = N := ⟨_, rfl⟩
      rw [hN] at mg hG2
      have dv := fun w => rgcd_any N d (by omega) (by omega) (by omega) (by omega) G hG2 w
      rw [e]
      clear e hG hG2
      have c3 : -1000000000000000 ≤ n := by omega
      have c4 : n ≤ 1000000000000000 := by omega
      have c5 : d ≤ 1000000000000000 := by omega
      have c6 : 1 ≤ d := by omega
      clear c1 c2 hN
      by_cases g1 : 1 < G
      · rw [if_pos g1]
        have gg : (((G : Int)) != 1) = true := by simp; omega
        clear g1
        go_enter Try.func42, Try.ntmps42
        go_wp2
        go_quiet ((first | (go_at_call 50; (with_reducible exact Calls.quiet_of_same (mg _))) | (go_at_call 49; (with_reducible exact Calls.quiet_of (dv _)))))
        go_wp2
        all_goals
          go_ret
          exact Gives.mk rfl (by repeat' (first | (with_reducible exact Below.refl _ _) | (with_reducible refine Below.alloc ?_ ?_ _) | (with_reducible refine Below.setCell ?_ ?_ _) | (with_reducible refine Below.drew ?_) | (with_reducible refine below_dn ?_ _) | (with_reducible refine Below.trans ?_ (Below.mono (by assumption) ?_)) | (simp; done) | (simp; omega) | omega))
      · have g2 : G = 1 := by omega
        subst g2
        rw [if_neg (by omega)]
        go_enter Try.func42, Try.ntmps42
        go_wp2
        go_quiet ((first | (go_at_call 50; (with_reducible exact Calls.quiet_of_same (mg _))) | (go_at_call 49; (with_reducible exact Calls.quiet_of (dv _)))))
        go_wp2
        all_goals
          go_ret
          exact Gives.mk rfl (by repeat' (first | (with_reducible exact Below.refl _ _) | (with_reducible refine Below.alloc ?_ ?_ _) | (with_reducible refine Below.setCell ?_ ?_ _) | (with_reducible refine Below.drew ?_) | (with_reducible refine below_dn ?_ _) | (with_reducible refine Below.trans ?_ (Below.mono (by assumption) ?_)) | (simp; done) | (simp; omega) | omega))
set_option maxHeartbeats 1000000 in
theorem rscale_bad1 (a b n d y : Int) (w : World) (y0 : ¬ y = 0)
    (ck : ∀ w : World, Calls Try.prog 32 #[.agg #[.int .i64 a, .int .i64 b]] w fun e w' => e = .returned (.int .i64 y) ∧ w' = w.alloc (Obj.cells #[.int .i64 a, .int .i64 b] 30)) :
    Calls Try.prog 34 #[.agg #[.int .i64 a, .int .i64 b], .agg #[.int .i64 n, .int .i64 d]] w (Gives (.tuple #[.agg #[.int .i64 0, .int .i64 0], .int .i64 y]) w) := by
  go_enter Try.func34, Try.ntmps34
  go_wp2_with (go_at_call 32; refine (ck _).mono ?_; rintro e w' ⟨rfl, rfl⟩)
  go_returns
  exact Gives.mk rfl (by repeat' (first | (with_reducible exact Below.refl _ _) | (with_reducible refine Below.alloc ?_ ?_ _) | (with_reducible refine Below.setCell ?_ ?_ _) | (with_reducible refine Below.drew ?_) | (with_reducible refine Below.trans ?_ (Below.mono (by assumption) ?_)) | (simp; done) | (simp; omega) | omega))
set_option maxHeartbeats 1000000 in
theorem rscale_bad2 (a b n d y : Int) (w : World) (y0 : ¬ y = 0)
    (ck : ∀ w : World, Calls Try.prog 32 #[.agg #[.int .i64 a, .int .i64 b]] w fun e w' => e = .returned (.int .i64 0) ∧ w' = w.alloc (Obj.cells #[.int .i64 a, .int .i64 b] 30))
    (fk : ∀ w : World, Calls Try.prog 42 #[.agg #[.int .i64 n, .int .i64 d]] w (Gives (.int .i64 y) w)) :
    Calls Try.prog 34 #[.agg #[.int .i64 a, .int .i64 b], .agg #[.int .i64 n, .int .i64 d]] w (Gives (.tuple #[.agg #[.int .i64 0, .int .i64 0], .int .i64 y]) w) := by
  go_enter Try.func34, Try.ntmps34
  go_wp2_with (first | (go_at_call 32; refine (ck _).mono ?_; rintro e w' ⟨rfl, rfl⟩) | (go_at_call 42; refine (fk _).mono ?_; rintro e w1 ⟨rfl, hb⟩; have pz : w.heap.size < (w1).heap.size := Nat.lt_of_lt_of_le (show w.heap.size < _ from (by first | assumption | (simp; done) | (simp; omega) | (dsimp only; omega) | omega)) hb.size; have p0 : (w1).cell? ⟨w.heap.size, 0, none⟩ = some (.int .i64 a) := (hb.cell (p := ⟨w.heap.size, 0, none⟩) (by first | assumption | (simp; done) | (simp; omega) | (dsimp only; omega) | omega)).trans (by first | assumption | (simp [go_sem]; done) | (simp [go_sem, *]; done)); have p1 : (w1).cell? ⟨w.heap.size, 1, none⟩ = some (.int .i64 b) := (hb.cell (p := ⟨w.heap.size, 1, none⟩) (by first | assumption | (simp; done) | (simp; omega) | (dsimp only; omega) | omega)).trans (by first | assumption | (simp [go_sem]; done) | (simp [go_sem, *]; done)); have pf : ∀ o, (w1).frozen? ⟨w.heap.size, o, none⟩ = false := fun o => (hb.frozen (p := ⟨w.heap.size, o, none⟩) (by first | assumption | (simp; done) | (simp; omega) | (dsimp only; omega) | omega)).trans (by first | (simp [go_sem]; done) | (simp [*]; done)); have qz : w.heap.size + 1 < (w1).heap.size := Nat.lt_of_lt_of_le (show w.heap.size + 1 < _ from (by first | assumption | (simp; done) | (simp; omega) | (dsimp only; omega) | omega)) hb.size; have q0 : (w1).cell? ⟨w.heap.size + 1, 0, none⟩ = some (.int .i64 n) := (hb.cell (p := ⟨w.heap.size + 1, 0, none⟩) (by first | assumption | (simp; done) | (simp; omega) | (dsimp only; omega) | omega)).trans (by first | assumption | (simp [go_sem]; done) | (simp [go_sem, *]; done)); have q1 : (w1).cell? ⟨w.heap.size + 1, 1, none⟩ = some (.int .i64 d) := (hb.cell (p := ⟨w.heap.size + 1, 1, none⟩) (by first | assumption | (simp; done) | (simp; omega) | (dsimp only; omega) | omega)).trans (by first | assumption | (simp [go_sem]; done) | (simp [go_sem, *]; done)); have qf : ∀ o, (w1).frozen? ⟨w.heap.size + 1, o, none⟩ = false := fun o => (hb.frozen (p := ⟨w.heap.size + 1, o, none⟩) (by first | assumption | (simp; done) | (simp; omega) | (dsimp only; omega) | omega)).trans (by first | (simp [go_sem]; done) | (simp [*]; done)); have rz : w.heap.size + 1 + 1 < (w1).heap.size := Nat.lt_of_lt_of_le (show w.heap.size + 1 + 1 < _ from (by first | assumption | (simp; done) | (simp; omega) | (dsimp only; omega) | omega)) hb.size; have r0 : (w1).cell? ⟨w.heap.size + 1 + 1, 0, none⟩ = some (.int .i64 0) := (hb.cell (p := ⟨w.heap.size + 1 + 1, 0, none⟩) (by first | assumption | (simp; done) | (simp; omega) | (dsimp only; omega) | omega)).trans (by first | assumption | (simp [go_sem]; done) | (simp [go_sem, *]; done)); have r1 : (w1).cell? ⟨w.heap.size + 1 + 1, 1, none⟩ = some (.int .i64 0) := (hb.cell (p := ⟨w.heap.size + 1 + 1, 1, none⟩) (by first | assumption | (simp; done) | (simp; omega) | (dsimp only; omega) | omega)).trans (by first | assumption | (simp [go_sem]; done) | (simp [go_sem, *]; done)); have rf : ∀ o, (w1).frozen? ⟨w.heap.size + 1 + 1, o, none⟩ = false := fun o => (hb.frozen (p := ⟨w.heap.size + 1 + 1, o, none⟩) (by first | assumption | (simp; done) | (simp; omega) | (dsimp only; omega) | omega)).trans (by first | (simp [go_sem]; done) | (simp [*]; done))))
  refine bodyPost_ret (v := .tuple #[.agg #[.int .i64 0, .int .i64 0], .int .i64 y]) (by simp [results, Try.results34, go_sem, r0, r1]) rfl ?_
  exact Gives.mk rfl (by repeat' (first | (with_reducible exact Below.refl _ _) | (with_reducible refine Below.alloc ?_ ?_ _) | (with_reducible refine Below.setCell ?_ ?_ _) | (with_reducible refine Below.drew ?_) | (with_reducible refine Below.trans ?_ (Below.mono (by assumption) ?_)) | (simp; done) | (simp; omega) | omega))
set_option maxHeartbeats 1000000 in
theorem rscale_bad3 (a b n d : Int) (w : World) (n0 : n < 0)
    (ck : ∀ w : World, Calls Try.prog 32 #[.agg #[.int .i64 a, .int .i64 b]] w fun e w' => e = .returned (.int .i64 0) ∧ w' = w.alloc (Obj.cells #[.int .i64 a, .int .i64 b] 30))
    (fk : ∀ w : World, Calls Try.prog 42 #[.agg #[.int .i64 n, .int .i64 d]] w (Gives (.int .i64 0) w)) :
    Calls Try.prog 34 #[.agg #[.int .i64 a, .int .i64 b], .agg #[.int .i64 n, .int .i64 d]] w (Gives (.tuple #[.agg #[.int .i64 0, .int .i64 0], .int .i64 1]) w) := by
  go_enter Try.func34, Try.ntmps34
  go_wp2_with (first | (go_at_call 32; refine (ck _).mono ?_; rintro e w' ⟨rfl, rfl⟩) | (go_at_call 42; refine (fk _).mono ?_; rintro e w1 ⟨rfl, hb⟩; have pz : w.heap.size < (w1).heap.size := Nat.lt_of_lt_of_le (show w.heap.size < _ from (by first | assumption | (simp; done) | (simp; omega) | (dsimp only; omega) | omega)) hb.size; have p0 : (w1).cell? ⟨w.heap.size, 0, none⟩ = some (.int .i64 a) := (hb.cell (p := ⟨w.heap.size, 0, none⟩) (by first | assumption | (simp; done) | (simp; omega) | (dsimp only; omega) | omega)).trans (by first | assumption | (simp [go_sem]; done) | (simp [go_sem, *]; done)); have p1 : (w1).cell? ⟨w.heap.size, 1, none⟩ = some (.int .i64 b) := (hb.cell (p := ⟨w.heap.size, 1, none⟩) (by first | assumption | (simp; done) | (simp; omega) | (dsimp only; omega) | omega)).trans (by first | assumption | (simp [go_sem]; done) | (simp [go_sem, *]; done)); have pf : ∀ o, (w1).frozen? ⟨w.heap.size, o, none⟩ = false := fun o => (hb.frozen (p := ⟨w.heap.size, o, none⟩) (by first | assumption | (simp; done) | (simp; omega) | (dsimp only; omega) | omega)).trans (by first | (simp [go_sem]; done) | (simp [*]; done)); have qz : w.heap.size + 1 < (w1).heap.size := Nat.lt_of_lt_of_le (show w.heap.size + 1 < _ from (by first | assumption | (simp; done) | (simp; omega) | (dsimp only; omega) | omega)) hb.size; have q0 : (w1).cell? ⟨w.heap.size + 1, 0, none⟩ = some (.int .i64 n) := (hb.cell (p := ⟨w.heap.size + 1, 0, none⟩) (by first | assumption | (simp; done) | (simp; omega) | (dsimp only; omega) | omega)).trans (by first | assumption | (simp [go_sem]; done) | (simp [go_sem, *]; done)); have q1 : (w1).cell? ⟨w.heap.size + 1, 1, none⟩ = some (.int .i64 d) := (hb.cell (p := ⟨w.heap.size + 1, 1, none⟩) (by first | assumption | (simp; done) | (simp; omega) | (dsimp only; omega) | omega)).trans (by first | assumption | (simp [go_sem]; done) | (simp [go_sem, *]; done)); have qf : ∀ o, (w1).frozen? ⟨w.heap.size + 1, o, none⟩ = false := fun o => (hb.frozen (p := ⟨w.heap.size + 1, o, none⟩) (by first | assumption | (simp; done) | (simp; omega) | (dsimp only; omega) | omega)).trans (by first | (simp [go_sem]; done) | (simp [*]; done)); have rz : w.heap.size + 1 + 1 < (w1).heap.size := Nat.lt_of_lt_of_le (show w.heap.size + 1 + 1 < _ from (by first | assumption | (simp; done) | (simp; omega) | (dsimp only; omega) | omega)) hb.size; have r0 : (w1).cell? ⟨w.heap.size + 1 + 1, 0, none⟩ = some (.int .i64 0) := (hb.cell (p := ⟨w.heap.size + 1 + 1, 0, none⟩) (by first | assumption | (simp; done) | (simp; omega) | (dsimp only; omega) | omega)).trans (by first | assumption | (simp [go_sem]; done) | (simp [go_sem, *]; done)); have r1 : (w1).cell? ⟨w.heap.size + 1 + 1, 1, none⟩ = some (.int .i64 0) := (hb.cell (p := ⟨w.heap.size + 1 + 1, 1, none⟩) (by first | assumption | (simp; done) | (simp; omega) | (dsimp only; omega) | omega)).trans (by first | assumption | (simp [go_sem]; done) | (simp [go_sem, *]; done)); have rf : ∀ o, (w1).frozen? ⟨w.heap.size + 1 + 1, o, none⟩ = false := fun o => (hb.frozen (p := ⟨w.heap.size + 1 + 1, o, none⟩) (by first | assumption | (simp; done) | (simp; omega) | (dsimp only; omega) | omega)).trans (by first | (simp [go_sem]; done) | (simp [*]; done))))
  refine bodyPost_ret (v := .tuple #[.agg #[.int .i64 0, .int .i64 0], .int .i64 1]) (by simp [results, Try.results34, go_sem, r0, r1]) rfl ?_
  exact Gives.mk rfl (by repeat' (first | (with_reducible exact Below.refl _ _) | (with_reducible refine Below.alloc ?_ ?_ _) | (with_reducible refine Below.setCell ?_ ?_ _) | (with_reducible refine Below.drew ?_) | (with_reducible refine Below.trans ?_ (Below.mono (by assumption) ?_)) | (simp; done) | (simp; omega) | omega))
/-- What the two floors make. -/
def floorsS (va vb : Int) : Int × Int × Int :=
  if (-1000000000000000 ≤ va ∧ va ≤ 1000000000000000) ∧ (-1000000000000000 ≤ vb ∧ vb ≤ 1000000000000000) then (va, -vb, 0) else (0, 0, 8)
set_option maxHeartbeats 2000000 in
theorem rscale_floors (a b n d va vb lo hi e : Int) (w : World) (n0 : 0 ≤ n) (b0 : -1000000000000000 ≤ b) (b1 : b ≤ 1000000000000000) (hv : floorsS va vb = (lo, hi, e))
    (ck : ∀ w : World, Calls Try.prog 32 #[.agg #[.int .i64 a, .int .i64 b]] w fun e w' => e = .returned (.int .i64 0) ∧ w' = w.alloc (Obj.cells #[.int .i64 a, .int .i64 b] 30))
    (fk : ∀ w : World, Calls Try.prog 42 #[.agg #[.int .i64 n, .int .i64 d]] w (Gives (.int .i64 0) w))
    (f1 : ∀ w : World, Calls Try.prog 43 #[.int .i64 a, .int .i64 n, .int .i64 d] w (FloorPost va w))
    (f2 : ∀ w : World, Calls Try.prog 43 #[.int .i64 (-b), .int .i64 n, .int .i64 d] w (FloorPost vb w)) :
    Calls Try.prog 34 #[.agg #[.int .i64 a, .int .i64 b], .agg #[.int .i64 n, .int .i64 d]] w (Gives (.tuple #[.agg #[.int .i64 lo, .int .i64 hi], .int .i64 e]) w) := by
  have HV := hid hv
  clear hv
  go_enter Try.func34, Try.ntmps34
  go_wp2_with (first | (go_at_call 32; refine (ck _).mono ?_; rintro e w' ⟨rfl, rfl⟩) | (go_at_call 42; refine (fk _).mono ?_; rintro e w1 ⟨rfl, hb⟩; have pz : w.heap.size < (w1).heap.size := Nat.lt_of_lt_of_le (show w.heap.size < _ from (by first | assumption | (simp; done) | (simp; omega) | (dsimp only; omega) | omega)) hb.size; have p0 : (w1).cell? ⟨w.heap.size, 0, none⟩ = some (.int .i64 a) := (hb.cell (p := ⟨w.heap.size, 0, none⟩) (by first | assumption | (simp; done) | (simp; omega) | (dsimp only; omega) | omega)).trans (by first | assumption | (simp [go_sem]; done) | (simp [go_sem, *]; done)); have p1 : (w1).cell? ⟨w.heap.size, 1, none⟩ = some (.int .i64 b) := (hb.cell (p := ⟨w.heap.size, 1, none⟩) (by first | assumption | (simp; done) | (simp; omega) | (dsimp only; omega) | omega)).trans (by first | assumption | (simp [go_sem]; done) | (simp [go_sem, *]; done)); have pf : ∀ o, (w1).frozen? ⟨w.heap.size, o, none⟩ = false := fun o => (hb.frozen (p := ⟨w.heap.size, o, none⟩) (by first | assumption | (simp; done) | (simp; omega) | (dsimp only; omega) | omega)).trans (by first | (simp [go_sem]; done) | (simp [*]; done)); have qz : w.heap.size + 1 < (w1).heap.size := Nat.lt_of_lt_of_le (show w.heap.size + 1 < _ from (by first | assumption | (simp; done) | (simp; omega) | (dsimp only; omega) | omega)) hb.size; have q0 : (w1).cell? ⟨w.heap.size + 1, 0, none⟩ = some (.int .i64 n) := (hb.cell (p := ⟨w.heap.size + 1, 0, none⟩) (by first | assumption | (simp; done) | (simp; omega) | (dsimp only; omega) | omega)).trans (by first | assumption | (simp [go_sem]; done) | (simp [go_sem, *]; done)); have q1 : (w1).cell? ⟨w.heap.size + 1, 1, none⟩ = some (.int .i64 d) := (hb.cell (p := ⟨w.heap.size + 1, 1, none⟩) (by first | assumption | (simp; done) | (simp; omega) | (dsimp only; omega) | omega)).trans (by first | assumption | (simp [go_sem]; done) | (simp [go_sem, *]; done)); have qf : ∀ o, (w1).frozen? ⟨w.heap.size + 1, o, none⟩ = false := fun o => (hb.frozen (p := ⟨w.heap.size + 1, o, none⟩) (by first | assumption | (simp; done) | (simp; omega) | (dsimp only; omega) | omega)).trans (by first | (simp [go_sem]; done) | (simp [*]; done)); have rz : w.heap.size + 1 + 1 < (w1).heap.size := Nat.lt_of_lt_of_le (show w.heap.size + 1 + 1 < _ from (by first | assumption | (simp; done) | (simp; omega) | (dsimp only; omega) | omega)) hb.size; have r0 : (w1).cell? ⟨w.heap.size + 1 + 1, 0, none⟩ = some (.int .i64 0) := (hb.cell (p := ⟨w.heap.size + 1 + 1, 0, none⟩) (by first | assumption | (simp; done) | (simp; omega) | (dsimp only; omega) | omega)).trans (by first | assumption | (simp [go_sem]; done) | (simp [go_sem, *]; done)); have r1 : (w1).cell? ⟨w.heap.size + 1 + 1, 1, none⟩ = some (.int .i64 0) := (hb.cell (p := ⟨w.heap.size + 1 + 1, 1, none⟩) (by first | assumption | (simp; done) | (simp; omega) | (dsimp only; omega) | omega)).trans (by first | assumption | (simp [go_sem]; done) | (simp [go_sem, *]; done)); have rf : ∀ o, (w1).frozen? ⟨w.heap.size + 1 + 1, o, none⟩ = false := fun o => (hb.frozen (p := ⟨w.heap.size + 1 + 1, o, none⟩) (by first | assumption | (simp; done) | (simp; omega) | (dsimp only; omega) | omega)).trans (by first | (simp [go_sem]; done) | (simp [*]; done))))
  refine (f1 _).mono ?_; rintro e1 w2 ⟨u1, ok1, rfl, rfl, h1⟩
  have H1 := hid h1
  clear h1
  go_wp2_with fail
  refine (f2 _).mono ?_; rintro e2 w3 ⟨u2, ok2, rfl, rfl, h2⟩
  have H2 := hid h2
  clear h2
  have hv := HV.out
  unfold floorsS at hv
  rcases H1.out with ⟨rfl, rfl, l1, l2⟩ | ⟨rfl, hn1⟩
  · rcases H2.out with ⟨rfl, rfl, l3, l4⟩ | ⟨rfl, hn2⟩
    · rw [if_pos (by omega)] at hv
      simp only [Prod.mk.injEq] at hv
      obtain ⟨rfl, rfl, rfl⟩ := hv
      clear H1 H2 HV
      go_wp2
      refine bodyPost_ret (v := .tuple #[.agg #[.int .i64 u1, .int .i64 (-u2)], .int .i64 0]) (by simp [results, Try.results34, go_sem, r0, r1]) rfl ?_
      exact Gives.mk rfl (by repeat' (first | (with_reducible exact Below.refl _ _) | (with_reducible refine Below.alloc ?_ ?_ _) | (with_reducible refine Below.setCell ?_ ?_ _) | (with_reducible refine Below.drew ?_) | (with_reducible refine Below.trans ?_ (Below.mono (by assumption) ?_)) | (simp; done) | (simp; omega) | omega))
    · rw [if_neg (by omega)] at hv
      simp only [Prod.mk.injEq] at hv
      obtain ⟨rfl, rfl, rfl⟩ := hv
      clear H1 H2 HV hn2
      go_wp2
      refine bodyPost_ret (v := .tuple #[.agg #[.int .i64 0, .int .i64 0], .int .i64 8]) (by simp [results, Try.results34, go_sem, r0, r1]) rfl ?_
      exact Gives.mk rfl (by repeat' (first | (with_reducible exact Below.refl _ _) | (with_reducible refine Below.alloc ?_ ?_ _) | (with_reducible refine Below.setCell ?_ ?_ _) | (with_reducible refine Below.drew ?_) | (with_reducible refine Below.trans ?_ (Below.mono (by assumption) ?_)) | (simp; done) | (simp; omega) | omega))
  · rw [if_neg (by omega)] at hv
    simp only [Prod.mk.injEq] at hv
    obtain ⟨rfl, rfl, rfl⟩ := hv
    clear H1 H2 HV hn1
    go_wp2
    refine bodyPost_ret (v := .tuple #[.agg #[.int .i64 0, .int .i64 0], .int .i64 8]) (by simp [results, Try.results34, go_sem, r0, r1]) rfl ?_
    exact Gives.mk rfl (by repeat' (first | (with_reducible exact Below.refl _ _) | (with_reducible refine Below.alloc ?_ ?_ _) | (with_reducible refine Below.setCell ?_ ?_ _) | (with_reducible refine Below.drew ?_) | (with_reducible refine Below.trans ?_ (Below.mono (by assumption) ?_)) | (simp; done) | (simp; omega) | omega))
theorem rscale_any (a b n d lo hi e : Int) (hn : -9223372036854775808 ≤ n) (hn2 : n ≤ 9223372036854775807) (hd : -9223372036854775808 ≤ d) (hd2 : d ≤ 9223372036854775807) (hv : Sp.scaleS a b n d = (lo, hi, e)) (w : World) :
    Calls Try.prog 34 #[.agg #[.int .i64 a, .int .i64 b], .agg #[.int .i64 n, .int .i64 d]] w (Gives (.tuple #[.agg #[.int .i64 lo, .int .i64 hi], .int .i64 e]) w) := by
  have ck := fun w => rcheck_any a b w
  have fk := fun w => rfcheck_any n d hn hn2 hd hd2 w
  unfold Sp.scaleS at hv
  by_cases c1 : Sp.chk a b = 0
  · rw [if_neg (by omega)] at hv
    obtain ⟨a0, a1, a2⟩ := Sp.chk_zero.1 c1
    rw [c1] at ck
    by_cases c2 : Sp.fchk n d = 0
    · rw [if_neg (by omega)] at hv
      obtain ⟨k0, k1, k2, k3, _⟩ := Sp.fchk_zero.1 c2
      rw [c2] at fk
      by_cases c3 : n < 0
      · rw [if_pos c3] at hv
        obtain ⟨rfl, h2⟩ := Prod.mk.inj hv
        obtain ⟨rfl, rfl⟩ := Prod.mk.inj h2
        exact rscale_bad3 a b n d w c3 ck fk
      · rw [if_neg c3] at hv
        refine rscale_floors a b n d (a * n / d) ((-b) * n / d) lo hi e w (by omega) (by omega) (by omega) ?_ ck fk (fun w => rfloor_any a n d (by omega) (by omega) (by omega) k2 k0 k3 w) (fun w => rfloor_any (-b) n d (by omega) (by omega) (by omega) k2 k0 k3 w)
        rw [← hv]
        unfold floorsS Sp.flp
        by_cases p1 : -1000000000000000 ≤ a * n / d ∧ a * n / d ≤ 1000000000000000
        · by_cases p2 : -1000000000000000 ≤ (-b) * n / d ∧ (-b) * n / d ≤ 1000000000000000
          · rw [if_pos ⟨p1, p2⟩, if_pos p1, if_pos p2]; simp
          · rw [if_neg (fun h => p2 h.2), if_pos p1, if_neg p2]; simp
        · rw [if_neg (fun h => p1 h.1), if_neg p1]; simp
    · rw [if_pos (by omega)] at hv
      obtain ⟨rfl, h2⟩ := Prod.mk.inj hv
      obtain ⟨rfl, rfl⟩ := Prod.mk.inj h2
      exact rscale_bad2 a b n d _ w c2 ck fk
  · rw [if_pos (by omega)] at hv
    obtain ⟨rfl, h2⟩ := Prod.mk.inj hv
    obtain ⟨rfl, rfl⟩ := Prod.mk.inj h2
    exact rscale_bad1 a b n d _ w c1 ck
end Go.Proofs.Ytjeedlglonnngaa
