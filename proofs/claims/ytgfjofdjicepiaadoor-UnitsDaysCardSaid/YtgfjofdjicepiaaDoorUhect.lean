/-
  Packages units and couperef04: what works with numbers alone, walked over its callees' contracts.
-/
import Derived.Test.YtgfjofdjicepiaaDoorUround
import Derived.Test.YtgfjofdjicepiaaDoorFspec
import Derived.Deep.RegionHeld3
import Derived.BigQuiet
namespace Go.Proofs.YtgfjofdjicepiaaDoor
open Go.RowKit
set_option linter.unusedVariables false
set_option linter.unusedSimpArgs false

theorem uisday_any (k : Int) (w : World) : Calls Tryd.prog 59 #[.int .i64 k] w (Gives (.bool (decide (0 ≤ k ∧ k ≤ 100000))) w) := by
  rcases Int.lt_or_le k 0 with h | h
  · have e : decide (0 ≤ k ∧ k ≤ 100000) = false := decide_eq_false (by omega)
    rw [e]
    clear e
    go_enter Tryd.func59, Tryd.ntmps59
    go_wp2_with fail
    go_ret
    exact Gives.mk rfl (by repeat' (first | (with_reducible exact Below.refl _ _) | (with_reducible refine Below.alloc ?_ ?_ _) | (with_reducible refine Below.setCell ?_ ?_ _) | (with_reducible refine Below.drew ?_) | (with_reducible refine Below.trans ?_ (Below.mono (by assumption) ?_)) | (simp; done) | (simp; omega) | omega))
  · rcases Int.lt_or_le 100000 k with h2 | h2
    · have e : decide (0 ≤ k ∧ k ≤ 100000) = false := decide_eq_false (by omega)
      rw [e]
      have f1 : decide (0 ≤ k) = true := decide_eq_true (by omega)
      have f2 : decide (k ≤ 100000) = false := decide_eq_false (by omega)
      clear e
      go_enter Tryd.func59, Tryd.ntmps59
      go_wp2_with fail
      go_ret
      exact Gives.mk rfl (by repeat' (first | (with_reducible exact Below.refl _ _) | (with_reducible refine Below.alloc ?_ ?_ _) | (with_reducible refine Below.setCell ?_ ?_ _) | (with_reducible refine Below.drew ?_) | (with_reducible refine Below.trans ?_ (Below.mono (by assumption) ?_)) | (simp; done) | (simp; omega) | omega))
    · have e : decide (0 ≤ k ∧ k ≤ 100000) = true := decide_eq_true (by omega)
      rw [e]
      have f1 : decide (0 ≤ k) = true := decide_eq_true (by omega)
      have f2 : decide (k ≤ 100000) = true := decide_eq_true (by omega)
      clear e
      go_enter Tryd.func59, Tryd.ntmps59
      go_wp2_with fail
      go_ret
      exact Gives.mk rfl (by repeat' (first | (with_reducible exact Below.refl _ _) | (with_reducible refine Below.alloc ?_ ?_ _) | (with_reducible refine Below.setCell ?_ ?_ _) | (with_reducible refine Below.drew ?_) | (with_reducible refine Below.trans ?_ (Below.mono (by assumption) ?_)) | (simp; done) | (simp; omega) | omega))

theorem uweek_any (k r e : Int) (h : (¬ (0 ≤ k ∧ k ≤ 100000) ∧ r = 0 ∧ e = 2) ∨ ((0 ≤ k ∧ k ≤ 100000) ∧ k.tmod 7 = r ∧ e = 0)) (w : World) : Calls Tryd.prog 27 #[.int .i64 k] w (Gives (.tuple #[.int .i64 r, .int .i64 e]) w) := by
  have kd := fun w => uisday_any k w
  rcases h with ⟨h, rfl, rfl⟩ | ⟨h, hr, rfl⟩
  · rw [decide_eq_false h] at kd
    clear h
    go_enter Tryd.func27, Tryd.ntmps27
    go_wp2_with fail
    refine (kd _).mono ?_; rintro _ w1 ⟨rfl, hb⟩
    go_wp2_with fail
    go_ret2
    exact Gives.mk rfl (by repeat' (first | (with_reducible exact Below.refl _ _) | (with_reducible refine Below.alloc ?_ ?_ _) | (with_reducible refine Below.setCell ?_ ?_ _) | (with_reducible refine Below.drew ?_) | (with_reducible refine Below.trans ?_ (Below.mono (by assumption) ?_)) | (simp; done) | (simp; omega) | omega))
  · rw [decide_eq_true h] at kd
    go_enter Tryd.func27, Tryd.ntmps27
    go_wp2_with fail
    refine (kd _).mono ?_; rintro _ w1 ⟨rfl, hb⟩
    go_wp2_with fail
    go_ret2
    exact Gives.mk rfl (by repeat' (first | (with_reducible exact Below.refl _ _) | (with_reducible refine Below.alloc ?_ ?_ _) | (with_reducible refine Below.setCell ?_ ?_ _) | (with_reducible refine Below.drew ?_) | (with_reducible refine Below.trans ?_ (Below.mono (by assumption) ?_)) | (simp; done) | (simp; omega) | omega))

set_option maxRecDepth 100000 in
set_option maxHeartbeats 2000000 in
theorem uhect_bad (a e : Int) (h : (a < 0 ∧ e = 2) ∨ (1000000000000000 < a ∧ e = 8)) (w : World) : Calls Tryd.prog 22 #[.int .i64 a] w (Gives (.tuple #[.agg #[.int .i64 0, .int .i64 0], .int .i64 e]) w) := by
  rcases h with ⟨h, rfl⟩ | ⟨h, rfl⟩
  · go_enter Tryd.func22, Tryd.ntmps22
    go_wp2_with fail
    refine bodyPost_ret (v := .tuple #[.agg #[.int .i64 0, .int .i64 0], .int .i64 2]) (by simp [results, Tryd.results22, go_sem]) rfl ?_
    exact Gives.mk rfl (by repeat' (first | (with_reducible exact Below.refl _ _) | (with_reducible refine Below.alloc ?_ ?_ _) | (with_reducible refine Below.setCell ?_ ?_ _) | (with_reducible refine Below.drew ?_) | (with_reducible refine below_dn ?_ _) | (with_reducible refine Below.trans ?_ (Below.mono (by assumption) ?_)) | (simp; done) | (simp; omega) | omega))
  · go_enter Tryd.func22, Tryd.ntmps22
    go_wp2_with fail
    refine bodyPost_ret (v := .tuple #[.agg #[.int .i64 0, .int .i64 0], .int .i64 8]) (by simp [results, Tryd.results22, go_sem]) rfl ?_
    exact Gives.mk rfl (by repeat' (first | (with_reducible exact Below.refl _ _) | (with_reducible refine Below.alloc ?_ ?_ _) | (with_reducible refine Below.setCell ?_ ?_ _) | (with_reducible refine Below.drew ?_) | (with_reducible refine below_dn ?_ _) | (with_reducible refine Below.trans ?_ (Below.mono (by assumption) ?_)) | (simp; done) | (simp; omega) | omega))

set_option maxRecDepth 100000 in
set_option maxHeartbeats 2000000 in
theorem uhect_good (a lo hi e : Int) (h0 : 0 ≤ a) (h1 : a ≤ 1000000000000000) (nw : ∀ w : World, Calls Tryd.prog 54 #[.int .i64 a, .int .i64 2000000] w (Gives (.tuple #[.agg #[.int .i64 lo, .int .i64 hi], .int .i64 e]) w)) (w : World) : Calls Tryd.prog 22 #[.int .i64 a] w (Gives (.tuple #[.agg #[.int .i64 lo, .int .i64 hi], .int .i64 e]) w) := by
  go_enter Tryd.func22, Tryd.ntmps22
  go_wp2_with fail
  refine (nw _).mono ?_; rintro _ w1 ⟨rfl, hb⟩
  have xz : w.heap.size < (w1).heap.size := Nat.lt_of_lt_of_le (show w.heap.size < _ from (by first | assumption | (simp; done) | (simp; omega) | (dsimp only; omega) | omega)) hb.size; have x0 : (w1).cell? ⟨w.heap.size, 0, none⟩ = some (.int .i64 0) := (hb.cell (p := ⟨w.heap.size, 0, none⟩) (by first | assumption | (simp; done) | (simp; omega) | (dsimp only; omega) | omega)).trans (by first | assumption | (simp [go_sem]; done) | (simp [go_sem, *]; done)); have x1 : (w1).cell? ⟨w.heap.size, 1, none⟩ = some (.int .i64 0) := (hb.cell (p := ⟨w.heap.size, 1, none⟩) (by first | assumption | (simp; done) | (simp; omega) | (dsimp only; omega) | omega)).trans (by first | assumption | (simp [go_sem]; done) | (simp [go_sem, *]; done)); have xf : ∀ o, (w1).frozen? ⟨w.heap.size, o, none⟩ = false := fun o => (hb.frozen (p := ⟨w.heap.size, o, none⟩) (by first | assumption | (simp; done) | (simp; omega) | (dsimp only; omega) | omega)).trans (by first | (simp [go_sem]; done) | (simp [*]; done))
  have BN : Below w.heap.size w w1 := by repeat' (first | (with_reducible exact Below.refl _ _) | (with_reducible refine Below.alloc ?_ ?_ _) | (with_reducible refine Below.setCell ?_ ?_ _) | (with_reducible refine Below.drew ?_) | (with_reducible refine below_dn ?_ _) | (with_reducible refine Below.trans ?_ (Below.mono (by assumption) ?_)) | (simp; done) | (simp; omega) | omega)
  have hz := BN.size
  clear hb nw
  go_wp2_with fail
  refine bodyPost_ret (v := .tuple #[.agg #[.int .i64 lo, .int .i64 hi], .int .i64 e]) (by simp [results, Tryd.results22, go_sem, x0, x1]) rfl ?_
  exact Gives.mk rfl (by repeat' (first | (with_reducible exact Below.refl _ _) | (with_reducible refine Below.alloc ?_ ?_ _) | (with_reducible refine Below.setCell ?_ ?_ _) | (with_reducible refine Below.drew ?_) | (with_reducible refine below_dn ?_ _) | (with_reducible refine Below.trans ?_ (Below.mono (by assumption) ?_)) | (simp; done) | (simp; omega) | omega))

set_option maxRecDepth 100000 in
set_option maxHeartbeats 2000000 in
theorem uperh_bad (n a : Int) (h : a < 0) (w : World) : Calls Tryd.prog 24 #[.int .i64 n, .int .i64 a] w (Gives (.tuple #[.agg #[.int .i64 0, .int .i64 0], .int .i64 2]) w) := by
  go_enter Tryd.func24, Tryd.ntmps24
  go_wp2_with fail
  refine bodyPost_ret (v := .tuple #[.agg #[.int .i64 0, .int .i64 0], .int .i64 2]) (by simp [results, Tryd.results24, go_sem]) rfl ?_
  exact Gives.mk rfl (by repeat' (first | (with_reducible exact Below.refl _ _) | (with_reducible refine Below.alloc ?_ ?_ _) | (with_reducible refine Below.setCell ?_ ?_ _) | (with_reducible refine Below.drew ?_) | (with_reducible refine below_dn ?_ _) | (with_reducible refine Below.trans ?_ (Below.mono (by assumption) ?_)) | (simp; done) | (simp; omega) | omega))

set_option maxRecDepth 100000 in
set_option maxHeartbeats 2000000 in
theorem uperh_err (n a lo hi e : Int) (h : 0 ≤ a) (e0 : ¬ e = 0) (nw : ∀ w : World, Calls Tryd.prog 54 #[.int .i64 n, .int .i64 a] w (Gives (.tuple #[.agg #[.int .i64 lo, .int .i64 hi], .int .i64 e]) w)) (w : World) : Calls Tryd.prog 24 #[.int .i64 n, .int .i64 a] w (Gives (.tuple #[.agg #[.int .i64 0, .int .i64 0], .int .i64 e]) w) := by
  have g : (e != 0) = true := by simpa using e0
  go_enter Tryd.func24, Tryd.ntmps24
  go_wp2_with fail
  refine (nw _).mono ?_; rintro _ w1 ⟨rfl, hb⟩
  have xz : w.heap.size < (w1).heap.size := Nat.lt_of_lt_of_le (show w.heap.size < _ from (by first | assumption | (simp; done) | (simp; omega) | (dsimp only; omega) | omega)) hb.size; have x0 : (w1).cell? ⟨w.heap.size, 0, none⟩ = some (.int .i64 0) := (hb.cell (p := ⟨w.heap.size, 0, none⟩) (by first | assumption | (simp; done) | (simp; omega) | (dsimp only; omega) | omega)).trans (by first | assumption | (simp [go_sem]; done) | (simp [go_sem, *]; done)); have x1 : (w1).cell? ⟨w.heap.size, 1, none⟩ = some (.int .i64 0) := (hb.cell (p := ⟨w.heap.size, 1, none⟩) (by first | assumption | (simp; done) | (simp; omega) | (dsimp only; omega) | omega)).trans (by first | assumption | (simp [go_sem]; done) | (simp [go_sem, *]; done)); have xf : ∀ o, (w1).frozen? ⟨w.heap.size, o, none⟩ = false := fun o => (hb.frozen (p := ⟨w.heap.size, o, none⟩) (by first | assumption | (simp; done) | (simp; omega) | (dsimp only; omega) | omega)).trans (by first | (simp [go_sem]; done) | (simp [*]; done))
  have BN : Below w.heap.size w w1 := by repeat' (first | (with_reducible exact Below.refl _ _) | (with_reducible refine Below.alloc ?_ ?_ _) | (with_reducible refine Below.setCell ?_ ?_ _) | (with_reducible refine Below.drew ?_) | (with_reducible refine below_dn ?_ _) | (with_reducible refine Below.trans ?_ (Below.mono (by assumption) ?_)) | (simp; done) | (simp; omega) | omega)
  clear hb nw
  go_upto_region 4 with fail
  have Fv : UB w1.heap.size lo hi (w1.alloc (Obj.cells #[.int .i64 lo, .int .i64 hi] 32)) := ⟨by simp, by simp [go_sem], by simp [go_sem]⟩
  have BW : Below w1.heap.size w1 (w1.alloc (Obj.cells #[.int .i64 lo, .int .i64 hi] 32)) := Below.alloc (Below.refl _ _) (Nat.le_refl _) _
  have y0 := (BW.cell (p := ⟨w.heap.size, 0, none⟩) xz).trans x0
  have y1 := (BW.cell (p := ⟨w.heap.size, 1, none⟩) xz).trans x1
  have yf := fun o => (BW.frozen (p := ⟨w.heap.size, o, none⟩) xz).trans (xf o)
  have yz : w.heap.size < (w1.alloc (Obj.cells #[.int .i64 lo, .int .i64 hi] 32)).heap.size := Nat.lt_of_lt_of_le xz BW.size
  have hd1 : ¬ w1.heap.size = w.heap.size := by omega
  have hd2 : ¬ w.heap.size = w1.heap.size := by omega
  have BV := hid (BN.trans (BW.mono BN.size))
  clear x0 x1 xf xz BN BW
  generalize (w1.alloc (Obj.cells #[.int .i64 lo, .int .i64 hi] 32)) = v at Fv y0 y1 yf yz BV ⊢
  generalize w1.heap.size = k at Fv hd1 hd2 ⊢
  have v0 := Fv.2.1
  have v1 := Fv.2.2
  have hz := BV.out.size
  go_wp2_with fail
  refine bodyPost_ret (v := .tuple #[.agg #[.int .i64 0, .int .i64 0], .int .i64 e]) (by simp [results, Tryd.results24, go_sem, y0, y1]) rfl ?_
  have BB := BV.out
  exact Gives.mk rfl (by repeat' (first | (with_reducible exact Below.refl _ _) | (with_reducible refine Below.alloc ?_ ?_ _) | (with_reducible refine Below.setCell ?_ ?_ _) | (with_reducible refine Below.drew ?_) | (with_reducible refine below_dn ?_ _) | (with_reducible refine Below.trans ?_ (Below.mono (by assumption) ?_)) | (simp; done) | (simp; omega) | omega))

set_option maxRecDepth 100000 in
set_option maxHeartbeats 2000000 in
theorem uperh_good (n a lo hi x y g : Int) (h : 0 ≤ a) (nw : ∀ w : World, Calls Tryd.prog 54 #[.int .i64 n, .int .i64 a] w (Gives (.tuple #[.agg #[.int .i64 lo, .int .i64 hi], .int .i64 0]) w)) (ml : ∀ w : World, Calls Tryd.prog 56 #[.agg #[.int .i64 lo, .int .i64 hi], .agg #[.int .i64 2000000, .int .i64 1]] w (Gives (.tuple #[.agg #[.int .i64 x, .int .i64 y], .int .i64 g]) w)) (w : World) : Calls Tryd.prog 24 #[.int .i64 n, .int .i64 a] w (Gives (.tuple #[.agg #[.int .i64 x, .int .i64 y], .int .i64 g]) w) := by
  go_enter Tryd.func24, Tryd.ntmps24
  go_wp2_with fail
  refine (nw _).mono ?_; rintro _ w1 ⟨rfl, hb⟩
  have xz : w.heap.size < (w1).heap.size := Nat.lt_of_lt_of_le (show w.heap.size < _ from (by first | assumption | (simp; done) | (simp; omega) | (dsimp only; omega) | omega)) hb.size; have x0 : (w1).cell? ⟨w.heap.size, 0, none⟩ = some (.int .i64 0) := (hb.cell (p := ⟨w.heap.size, 0, none⟩) (by first | assumption | (simp; done) | (simp; omega) | (dsimp only; omega) | omega)).trans (by first | assumption | (simp [go_sem]; done) | (simp [go_sem, *]; done)); have x1 : (w1).cell? ⟨w.heap.size, 1, none⟩ = some (.int .i64 0) := (hb.cell (p := ⟨w.heap.size, 1, none⟩) (by first | assumption | (simp; done) | (simp; omega) | (dsimp only; omega) | omega)).trans (by first | assumption | (simp [go_sem]; done) | (simp [go_sem, *]; done)); have xf : ∀ o, (w1).frozen? ⟨w.heap.size, o, none⟩ = false := fun o => (hb.frozen (p := ⟨w.heap.size, o, none⟩) (by first | assumption | (simp; done) | (simp; omega) | (dsimp only; omega) | omega)).trans (by first | (simp [go_sem]; done) | (simp [*]; done))
  have BN : Below w.heap.size w w1 := by repeat' (first | (with_reducible exact Below.refl _ _) | (with_reducible refine Below.alloc ?_ ?_ _) | (with_reducible refine Below.setCell ?_ ?_ _) | (with_reducible refine Below.drew ?_) | (with_reducible refine below_dn ?_ _) | (with_reducible refine Below.trans ?_ (Below.mono (by assumption) ?_)) | (simp; done) | (simp; omega) | omega)
  clear hb nw
  go_upto_region 4 with fail
  have Fv : UB w1.heap.size lo hi (w1.alloc (Obj.cells #[.int .i64 lo, .int .i64 hi] 32)) := ⟨by simp, by simp [go_sem], by simp [go_sem]⟩
  have BW : Below w1.heap.size w1 (w1.alloc (Obj.cells #[.int .i64 lo, .int .i64 hi] 32)) := Below.alloc (Below.refl _ _) (Nat.le_refl _) _
  have y0 := (BW.cell (p := ⟨w.heap.size, 0, none⟩) xz).trans x0
  have y1 := (BW.cell (p := ⟨w.heap.size, 1, none⟩) xz).trans x1
  have yf := fun o => (BW.frozen (p := ⟨w.heap.size, o, none⟩) xz).trans (xf o)
  have yz : w.heap.size < (w1.alloc (Obj.cells #[.int .i64 lo, .int .i64 hi] 32)).heap.size := Nat.lt_of_lt_of_le xz BW.size
  have hd1 : ¬ w1.heap.size = w.heap.size := by omega
  have hd2 : ¬ w.heap.size = w1.heap.size := by omega
  have BV := hid (BN.trans (BW.mono BN.size))
  clear x0 x1 xf xz BN BW
  generalize (w1.alloc (Obj.cells #[.int .i64 lo, .int .i64 hi] 32)) = v at Fv y0 y1 yf yz BV ⊢
  generalize w1.heap.size = k at Fv hd1 hd2 ⊢
  have v0 := Fv.2.1
  have v1 := Fv.2.2
  go_wp2_with fail
  refine (ml _).mono ?_; rintro _ w2 ⟨rfl, hb⟩
  have z0 := (hb.cell (p := ⟨w.heap.size, 0, none⟩) yz).trans y0
  have z1 := (hb.cell (p := ⟨w.heap.size, 1, none⟩) yz).trans y1
  have zf := fun o => (hb.frozen (p := ⟨w.heap.size, o, none⟩) yz).trans (yf o)
  have BN2 : Below w.heap.size w w2 := BV.out.trans (hb.mono BV.out.size)
  have hz2 := BN2.size
  have zz : w.heap.size < w2.heap.size := Nat.lt_of_lt_of_le yz hb.size
  clear hb ml y0 y1 yf yz BV v0 v1 Fv hd1 hd2
  go_wp2_with fail
  refine bodyPost_ret (v := .tuple #[.agg #[.int .i64 x, .int .i64 y], .int .i64 g]) (by simp [results, Tryd.results24, go_sem, z0, z1]) rfl ?_
  exact Gives.mk rfl (by repeat' (first | (with_reducible exact Below.refl _ _) | (with_reducible refine Below.alloc ?_ ?_ _) | (with_reducible refine Below.setCell ?_ ?_ _) | (with_reducible refine Below.drew ?_) | (with_reducible refine below_dn ?_ _) | (with_reducible refine Below.trans ?_ (Below.mono (by assumption) ?_)) | (simp; done) | (simp; omega) | omega))

theorem rweek_any (k r e : Int) (h : (¬ (0 ≤ k ∧ k ≤ 100000) ∧ r = 0 ∧ e = 2) ∨ ((0 ≤ k ∧ k ≤ 100000) ∧ k.tmod 7 = r ∧ e = 0)) (w : World) : Calls Tryd.prog 28 #[.int .i64 k] w (Gives (.tuple #[.int .i64 r, .int .i64 e]) w) := by
  rcases h with ⟨h, rfl, rfl⟩ | ⟨h, hr, rfl⟩
  · rcases Int.lt_or_le k 0 with q | q
    · clear h
      go_enter Tryd.func28, Tryd.ntmps28
      go_wp2_with fail
      go_ret2
      exact Gives.mk rfl (by repeat' (first | (with_reducible exact Below.refl _ _) | (with_reducible refine Below.alloc ?_ ?_ _) | (with_reducible refine Below.setCell ?_ ?_ _) | (with_reducible refine Below.drew ?_) | (with_reducible refine Below.trans ?_ (Below.mono (by assumption) ?_)) | (simp; done) | (simp; omega) | omega))
    · have q2 : 100000 < k := by omega
      have f1 : decide (k < 0) = false := decide_eq_false (by omega)
      have f2 : decide (100000 < k) = true := decide_eq_true (by omega)
      clear h
      go_enter Tryd.func28, Tryd.ntmps28
      go_wp2_with fail
      go_ret2
      exact Gives.mk rfl (by repeat' (first | (with_reducible exact Below.refl _ _) | (with_reducible refine Below.alloc ?_ ?_ _) | (with_reducible refine Below.setCell ?_ ?_ _) | (with_reducible refine Below.drew ?_) | (with_reducible refine Below.trans ?_ (Below.mono (by assumption) ?_)) | (simp; done) | (simp; omega) | omega))
  · obtain ⟨h0, h1⟩ := h
    have f1 : decide (k < 0) = false := decide_eq_false (by omega)
    have f2 : decide (100000 < k) = false := decide_eq_false (by omega)
    go_enter Tryd.func28, Tryd.ntmps28
    go_wp2_with fail
    go_ret2
    exact Gives.mk rfl (by repeat' (first | (with_reducible exact Below.refl _ _) | (with_reducible refine Below.alloc ?_ ?_ _) | (with_reducible refine Below.setCell ?_ ?_ _) | (with_reducible refine Below.drew ?_) | (with_reducible refine Below.trans ?_ (Below.mono (by assumption) ?_)) | (simp; done) | (simp; omega) | omega))

set_option maxRecDepth 100000 in
set_option maxHeartbeats 2000000 in
theorem rhect_bad (a e : Int) (h : (a < 0 ∧ e = 2) ∨ (1000000000000000 < a ∧ e = 8)) (w : World) : Calls Tryd.prog 23 #[.int .i64 a] w (Gives (.tuple #[.agg #[.int .i64 0, .int .i64 0], .int .i64 e]) w) := by
  rcases h with ⟨h, rfl⟩ | ⟨h, rfl⟩
  · go_enter Tryd.func23, Tryd.ntmps23
    go_wp2_with fail
    refine bodyPost_ret (v := .tuple #[.agg #[.int .i64 0, .int .i64 0], .int .i64 2]) (by simp [results, Tryd.results23, go_sem]) rfl ?_
    exact Gives.mk rfl (by repeat' (first | (with_reducible exact Below.refl _ _) | (with_reducible refine Below.alloc ?_ ?_ _) | (with_reducible refine Below.setCell ?_ ?_ _) | (with_reducible refine Below.drew ?_) | (with_reducible refine below_dn ?_ _) | (with_reducible refine Below.trans ?_ (Below.mono (by assumption) ?_)) | (simp; done) | (simp; omega) | omega))
  · go_enter Tryd.func23, Tryd.ntmps23
    go_wp2_with fail
    refine bodyPost_ret (v := .tuple #[.agg #[.int .i64 0, .int .i64 0], .int .i64 8]) (by simp [results, Tryd.results23, go_sem]) rfl ?_
    exact Gives.mk rfl (by repeat' (first | (with_reducible exact Below.refl _ _) | (with_reducible refine Below.alloc ?_ ?_ _) | (with_reducible refine Below.setCell ?_ ?_ _) | (with_reducible refine Below.drew ?_) | (with_reducible refine below_dn ?_ _) | (with_reducible refine Below.trans ?_ (Below.mono (by assumption) ?_)) | (simp; done) | (simp; omega) | omega))

set_option maxRecDepth 100000 in
set_option maxHeartbeats 2000000 in
theorem rhect_good (a lo hi e : Int) (h0 : 0 ≤ a) (h1 : a ≤ 1000000000000000) (nw : ∀ w : World, Calls Tryd.prog 55 #[.int .i64 a, .int .i64 2000000] w (Gives (.tuple #[.agg #[.int .i64 lo, .int .i64 hi], .int .i64 e]) w)) (w : World) : Calls Tryd.prog 23 #[.int .i64 a] w (Gives (.tuple #[.agg #[.int .i64 lo, .int .i64 hi], .int .i64 e]) w) := by
  go_enter Tryd.func23, Tryd.ntmps23
  go_wp2_with fail
  refine (nw _).mono ?_; rintro _ w1 ⟨rfl, hb⟩
  have xz : w.heap.size < (w1).heap.size := Nat.lt_of_lt_of_le (show w.heap.size < _ from (by first | assumption | (simp; done) | (simp; omega) | (dsimp only; omega) | omega)) hb.size; have x0 : (w1).cell? ⟨w.heap.size, 0, none⟩ = some (.int .i64 0) := (hb.cell (p := ⟨w.heap.size, 0, none⟩) (by first | assumption | (simp; done) | (simp; omega) | (dsimp only; omega) | omega)).trans (by first | assumption | (simp [go_sem]; done) | (simp [go_sem, *]; done)); have x1 : (w1).cell? ⟨w.heap.size, 1, none⟩ = some (.int .i64 0) := (hb.cell (p := ⟨w.heap.size, 1, none⟩) (by first | assumption | (simp; done) | (simp; omega) | (dsimp only; omega) | omega)).trans (by first | assumption | (simp [go_sem]; done) | (simp [go_sem, *]; done)); have xf : ∀ o, (w1).frozen? ⟨w.heap.size, o, none⟩ = false := fun o => (hb.frozen (p := ⟨w.heap.size, o, none⟩) (by first | assumption | (simp; done) | (simp; omega) | (dsimp only; omega) | omega)).trans (by first | (simp [go_sem]; done) | (simp [*]; done))
  have BN : Below w.heap.size w w1 := by repeat' (first | (with_reducible exact Below.refl _ _) | (with_reducible refine Below.alloc ?_ ?_ _) | (with_reducible refine Below.setCell ?_ ?_ _) | (with_reducible refine Below.drew ?_) | (with_reducible refine below_dn ?_ _) | (with_reducible refine Below.trans ?_ (Below.mono (by assumption) ?_)) | (simp; done) | (simp; omega) | omega)
  have hz := BN.size
  clear hb nw
  go_wp2_with fail
  refine bodyPost_ret (v := .tuple #[.agg #[.int .i64 lo, .int .i64 hi], .int .i64 e]) (by simp [results, Tryd.results23, go_sem, x0, x1]) rfl ?_
  exact Gives.mk rfl (by repeat' (first | (with_reducible exact Below.refl _ _) | (with_reducible refine Below.alloc ?_ ?_ _) | (with_reducible refine Below.setCell ?_ ?_ _) | (with_reducible refine Below.drew ?_) | (with_reducible refine below_dn ?_ _) | (with_reducible refine Below.trans ?_ (Below.mono (by assumption) ?_)) | (simp; done) | (simp; omega) | omega))

set_option maxRecDepth 100000 in
set_option maxHeartbeats 2000000 in
theorem rperh_bad (n a : Int) (h : a < 0) (w : World) : Calls Tryd.prog 25 #[.int .i64 n, .int .i64 a] w (Gives (.tuple #[.agg #[.int .i64 0, .int .i64 0], .int .i64 2]) w) := by
  go_enter Tryd.func25, Tryd.ntmps25
  go_wp2_with fail
  refine bodyPost_ret (v := .tuple #[.agg #[.int .i64 0, .int .i64 0], .int .i64 2]) (by simp [results, Tryd.results25, go_sem]) rfl ?_
  exact Gives.mk rfl (by repeat' (first | (with_reducible exact Below.refl _ _) | (with_reducible refine Below.alloc ?_ ?_ _) | (with_reducible refine Below.setCell ?_ ?_ _) | (with_reducible refine Below.drew ?_) | (with_reducible refine below_dn ?_ _) | (with_reducible refine Below.trans ?_ (Below.mono (by assumption) ?_)) | (simp; done) | (simp; omega) | omega))

set_option maxRecDepth 100000 in
set_option maxHeartbeats 2000000 in
theorem rperh_err (n a lo hi e : Int) (h : 0 ≤ a) (e0 : ¬ e = 0) (nw : ∀ w : World, Calls Tryd.prog 55 #[.int .i64 n, .int .i64 a] w (Gives (.tuple #[.agg #[.int .i64 lo, .int .i64 hi], .int .i64 e]) w)) (w : World) : Calls Tryd.prog 25 #[.int .i64 n, .int .i64 a] w (Gives (.tuple #[.agg #[.int .i64 0, .int .i64 0], .int .i64 e]) w) := by
  have g : (e != 0) = true := by simpa using e0
  go_enter Tryd.func25, Tryd.ntmps25
  go_wp2_with fail
  refine (nw _).mono ?_; rintro _ w1 ⟨rfl, hb⟩
  have xz : w.heap.size < (w1).heap.size := Nat.lt_of_lt_of_le (show w.heap.size < _ from (by first | assumption | (simp; done) | (simp; omega) | (dsimp only; omega) | omega)) hb.size; have x0 : (w1).cell? ⟨w.heap.size, 0, none⟩ = some (.int .i64 0) := (hb.cell (p := ⟨w.heap.size, 0, none⟩) (by first | assumption | (simp; done) | (simp; omega) | (dsimp only; omega) | omega)).trans (by first | assumption | (simp [go_sem]; done) | (simp [go_sem, *]; done)); have x1 : (w1).cell? ⟨w.heap.size, 1, none⟩ = some (.int .i64 0) := (hb.cell (p := ⟨w.heap.size, 1, none⟩) (by first | assumption | (simp; done) | (simp; omega) | (dsimp only; omega) | omega)).trans (by first | assumption | (simp [go_sem]; done) | (simp [go_sem, *]; done)); have xf : ∀ o, (w1).frozen? ⟨w.heap.size, o, none⟩ = false := fun o => (hb.frozen (p := ⟨w.heap.size, o, none⟩) (by first | assumption | (simp; done) | (simp; omega) | (dsimp only; omega) | omega)).trans (by first | (simp [go_sem]; done) | (simp [*]; done))
  have BN : Below w.heap.size w w1 := by repeat' (first | (with_reducible exact Below.refl _ _) | (with_reducible refine Below.alloc ?_ ?_ _) | (with_reducible refine Below.setCell ?_ ?_ _) | (with_reducible refine Below.drew ?_) | (with_reducible refine below_dn ?_ _) | (with_reducible refine Below.trans ?_ (Below.mono (by assumption) ?_)) | (simp; done) | (simp; omega) | omega)
  clear hb nw
  go_upto_region 4 with fail
  have Fv : UB w1.heap.size lo hi (w1.alloc (Obj.cells #[.int .i64 lo, .int .i64 hi] 32)) := ⟨by simp, by simp [go_sem], by simp [go_sem]⟩
  have BW : Below w1.heap.size w1 (w1.alloc (Obj.cells #[.int .i64 lo, .int .i64 hi] 32)) := Below.alloc (Below.refl _ _) (Nat.le_refl _) _
  have y0 := (BW.cell (p := ⟨w.heap.size, 0, none⟩) xz).trans x0
  have y1 := (BW.cell (p := ⟨w.heap.size, 1, none⟩) xz).trans x1
  have yf := fun o => (BW.frozen (p := ⟨w.heap.size, o, none⟩) xz).trans (xf o)
  have yz : w.heap.size < (w1.alloc (Obj.cells #[.int .i64 lo, .int .i64 hi] 32)).heap.size := Nat.lt_of_lt_of_le xz BW.size
  have hd1 : ¬ w1.heap.size = w.heap.size := by omega
  have hd2 : ¬ w.heap.size = w1.heap.size := by omega
  have BV := hid (BN.trans (BW.mono BN.size))
  clear x0 x1 xf xz BN BW
  generalize (w1.alloc (Obj.cells #[.int .i64 lo, .int .i64 hi] 32)) = v at Fv y0 y1 yf yz BV ⊢
  generalize w1.heap.size = k at Fv hd1 hd2 ⊢
  have v0 := Fv.2.1
  have v1 := Fv.2.2
  have hz := BV.out.size
  go_wp2_with fail
  refine bodyPost_ret (v := .tuple #[.agg #[.int .i64 0, .int .i64 0], .int .i64 e]) (by simp [results, Tryd.results25, go_sem, y0, y1]) rfl ?_
  have BB := BV.out
  exact Gives.mk rfl (by repeat' (first | (with_reducible exact Below.refl _ _) | (with_reducible refine Below.alloc ?_ ?_ _) | (with_reducible refine Below.setCell ?_ ?_ _) | (with_reducible refine Below.drew ?_) | (with_reducible refine below_dn ?_ _) | (with_reducible refine Below.trans ?_ (Below.mono (by assumption) ?_)) | (simp; done) | (simp; omega) | omega))

set_option maxRecDepth 100000 in
set_option maxHeartbeats 2000000 in
theorem rperh_good (n a lo hi x y g : Int) (h : 0 ≤ a) (nw : ∀ w : World, Calls Tryd.prog 55 #[.int .i64 n, .int .i64 a] w (Gives (.tuple #[.agg #[.int .i64 lo, .int .i64 hi], .int .i64 0]) w)) (it : ∀ w : World, Calls Tryd.prog 57 #[.int .i64 2000000] w (Gives (.tuple #[.agg #[.int .i64 2000000, .int .i64 1], .int .i64 0]) w)) (ml : ∀ w : World, Calls Tryd.prog 58 #[.agg #[.int .i64 lo, .int .i64 hi], .agg #[.int .i64 2000000, .int .i64 1]] w (Gives (.tuple #[.agg #[.int .i64 x, .int .i64 y], .int .i64 g]) w)) (w : World) : Calls Tryd.prog 25 #[.int .i64 n, .int .i64 a] w (Gives (.tuple #[.agg #[.int .i64 x, .int .i64 y], .int .i64 g]) w) := by
  go_enter Tryd.func25, Tryd.ntmps25
  go_wp2_with fail
  refine (nw _).mono ?_; rintro _ w1 ⟨rfl, hb⟩
  have xz : w.heap.size < (w1).heap.size := Nat.lt_of_lt_of_le (show w.heap.size < _ from (by first | assumption | (simp; done) | (simp; omega) | (dsimp only; omega) | omega)) hb.size; have x0 : (w1).cell? ⟨w.heap.size, 0, none⟩ = some (.int .i64 0) := (hb.cell (p := ⟨w.heap.size, 0, none⟩) (by first | assumption | (simp; done) | (simp; omega) | (dsimp only; omega) | omega)).trans (by first | assumption | (simp [go_sem]; done) | (simp [go_sem, *]; done)); have x1 : (w1).cell? ⟨w.heap.size, 1, none⟩ = some (.int .i64 0) := (hb.cell (p := ⟨w.heap.size, 1, none⟩) (by first | assumption | (simp; done) | (simp; omega) | (dsimp only; omega) | omega)).trans (by first | assumption | (simp [go_sem]; done) | (simp [go_sem, *]; done)); have xf : ∀ o, (w1).frozen? ⟨w.heap.size, o, none⟩ = false := fun o => (hb.frozen (p := ⟨w.heap.size, o, none⟩) (by first | assumption | (simp; done) | (simp; omega) | (dsimp only; omega) | omega)).trans (by first | (simp [go_sem]; done) | (simp [*]; done))
  have BN : Below w.heap.size w w1 := by repeat' (first | (with_reducible exact Below.refl _ _) | (with_reducible refine Below.alloc ?_ ?_ _) | (with_reducible refine Below.setCell ?_ ?_ _) | (with_reducible refine Below.drew ?_) | (with_reducible refine below_dn ?_ _) | (with_reducible refine Below.trans ?_ (Below.mono (by assumption) ?_)) | (simp; done) | (simp; omega) | omega)
  clear hb nw
  go_upto_region 4 with fail
  have Fv : UB w1.heap.size lo hi (w1.alloc (Obj.cells #[.int .i64 lo, .int .i64 hi] 32)) := ⟨by simp, by simp [go_sem], by simp [go_sem]⟩
  have BW : Below w1.heap.size w1 (w1.alloc (Obj.cells #[.int .i64 lo, .int .i64 hi] 32)) := Below.alloc (Below.refl _ _) (Nat.le_refl _) _
  have y0 := (BW.cell (p := ⟨w.heap.size, 0, none⟩) xz).trans x0
  have y1 := (BW.cell (p := ⟨w.heap.size, 1, none⟩) xz).trans x1
  have yf := fun o => (BW.frozen (p := ⟨w.heap.size, o, none⟩) xz).trans (xf o)
  have yz : w.heap.size < (w1.alloc (Obj.cells #[.int .i64 lo, .int .i64 hi] 32)).heap.size := Nat.lt_of_lt_of_le xz BW.size
  have hd1 : ¬ w1.heap.size = w.heap.size := by omega
  have hd2 : ¬ w.heap.size = w1.heap.size := by omega
  have BV := hid (BN.trans (BW.mono BN.size))
  clear x0 x1 xf xz BN BW
  generalize (w1.alloc (Obj.cells #[.int .i64 lo, .int .i64 hi] 32)) = v at Fv y0 y1 yf yz BV ⊢
  generalize w1.heap.size = k at Fv hd1 hd2 ⊢
  have v0 := Fv.2.1
  have v1 := Fv.2.2
  clear v0 v1
  go_wp2_with fail
  refine (it _).mono ?_; rintro _ w2 ⟨rfl, hb⟩
  have z0 := (hb.cell (p := ⟨w.heap.size, 0, none⟩) yz).trans y0
  have z1 := (hb.cell (p := ⟨w.heap.size, 1, none⟩) yz).trans y1
  have zf := fun o => (hb.frozen (p := ⟨w.heap.size, o, none⟩) yz).trans (yf o)
  have zz : w.heap.size < w2.heap.size := Nat.lt_of_lt_of_le yz hb.size
  have Gv := Fv.below hb
  have B2 := hid (BV.out.trans (hb.mono BV.out.size))
  clear hb it y0 y1 yf yz BV Fv
  go_upto_region 7 with fail
  have Fu : UB w2.heap.size 2000000 1 (w2.alloc (Obj.cells #[.int .i64 2000000, .int .i64 1] 32)) := ⟨by simp, by simp [go_sem], by simp [go_sem]⟩
  have BW : Below w2.heap.size w2 (w2.alloc (Obj.cells #[.int .i64 2000000, .int .i64 1] 32)) := Below.alloc (Below.refl _ _) (Nat.le_refl _) _
  have y0 := (BW.cell (p := ⟨w.heap.size, 0, none⟩) zz).trans z0
  have y1 := (BW.cell (p := ⟨w.heap.size, 1, none⟩) zz).trans z1
  have yf := fun o => (BW.frozen (p := ⟨w.heap.size, o, none⟩) zz).trans (zf o)
  have yz : w.heap.size < (w2.alloc (Obj.cells #[.int .i64 2000000, .int .i64 1] 32)).heap.size := Nat.lt_of_lt_of_le zz BW.size
  have Hv := Gv.below BW
  have B3 := hid (B2.out.trans (BW.mono B2.out.size))
  clear z0 z1 zf zz Gv B2 BW
  generalize (w2.alloc (Obj.cells #[.int .i64 2000000, .int .i64 1] 32)) = v2 at Fu y0 y1 yf yz Hv B3 ⊢
  generalize w2.heap.size = k2 at Fu ⊢
  have v0 := Hv.2.1
  have v1 := Hv.2.2
  have u0' := Fu.2.1
  have u1' := Fu.2.2
  go_wp2_with fail
  refine (ml _).mono ?_; rintro _ w3 ⟨rfl, hb⟩
  have z0 := (hb.cell (p := ⟨w.heap.size, 0, none⟩) yz).trans y0
  have z1 := (hb.cell (p := ⟨w.heap.size, 1, none⟩) yz).trans y1
  have zf := fun o => (hb.frozen (p := ⟨w.heap.size, o, none⟩) yz).trans (yf o)
  have BN2 : Below w.heap.size w w3 := B3.out.trans (hb.mono B3.out.size)
  have hz2 := BN2.size
  have zz : w.heap.size < w3.heap.size := Nat.lt_of_lt_of_le yz hb.size
  clear hb ml y0 y1 yf yz B3 v0 v1 u0' u1' Fu Hv hd1 hd2
  go_wp2_with fail
  refine bodyPost_ret (v := .tuple #[.agg #[.int .i64 x, .int .i64 y], .int .i64 g]) (by simp [results, Tryd.results25, go_sem, z0, z1]) rfl ?_
  exact Gives.mk rfl (by repeat' (first | (with_reducible exact Below.refl _ _) | (with_reducible refine Below.alloc ?_ ?_ _) | (with_reducible refine Below.setCell ?_ ?_ _) | (with_reducible refine Below.drew ?_) | (with_reducible refine below_dn ?_ _) | (with_reducible refine Below.trans ?_ (Below.mono (by assumption) ?_)) | (simp; done) | (simp; omega) | omega))

end Go.Proofs.YtgfjofdjicepiaaDoor
