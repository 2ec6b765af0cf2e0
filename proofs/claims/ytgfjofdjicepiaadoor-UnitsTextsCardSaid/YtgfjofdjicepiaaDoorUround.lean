/-
  Packages units and couperef04: what works with numbers alone, walked over its callees' contracts.
-/
import Derived.Test.YtgfjofdjicepiaaDoorFcode
import Derived.Test.YtgfjofdjicepiaaDoorFspec
import Derived.Deep.RegionHeld3
import Derived.BigQuiet
namespace Go.Proofs.YtgfjofdjicepiaaDoor
open Go.RowKit
set_option linter.unusedVariables false
set_option linter.unusedSimpArgs false
/-- A box of a fraction of its own. -/
def UB (k : Nat) (x y : Int) (w : World) : Prop := k < w.heap.size ∧ w.cell? ⟨k, 0, none⟩ = some (.int .i64 x) ∧ w.cell? ⟨k, 1, none⟩ = some (.int .i64 y)
theorem UB.below {k : Nat} {x y : Int} {w w' : World} (h : UB k x y w) (b : Below w.heap.size w w') : UB k x y w' :=
  ⟨Nat.lt_of_lt_of_le h.1 b.size, (b.cell (p := ⟨k, 0, none⟩) h.1).trans h.2.1, (b.cell (p := ⟨k, 1, none⟩) h.1).trans h.2.2⟩

theorem uknown_any (k : Int) (w : World) : Calls Tryd.prog 36 #[.int .i64 k] w (Gives (.bool (decide (1 ≤ k ∧ k ≤ 5))) w) := by
  rcases Int.lt_or_le k 1 with h | h
  · have e : decide (1 ≤ k ∧ k ≤ 5) = false := decide_eq_false (by omega)
    rw [e]
    go_enter Tryd.func36, Tryd.ntmps36
    go_wp2_with fail
    go_ret
    exact Gives.mk rfl (by repeat' (first | (with_reducible exact Below.refl _ _) | (with_reducible refine Below.alloc ?_ ?_ _) | (with_reducible refine Below.setCell ?_ ?_ _) | (with_reducible refine Below.drew ?_) | (with_reducible refine Below.trans ?_ (Below.mono (by assumption) ?_)) | (simp; done) | (simp; omega) | omega))
  · rcases Int.lt_or_le 5 k with h2 | h2
    · have e : decide (1 ≤ k ∧ k ≤ 5) = false := decide_eq_false (by omega)
      rw [e]
      have f1 : decide (0 < k) = true := decide_eq_true (by omega)
      have f2 : decide (k < 6) = false := decide_eq_false (by omega)
      clear e
      go_enter Tryd.func36, Tryd.ntmps36
      go_wp2_with fail
      go_ret
      exact Gives.mk rfl (by repeat' (first | (with_reducible exact Below.refl _ _) | (with_reducible refine Below.alloc ?_ ?_ _) | (with_reducible refine Below.setCell ?_ ?_ _) | (with_reducible refine Below.drew ?_) | (with_reducible refine Below.trans ?_ (Below.mono (by assumption) ?_)) | (simp; done) | (simp; omega) | omega))
    · have e : decide (1 ≤ k ∧ k ≤ 5) = true := decide_eq_true (by omega)
      rw [e]
      have f1 : decide (0 < k) = true := decide_eq_true (by omega)
      have f2 : decide (k < 6) = true := decide_eq_true (by omega)
      clear e
      go_enter Tryd.func36, Tryd.ntmps36
      go_wp2_with fail
      go_ret
      exact Gives.mk rfl (by repeat' (first | (with_reducible exact Below.refl _ _) | (with_reducible refine Below.alloc ?_ ?_ _) | (with_reducible refine Below.setCell ?_ ?_ _) | (with_reducible refine Below.drew ?_) | (with_reducible refine Below.trans ?_ (Below.mono (by assumption) ?_)) | (simp; done) | (simp; omega) | omega))

set_option maxRecDepth 100000 in
set_option maxHeartbeats 2000000 in
theorem unear_gt (n d fl N D T : Int) (up : Bool) (hfl : ∀ w : World, Calls Tryd.prog 48 #[.agg #[.int .i64 n, .int .i64 d]] w (Gives (.int .i64 fl) w))
    (hN : fl * d = N) (hD : n - N = D) (hT : 2 * D = T) (b1 : -4000000000000000 ≤ N) (b2 : N ≤ 4000000000000000) (b3 : -4000000000000000 ≤ D) (b4 : D ≤ 4000000000000000) (b5 : -4000000000000000 ≤ fl) (b6 : fl ≤ 4000000000000000) (b7 : -8000000000000000 ≤ T) (b8 : T ≤ 8000000000000000)
    (hc : d < T) (w : World) : Calls Tryd.prog 50 #[.agg #[.int .i64 n, .int .i64 d], .bool up] w (Gives (.int .i64 (fl + 1)) w) := by
  have k1 : decide (d < T) = true := decide_eq_true hc
  go_enter Tryd.func50, Tryd.ntmps50
  go_wp2_with fail
  refine (hfl _).mono ?_; rintro _ w1 ⟨rfl, hb⟩
  have pz : w.heap.size < (w1).heap.size := Nat.lt_of_lt_of_le (show w.heap.size < _ from (by first | assumption | (simp; done) | (simp; omega) | (dsimp only; omega) | omega)) hb.size; have p0 : (w1).cell? ⟨w.heap.size, 0, none⟩ = some (.int .i64 n) := (hb.cell (p := ⟨w.heap.size, 0, none⟩) (by first | assumption | (simp; done) | (simp; omega) | (dsimp only; omega) | omega)).trans (by first | assumption | (simp [go_sem]; done) | (simp [go_sem, *]; done)); have p1 : (w1).cell? ⟨w.heap.size, 1, none⟩ = some (.int .i64 d) := (hb.cell (p := ⟨w.heap.size, 1, none⟩) (by first | assumption | (simp; done) | (simp; omega) | (dsimp only; omega) | omega)).trans (by first | assumption | (simp [go_sem]; done) | (simp [go_sem, *]; done)); have pf : ∀ o, (w1).frozen? ⟨w.heap.size, o, none⟩ = false := fun o => (hb.frozen (p := ⟨w.heap.size, o, none⟩) (by first | assumption | (simp; done) | (simp; omega) | (dsimp only; omega) | omega)).trans (by first | (simp [go_sem]; done) | (simp [*]; done))
  have BN : Below w.heap.size w w1 := by repeat' (first | (with_reducible exact Below.refl _ _) | (with_reducible refine Below.alloc ?_ ?_ _) | (with_reducible refine Below.setCell ?_ ?_ _) | (with_reducible refine Below.drew ?_) | (with_reducible refine Below.trans ?_ (Below.mono (by assumption) ?_)) | (simp; done) | (simp; omega) | omega)
  clear hb hfl
  go_wp2_with fail
  go_ret
  exact Gives.mk rfl BN

set_option maxRecDepth 100000 in
set_option maxHeartbeats 2000000 in
theorem unear_yes (n d fl N D T : Int) (hfl : ∀ w : World, Calls Tryd.prog 48 #[.agg #[.int .i64 n, .int .i64 d]] w (Gives (.int .i64 fl) w))
    (hN : fl * d = N) (hD : n - N = D) (hT : 2 * D = T) (b1 : -4000000000000000 ≤ N) (b2 : N ≤ 4000000000000000) (b3 : -4000000000000000 ≤ D) (b4 : D ≤ 4000000000000000) (b5 : -4000000000000000 ≤ fl) (b6 : fl ≤ 4000000000000000) (b7 : -8000000000000000 ≤ T) (b8 : T ≤ 8000000000000000)
    (hc : T = d) (w : World) : Calls Tryd.prog 50 #[.agg #[.int .i64 n, .int .i64 d], .bool true] w (Gives (.int .i64 (fl + 1)) w) := by
  have k1 : decide (d < T) = false := decide_eq_false (by omega)
  have k2 : (T == d) = true := by simp; omega
  go_enter Tryd.func50, Tryd.ntmps50
  go_wp2_with fail
  refine (hfl _).mono ?_; rintro _ w1 ⟨rfl, hb⟩
  have pz : w.heap.size < (w1).heap.size := Nat.lt_of_lt_of_le (show w.heap.size < _ from (by first | assumption | (simp; done) | (simp; omega) | (dsimp only; omega) | omega)) hb.size; have p0 : (w1).cell? ⟨w.heap.size, 0, none⟩ = some (.int .i64 n) := (hb.cell (p := ⟨w.heap.size, 0, none⟩) (by first | assumption | (simp; done) | (simp; omega) | (dsimp only; omega) | omega)).trans (by first | assumption | (simp [go_sem]; done) | (simp [go_sem, *]; done)); have p1 : (w1).cell? ⟨w.heap.size, 1, none⟩ = some (.int .i64 d) := (hb.cell (p := ⟨w.heap.size, 1, none⟩) (by first | assumption | (simp; done) | (simp; omega) | (dsimp only; omega) | omega)).trans (by first | assumption | (simp [go_sem]; done) | (simp [go_sem, *]; done)); have pf : ∀ o, (w1).frozen? ⟨w.heap.size, o, none⟩ = false := fun o => (hb.frozen (p := ⟨w.heap.size, o, none⟩) (by first | assumption | (simp; done) | (simp; omega) | (dsimp only; omega) | omega)).trans (by first | (simp [go_sem]; done) | (simp [*]; done))
  have BN : Below w.heap.size w w1 := by repeat' (first | (with_reducible exact Below.refl _ _) | (with_reducible refine Below.alloc ?_ ?_ _) | (with_reducible refine Below.setCell ?_ ?_ _) | (with_reducible refine Below.drew ?_) | (with_reducible refine Below.trans ?_ (Below.mono (by assumption) ?_)) | (simp; done) | (simp; omega) | omega)
  clear hb hfl
  go_wp2_with fail
  go_ret
  exact Gives.mk rfl BN

set_option maxRecDepth 100000 in
set_option maxHeartbeats 2000000 in
theorem unear_no (n d fl N D T : Int) (hfl : ∀ w : World, Calls Tryd.prog 48 #[.agg #[.int .i64 n, .int .i64 d]] w (Gives (.int .i64 fl) w))
    (hN : fl * d = N) (hD : n - N = D) (hT : 2 * D = T) (b1 : -4000000000000000 ≤ N) (b2 : N ≤ 4000000000000000) (b3 : -4000000000000000 ≤ D) (b4 : D ≤ 4000000000000000) (b5 : -4000000000000000 ≤ fl) (b6 : fl ≤ 4000000000000000) (b7 : -8000000000000000 ≤ T) (b8 : T ≤ 8000000000000000)
    (hc : T = d) (w : World) : Calls Tryd.prog 50 #[.agg #[.int .i64 n, .int .i64 d], .bool false] w (Gives (.int .i64 (fl)) w) := by
  have k1 : decide (d < T) = false := decide_eq_false (by omega)
  have k2 : (T == d) = true := by simp; omega
  go_enter Tryd.func50, Tryd.ntmps50
  go_wp2_with fail
  refine (hfl _).mono ?_; rintro _ w1 ⟨rfl, hb⟩
  have pz : w.heap.size < (w1).heap.size := Nat.lt_of_lt_of_le (show w.heap.size < _ from (by first | assumption | (simp; done) | (simp; omega) | (dsimp only; omega) | omega)) hb.size; have p0 : (w1).cell? ⟨w.heap.size, 0, none⟩ = some (.int .i64 n) := (hb.cell (p := ⟨w.heap.size, 0, none⟩) (by first | assumption | (simp; done) | (simp; omega) | (dsimp only; omega) | omega)).trans (by first | assumption | (simp [go_sem]; done) | (simp [go_sem, *]; done)); have p1 : (w1).cell? ⟨w.heap.size, 1, none⟩ = some (.int .i64 d) := (hb.cell (p := ⟨w.heap.size, 1, none⟩) (by first | assumption | (simp; done) | (simp; omega) | (dsimp only; omega) | omega)).trans (by first | assumption | (simp [go_sem]; done) | (simp [go_sem, *]; done)); have pf : ∀ o, (w1).frozen? ⟨w.heap.size, o, none⟩ = false := fun o => (hb.frozen (p := ⟨w.heap.size, o, none⟩) (by first | assumption | (simp; done) | (simp; omega) | (dsimp only; omega) | omega)).trans (by first | (simp [go_sem]; done) | (simp [*]; done))
  have BN : Below w.heap.size w w1 := by repeat' (first | (with_reducible exact Below.refl _ _) | (with_reducible refine Below.alloc ?_ ?_ _) | (with_reducible refine Below.setCell ?_ ?_ _) | (with_reducible refine Below.drew ?_) | (with_reducible refine Below.trans ?_ (Below.mono (by assumption) ?_)) | (simp; done) | (simp; omega) | omega)
  clear hb hfl
  go_wp2_with fail
  go_ret
  exact Gives.mk rfl BN

set_option maxRecDepth 100000 in
set_option maxHeartbeats 2000000 in
theorem unear_lt (n d fl N D T : Int) (up : Bool) (hfl : ∀ w : World, Calls Tryd.prog 48 #[.agg #[.int .i64 n, .int .i64 d]] w (Gives (.int .i64 fl) w))
    (hN : fl * d = N) (hD : n - N = D) (hT : 2 * D = T) (b1 : -4000000000000000 ≤ N) (b2 : N ≤ 4000000000000000) (b3 : -4000000000000000 ≤ D) (b4 : D ≤ 4000000000000000) (b5 : -4000000000000000 ≤ fl) (b6 : fl ≤ 4000000000000000) (b7 : -8000000000000000 ≤ T) (b8 : T ≤ 8000000000000000)
    (hc : T < d) (w : World) : Calls Tryd.prog 50 #[.agg #[.int .i64 n, .int .i64 d], .bool up] w (Gives (.int .i64 (fl)) w) := by
  have k1 : decide (d < T) = false := decide_eq_false (by omega)
  have k2 : (T == d) = false := by simp; omega
  go_enter Tryd.func50, Tryd.ntmps50
  go_wp2_with fail
  refine (hfl _).mono ?_; rintro _ w1 ⟨rfl, hb⟩
  have pz : w.heap.size < (w1).heap.size := Nat.lt_of_lt_of_le (show w.heap.size < _ from (by first | assumption | (simp; done) | (simp; omega) | (dsimp only; omega) | omega)) hb.size; have p0 : (w1).cell? ⟨w.heap.size, 0, none⟩ = some (.int .i64 n) := (hb.cell (p := ⟨w.heap.size, 0, none⟩) (by first | assumption | (simp; done) | (simp; omega) | (dsimp only; omega) | omega)).trans (by first | assumption | (simp [go_sem]; done) | (simp [go_sem, *]; done)); have p1 : (w1).cell? ⟨w.heap.size, 1, none⟩ = some (.int .i64 d) := (hb.cell (p := ⟨w.heap.size, 1, none⟩) (by first | assumption | (simp; done) | (simp; omega) | (dsimp only; omega) | omega)).trans (by first | assumption | (simp [go_sem]; done) | (simp [go_sem, *]; done)); have pf : ∀ o, (w1).frozen? ⟨w.heap.size, o, none⟩ = false := fun o => (hb.frozen (p := ⟨w.heap.size, o, none⟩) (by first | assumption | (simp; done) | (simp; omega) | (dsimp only; omega) | omega)).trans (by first | (simp [go_sem]; done) | (simp [*]; done))
  have BN : Below w.heap.size w w1 := by repeat' (first | (with_reducible exact Below.refl _ _) | (with_reducible refine Below.alloc ?_ ?_ _) | (with_reducible refine Below.setCell ?_ ?_ _) | (with_reducible refine Below.drew ?_) | (with_reducible refine Below.trans ?_ (Below.mono (by assumption) ?_)) | (simp; done) | (simp; omega) | omega)
  clear hb hfl
  go_wp2_with fail
  go_ret
  exact Gives.mk rfl BN

set_option maxRecDepth 100000 in
set_option maxHeartbeats 2000000 in
theorem uround_bad (n d e way : Int) (e0 : ¬ e = 0) (ck : ∀ w : World, Calls Tryd.prog 33 #[.agg #[.int .i64 n, .int .i64 d]] w (Gives (.int .i64 e) w)) (w : World) :
    Calls Tryd.prog 20 #[.agg #[.int .i64 n, .int .i64 d], .int .i64 way] w (Gives (.tuple #[.int .i64 0, .int .i64 e]) w) := by
  have g : (e != 0) = true := by simpa using e0
  go_enter Tryd.func20, Tryd.ntmps20
  go_wp2_with fail
  refine (ck _).mono ?_; rintro _ w1 ⟨rfl, hb⟩
  have BN : Below w.heap.size w w1 := by repeat' (first | (with_reducible exact Below.refl _ _) | (with_reducible refine Below.alloc ?_ ?_ _) | (with_reducible refine Below.setCell ?_ ?_ _) | (with_reducible refine Below.drew ?_) | (with_reducible refine Below.trans ?_ (Below.mono (by assumption) ?_)) | (simp; done) | (simp; omega) | omega)
  clear hb
  go_wp2_with fail
  go_ret2
  exact Gives.mk rfl BN

set_option maxRecDepth 100000 in
set_option maxHeartbeats 2000000 in
theorem uround_1 (n d r : Int) (ck : ∀ w : World, Calls Tryd.prog 33 #[.agg #[.int .i64 n, .int .i64 d]] w (Gives (.int .i64 0) w)) (hr : ∀ w : World, Calls Tryd.prog 48 #[.agg #[.int .i64 n, .int .i64 d]] w (Gives (.int .i64 r) w)) (w : World) :
    Calls Tryd.prog 20 #[.agg #[.int .i64 n, .int .i64 d], .int .i64 1] w (Gives (.tuple #[.int .i64 r, .int .i64 0]) w) := by
  go_enter Tryd.func20, Tryd.ntmps20
  go_wp2_with fail
  refine (ck _).mono ?_; rintro _ w1 ⟨rfl, hb⟩
  have pz : w.heap.size < (w1).heap.size := Nat.lt_of_lt_of_le (show w.heap.size < _ from (by first | assumption | (simp; done) | (simp; omega) | (dsimp only; omega) | omega)) hb.size; have p0 : (w1).cell? ⟨w.heap.size, 0, none⟩ = some (.int .i64 n) := (hb.cell (p := ⟨w.heap.size, 0, none⟩) (by first | assumption | (simp; done) | (simp; omega) | (dsimp only; omega) | omega)).trans (by first | assumption | (simp [go_sem]; done) | (simp [go_sem, *]; done)); have p1 : (w1).cell? ⟨w.heap.size, 1, none⟩ = some (.int .i64 d) := (hb.cell (p := ⟨w.heap.size, 1, none⟩) (by first | assumption | (simp; done) | (simp; omega) | (dsimp only; omega) | omega)).trans (by first | assumption | (simp [go_sem]; done) | (simp [go_sem, *]; done)); have pf : ∀ o, (w1).frozen? ⟨w.heap.size, o, none⟩ = false := fun o => (hb.frozen (p := ⟨w.heap.size, o, none⟩) (by first | assumption | (simp; done) | (simp; omega) | (dsimp only; omega) | omega)).trans (by first | (simp [go_sem]; done) | (simp [*]; done))
  have BN : Below w.heap.size w w1 := by repeat' (first | (with_reducible exact Below.refl _ _) | (with_reducible refine Below.alloc ?_ ?_ _) | (with_reducible refine Below.setCell ?_ ?_ _) | (with_reducible refine Below.drew ?_) | (with_reducible refine Below.trans ?_ (Below.mono (by assumption) ?_)) | (simp; done) | (simp; omega) | omega)
  clear hb
  go_wp2_with fail
  refine (hr _).mono ?_; rintro _ w2 ⟨rfl, hb⟩
  have BN2 : Below w.heap.size w w2 := BN.trans (hb.mono BN.size)
  clear hb BN
  go_wp2_with fail
  go_ret2
  exact Gives.mk rfl BN2

set_option maxRecDepth 100000 in
set_option maxHeartbeats 2000000 in
theorem uround_2 (n d r : Int) (ck : ∀ w : World, Calls Tryd.prog 33 #[.agg #[.int .i64 n, .int .i64 d]] w (Gives (.int .i64 0) w)) (hr : ∀ w : World, Calls Tryd.prog 49 #[.agg #[.int .i64 n, .int .i64 d]] w (Gives (.int .i64 r) w)) (w : World) :
    Calls Tryd.prog 20 #[.agg #[.int .i64 n, .int .i64 d], .int .i64 2] w (Gives (.tuple #[.int .i64 r, .int .i64 0]) w) := by
  go_enter Tryd.func20, Tryd.ntmps20
  go_wp2_with fail
  refine (ck _).mono ?_; rintro _ w1 ⟨rfl, hb⟩
  have pz : w.heap.size < (w1).heap.size := Nat.lt_of_lt_of_le (show w.heap.size < _ from (by first | assumption | (simp; done) | (simp; omega) | (dsimp only; omega) | omega)) hb.size; have p0 : (w1).cell? ⟨w.heap.size, 0, none⟩ = some (.int .i64 n) := (hb.cell (p := ⟨w.heap.size, 0, none⟩) (by first | assumption | (simp; done) | (simp; omega) | (dsimp only; omega) | omega)).trans (by first | assumption | (simp [go_sem]; done) | (simp [go_sem, *]; done)); have p1 : (w1).cell? ⟨w.heap.size, 1, none⟩ = some (.int .i64 d) := (hb.cell (p := ⟨w.heap.size, 1, none⟩) (by first | assumption | (simp; done) | (simp; omega) | (dsimp only; omega) | omega)).trans (by first | assumption | (simp [go_sem]; done) | (simp [go_sem, *]; done)); have pf : ∀ o, (w1).frozen? ⟨w.heap.size, o, none⟩ = false := fun o => (hb.frozen (p := ⟨w.heap.size, o, none⟩) (by first | assumption | (simp; done) | (simp; omega) | (dsimp only; omega) | omega)).trans (by first | (simp [go_sem]; done) | (simp [*]; done))
  have BN : Below w.heap.size w w1 := by repeat' (first | (with_reducible exact Below.refl _ _) | (with_reducible refine Below.alloc ?_ ?_ _) | (with_reducible refine Below.setCell ?_ ?_ _) | (with_reducible refine Below.drew ?_) | (with_reducible refine Below.trans ?_ (Below.mono (by assumption) ?_)) | (simp; done) | (simp; omega) | omega)
  clear hb
  go_wp2_with fail
  refine (hr _).mono ?_; rintro _ w2 ⟨rfl, hb⟩
  have BN2 : Below w.heap.size w w2 := BN.trans (hb.mono BN.size)
  clear hb BN
  go_wp2_with fail
  go_ret2
  exact Gives.mk rfl BN2

set_option maxRecDepth 100000 in
set_option maxHeartbeats 2000000 in
theorem uround_3 (n d r : Int) (ck : ∀ w : World, Calls Tryd.prog 33 #[.agg #[.int .i64 n, .int .i64 d]] w (Gives (.int .i64 0) w)) (hr : ∀ w : World, Calls Tryd.prog 50 #[.agg #[.int .i64 n, .int .i64 d], .bool true] w (Gives (.int .i64 r) w)) (w : World) :
    Calls Tryd.prog 20 #[.agg #[.int .i64 n, .int .i64 d], .int .i64 3] w (Gives (.tuple #[.int .i64 r, .int .i64 0]) w) := by
  go_enter Tryd.func20, Tryd.ntmps20
  go_wp2_with fail
  refine (ck _).mono ?_; rintro _ w1 ⟨rfl, hb⟩
  have pz : w.heap.size < (w1).heap.size := Nat.lt_of_lt_of_le (show w.heap.size < _ from (by first | assumption | (simp; done) | (simp; omega) | (dsimp only; omega) | omega)) hb.size; have p0 : (w1).cell? ⟨w.heap.size, 0, none⟩ = some (.int .i64 n) := (hb.cell (p := ⟨w.heap.size, 0, none⟩) (by first | assumption | (simp; done) | (simp; omega) | (dsimp only; omega) | omega)).trans (by first | assumption | (simp [go_sem]; done) | (simp [go_sem, *]; done)); have p1 : (w1).cell? ⟨w.heap.size, 1, none⟩ = some (.int .i64 d) := (hb.cell (p := ⟨w.heap.size, 1, none⟩) (by first | assumption | (simp; done) | (simp; omega) | (dsimp only; omega) | omega)).trans (by first | assumption | (simp [go_sem]; done) | (simp [go_sem, *]; done)); have pf : ∀ o, (w1).frozen? ⟨w.heap.size, o, none⟩ = false := fun o => (hb.frozen (p := ⟨w.heap.size, o, none⟩) (by first | assumption | (simp; done) | (simp; omega) | (dsimp only; omega) | omega)).trans (by first | (simp [go_sem]; done) | (simp [*]; done))
  have BN : Below w.heap.size w w1 := by repeat' (first | (with_reducible exact Below.refl _ _) | (with_reducible refine Below.alloc ?_ ?_ _) | (with_reducible refine Below.setCell ?_ ?_ _) | (with_reducible refine Below.drew ?_) | (with_reducible refine Below.trans ?_ (Below.mono (by assumption) ?_)) | (simp; done) | (simp; omega) | omega)
  clear hb
  go_wp2_with fail
  refine (hr _).mono ?_; rintro _ w2 ⟨rfl, hb⟩
  have BN2 : Below w.heap.size w w2 := BN.trans (hb.mono BN.size)
  clear hb BN
  go_wp2_with fail
  go_ret2
  exact Gives.mk rfl BN2

set_option maxRecDepth 100000 in
set_option maxHeartbeats 2000000 in
theorem uround_4 (n d r fl : Int) (ck : ∀ w : World, Calls Tryd.prog 33 #[.agg #[.int .i64 n, .int .i64 d]] w (Gives (.int .i64 0) w)) (up : Bool) (R : Int) (hfl : ∀ w : World, Calls Tryd.prog 48 #[.agg #[.int .i64 n, .int .i64 d]] w (Gives (.int .i64 fl) w)) (hR : fl.tmod 2 = R) (hup : (R != 0) = up) (hr : ∀ w : World, Calls Tryd.prog 50 #[.agg #[.int .i64 n, .int .i64 d], .bool up] w (Gives (.int .i64 r) w)) (w : World) :
    Calls Tryd.prog 20 #[.agg #[.int .i64 n, .int .i64 d], .int .i64 4] w (Gives (.tuple #[.int .i64 r, .int .i64 0]) w) := by
  go_enter Tryd.func20, Tryd.ntmps20
  go_wp2_with fail
  refine (ck _).mono ?_; rintro _ w1 ⟨rfl, hb⟩
  have pz : w.heap.size < (w1).heap.size := Nat.lt_of_lt_of_le (show w.heap.size < _ from (by first | assumption | (simp; done) | (simp; omega) | (dsimp only; omega) | omega)) hb.size; have p0 : (w1).cell? ⟨w.heap.size, 0, none⟩ = some (.int .i64 n) := (hb.cell (p := ⟨w.heap.size, 0, none⟩) (by first | assumption | (simp; done) | (simp; omega) | (dsimp only; omega) | omega)).trans (by first | assumption | (simp [go_sem]; done) | (simp [go_sem, *]; done)); have p1 : (w1).cell? ⟨w.heap.size, 1, none⟩ = some (.int .i64 d) := (hb.cell (p := ⟨w.heap.size, 1, none⟩) (by first | assumption | (simp; done) | (simp; omega) | (dsimp only; omega) | omega)).trans (by first | assumption | (simp [go_sem]; done) | (simp [go_sem, *]; done)); have pf : ∀ o, (w1).frozen? ⟨w.heap.size, o, none⟩ = false := fun o => (hb.frozen (p := ⟨w.heap.size, o, none⟩) (by first | assumption | (simp; done) | (simp; omega) | (dsimp only; omega) | omega)).trans (by first | (simp [go_sem]; done) | (simp [*]; done))
  have BN : Below w.heap.size w w1 := by repeat' (first | (with_reducible exact Below.refl _ _) | (with_reducible refine Below.alloc ?_ ?_ _) | (with_reducible refine Below.setCell ?_ ?_ _) | (with_reducible refine Below.drew ?_) | (with_reducible refine Below.trans ?_ (Below.mono (by assumption) ?_)) | (simp; done) | (simp; omega) | omega)
  clear hb
  have BH := hid BN
  have hsz := BN.size
  have PH := hid (And.intro pz (And.intro p0 p1))
  clear BN pf
  go_wp2_with fail
  have K : Hid (∀ W', Below w1.heap.size w1 W' → (Below w1.heap.size w1 W' ∧ w1.heap.size ≤ W'.heap.size ∧ W'.cell? ⟨w.heap.size, 0, none⟩ = some (.int .i64 n) ∧ W'.cell? ⟨w.heap.size, 1, none⟩ = some (.int .i64 d))) := hid fun W' B =>
    ⟨B, B.size, (B.cell (p := ⟨w.heap.size, 0, none⟩) PH.out.1).trans PH.out.2.1, (B.cell (p := ⟨w.heap.size, 1, none⟩) PH.out.1).trans PH.out.2.2⟩
  go_region_held3 (fun w' => Below w1.heap.size w1 w' ∧ w1.heap.size ≤ w'.heap.size ∧ w'.cell? ⟨w.heap.size, 0, none⟩ = some (.int .i64 n) ∧ w'.cell? ⟨w.heap.size, 1, none⟩ = some (.int .i64 d)) ((exact K.out _ (by repeat' (first | (with_reducible exact Below.refl _ _) | (with_reducible refine Below.alloc ?_ ?_ _) | (with_reducible refine Below.setCell ?_ ?_ _) | (with_reducible refine Below.drew ?_) | (with_reducible refine below_dn ?_ _) | (with_reducible refine Below.trans ?_ (Below.mono (by assumption) ?_)) | (simp; done) | (simp; omega) | omega))))
    (first | (go_at_call 48; (with_reducible refine (hfl _).mono ?_); rintro _ w5 ⟨rfl, hb2⟩; have hb5 : Below w1.heap.size w1 w5 := (by repeat' (first | (with_reducible exact Below.refl _ _) | (with_reducible refine Below.alloc ?_ ?_ _) | (with_reducible refine Below.setCell ?_ ?_ _) | (with_reducible refine Below.drew ?_) | (with_reducible refine below_dn ?_ _) | (with_reducible refine Below.trans ?_ (Below.mono (by assumption) ?_)) | (simp; done) | (simp; omega) | omega)); have hz5 : w1.heap.size ≤ w5.heap.size := hb5.size; clear hb2) | (go_at_call 50; (with_reducible refine (hr _).mono ?_); rintro _ w5 ⟨rfl, hb2⟩; have hb5 : Below w1.heap.size w1 w5 := (by repeat' (first | (with_reducible exact Below.refl _ _) | (with_reducible refine Below.alloc ?_ ?_ _) | (with_reducible refine Below.setCell ?_ ?_ _) | (with_reducible refine Below.drew ?_) | (with_reducible refine below_dn ?_ _) | (with_reducible refine Below.trans ?_ (Below.mono (by assumption) ?_)) | (simp; done) | (simp; omega) | omega)); have hz5 : w1.heap.size ≤ w5.heap.size := hb5.size; clear hb2))
  all_goals
    go_wp2_with fail
    go_ret2
    have BB := BH.out
    exact Gives.mk rfl (by repeat' (first | (with_reducible exact Below.refl _ _) | (with_reducible refine Below.alloc ?_ ?_ _) | (with_reducible refine Below.setCell ?_ ?_ _) | (with_reducible refine Below.drew ?_) | (with_reducible refine below_dn ?_ _) | (with_reducible refine Below.trans ?_ (Below.mono (by assumption) ?_)) | (simp; done) | (simp; omega) | omega))

set_option maxRecDepth 100000 in
set_option maxHeartbeats 2000000 in
theorem uround_other (n d r : Int) (ck : ∀ w : World, Calls Tryd.prog 33 #[.agg #[.int .i64 n, .int .i64 d]] w (Gives (.int .i64 0) w)) (way : Int) (h1 : ¬ way = 1) (h2 : ¬ way = 2) (h3 : ¬ way = 3) (h4 : ¬ way = 4) (w : World) :
    Calls Tryd.prog 20 #[.agg #[.int .i64 n, .int .i64 d], .int .i64 way] w (Gives (.tuple #[.int .i64 0, .int .i64 1]) w) := by
  have g1 : (way == 1) = false := by simpa using h1
  have g2 : (way == 2) = false := by simpa using h2
  have g3 : (way == 3) = false := by simpa using h3
  have g4 : (way == 4) = false := by simpa using h4
  clear h1 h2 h3 h4
  go_enter Tryd.func20, Tryd.ntmps20
  go_wp2_with fail
  refine (ck _).mono ?_; rintro _ w1 ⟨rfl, hb⟩
  have pz : w.heap.size < (w1).heap.size := Nat.lt_of_lt_of_le (show w.heap.size < _ from (by first | assumption | (simp; done) | (simp; omega) | (dsimp only; omega) | omega)) hb.size; have p0 : (w1).cell? ⟨w.heap.size, 0, none⟩ = some (.int .i64 n) := (hb.cell (p := ⟨w.heap.size, 0, none⟩) (by first | assumption | (simp; done) | (simp; omega) | (dsimp only; omega) | omega)).trans (by first | assumption | (simp [go_sem]; done) | (simp [go_sem, *]; done)); have p1 : (w1).cell? ⟨w.heap.size, 1, none⟩ = some (.int .i64 d) := (hb.cell (p := ⟨w.heap.size, 1, none⟩) (by first | assumption | (simp; done) | (simp; omega) | (dsimp only; omega) | omega)).trans (by first | assumption | (simp [go_sem]; done) | (simp [go_sem, *]; done)); have pf : ∀ o, (w1).frozen? ⟨w.heap.size, o, none⟩ = false := fun o => (hb.frozen (p := ⟨w.heap.size, o, none⟩) (by first | assumption | (simp; done) | (simp; omega) | (dsimp only; omega) | omega)).trans (by first | (simp [go_sem]; done) | (simp [*]; done))
  have BN : Below w.heap.size w w1 := by repeat' (first | (with_reducible exact Below.refl _ _) | (with_reducible refine Below.alloc ?_ ?_ _) | (with_reducible refine Below.setCell ?_ ?_ _) | (with_reducible refine Below.drew ?_) | (with_reducible refine Below.trans ?_ (Below.mono (by assumption) ?_)) | (simp; done) | (simp; omega) | omega)
  clear hb
  go_wp2_with fail
  go_ret2
  exact Gives.mk rfl BN

set_option maxRecDepth 100000 in
set_option maxHeartbeats 2000000 in
theorem rround4_bad (n d e way : Int) (e0 : ¬ e = 0) (ck : ∀ w : World, Calls Tryd.prog 51 #[.agg #[.int .i64 n, .int .i64 d]] w (Gives (.int .i64 e) w)) (w : World) :
    Calls Tryd.prog 21 #[.agg #[.int .i64 n, .int .i64 d], .int .i64 way] w (Gives (.tuple #[.int .i64 0, .int .i64 e]) w) := by
  have g : (e != 0) = true := by simpa using e0
  go_enter Tryd.func21, Tryd.ntmps21
  go_wp2_with fail
  refine (ck _).mono ?_; rintro _ w1 ⟨rfl, hb⟩
  have BN : Below w.heap.size w w1 := by repeat' (first | (with_reducible exact Below.refl _ _) | (with_reducible refine Below.alloc ?_ ?_ _) | (with_reducible refine Below.setCell ?_ ?_ _) | (with_reducible refine Below.drew ?_) | (with_reducible refine Below.trans ?_ (Below.mono (by assumption) ?_)) | (simp; done) | (simp; omega) | omega)
  clear hb
  go_wp2_with fail
  go_ret2
  exact Gives.mk rfl BN

set_option maxRecDepth 100000 in
set_option maxHeartbeats 2000000 in
theorem rround4_1 (n d fl ce N D T : Int) (ck : ∀ w : World, Calls Tryd.prog 51 #[.agg #[.int .i64 n, .int .i64 d]] w (Gives (.int .i64 0) w)) (hfl : ∀ w : World, Calls Tryd.prog 52 #[.agg #[.int .i64 n, .int .i64 d]] w (Gives (.int .i64 fl) w)) (hce : ∀ w : World, Calls Tryd.prog 53 #[.agg #[.int .i64 n, .int .i64 d]] w (Gives (.int .i64 ce) w))
    (hN : fl * d = N) (hD : n - N = D) (hT : 2 * D = T) (b1 : -4000000000000000 ≤ N) (b2 : N ≤ 4000000000000000) (b3 : -4000000000000000 ≤ D) (b4 : D ≤ 4000000000000000) (b5 : -4000000000000000 ≤ fl) (b6 : fl ≤ 4000000000000000) (b7 : -8000000000000000 ≤ T) (b8 : T ≤ 8000000000000000)
    (w : World) : Calls Tryd.prog 21 #[.agg #[.int .i64 n, .int .i64 d], .int .i64 1] w (Gives (.tuple #[.int .i64 fl, .int .i64 0]) w) := by
  go_enter Tryd.func21, Tryd.ntmps21
  go_wp2_with fail
  refine (ck _).mono ?_; rintro _ w1 ⟨rfl, hb⟩
  have pz : w.heap.size < (w1).heap.size := Nat.lt_of_lt_of_le (show w.heap.size < _ from (by first | assumption | (simp; done) | (simp; omega) | (dsimp only; omega) | omega)) hb.size; have p0 : (w1).cell? ⟨w.heap.size, 0, none⟩ = some (.int .i64 n) := (hb.cell (p := ⟨w.heap.size, 0, none⟩) (by first | assumption | (simp; done) | (simp; omega) | (dsimp only; omega) | omega)).trans (by first | assumption | (simp [go_sem]; done) | (simp [go_sem, *]; done)); have p1 : (w1).cell? ⟨w.heap.size, 1, none⟩ = some (.int .i64 d) := (hb.cell (p := ⟨w.heap.size, 1, none⟩) (by first | assumption | (simp; done) | (simp; omega) | (dsimp only; omega) | omega)).trans (by first | assumption | (simp [go_sem]; done) | (simp [go_sem, *]; done)); have pf : ∀ o, (w1).frozen? ⟨w.heap.size, o, none⟩ = false := fun o => (hb.frozen (p := ⟨w.heap.size, o, none⟩) (by first | assumption | (simp; done) | (simp; omega) | (dsimp only; omega) | omega)).trans (by first | (simp [go_sem]; done) | (simp [*]; done))
  have BN : Below w.heap.size w w1 := by repeat' (first | (with_reducible exact Below.refl _ _) | (with_reducible refine Below.alloc ?_ ?_ _) | (with_reducible refine Below.setCell ?_ ?_ _) | (with_reducible refine Below.drew ?_) | (with_reducible refine Below.trans ?_ (Below.mono (by assumption) ?_)) | (simp; done) | (simp; omega) | omega)
  have BH := hid BN
  have hsz := BN.size
  have PH := hid (And.intro pz (And.intro p0 p1))
  clear BN pf hb
  go_wp2_with fail
  have K : Hid (∀ W', Below w1.heap.size w1 W' → (Below w1.heap.size w1 W' ∧ w1.heap.size ≤ W'.heap.size ∧ W'.cell? ⟨w.heap.size, 0, none⟩ = some (.int .i64 n) ∧ W'.cell? ⟨w.heap.size, 1, none⟩ = some (.int .i64 d))) := hid fun W' B =>
    ⟨B, B.size, (B.cell (p := ⟨w.heap.size, 0, none⟩) PH.out.1).trans PH.out.2.1, (B.cell (p := ⟨w.heap.size, 1, none⟩) PH.out.1).trans PH.out.2.2⟩
  go_region_held3 (fun w' => Below w1.heap.size w1 w' ∧ w1.heap.size ≤ w'.heap.size ∧ w'.cell? ⟨w.heap.size, 0, none⟩ = some (.int .i64 n) ∧ w'.cell? ⟨w.heap.size, 1, none⟩ = some (.int .i64 d)) ((exact K.out _ (by repeat' (first | (with_reducible exact Below.refl _ _) | (with_reducible refine Below.alloc ?_ ?_ _) | (with_reducible refine Below.setCell ?_ ?_ _) | (with_reducible refine Below.drew ?_) | (with_reducible refine below_dn ?_ _) | (with_reducible refine Below.trans ?_ (Below.mono (by assumption) ?_)) | (simp; done) | (simp; omega) | omega))))
    (first | (go_at_call 52; (with_reducible refine (hfl _).mono ?_); rintro _ w5 ⟨rfl, hb2⟩; have hb5 : Below w1.heap.size w1 w5 := (by repeat' (first | (with_reducible exact Below.refl _ _) | (with_reducible refine Below.alloc ?_ ?_ _) | (with_reducible refine Below.setCell ?_ ?_ _) | (with_reducible refine Below.drew ?_) | (with_reducible refine below_dn ?_ _) | (with_reducible refine Below.trans ?_ (Below.mono (by assumption) ?_)) | (simp; done) | (simp; omega) | omega)); have hz5 : w1.heap.size ≤ w5.heap.size := hb5.size; clear hb2) | (go_at_call 53; (with_reducible refine (hce _).mono ?_); rintro _ w5 ⟨rfl, hb2⟩; have hb5 : Below w1.heap.size w1 w5 := (by repeat' (first | (with_reducible exact Below.refl _ _) | (with_reducible refine Below.alloc ?_ ?_ _) | (with_reducible refine Below.setCell ?_ ?_ _) | (with_reducible refine Below.drew ?_) | (with_reducible refine below_dn ?_ _) | (with_reducible refine Below.trans ?_ (Below.mono (by assumption) ?_)) | (simp; done) | (simp; omega) | omega)); have hz5 : w1.heap.size ≤ w5.heap.size := hb5.size; clear hb2))
  all_goals
    go_wp2_with fail
    go_ret2
    have BB := BH.out
    exact Gives.mk rfl (by repeat' (first | (with_reducible exact Below.refl _ _) | (with_reducible refine Below.alloc ?_ ?_ _) | (with_reducible refine Below.setCell ?_ ?_ _) | (with_reducible refine Below.drew ?_) | (with_reducible refine below_dn ?_ _) | (with_reducible refine Below.trans ?_ (Below.mono (by assumption) ?_)) | (simp; done) | (simp; omega) | omega))

set_option maxRecDepth 100000 in
set_option maxHeartbeats 2000000 in
theorem rround4_2 (n d fl ce N D T : Int) (ck : ∀ w : World, Calls Tryd.prog 51 #[.agg #[.int .i64 n, .int .i64 d]] w (Gives (.int .i64 0) w)) (hfl : ∀ w : World, Calls Tryd.prog 52 #[.agg #[.int .i64 n, .int .i64 d]] w (Gives (.int .i64 fl) w)) (hce : ∀ w : World, Calls Tryd.prog 53 #[.agg #[.int .i64 n, .int .i64 d]] w (Gives (.int .i64 ce) w))
    (hN : fl * d = N) (hD : n - N = D) (hT : 2 * D = T) (b1 : -4000000000000000 ≤ N) (b2 : N ≤ 4000000000000000) (b3 : -4000000000000000 ≤ D) (b4 : D ≤ 4000000000000000) (b5 : -4000000000000000 ≤ fl) (b6 : fl ≤ 4000000000000000) (b7 : -8000000000000000 ≤ T) (b8 : T ≤ 8000000000000000)
    (w : World) : Calls Tryd.prog 21 #[.agg #[.int .i64 n, .int .i64 d], .int .i64 2] w (Gives (.tuple #[.int .i64 ce, .int .i64 0]) w) := by
  go_enter Tryd.func21, Tryd.ntmps21
  go_wp2_with fail
  refine (ck _).mono ?_; rintro _ w1 ⟨rfl, hb⟩
  have pz : w.heap.size < (w1).heap.size := Nat.lt_of_lt_of_le (show w.heap.size < _ from (by first | assumption | (simp; done) | (simp; omega) | (dsimp only; omega) | omega)) hb.size; have p0 : (w1).cell? ⟨w.heap.size, 0, none⟩ = some (.int .i64 n) := (hb.cell (p := ⟨w.heap.size, 0, none⟩) (by first | assumption | (simp; done) | (simp; omega) | (dsimp only; omega) | omega)).trans (by first | assumption | (simp [go_sem]; done) | (simp [go_sem, *]; done)); have p1 : (w1).cell? ⟨w.heap.size, 1, none⟩ = some (.int .i64 d) := (hb.cell (p := ⟨w.heap.size, 1, none⟩) (by first | assumption | (simp; done) | (simp; omega) | (dsimp only; omega) | omega)).trans (by first | assumption | (simp [go_sem]; done) | (simp [go_sem, *]; done)); have pf : ∀ o, (w1).frozen? ⟨w.heap.size, o, none⟩ = false := fun o => (hb.frozen (p := ⟨w.heap.size, o, none⟩) (by first | assumption | (simp; done) | (simp; omega) | (dsimp only; omega) | omega)).trans (by first | (simp [go_sem]; done) | (simp [*]; done))
  have BN : Below w.heap.size w w1 := by repeat' (first | (with_reducible exact Below.refl _ _) | (with_reducible refine Below.alloc ?_ ?_ _) | (with_reducible refine Below.setCell ?_ ?_ _) | (with_reducible refine Below.drew ?_) | (with_reducible refine Below.trans ?_ (Below.mono (by assumption) ?_)) | (simp; done) | (simp; omega) | omega)
  have BH := hid BN
  have hsz := BN.size
  have PH := hid (And.intro pz (And.intro p0 p1))
  clear BN pf hb
  go_wp2_with fail
  have K : Hid (∀ W', Below w1.heap.size w1 W' → (Below w1.heap.size w1 W' ∧ w1.heap.size ≤ W'.heap.size ∧ W'.cell? ⟨w.heap.size, 0, none⟩ = some (.int .i64 n) ∧ W'.cell? ⟨w.heap.size, 1, none⟩ = some (.int .i64 d))) := hid fun W' B =>
    ⟨B, B.size, (B.cell (p := ⟨w.heap.size, 0, none⟩) PH.out.1).trans PH.out.2.1, (B.cell (p := ⟨w.heap.size, 1, none⟩) PH.out.1).trans PH.out.2.2⟩
  go_region_held3 (fun w' => Below w1.heap.size w1 w' ∧ w1.heap.size ≤ w'.heap.size ∧ w'.cell? ⟨w.heap.size, 0, none⟩ = some (.int .i64 n) ∧ w'.cell? ⟨w.heap.size, 1, none⟩ = some (.int .i64 d)) ((exact K.out _ (by repeat' (first | (with_reducible exact Below.refl _ _) | (with_reducible refine Below.alloc ?_ ?_ _) | (with_reducible refine Below.setCell ?_ ?_ _) | (with_reducible refine Below.drew ?_) | (with_reducible refine below_dn ?_ _) | (with_reducible refine Below.trans ?_ (Below.mono (by assumption) ?_)) | (simp; done) | (simp; omega) | omega))))
    (first | (go_at_call 52; (with_reducible refine (hfl _).mono ?_); rintro _ w5 ⟨rfl, hb2⟩; have hb5 : Below w1.heap.size w1 w5 := (by repeat' (first | (with_reducible exact Below.refl _ _) | (with_reducible refine Below.alloc ?_ ?_ _) | (with_reducible refine Below.setCell ?_ ?_ _) | (with_reducible refine Below.drew ?_) | (with_reducible refine below_dn ?_ _) | (with_reducible refine Below.trans ?_ (Below.mono (by assumption) ?_)) | (simp; done) | (simp; omega) | omega)); have hz5 : w1.heap.size ≤ w5.heap.size := hb5.size; clear hb2) | (go_at_call 53; (with_reducible refine (hce _).mono ?_); rintro _ w5 ⟨rfl, hb2⟩; have hb5 : Below w1.heap.size w1 w5 := (by repeat' (first | (with_reducible exact Below.refl _ _) | (with_reducible refine Below.alloc ?_ ?_ _) | (with_reducible refine Below.setCell ?_ ?_ _) | (with_reducible refine Below.drew ?_) | (with_reducible refine below_dn ?_ _) | (with_reducible refine Below.trans ?_ (Below.mono (by assumption) ?_)) | (simp; done) | (simp; omega) | omega)); have hz5 : w1.heap.size ≤ w5.heap.size := hb5.size; clear hb2))
  all_goals
    go_wp2_with fail
    go_ret2
    have BB := BH.out
    exact Gives.mk rfl (by repeat' (first | (with_reducible exact Below.refl _ _) | (with_reducible refine Below.alloc ?_ ?_ _) | (with_reducible refine Below.setCell ?_ ?_ _) | (with_reducible refine Below.drew ?_) | (with_reducible refine below_dn ?_ _) | (with_reducible refine Below.trans ?_ (Below.mono (by assumption) ?_)) | (simp; done) | (simp; omega) | omega))

set_option maxRecDepth 100000 in
set_option maxHeartbeats 2000000 in
theorem rround4_3_up (n d fl ce N D T : Int) (ck : ∀ w : World, Calls Tryd.prog 51 #[.agg #[.int .i64 n, .int .i64 d]] w (Gives (.int .i64 0) w)) (hfl : ∀ w : World, Calls Tryd.prog 52 #[.agg #[.int .i64 n, .int .i64 d]] w (Gives (.int .i64 fl) w)) (hce : ∀ w : World, Calls Tryd.prog 53 #[.agg #[.int .i64 n, .int .i64 d]] w (Gives (.int .i64 ce) w))
    (hN : fl * d = N) (hD : n - N = D) (hT : 2 * D = T) (b1 : -4000000000000000 ≤ N) (b2 : N ≤ 4000000000000000) (b3 : -4000000000000000 ≤ D) (b4 : D ≤ 4000000000000000) (b5 : -4000000000000000 ≤ fl) (b6 : fl ≤ 4000000000000000) (b7 : -8000000000000000 ≤ T) (b8 : T ≤ 8000000000000000)
    (hc : d ≤ T) (w : World) : Calls Tryd.prog 21 #[.agg #[.int .i64 n, .int .i64 d], .int .i64 3] w (Gives (.tuple #[.int .i64 ce, .int .i64 0]) w) := by
  have k1 : decide (d ≤ T) = true := decide_eq_true hc
  go_enter Tryd.func21, Tryd.ntmps21
  go_wp2_with fail
  refine (ck _).mono ?_; rintro _ w1 ⟨rfl, hb⟩
  have pz : w.heap.size < (w1).heap.size := Nat.lt_of_lt_of_le (show w.heap.size < _ from (by first | assumption | (simp; done) | (simp; omega) | (dsimp only; omega) | omega)) hb.size; have p0 : (w1).cell? ⟨w.heap.size, 0, none⟩ = some (.int .i64 n) := (hb.cell (p := ⟨w.heap.size, 0, none⟩) (by first | assumption | (simp; done) | (simp; omega) | (dsimp only; omega) | omega)).trans (by first | assumption | (simp [go_sem]; done) | (simp [go_sem, *]; done)); have p1 : (w1).cell? ⟨w.heap.size, 1, none⟩ = some (.int .i64 d) := (hb.cell (p := ⟨w.heap.size, 1, none⟩) (by first | assumption | (simp; done) | (simp; omega) | (dsimp only; omega) | omega)).trans (by first | assumption | (simp [go_sem]; done) | (simp [go_sem, *]; done)); have pf : ∀ o, (w1).frozen? ⟨w.heap.size, o, none⟩ = false := fun o => (hb.frozen (p := ⟨w.heap.size, o, none⟩) (by first | assumption | (simp; done) | (simp; omega) | (dsimp only; omega) | omega)).trans (by first | (simp [go_sem]; done) | (simp [*]; done))
  have BN : Below w.heap.size w w1 := by repeat' (first | (with_reducible exact Below.refl _ _) | (with_reducible refine Below.alloc ?_ ?_ _) | (with_reducible refine Below.setCell ?_ ?_ _) | (with_reducible refine Below.drew ?_) | (with_reducible refine Below.trans ?_ (Below.mono (by assumption) ?_)) | (simp; done) | (simp; omega) | omega)
  have BH := hid BN
  have hsz := BN.size
  have PH := hid (And.intro pz (And.intro p0 p1))
  clear BN pf hb
  go_wp2_with fail
  have K : Hid (∀ W', Below w1.heap.size w1 W' → (Below w1.heap.size w1 W' ∧ w1.heap.size ≤ W'.heap.size ∧ W'.cell? ⟨w.heap.size, 0, none⟩ = some (.int .i64 n) ∧ W'.cell? ⟨w.heap.size, 1, none⟩ = some (.int .i64 d))) := hid fun W' B =>
    ⟨B, B.size, (B.cell (p := ⟨w.heap.size, 0, none⟩) PH.out.1).trans PH.out.2.1, (B.cell (p := ⟨w.heap.size, 1, none⟩) PH.out.1).trans PH.out.2.2⟩
  go_region_held3 (fun w' => Below w1.heap.size w1 w' ∧ w1.heap.size ≤ w'.heap.size ∧ w'.cell? ⟨w.heap.size, 0, none⟩ = some (.int .i64 n) ∧ w'.cell? ⟨w.heap.size, 1, none⟩ = some (.int .i64 d)) ((exact K.out _ (by repeat' (first | (with_reducible exact Below.refl _ _) | (with_reducible refine Below.alloc ?_ ?_ _) | (with_reducible refine Below.setCell ?_ ?_ _) | (with_reducible refine Below.drew ?_) | (with_reducible refine below_dn ?_ _) | (with_reducible refine Below.trans ?_ (Below.mono (by assumption) ?_)) | (simp; done) | (simp; omega) | omega))))
    (first | (go_at_call 52; (with_reducible refine (hfl _).mono ?_); rintro _ w5 ⟨rfl, hb2⟩; have hb5 : Below w1.heap.size w1 w5 := (by repeat' (first | (with_reducible exact Below.refl _ _) | (with_reducible refine Below.alloc ?_ ?_ _) | (with_reducible refine Below.setCell ?_ ?_ _) | (with_reducible refine Below.drew ?_) | (with_reducible refine below_dn ?_ _) | (with_reducible refine Below.trans ?_ (Below.mono (by assumption) ?_)) | (simp; done) | (simp; omega) | omega)); have hz5 : w1.heap.size ≤ w5.heap.size := hb5.size; clear hb2) | (go_at_call 53; (with_reducible refine (hce _).mono ?_); rintro _ w5 ⟨rfl, hb2⟩; have hb5 : Below w1.heap.size w1 w5 := (by repeat' (first | (with_reducible exact Below.refl _ _) | (with_reducible refine Below.alloc ?_ ?_ _) | (with_reducible refine Below.setCell ?_ ?_ _) | (with_reducible refine Below.drew ?_) | (with_reducible refine below_dn ?_ _) | (with_reducible refine Below.trans ?_ (Below.mono (by assumption) ?_)) | (simp; done) | (simp; omega) | omega)); have hz5 : w1.heap.size ≤ w5.heap.size := hb5.size; clear hb2))
  all_goals
    go_wp2_with fail
    go_ret2
    have BB := BH.out
    exact Gives.mk rfl (by repeat' (first | (with_reducible exact Below.refl _ _) | (with_reducible refine Below.alloc ?_ ?_ _) | (with_reducible refine Below.setCell ?_ ?_ _) | (with_reducible refine Below.drew ?_) | (with_reducible refine below_dn ?_ _) | (with_reducible refine Below.trans ?_ (Below.mono (by assumption) ?_)) | (simp; done) | (simp; omega) | omega))

set_option maxRecDepth 100000 in
set_option maxHeartbeats 2000000 in
theorem rround4_3_down (n d fl ce N D T : Int) (ck : ∀ w : World, Calls Tryd.prog 51 #[.agg #[.int .i64 n, .int .i64 d]] w (Gives (.int .i64 0) w)) (hfl : ∀ w : World, Calls Tryd.prog 52 #[.agg #[.int .i64 n, .int .i64 d]] w (Gives (.int .i64 fl) w)) (hce : ∀ w : World, Calls Tryd.prog 53 #[.agg #[.int .i64 n, .int .i64 d]] w (Gives (.int .i64 ce) w))
    (hN : fl * d = N) (hD : n - N = D) (hT : 2 * D = T) (b1 : -4000000000000000 ≤ N) (b2 : N ≤ 4000000000000000) (b3 : -4000000000000000 ≤ D) (b4 : D ≤ 4000000000000000) (b5 : -4000000000000000 ≤ fl) (b6 : fl ≤ 4000000000000000) (b7 : -8000000000000000 ≤ T) (b8 : T ≤ 8000000000000000)
    (hc : T < d) (w : World) : Calls Tryd.prog 21 #[.agg #[.int .i64 n, .int .i64 d], .int .i64 3] w (Gives (.tuple #[.int .i64 fl, .int .i64 0]) w) := by
  have k1 : decide (d ≤ T) = false := decide_eq_false (by omega)
  go_enter Tryd.func21, Tryd.ntmps21
  go_wp2_with fail
  refine (ck _).mono ?_; rintro _ w1 ⟨rfl, hb⟩
  have pz : w.heap.size < (w1).heap.size := Nat.lt_of_lt_of_le (show w.heap.size < _ from (by first | assumption | (simp; done) | (simp; omega) | (dsimp only; omega) | omega)) hb.size; have p0 : (w1).cell? ⟨w.heap.size, 0, none⟩ = some (.int .i64 n) := (hb.cell (p := ⟨w.heap.size, 0, none⟩) (by first | assumption | (simp; done) | (simp; omega) | (dsimp only; omega) | omega)).trans (by first | assumption | (simp [go_sem]; done) | (simp [go_sem, *]; done)); have p1 : (w1).cell? ⟨w.heap.size, 1, none⟩ = some (.int .i64 d) := (hb.cell (p := ⟨w.heap.size, 1, none⟩) (by first | assumption | (simp; done) | (simp; omega) | (dsimp only; omega) | omega)).trans (by first | assumption | (simp [go_sem]; done) | (simp [go_sem, *]; done)); have pf : ∀ o, (w1).frozen? ⟨w.heap.size, o, none⟩ = false := fun o => (hb.frozen (p := ⟨w.heap.size, o, none⟩) (by first | assumption | (simp; done) | (simp; omega) | (dsimp only; omega) | omega)).trans (by first | (simp [go_sem]; done) | (simp [*]; done))
  have BN : Below w.heap.size w w1 := by repeat' (first | (with_reducible exact Below.refl _ _) | (with_reducible refine Below.alloc ?_ ?_ _) | (with_reducible refine Below.setCell ?_ ?_ _) | (with_reducible refine Below.drew ?_) | (with_reducible refine Below.trans ?_ (Below.mono (by assumption) ?_)) | (simp; done) | (simp; omega) | omega)
  have BH := hid BN
  have hsz := BN.size
  have PH := hid (And.intro pz (And.intro p0 p1))
  clear BN pf hb
  go_wp2_with fail
  have K : Hid (∀ W', Below w1.heap.size w1 W' → (Below w1.heap.size w1 W' ∧ w1.heap.size ≤ W'.heap.size ∧ W'.cell? ⟨w.heap.size, 0, none⟩ = some (.int .i64 n) ∧ W'.cell? ⟨w.heap.size, 1, none⟩ = some (.int .i64 d))) := hid fun W' B =>
    ⟨B, B.size, (B.cell (p := ⟨w.heap.size, 0, none⟩) PH.out.1).trans PH.out.2.1, (B.cell (p := ⟨w.heap.size, 1, none⟩) PH.out.1).trans PH.out.2.2⟩
  go_region_held3 (fun w' => Below w1.heap.size w1 w' ∧ w1.heap.size ≤ w'.heap.size ∧ w'.cell? ⟨w.heap.size, 0, none⟩ = some (.int .i64 n) ∧ w'.cell? ⟨w.heap.size, 1, none⟩ = some (.int .i64 d)) ((exact K.out _ (by repeat' (first | (with_reducible exact Below.refl _ _) | (with_reducible refine Below.alloc ?_ ?_ _) | (with_reducible refine Below.setCell ?_ ?_ _) | (with_reducible refine Below.drew ?_) | (with_reducible refine below_dn ?_ _) | (with_reducible refine Below.trans ?_ (Below.mono (by assumption) ?_)) | (simp; done) | (simp; omega) | omega))))
    (first | (go_at_call 52; (with_reducible refine (hfl _).mono ?_); rintro _ w5 ⟨rfl, hb2⟩; have hb5 : Below w1.heap.size w1 w5 := (by repeat' (first | (with_reducible exact Below.refl _ _) | (with_reducible refine Below.alloc ?_ ?_ _) | (with_reducible refine Below.setCell ?_ ?_ _) | (with_reducible refine Below.drew ?_) | (with_reducible refine below_dn ?_ _) | (with_reducible refine Below.trans ?_ (Below.mono (by assumption) ?_)) | (simp; done) | (simp; omega) | omega)); have hz5 : w1.heap.size ≤ w5.heap.size := hb5.size; clear hb2) | (go_at_call 53; (with_reducible refine (hce _).mono ?_); rintro _ w5 ⟨rfl, hb2⟩; have hb5 : Below w1.heap.size w1 w5 := (by repeat' (first | (with_reducible exact Below.refl _ _) | (with_reducible refine Below.alloc ?_ ?_ _) | (with_reducible refine Below.setCell ?_ ?_ _) | (with_reducible refine Below.drew ?_) | (with_reducible refine below_dn ?_ _) | (with_reducible refine Below.trans ?_ (Below.mono (by assumption) ?_)) | (simp; done) | (simp; omega) | omega)); have hz5 : w1.heap.size ≤ w5.heap.size := hb5.size; clear hb2))
  all_goals
    go_wp2_with fail
    go_ret2
    have BB := BH.out
    exact Gives.mk rfl (by repeat' (first | (with_reducible exact Below.refl _ _) | (with_reducible refine Below.alloc ?_ ?_ _) | (with_reducible refine Below.setCell ?_ ?_ _) | (with_reducible refine Below.drew ?_) | (with_reducible refine below_dn ?_ _) | (with_reducible refine Below.trans ?_ (Below.mono (by assumption) ?_)) | (simp; done) | (simp; omega) | omega))

set_option maxRecDepth 100000 in
set_option maxHeartbeats 2000000 in
theorem rround4_4_gt (n d fl ce N D T : Int) (ck : ∀ w : World, Calls Tryd.prog 51 #[.agg #[.int .i64 n, .int .i64 d]] w (Gives (.int .i64 0) w)) (hfl : ∀ w : World, Calls Tryd.prog 52 #[.agg #[.int .i64 n, .int .i64 d]] w (Gives (.int .i64 fl) w)) (hce : ∀ w : World, Calls Tryd.prog 53 #[.agg #[.int .i64 n, .int .i64 d]] w (Gives (.int .i64 ce) w))
    (hN : fl * d = N) (hD : n - N = D) (hT : 2 * D = T) (b1 : -4000000000000000 ≤ N) (b2 : N ≤ 4000000000000000) (b3 : -4000000000000000 ≤ D) (b4 : D ≤ 4000000000000000) (b5 : -4000000000000000 ≤ fl) (b6 : fl ≤ 4000000000000000) (b7 : -8000000000000000 ≤ T) (b8 : T ≤ 8000000000000000)
    (hc : d < T) (w : World) : Calls Tryd.prog 21 #[.agg #[.int .i64 n, .int .i64 d], .int .i64 4] w (Gives (.tuple #[.int .i64 ce, .int .i64 0]) w) := by
  have k1 : decide (d < T) = true := decide_eq_true hc
  go_enter Tryd.func21, Tryd.ntmps21
  go_wp2_with fail
  refine (ck _).mono ?_; rintro _ w1 ⟨rfl, hb⟩
  have pz : w.heap.size < (w1).heap.size := Nat.lt_of_lt_of_le (show w.heap.size < _ from (by first | assumption | (simp; done) | (simp; omega) | (dsimp only; omega) | omega)) hb.size; have p0 : (w1).cell? ⟨w.heap.size, 0, none⟩ = some (.int .i64 n) := (hb.cell (p := ⟨w.heap.size, 0, none⟩) (by first | assumption | (simp; done) | (simp; omega) | (dsimp only; omega) | omega)).trans (by first | assumption | (simp [go_sem]; done) | (simp [go_sem, *]; done)); have p1 : (w1).cell? ⟨w.heap.size, 1, none⟩ = some (.int .i64 d) := (hb.cell (p := ⟨w.heap.size, 1, none⟩) (by first | assumption | (simp; done) | (simp; omega) | (dsimp only; omega) | omega)).trans (by first | assumption | (simp [go_sem]; done) | (simp [go_sem, *]; done)); have pf : ∀ o, (w1).frozen? ⟨w.heap.size, o, none⟩ = false := fun o => (hb.frozen (p := ⟨w.heap.size, o, none⟩) (by first | assumption | (simp; done) | (simp; omega) | (dsimp only; omega) | omega)).trans (by first | (simp [go_sem]; done) | (simp [*]; done))
  have BN : Below w.heap.size w w1 := by repeat' (first | (with_reducible exact Below.refl _ _) | (with_reducible refine Below.alloc ?_ ?_ _) | (with_reducible refine Below.setCell ?_ ?_ _) | (with_reducible refine Below.drew ?_) | (with_reducible refine Below.trans ?_ (Below.mono (by assumption) ?_)) | (simp; done) | (simp; omega) | omega)
  have BH := hid BN
  have hsz := BN.size
  have PH := hid (And.intro pz (And.intro p0 p1))
  clear BN pf hb
  go_wp2_with fail
  have K : Hid (∀ W', Below w1.heap.size w1 W' → (Below w1.heap.size w1 W' ∧ w1.heap.size ≤ W'.heap.size ∧ W'.cell? ⟨w.heap.size, 0, none⟩ = some (.int .i64 n) ∧ W'.cell? ⟨w.heap.size, 1, none⟩ = some (.int .i64 d))) := hid fun W' B =>
    ⟨B, B.size, (B.cell (p := ⟨w.heap.size, 0, none⟩) PH.out.1).trans PH.out.2.1, (B.cell (p := ⟨w.heap.size, 1, none⟩) PH.out.1).trans PH.out.2.2⟩
  go_region_held3 (fun w' => Below w1.heap.size w1 w' ∧ w1.heap.size ≤ w'.heap.size ∧ w'.cell? ⟨w.heap.size, 0, none⟩ = some (.int .i64 n) ∧ w'.cell? ⟨w.heap.size, 1, none⟩ = some (.int .i64 d)) ((exact K.out _ (by repeat' (first | (with_reducible exact Below.refl _ _) | (with_reducible refine Below.alloc ?_ ?_ _) | (with_reducible refine Below.setCell ?_ ?_ _) | (with_reducible refine Below.drew ?_) | (with_reducible refine below_dn ?_ _) | (with_reducible refine Below.trans ?_ (Below.mono (by assumption) ?_)) | (simp; done) | (simp; omega) | omega))))
    (first | (go_at_call 52; (with_reducible refine (hfl _).mono ?_); rintro _ w5 ⟨rfl, hb2⟩; have hb5 : Below w1.heap.size w1 w5 := (by repeat' (first | (with_reducible exact Below.refl _ _) | (with_reducible refine Below.alloc ?_ ?_ _) | (with_reducible refine Below.setCell ?_ ?_ _) | (with_reducible refine Below.drew ?_) | (with_reducible refine below_dn ?_ _) | (with_reducible refine Below.trans ?_ (Below.mono (by assumption) ?_)) | (simp; done) | (simp; omega) | omega)); have hz5 : w1.heap.size ≤ w5.heap.size := hb5.size; clear hb2) | (go_at_call 53; (with_reducible refine (hce _).mono ?_); rintro _ w5 ⟨rfl, hb2⟩; have hb5 : Below w1.heap.size w1 w5 := (by repeat' (first | (with_reducible exact Below.refl _ _) | (with_reducible refine Below.alloc ?_ ?_ _) | (with_reducible refine Below.setCell ?_ ?_ _) | (with_reducible refine Below.drew ?_) | (with_reducible refine below_dn ?_ _) | (with_reducible refine Below.trans ?_ (Below.mono (by assumption) ?_)) | (simp; done) | (simp; omega) | omega)); have hz5 : w1.heap.size ≤ w5.heap.size := hb5.size; clear hb2))
  all_goals
    go_wp2_with fail
    go_ret2
    have BB := BH.out
    exact Gives.mk rfl (by repeat' (first | (with_reducible exact Below.refl _ _) | (with_reducible refine Below.alloc ?_ ?_ _) | (with_reducible refine Below.setCell ?_ ?_ _) | (with_reducible refine Below.drew ?_) | (with_reducible refine below_dn ?_ _) | (with_reducible refine Below.trans ?_ (Below.mono (by assumption) ?_)) | (simp; done) | (simp; omega) | omega))

set_option maxRecDepth 100000 in
set_option maxHeartbeats 2000000 in
theorem rround4_4_yes (n d fl ce N D T : Int) (ck : ∀ w : World, Calls Tryd.prog 51 #[.agg #[.int .i64 n, .int .i64 d]] w (Gives (.int .i64 0) w)) (hfl : ∀ w : World, Calls Tryd.prog 52 #[.agg #[.int .i64 n, .int .i64 d]] w (Gives (.int .i64 fl) w)) (hce : ∀ w : World, Calls Tryd.prog 53 #[.agg #[.int .i64 n, .int .i64 d]] w (Gives (.int .i64 ce) w))
    (hN : fl * d = N) (hD : n - N = D) (hT : 2 * D = T) (b1 : -4000000000000000 ≤ N) (b2 : N ≤ 4000000000000000) (b3 : -4000000000000000 ≤ D) (b4 : D ≤ 4000000000000000) (b5 : -4000000000000000 ≤ fl) (b6 : fl ≤ 4000000000000000) (b7 : -8000000000000000 ≤ T) (b8 : T ≤ 8000000000000000)
    (hc : T = d) (R : Int) (hR : ce.tmod 2 = R) (hR0 : R = 0) (w : World) : Calls Tryd.prog 21 #[.agg #[.int .i64 n, .int .i64 d], .int .i64 4] w (Gives (.tuple #[.int .i64 ce, .int .i64 0]) w) := by
  have k1 : decide (d < T) = false := decide_eq_false (by omega)
  have k2 : (T == d) = true := by simp; omega
  have k3 : (R == 0) = true := by simp; omega
  go_enter Tryd.func21, Tryd.ntmps21
  go_wp2_with fail
  refine (ck _).mono ?_; rintro _ w1 ⟨rfl, hb⟩
  have pz : w.heap.size < (w1).heap.size := Nat.lt_of_lt_of_le (show w.heap.size < _ from (by first | assumption | (simp; done) | (simp; omega) | (dsimp only; omega) | omega)) hb.size; have p0 : (w1).cell? ⟨w.heap.size, 0, none⟩ = some (.int .i64 n) := (hb.cell (p := ⟨w.heap.size, 0, none⟩) (by first | assumption | (simp; done) | (simp; omega) | (dsimp only; omega) | omega)).trans (by first | assumption | (simp [go_sem]; done) | (simp [go_sem, *]; done)); have p1 : (w1).cell? ⟨w.heap.size, 1, none⟩ = some (.int .i64 d) := (hb.cell (p := ⟨w.heap.size, 1, none⟩) (by first | assumption | (simp; done) | (simp; omega) | (dsimp only; omega) | omega)).trans (by first | assumption | (simp [go_sem]; done) | (simp [go_sem, *]; done)); have pf : ∀ o, (w1).frozen? ⟨w.heap.size, o, none⟩ = false := fun o => (hb.frozen (p := ⟨w.heap.size, o, none⟩) (by first | assumption | (simp; done) | (simp; omega) | (dsimp only; omega) | omega)).trans (by first | (simp [go_sem]; done) | (simp [*]; done))
  have BN : Below w.heap.size w w1 := by repeat' (first | (with_reducible exact Below.refl _ _) | (with_reducible refine Below.alloc ?_ ?_ _) | (with_reducible refine Below.setCell ?_ ?_ _) | (with_reducible refine Below.drew ?_) | (with_reducible refine Below.trans ?_ (Below.mono (by assumption) ?_)) | (simp; done) | (simp; omega) | omega)
  have BH := hid BN
  have hsz := BN.size
  have PH := hid (And.intro pz (And.intro p0 p1))
  clear BN pf hb
  go_wp2_with fail
  have K : Hid (∀ W', Below w1.heap.size w1 W' → (Below w1.heap.size w1 W' ∧ w1.heap.size ≤ W'.heap.size ∧ W'.cell? ⟨w.heap.size, 0, none⟩ = some (.int .i64 n) ∧ W'.cell? ⟨w.heap.size, 1, none⟩ = some (.int .i64 d))) := hid fun W' B =>
    ⟨B, B.size, (B.cell (p := ⟨w.heap.size, 0, none⟩) PH.out.1).trans PH.out.2.1, (B.cell (p := ⟨w.heap.size, 1, none⟩) PH.out.1).trans PH.out.2.2⟩
  go_region_held3 (fun w' => Below w1.heap.size w1 w' ∧ w1.heap.size ≤ w'.heap.size ∧ w'.cell? ⟨w.heap.size, 0, none⟩ = some (.int .i64 n) ∧ w'.cell? ⟨w.heap.size, 1, none⟩ = some (.int .i64 d)) ((exact K.out _ (by repeat' (first | (with_reducible exact Below.refl _ _) | (with_reducible refine Below.alloc ?_ ?_ _) | (with_reducible refine Below.setCell ?_ ?_ _) | (with_reducible refine Below.drew ?_) | (with_reducible refine below_dn ?_ _) | (with_reducible refine Below.trans ?_ (Below.mono (by assumption) ?_)) | (simp; done) | (simp; omega) | omega))))
    (first | (go_at_call 52; (with_reducible refine (hfl _).mono ?_); rintro _ w5 ⟨rfl, hb2⟩; have hb5 : Below w1.heap.size w1 w5 := (by repeat' (first | (with_reducible exact Below.refl _ _) | (with_reducible refine Below.alloc ?_ ?_ _) | (with_reducible refine Below.setCell ?_ ?_ _) | (with_reducible refine Below.drew ?_) | (with_reducible refine below_dn ?_ _) | (with_reducible refine Below.trans ?_ (Below.mono (by assumption) ?_)) | (simp; done) | (simp; omega) | omega)); have hz5 : w1.heap.size ≤ w5.heap.size := hb5.size; clear hb2) | (go_at_call 53; (with_reducible refine (hce _).mono ?_); rintro _ w5 ⟨rfl, hb2⟩; have hb5 : Below w1.heap.size w1 w5 := (by repeat' (first | (with_reducible exact Below.refl _ _) | (with_reducible refine Below.alloc ?_ ?_ _) | (with_reducible refine Below.setCell ?_ ?_ _) | (with_reducible refine Below.drew ?_) | (with_reducible refine below_dn ?_ _) | (with_reducible refine Below.trans ?_ (Below.mono (by assumption) ?_)) | (simp; done) | (simp; omega) | omega)); have hz5 : w1.heap.size ≤ w5.heap.size := hb5.size; clear hb2))
  all_goals
    go_wp2_with fail
    go_ret2
    have BB := BH.out
    exact Gives.mk rfl (by repeat' (first | (with_reducible exact Below.refl _ _) | (with_reducible refine Below.alloc ?_ ?_ _) | (with_reducible refine Below.setCell ?_ ?_ _) | (with_reducible refine Below.drew ?_) | (with_reducible refine below_dn ?_ _) | (with_reducible refine Below.trans ?_ (Below.mono (by assumption) ?_)) | (simp; done) | (simp; omega) | omega))

set_option maxRecDepth 100000 in
set_option maxHeartbeats 2000000 in
theorem rround4_4_no (n d fl ce N D T : Int) (ck : ∀ w : World, Calls Tryd.prog 51 #[.agg #[.int .i64 n, .int .i64 d]] w (Gives (.int .i64 0) w)) (hfl : ∀ w : World, Calls Tryd.prog 52 #[.agg #[.int .i64 n, .int .i64 d]] w (Gives (.int .i64 fl) w)) (hce : ∀ w : World, Calls Tryd.prog 53 #[.agg #[.int .i64 n, .int .i64 d]] w (Gives (.int .i64 ce) w))
    (hN : fl * d = N) (hD : n - N = D) (hT : 2 * D = T) (b1 : -4000000000000000 ≤ N) (b2 : N ≤ 4000000000000000) (b3 : -4000000000000000 ≤ D) (b4 : D ≤ 4000000000000000) (b5 : -4000000000000000 ≤ fl) (b6 : fl ≤ 4000000000000000) (b7 : -8000000000000000 ≤ T) (b8 : T ≤ 8000000000000000)
    (hc : T = d) (R : Int) (hR : ce.tmod 2 = R) (hR0 : ¬ R = 0) (w : World) : Calls Tryd.prog 21 #[.agg #[.int .i64 n, .int .i64 d], .int .i64 4] w (Gives (.tuple #[.int .i64 fl, .int .i64 0]) w) := by
  have k1 : decide (d < T) = false := decide_eq_false (by omega)
  have k2 : (T == d) = true := by simp; omega
  have k3 : (R == 0) = false := by simp; omega
  go_enter Tryd.func21, Tryd.ntmps21
  go_wp2_with fail
  refine (ck _).mono ?_; rintro _ w1 ⟨rfl, hb⟩
  have pz : w.heap.size < (w1).heap.size := Nat.lt_of_lt_of_le (show w.heap.size < _ from (by first | assumption | (simp; done) | (simp; omega) | (dsimp only; omega) | omega)) hb.size; have p0 : (w1).cell? ⟨w.heap.size, 0, none⟩ = some (.int .i64 n) := (hb.cell (p := ⟨w.heap.size, 0, none⟩) (by first | assumption | (simp; done) | (simp; omega) | (dsimp only; omega) | omega)).trans (by first | assumption | (simp [go_sem]; done) | (simp [go_sem, *]; done)); have p1 : (w1).cell? ⟨w.heap.size, 1, none⟩ = some (.int .i64 d) := (hb.cell (p := ⟨w.heap.size, 1, none⟩) (by first | assumption | (simp; done) | (simp; omega) | (dsimp only; omega) | omega)).trans (by first | assumption | (simp [go_sem]; done) | (simp [go_sem, *]; done)); have pf : ∀ o, (w1).frozen? ⟨w.heap.size, o, none⟩ = false := fun o => (hb.frozen (p := ⟨w.heap.size, o, none⟩) (by first | assumption | (simp; done) | (simp; omega) | (dsimp only; omega) | omega)).trans (by first | (simp [go_sem]; done) | (simp [*]; done))
  have BN : Below w.heap.size w w1 := by repeat' (first | (with_reducible exact Below.refl _ _) | (with_reducible refine Below.alloc ?_ ?_ _) | (with_reducible refine Below.setCell ?_ ?_ _) | (with_reducible refine Below.drew ?_) | (with_reducible refine Below.trans ?_ (Below.mono (by assumption) ?_)) | (simp; done) | (simp; omega) | omega)
  have BH := hid BN
  have hsz := BN.size
  have PH := hid (And.intro pz (And.intro p0 p1))
  clear BN pf hb
  go_wp2_with fail
  have K : Hid (∀ W', Below w1.heap.size w1 W' → (Below w1.heap.size w1 W' ∧ w1.heap.size ≤ W'.heap.size ∧ W'.cell? ⟨w.heap.size, 0, none⟩ = some (.int .i64 n) ∧ W'.cell? ⟨w.heap.size, 1, none⟩ = some (.int .i64 d))) := hid fun W' B =>
    ⟨B, B.size, (B.cell (p := ⟨w.heap.size, 0, none⟩) PH.out.1).trans PH.out.2.1, (B.cell (p := ⟨w.heap.size, 1, none⟩) PH.out.1).trans PH.out.2.2⟩
  go_region_held3 (fun w' => Below w1.heap.size w1 w' ∧ w1.heap.size ≤ w'.heap.size ∧ w'.cell? ⟨w.heap.size, 0, none⟩ = some (.int .i64 n) ∧ w'.cell? ⟨w.heap.size, 1, none⟩ = some (.int .i64 d)) ((exact K.out _ (by repeat' (first | (with_reducible exact Below.refl _ _) | (with_reducible refine Below.alloc ?_ ?_ _) | (with_reducible refine Below.setCell ?_ ?_ _) | (with_reducible refine Below.drew ?_) | (with_reducible refine below_dn ?_ _) | (with_reducible refine Below.trans ?_ (Below.mono (by assumption) ?_)) | (simp; done) | (simp; omega) | omega))))
    (first | (go_at_call 52; (with_reducible refine (hfl _).mono ?_); rintro _ w5 ⟨rfl, hb2⟩; have hb5 : Below w1.heap.size w1 w5 := (by repeat' (first | (with_reducible exact Below.refl _ _) | (with_reducible refine Below.alloc ?_ ?_ _) | (with_reducible refine Below.setCell ?_ ?_ _) | (with_reducible refine Below.drew ?_) | (with_reducible refine below_dn ?_ _) | (with_reducible refine Below.trans ?_ (Below.mono (by assumption) ?_)) | (simp; done) | (simp; omega) | omega)); have hz5 : w1.heap.size ≤ w5.heap.size := hb5.size; clear hb2) | (go_at_call 53; (with_reducible refine (hce _).mono ?_); rintro _ w5 ⟨rfl, hb2⟩; have hb5 : Below w1.heap.size w1 w5 := (by repeat' (first | (with_reducible exact Below.refl _ _) | (with_reducible refine Below.alloc ?_ ?_ _) | (with_reducible refine Below.setCell ?_ ?_ _) | (with_reducible refine Below.drew ?_) | (with_reducible refine below_dn ?_ _) | (with_reducible refine Below.trans ?_ (Below.mono (by assumption) ?_)) | (simp; done) | (simp; omega) | omega)); have hz5 : w1.heap.size ≤ w5.heap.size := hb5.size; clear hb2))
  all_goals
    go_wp2_with fail
    go_ret2
    have BB := BH.out
    exact Gives.mk rfl (by repeat' (first | (with_reducible exact Below.refl _ _) | (with_reducible refine Below.alloc ?_ ?_ _) | (with_reducible refine Below.setCell ?_ ?_ _) | (with_reducible refine Below.drew ?_) | (with_reducible refine below_dn ?_ _) | (with_reducible refine Below.trans ?_ (Below.mono (by assumption) ?_)) | (simp; done) | (simp; omega) | omega))

set_option maxRecDepth 100000 in
set_option maxHeartbeats 2000000 in
theorem rround4_4_lt (n d fl ce N D T : Int) (ck : ∀ w : World, Calls Tryd.prog 51 #[.agg #[.int .i64 n, .int .i64 d]] w (Gives (.int .i64 0) w)) (hfl : ∀ w : World, Calls Tryd.prog 52 #[.agg #[.int .i64 n, .int .i64 d]] w (Gives (.int .i64 fl) w)) (hce : ∀ w : World, Calls Tryd.prog 53 #[.agg #[.int .i64 n, .int .i64 d]] w (Gives (.int .i64 ce) w))
    (hN : fl * d = N) (hD : n - N = D) (hT : 2 * D = T) (b1 : -4000000000000000 ≤ N) (b2 : N ≤ 4000000000000000) (b3 : -4000000000000000 ≤ D) (b4 : D ≤ 4000000000000000) (b5 : -4000000000000000 ≤ fl) (b6 : fl ≤ 4000000000000000) (b7 : -8000000000000000 ≤ T) (b8 : T ≤ 8000000000000000)
    (hc : T < d) (w : World) : Calls Tryd.prog 21 #[.agg #[.int .i64 n, .int .i64 d], .int .i64 4] w (Gives (.tuple #[.int .i64 fl, .int .i64 0]) w) := by
  have k1 : decide (d < T) = false := decide_eq_false (by omega)
  have k2 : (T == d) = false := by simp; omega
  go_enter Tryd.func21, Tryd.ntmps21
  go_wp2_with fail
  refine (ck _).mono ?_; rintro _ w1 ⟨rfl, hb⟩
  have pz : w.heap.size < (w1).heap.size := Nat.lt_of_lt_of_le (show w.heap.size < _ from (by first | assumption | (simp; done) | (simp; omega) | (dsimp only; omega) | omega)) hb.size; have p0 : (w1).cell? ⟨w.heap.size, 0, none⟩ = some (.int .i64 n) := (hb.cell (p := ⟨w.heap.size, 0, none⟩) (by first | assumption | (simp; done) | (simp; omega) | (dsimp only; omega) | omega)).trans (by first | assumption | (simp [go_sem]; done) | (simp [go_sem, *]; done)); have p1 : (w1).cell? ⟨w.heap.size, 1, none⟩ = some (.int .i64 d) := (hb.cell (p := ⟨w.heap.size, 1, none⟩) (by first | assumption | (simp; done) | (simp; omega) | (dsimp only; omega) | omega)).trans (by first | assumption | (simp [go_sem]; done) | (simp [go_sem, *]; done)); have pf : ∀ o, (w1).frozen? ⟨w.heap.size, o, none⟩ = false := fun o => (hb.frozen (p := ⟨w.heap.size, o, none⟩) (by first | assumption | (simp; done) | (simp; omega) | (dsimp only; omega) | omega)).trans (by first | (simp [go_sem]; done) | (simp [*]; done))
  have BN : Below w.heap.size w w1 := by repeat' (first | (with_reducible exact Below.refl _ _) | (with_reducible refine Below.alloc ?_ ?_ _) | (with_reducible refine Below.setCell ?_ ?_ _) | (with_reducible refine Below.drew ?_) | (with_reducible refine Below.trans ?_ (Below.mono (by assumption) ?_)) | (simp; done) | (simp; omega) | omega)
  have BH := hid BN
  have hsz := BN.size
  have PH := hid (And.intro pz (And.intro p0 p1))
  clear BN pf hb
  go_wp2_with fail
  have K : Hid (∀ W', Below w1.heap.size w1 W' → (Below w1.heap.size w1 W' ∧ w1.heap.size ≤ W'.heap.size ∧ W'.cell? ⟨w.heap.size, 0, none⟩ = some (.int .i64 n) ∧ W'.cell? ⟨w.heap.size, 1, none⟩ = some (.int .i64 d))) := hid fun W' B =>
    ⟨B, B.size, (B.cell (p := ⟨w.heap.size, 0, none⟩) PH.out.1).trans PH.out.2.1, (B.cell (p := ⟨w.heap.size, 1, none⟩) PH.out.1).trans PH.out.2.2⟩
  go_region_held3 (fun w' => Below w1.heap.size w1 w' ∧ w1.heap.size ≤ w'.heap.size ∧ w'.cell? ⟨w.heap.size, 0, none⟩ = some (.int .i64 n) ∧ w'.cell? ⟨w.heap.size, 1, none⟩ = some (.int .i64 d)) ((exact K.out _ (by repeat' (first | (with_reducible exact Below.refl _ _) | (with_reducible refine Below.alloc ?_ ?_ _) | (with_reducible refine Below.setCell ?_ ?_ _) | (with_reducible refine Below.drew ?_) | (with_reducible refine below_dn ?_ _) | (with_reducible refine Below.trans ?_ (Below.mono (by assumption) ?_)) | (simp; done) | (simp; omega) | omega))))
    (first | (go_at_call 52; (with_reducible refine (hfl _).mono ?_); rintro _ w5 ⟨rfl, hb2⟩; have hb5 : Below w1.heap.size w1 w5 := (by repeat' (first | (with_reducible exact Below.refl _ _) | (with_reducible refine Below.alloc ?_ ?_ _) | (with_reducible refine Below.setCell ?_ ?_ _) | (with_reducible refine Below.drew ?_) | (with_reducible refine below_dn ?_ _) | (with_reducible refine Below.trans ?_ (Below.mono (by assumption) ?_)) | (simp; done) | (simp; omega) | omega)); have hz5 : w1.heap.size ≤ w5.heap.size := hb5.size; clear hb2) | (go_at_call 53; (with_reducible refine (hce _).mono ?_); rintro _ w5 ⟨rfl, hb2⟩; have hb5 : Below w1.heap.size w1 w5 := (by repeat' (first | (with_reducible exact Below.refl _ _) | (with_reducible refine Below.alloc ?_ ?_ _) | (with_reducible refine Below.setCell ?_ ?_ _) | (with_reducible refine Below.drew ?_) | (with_reducible refine below_dn ?_ _) | (with_reducible refine Below.trans ?_ (Below.mono (by assumption) ?_)) | (simp; done) | (simp; omega) | omega)); have hz5 : w1.heap.size ≤ w5.heap.size := hb5.size; clear hb2))
  all_goals
    go_wp2_with fail
    go_ret2
    have BB := BH.out
    exact Gives.mk rfl (by repeat' (first | (with_reducible exact Below.refl _ _) | (with_reducible refine Below.alloc ?_ ?_ _) | (with_reducible refine Below.setCell ?_ ?_ _) | (with_reducible refine Below.drew ?_) | (with_reducible refine below_dn ?_ _) | (with_reducible refine Below.trans ?_ (Below.mono (by assumption) ?_)) | (simp; done) | (simp; omega) | omega))

set_option maxRecDepth 100000 in
set_option maxHeartbeats 2000000 in
theorem rround4_other (n d fl ce N D T : Int) (ck : ∀ w : World, Calls Tryd.prog 51 #[.agg #[.int .i64 n, .int .i64 d]] w (Gives (.int .i64 0) w)) (hfl : ∀ w : World, Calls Tryd.prog 52 #[.agg #[.int .i64 n, .int .i64 d]] w (Gives (.int .i64 fl) w)) (hce : ∀ w : World, Calls Tryd.prog 53 #[.agg #[.int .i64 n, .int .i64 d]] w (Gives (.int .i64 ce) w))
    (hN : fl * d = N) (hD : n - N = D) (hT : 2 * D = T) (b1 : -4000000000000000 ≤ N) (b2 : N ≤ 4000000000000000) (b3 : -4000000000000000 ≤ D) (b4 : D ≤ 4000000000000000) (b5 : -4000000000000000 ≤ fl) (b6 : fl ≤ 4000000000000000) (b7 : -8000000000000000 ≤ T) (b8 : T ≤ 8000000000000000)
    (way : Int) (h1 : ¬ way = 1) (h2 : ¬ way = 2) (h3 : ¬ way = 3) (h4 : ¬ way = 4) (w : World) : Calls Tryd.prog 21 #[.agg #[.int .i64 n, .int .i64 d], .int .i64 way] w (Gives (.tuple #[.int .i64 0, .int .i64 1]) w) := by
  have g1 : (way == 1) = false := by simpa using h1
  have g2 : (way == 2) = false := by simpa using h2
  have g3 : (way == 3) = false := by simpa using h3
  have g4 : (way == 4) = false := by simpa using h4
  clear h1 h2 h3 h4
  go_enter Tryd.func21, Tryd.ntmps21
  go_wp2_with fail
  refine (ck _).mono ?_; rintro _ w1 ⟨rfl, hb⟩
  have pz : w.heap.size < (w1).heap.size := Nat.lt_of_lt_of_le (show w.heap.size < _ from (by first | assumption | (simp; done) | (simp; omega) | (dsimp only; omega) | omega)) hb.size; have p0 : (w1).cell? ⟨w.heap.size, 0, none⟩ = some (.int .i64 n) := (hb.cell (p := ⟨w.heap.size, 0, none⟩) (by first | assumption | (simp; done) | (simp; omega) | (dsimp only; omega) | omega)).trans (by first | assumption | (simp [go_sem]; done) | (simp [go_sem, *]; done)); have p1 : (w1).cell? ⟨w.heap.size, 1, none⟩ = some (.int .i64 d) := (hb.cell (p := ⟨w.heap.size, 1, none⟩) (by first | assumption | (simp; done) | (simp; omega) | (dsimp only; omega) | omega)).trans (by first | assumption | (simp [go_sem]; done) | (simp [go_sem, *]; done)); have pf : ∀ o, (w1).frozen? ⟨w.heap.size, o, none⟩ = false := fun o => (hb.frozen (p := ⟨w.heap.size, o, none⟩) (by first | assumption | (simp; done) | (simp; omega) | (dsimp only; omega) | omega)).trans (by first | (simp [go_sem]; done) | (simp [*]; done))
  have BN : Below w.heap.size w w1 := by repeat' (first | (with_reducible exact Below.refl _ _) | (with_reducible refine Below.alloc ?_ ?_ _) | (with_reducible refine Below.setCell ?_ ?_ _) | (with_reducible refine Below.drew ?_) | (with_reducible refine Below.trans ?_ (Below.mono (by assumption) ?_)) | (simp; done) | (simp; omega) | omega)
  have BH := hid BN
  have hsz := BN.size
  have PH := hid (And.intro pz (And.intro p0 p1))
  clear BN pf hb
  go_wp2_with fail
  have K : Hid (∀ W', Below w1.heap.size w1 W' → (Below w1.heap.size w1 W' ∧ w1.heap.size ≤ W'.heap.size ∧ W'.cell? ⟨w.heap.size, 0, none⟩ = some (.int .i64 n) ∧ W'.cell? ⟨w.heap.size, 1, none⟩ = some (.int .i64 d))) := hid fun W' B =>
    ⟨B, B.size, (B.cell (p := ⟨w.heap.size, 0, none⟩) PH.out.1).trans PH.out.2.1, (B.cell (p := ⟨w.heap.size, 1, none⟩) PH.out.1).trans PH.out.2.2⟩
  go_region_held3 (fun w' => Below w1.heap.size w1 w' ∧ w1.heap.size ≤ w'.heap.size ∧ w'.cell? ⟨w.heap.size, 0, none⟩ = some (.int .i64 n) ∧ w'.cell? ⟨w.heap.size, 1, none⟩ = some (.int .i64 d)) ((exact K.out _ (by repeat' (first | (with_reducible exact Below.refl _ _) | (with_reducible refine Below.alloc ?_ ?_ _) | (with_reducible refine Below.setCell ?_ ?_ _) | (with_reducible refine Below.drew ?_) | (with_reducible refine below_dn ?_ _) | (with_reducible refine Below.trans ?_ (Below.mono (by assumption) ?_)) | (simp; done) | (simp; omega) | omega))))
    (first | (go_at_call 52; (with_reducible refine (hfl _).mono ?_); rintro _ w5 ⟨rfl, hb2⟩; have hb5 : Below w1.heap.size w1 w5 := (by repeat' (first | (with_reducible exact Below.refl _ _) | (with_reducible refine Below.alloc ?_ ?_ _) | (with_reducible refine Below.setCell ?_ ?_ _) | (with_reducible refine Below.drew ?_) | (with_reducible refine below_dn ?_ _) | (with_reducible refine Below.trans ?_ (Below.mono (by assumption) ?_)) | (simp; done) | (simp; omega) | omega)); have hz5 : w1.heap.size ≤ w5.heap.size := hb5.size; clear hb2) | (go_at_call 53; (with_reducible refine (hce _).mono ?_); rintro _ w5 ⟨rfl, hb2⟩; have hb5 : Below w1.heap.size w1 w5 := (by repeat' (first | (with_reducible exact Below.refl _ _) | (with_reducible refine Below.alloc ?_ ?_ _) | (with_reducible refine Below.setCell ?_ ?_ _) | (with_reducible refine Below.drew ?_) | (with_reducible refine below_dn ?_ _) | (with_reducible refine Below.trans ?_ (Below.mono (by assumption) ?_)) | (simp; done) | (simp; omega) | omega)); have hz5 : w1.heap.size ≤ w5.heap.size := hb5.size; clear hb2))
  all_goals
    go_wp2_with fail
    go_ret2
    have BB := BH.out
    exact Gives.mk rfl (by repeat' (first | (with_reducible exact Below.refl _ _) | (with_reducible refine Below.alloc ?_ ?_ _) | (with_reducible refine Below.setCell ?_ ?_ _) | (with_reducible refine Below.drew ?_) | (with_reducible refine below_dn ?_ _) | (with_reducible refine Below.trans ?_ (Below.mono (by assumption) ?_)) | (simp; done) | (simp; omega) | omega))

end Go.Proofs.YtgfjofdjicepiaaDoor
