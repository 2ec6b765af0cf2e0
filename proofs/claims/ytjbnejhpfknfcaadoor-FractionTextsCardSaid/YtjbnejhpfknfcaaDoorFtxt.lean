/-
  Text of packages fraction and couperef02, by contract, at any fraction.
-/
import Derived.Test.YtjbnejhpfknfcaaDoorFtxm
import Derived.Test.YtjbnejhpfknfcaaDoorFtext2
import Derived.Test.YtjbnejhpfknfcaaDoorFref
namespace Go.Proofs.YtjbnejhpfknfcaaDoor
open Go.RowKit
set_option linter.unusedVariables false
set_option linter.unusedSimpArgs false
set_option maxRecDepth 100000 in
set_option maxHeartbeats 2000000 in
theorem ftx_bad (n d e : Int) (e0 : ¬ e = 0) (w : World) (ck : ∀ w : World, Calls Tryd.prog 17 #[.agg #[.int .i64 n, .int .i64 d]] w (Gives (.int .i64 e) w)) :
    Calls Tryd.prog 37 #[.agg #[.int .i64 n, .int .i64 d]] w (Gives (.tuple #[.string ⟨#[]⟩, .int .i64 e]) w) := by
  have g : (e != 0) = true := by simpa using e0
  go_enter Tryd.func37, Tryd.ntmps37
  go_wp2_with fail
  refine (ck _).mono ?_; rintro _ w1 ⟨rfl, hb⟩
  have BN : Below w.heap.size w w1 := by repeat' (first | (with_reducible exact Below.refl _ _) | (with_reducible refine Below.alloc ?_ ?_ _) | (with_reducible refine Below.setCell ?_ ?_ _) | (with_reducible refine Below.drew ?_) | (with_reducible refine Below.trans ?_ (Below.mono (by assumption) ?_)) | (simp; done) | (simp; omega) | omega)
  clear hb
  go_wp2_with fail
  go_ret2
  exact Gives.mk rfl BN
set_option maxRecDepth 100000 in
set_option maxHeartbeats 2000000 in
theorem ftx_one (n d : Int) (T1 : ByteArray) (d1 : d = 1) (w : World) (ck : ∀ w : World, Calls Tryd.prog 17 #[.agg #[.int .i64 n, .int .i64 d]] w (Gives (.int .i64 0) w))
    (i1 : ∀ W, Below w.heap.size w W → Calls Tryd.prog 63 #[.int .i64 n] W (Gives (.string T1) W)) :
    Calls Tryd.prog 37 #[.agg #[.int .i64 n, .int .i64 d]] w (Gives (.tuple #[.string T1, .int .i64 0]) w) := by
  have g : (d == 1) = true := by simpa using d1
  clear d1
  go_enter Tryd.func37, Tryd.ntmps37
  go_wp2_with fail
  refine (ck _).mono ?_; rintro _ w1 ⟨rfl, hb⟩
  have pz : w.heap.size < (w1).heap.size := Nat.lt_of_lt_of_le (show w.heap.size < _ from (by first | assumption | (simp; done) | (simp; omega) | (dsimp only; omega) | omega)) hb.size; have p0 : (w1).cell? ⟨w.heap.size, 0, none⟩ = some (.int .i64 n) := (hb.cell (p := ⟨w.heap.size, 0, none⟩) (by first | assumption | (simp; done) | (simp; omega) | (dsimp only; omega) | omega)).trans (by first | assumption | (simp [go_sem]; done) | (simp [go_sem, *]; done)); have p1 : (w1).cell? ⟨w.heap.size, 1, none⟩ = some (.int .i64 d) := (hb.cell (p := ⟨w.heap.size, 1, none⟩) (by first | assumption | (simp; done) | (simp; omega) | (dsimp only; omega) | omega)).trans (by first | assumption | (simp [go_sem]; done) | (simp [go_sem, *]; done)); have pf : ∀ o, (w1).frozen? ⟨w.heap.size, o, none⟩ = false := fun o => (hb.frozen (p := ⟨w.heap.size, o, none⟩) (by first | assumption | (simp; done) | (simp; omega) | (dsimp only; omega) | omega)).trans (by first | (simp [go_sem]; done) | (simp [*]; done))
  have BN : Below w.heap.size w w1 := by repeat' (first | (with_reducible exact Below.refl _ _) | (with_reducible refine Below.alloc ?_ ?_ _) | (with_reducible refine Below.setCell ?_ ?_ _) | (with_reducible refine Below.drew ?_) | (with_reducible refine Below.trans ?_ (Below.mono (by assumption) ?_)) | (simp; done) | (simp; omega) | omega)
  clear hb
  go_wp2_with fail
  refine (i1 _ BN).mono ?_; rintro _ w2 ⟨rfl, hb⟩
  have BN2 : Below w.heap.size w w2 := BN.trans (hb.mono BN.size)
  clear hb BN
  go_wp2_with fail
  go_ret2
  exact Gives.mk rfl BN2
set_option maxRecDepth 100000 in
set_option maxHeartbeats 2000000 in
theorem ftx_two (n d : Int) (T1 T2 : ByteArray) (dd : ¬ d = 1) (z1 : T1.size ≤ 1000) (z2 : T2.size ≤ 1000) (w : World)
    (ck : ∀ w : World, Calls Tryd.prog 17 #[.agg #[.int .i64 n, .int .i64 d]] w (Gives (.int .i64 0) w))
    (i1 : ∀ W, Below w.heap.size w W → Calls Tryd.prog 63 #[.int .i64 n] W (Gives (.string T1) W))
    (i2 : ∀ W, Below w.heap.size w W → Calls Tryd.prog 63 #[.int .i64 d] W (Gives (.string T2) W)) :
    Calls Tryd.prog 37 #[.agg #[.int .i64 n, .int .i64 d]] w (Gives (.tuple #[.string (T1 ++ ⟨#[47]⟩ ++ T2), .int .i64 0]) w) := by
  have g : (d == 1) = false := by simpa using dd
  have s1 : ∀ W, (Op.stringOp .add T1 ⟨#[47]⟩).run Tryd.prog W = .ok (.string (T1 ++ ⟨#[47]⟩)) W := fun W => run_string_add_sum _ _ _ (by have : (⟨#[47]⟩ : ByteArray).size = 1 := rfl; omega)
  have s2 : ∀ W, (Op.stringOp .add (T1 ++ ⟨#[47]⟩) T2).run Tryd.prog W = .ok (.string (T1 ++ ⟨#[47]⟩ ++ T2)) W := fun W => run_string_add_sum _ _ _ (by have : (⟨#[47]⟩ : ByteArray).size = 1 := rfl; rw [ByteArray.size_append]; omega)
  clear z1 z2
  go_enter Tryd.func37, Tryd.ntmps37
  go_wp2_with fail
  refine (ck _).mono ?_; rintro _ w1 ⟨rfl, hb⟩
  have pz : w.heap.size < (w1).heap.size := Nat.lt_of_lt_of_le (show w.heap.size < _ from (by first | assumption | (simp; done) | (simp; omega) | (dsimp only; omega) | omega)) hb.size; have p0 : (w1).cell? ⟨w.heap.size, 0, none⟩ = some (.int .i64 n) := (hb.cell (p := ⟨w.heap.size, 0, none⟩) (by first | assumption | (simp; done) | (simp; omega) | (dsimp only; omega) | omega)).trans (by first | assumption | (simp [go_sem]; done) | (simp [go_sem, *]; done)); have p1 : (w1).cell? ⟨w.heap.size, 1, none⟩ = some (.int .i64 d) := (hb.cell (p := ⟨w.heap.size, 1, none⟩) (by first | assumption | (simp; done) | (simp; omega) | (dsimp only; omega) | omega)).trans (by first | assumption | (simp [go_sem]; done) | (simp [go_sem, *]; done)); have pf : ∀ o, (w1).frozen? ⟨w.heap.size, o, none⟩ = false := fun o => (hb.frozen (p := ⟨w.heap.size, o, none⟩) (by first | assumption | (simp; done) | (simp; omega) | (dsimp only; omega) | omega)).trans (by first | (simp [go_sem]; done) | (simp [*]; done))
  have BN : Below w.heap.size w w1 := by repeat' (first | (with_reducible exact Below.refl _ _) | (with_reducible refine Below.alloc ?_ ?_ _) | (with_reducible refine Below.setCell ?_ ?_ _) | (with_reducible refine Below.drew ?_) | (with_reducible refine Below.trans ?_ (Below.mono (by assumption) ?_)) | (simp; done) | (simp; omega) | omega)
  have BH := hid BN
  have hsz := BN.size
  have PH := hid (And.intro pz (And.intro p0 p1))
  clear BN hb
  go_wp2_with fail
  have K : Hid (∀ W', Below w1.heap.size w1 W' → (Below w1.heap.size w1 W' ∧ w1.heap.size ≤ W'.heap.size ∧ W'.cell? ⟨w.heap.size, 0, none⟩ = some (.int .i64 n) ∧ W'.cell? ⟨w.heap.size, 1, none⟩ = some (.int .i64 d))) := hid fun W' B =>
    ⟨B, B.size, (B.cell (p := ⟨w.heap.size, 0, none⟩) PH.out.1).trans PH.out.2.1, (B.cell (p := ⟨w.heap.size, 1, none⟩) PH.out.1).trans PH.out.2.2⟩
  have LB : Hid (∀ W', Below w1.heap.size w1 W' → Below w.heap.size w W') := hid fun W' B => Below.trans BH.out (B.mono hsz)
  clear pf
  go_region_held3 (fun w' => Below w1.heap.size w1 w' ∧ w1.heap.size ≤ w'.heap.size ∧ w'.cell? ⟨w.heap.size, 0, none⟩ = some (.int .i64 n) ∧ w'.cell? ⟨w.heap.size, 1, none⟩ = some (.int .i64 d)) ((exact K.out _ (by repeat' (first | (with_reducible exact Below.refl _ _) | (with_reducible refine Below.alloc ?_ ?_ _) | (with_reducible refine Below.setCell ?_ ?_ _) | (with_reducible refine Below.drew ?_) | (with_reducible refine below_dn ?_ _) | (with_reducible refine Below.trans ?_ (Below.mono (by assumption) ?_)) | (simp; done) | (simp; omega) | omega))))
    (first | (go_at_call 63; (with_reducible refine (i1 _ (LB.out _ (by repeat' (first | (with_reducible exact Below.refl _ _) | (with_reducible refine Below.alloc ?_ ?_ _) | (with_reducible refine Below.setCell ?_ ?_ _) | (with_reducible refine Below.drew ?_) | (with_reducible refine below_dn ?_ _) | (with_reducible refine Below.trans ?_ (Below.mono (by assumption) ?_)) | (simp; done) | (simp; omega) | omega)))).mono ?_); rintro _ w5 ⟨rfl, hb2⟩; have hb5 : Below w1.heap.size w1 w5 := (by repeat' (first | (with_reducible exact Below.refl _ _) | (with_reducible refine Below.alloc ?_ ?_ _) | (with_reducible refine Below.setCell ?_ ?_ _) | (with_reducible refine Below.drew ?_) | (with_reducible refine below_dn ?_ _) | (with_reducible refine Below.trans ?_ (Below.mono (by assumption) ?_)) | (simp; done) | (simp; omega) | omega)); have hz5 : w1.heap.size ≤ w5.heap.size := hb5.size; clear hb2) | (go_at_call 63; (with_reducible refine (i2 _ (LB.out _ (by repeat' (first | (with_reducible exact Below.refl _ _) | (with_reducible refine Below.alloc ?_ ?_ _) | (with_reducible refine Below.setCell ?_ ?_ _) | (with_reducible refine Below.drew ?_) | (with_reducible refine below_dn ?_ _) | (with_reducible refine Below.trans ?_ (Below.mono (by assumption) ?_)) | (simp; done) | (simp; omega) | omega)))).mono ?_); rintro _ w5 ⟨rfl, hb2⟩; have hb5 : Below w1.heap.size w1 w5 := (by repeat' (first | (with_reducible exact Below.refl _ _) | (with_reducible refine Below.alloc ?_ ?_ _) | (with_reducible refine Below.setCell ?_ ?_ _) | (with_reducible refine Below.drew ?_) | (with_reducible refine below_dn ?_ _) | (with_reducible refine Below.trans ?_ (Below.mono (by assumption) ?_)) | (simp; done) | (simp; omega) | omega)); have hz5 : w1.heap.size ≤ w5.heap.size := hb5.size; clear hb2))
  all_goals
    go_wp2_with fail
    go_ret2
    have BB := BH.out
    exact Gives.mk rfl (by repeat' (first | (with_reducible exact Below.refl _ _) | (with_reducible refine Below.alloc ?_ ?_ _) | (with_reducible refine Below.setCell ?_ ?_ _) | (with_reducible refine Below.drew ?_) | (with_reducible refine below_dn ?_ _) | (with_reducible refine Below.trans ?_ (Below.mono (by assumption) ?_)) | (simp; done) | (simp; omega) | omega))
set_option maxRecDepth 100000 in
set_option maxHeartbeats 2000000 in
theorem rtx_bad (n d e : Int) (e0 : ¬ e = 0) (w : World) (ck : ∀ w : World, Calls Tryd.prog 18 #[.agg #[.int .i64 n, .int .i64 d]] w (Gives (.int .i64 e) w)) :
    Calls Tryd.prog 38 #[.agg #[.int .i64 n, .int .i64 d]] w (Gives (.tuple #[.string ⟨#[]⟩, .int .i64 e]) w) := by
  have g : (e != 0) = true := by simpa using e0
  go_enter Tryd.func38, Tryd.ntmps38
  go_wp2_with fail
  refine (ck _).mono ?_; rintro _ w1 ⟨rfl, hb⟩
  have BN : Below w.heap.size w w1 := by repeat' (first | (with_reducible exact Below.refl _ _) | (with_reducible refine Below.alloc ?_ ?_ _) | (with_reducible refine Below.setCell ?_ ?_ _) | (with_reducible refine Below.drew ?_) | (with_reducible refine Below.trans ?_ (Below.mono (by assumption) ?_)) | (simp; done) | (simp; omega) | omega)
  clear hb
  go_wp2_with fail
  go_ret2
  exact Gives.mk rfl BN
set_option maxRecDepth 100000 in
set_option maxHeartbeats 2000000 in
theorem rtx_one (n d : Int) (T1 : ByteArray) (d1 : d = 1) (w : World) (ck : ∀ w : World, Calls Tryd.prog 18 #[.agg #[.int .i64 n, .int .i64 d]] w (Gives (.int .i64 0) w))
    (i1 : ∀ W, Below w.heap.size w W → Calls Tryd.prog 63 #[.int .i64 n] W (Gives (.string T1) W)) :
    Calls Tryd.prog 38 #[.agg #[.int .i64 n, .int .i64 d]] w (Gives (.tuple #[.string T1, .int .i64 0]) w) := by
  have g : (d != 1) = false := by simpa using d1
  clear d1
  go_enter Tryd.func38, Tryd.ntmps38
  go_wp2_with fail
  refine (ck _).mono ?_; rintro _ w1 ⟨rfl, hb⟩
  have pz : w.heap.size < (w1).heap.size := Nat.lt_of_lt_of_le (show w.heap.size < _ from (by first | assumption | (simp; done) | (simp; omega) | (dsimp only; omega) | omega)) hb.size; have p0 : (w1).cell? ⟨w.heap.size, 0, none⟩ = some (.int .i64 n) := (hb.cell (p := ⟨w.heap.size, 0, none⟩) (by first | assumption | (simp; done) | (simp; omega) | (dsimp only; omega) | omega)).trans (by first | assumption | (simp [go_sem]; done) | (simp [go_sem, *]; done)); have p1 : (w1).cell? ⟨w.heap.size, 1, none⟩ = some (.int .i64 d) := (hb.cell (p := ⟨w.heap.size, 1, none⟩) (by first | assumption | (simp; done) | (simp; omega) | (dsimp only; omega) | omega)).trans (by first | assumption | (simp [go_sem]; done) | (simp [go_sem, *]; done)); have pf : ∀ o, (w1).frozen? ⟨w.heap.size, o, none⟩ = false := fun o => (hb.frozen (p := ⟨w.heap.size, o, none⟩) (by first | assumption | (simp; done) | (simp; omega) | (dsimp only; omega) | omega)).trans (by first | (simp [go_sem]; done) | (simp [*]; done))
  have BN : Below w.heap.size w w1 := by repeat' (first | (with_reducible exact Below.refl _ _) | (with_reducible refine Below.alloc ?_ ?_ _) | (with_reducible refine Below.setCell ?_ ?_ _) | (with_reducible refine Below.drew ?_) | (with_reducible refine Below.trans ?_ (Below.mono (by assumption) ?_)) | (simp; done) | (simp; omega) | omega)
  clear hb
  go_wp2_with fail
  refine (i1 _ BN).mono ?_; rintro _ w2 ⟨rfl, hb⟩
  have qz : w.heap.size < (w2).heap.size := Nat.lt_of_lt_of_le (show w.heap.size < _ from (by first | assumption | (simp; done) | (simp; omega) | (dsimp only; omega) | omega)) hb.size; have q0 : (w2).cell? ⟨w.heap.size, 0, none⟩ = some (.int .i64 n) := (hb.cell (p := ⟨w.heap.size, 0, none⟩) (by first | assumption | (simp; done) | (simp; omega) | (dsimp only; omega) | omega)).trans (by first | assumption | (simp [go_sem]; done) | (simp [go_sem, *]; done)); have q1 : (w2).cell? ⟨w.heap.size, 1, none⟩ = some (.int .i64 d) := (hb.cell (p := ⟨w.heap.size, 1, none⟩) (by first | assumption | (simp; done) | (simp; omega) | (dsimp only; omega) | omega)).trans (by first | assumption | (simp [go_sem]; done) | (simp [go_sem, *]; done)); have qf : ∀ o, (w2).frozen? ⟨w.heap.size, o, none⟩ = false := fun o => (hb.frozen (p := ⟨w.heap.size, o, none⟩) (by first | assumption | (simp; done) | (simp; omega) | (dsimp only; omega) | omega)).trans (by first | (simp [go_sem]; done) | (simp [*]; done))
  have BN2 : Below w.heap.size w w2 := BN.trans (hb.mono BN.size)
  clear hb BN p0 p1 pf pz
  go_wp2_with fail
  go_ret2
  exact Gives.mk rfl BN2
set_option maxRecDepth 100000 in
set_option maxHeartbeats 2000000 in
theorem rtx_two (n d : Int) (T1 T2 : ByteArray) (dd : ¬ d = 1) (z1 : T1.size ≤ 1000) (z2 : T2.size ≤ 1000) (w : World) (ck : ∀ w : World, Calls Tryd.prog 18 #[.agg #[.int .i64 n, .int .i64 d]] w (Gives (.int .i64 0) w))
    (i1 : ∀ W, Below w.heap.size w W → Calls Tryd.prog 63 #[.int .i64 n] W (Gives (.string T1) W))
    (i2 : ∀ W, Below w.heap.size w W → Calls Tryd.prog 63 #[.int .i64 d] W (Gives (.string T2) W)) :
    Calls Tryd.prog 38 #[.agg #[.int .i64 n, .int .i64 d]] w (Gives (.tuple #[.string (T1 ++ ⟨#[47]⟩ ++ T2), .int .i64 0]) w) := by
  have g : (d != 1) = true := by simpa using dd
  clear dd
  have s1 : ∀ W, (Op.stringOp .add T1 ⟨#[47]⟩).run Tryd.prog W = .ok (.string (T1 ++ ⟨#[47]⟩)) W := fun W => run_string_add_sum _ _ _ (by have : (⟨#[47]⟩ : ByteArray).size = 1 := rfl; omega)
  have s2 : ∀ W, (Op.stringOp .add (T1 ++ ⟨#[47]⟩) T2).run Tryd.prog W = .ok (.string (T1 ++ ⟨#[47]⟩ ++ T2)) W := fun W => run_string_add_sum _ _ _ (by have : (⟨#[47]⟩ : ByteArray).size = 1 := rfl; rw [ByteArray.size_append]; omega)
  clear z1 z2
  go_enter Tryd.func38, Tryd.ntmps38
  go_wp2_with fail
  refine (ck _).mono ?_; rintro _ w1 ⟨rfl, hb⟩
  have pz : w.heap.size < (w1).heap.size := Nat.lt_of_lt_of_le (show w.heap.size < _ from (by first | assumption | (simp; done) | (simp; omega) | (dsimp only; omega) | omega)) hb.size; have p0 : (w1).cell? ⟨w.heap.size, 0, none⟩ = some (.int .i64 n) := (hb.cell (p := ⟨w.heap.size, 0, none⟩) (by first | assumption | (simp; done) | (simp; omega) | (dsimp only; omega) | omega)).trans (by first | assumption | (simp [go_sem]; done) | (simp [go_sem, *]; done)); have p1 : (w1).cell? ⟨w.heap.size, 1, none⟩ = some (.int .i64 d) := (hb.cell (p := ⟨w.heap.size, 1, none⟩) (by first | assumption | (simp; done) | (simp; omega) | (dsimp only; omega) | omega)).trans (by first | assumption | (simp [go_sem]; done) | (simp [go_sem, *]; done)); have pf : ∀ o, (w1).frozen? ⟨w.heap.size, o, none⟩ = false := fun o => (hb.frozen (p := ⟨w.heap.size, o, none⟩) (by first | assumption | (simp; done) | (simp; omega) | (dsimp only; omega) | omega)).trans (by first | (simp [go_sem]; done) | (simp [*]; done))
  have BN : Below w.heap.size w w1 := by repeat' (first | (with_reducible exact Below.refl _ _) | (with_reducible refine Below.alloc ?_ ?_ _) | (with_reducible refine Below.setCell ?_ ?_ _) | (with_reducible refine Below.drew ?_) | (with_reducible refine Below.trans ?_ (Below.mono (by assumption) ?_)) | (simp; done) | (simp; omega) | omega)
  clear hb
  go_wp2_with fail
  refine (i1 _ BN).mono ?_; rintro _ w2 ⟨rfl, hb⟩
  have qz : w.heap.size < (w2).heap.size := Nat.lt_of_lt_of_le (show w.heap.size < _ from (by first | assumption | (simp; done) | (simp; omega) | (dsimp only; omega) | omega)) hb.size; have q0 : (w2).cell? ⟨w.heap.size, 0, none⟩ = some (.int .i64 n) := (hb.cell (p := ⟨w.heap.size, 0, none⟩) (by first | assumption | (simp; done) | (simp; omega) | (dsimp only; omega) | omega)).trans (by first | assumption | (simp [go_sem]; done) | (simp [go_sem, *]; done)); have q1 : (w2).cell? ⟨w.heap.size, 1, none⟩ = some (.int .i64 d) := (hb.cell (p := ⟨w.heap.size, 1, none⟩) (by first | assumption | (simp; done) | (simp; omega) | (dsimp only; omega) | omega)).trans (by first | assumption | (simp [go_sem]; done) | (simp [go_sem, *]; done)); have qf : ∀ o, (w2).frozen? ⟨w.heap.size, o, none⟩ = false := fun o => (hb.frozen (p := ⟨w.heap.size, o, none⟩) (by first | assumption | (simp; done) | (simp; omega) | (dsimp only; omega) | omega)).trans (by first | (simp [go_sem]; done) | (simp [*]; done))
  have BN2 : Below w.heap.size w w2 := BN.trans (hb.mono BN.size)
  clear hb BN p0 p1 pf pz
  go_wp2_with fail
  refine (i2 _ BN2).mono ?_; rintro _ w3 ⟨rfl, hb⟩
  have BN3 : Below w.heap.size w w3 := BN2.trans (hb.mono BN2.size)
  clear hb BN2
  go_wp2_with fail
  go_ret2
  exact Gives.mk rfl BN3
theorem itoa_len (n : Int) (n0 : -9223372036854775808 ≤ n) (n1 : n ≤ 9223372036854775807) : (Lib.itoa n).length ≤ 20 := by
  have h := Sp.nDigits_le 18 n.natAbs (by omega)
  unfold Lib.itoa
  split
  · simp only [List.length_cons, Lib.decDigits_length]; omega
  · rw [show n.toNat = n.natAbs by omega, Lib.decDigits_length]; omega
theorem itoa_size (n : Int) (n0 : -9223372036854775808 ≤ n) (n1 : n ≤ 9223372036854775807) : (⟨(Lib.itoa n).toArray⟩ : ByteArray).size ≤ 1000 := by
  rw [Lib.size_eq]
  show (Lib.itoa n).toArray.toList.length ≤ 1000
  rw [List.toList_toArray]
  have := itoa_len n n0 n1
  omega
theorem cat_mk (a b : List UInt8) : (⟨a.toArray⟩ : ByteArray) ++ ⟨#[47]⟩ ++ ⟨b.toArray⟩ = ⟨(a ++ [47] ++ b).toArray⟩ := by
  refine ByteArray.ext ?_
  simp [ByteArray.data_append]
theorem ftext_any (n d : Int) (n0 : -9223372036854775808 ≤ n) (n1 : n ≤ 9223372036854775807) (d0 : -9223372036854775808 ≤ d) (d1 : d ≤ 9223372036854775807) (w : World) (ht : Lib.TabIs Tryd.prog w "internal/strconv.uint64pow10" .u64 Lib.pow10Tab) :
    Calls Tryd.prog 37 #[.agg #[.int .i64 n, .int .i64 d]] w (Gives (.tuple #[.string ⟨(Sp.textS n d).1.toArray⟩, .int .i64 (Sp.textS n d).2]) w) := by
  have ck := fun w => fcheck_any n d n0 n1 d0 d1 w
  unfold Sp.textS
  by_cases h : Sp.fchk n d = 0
  · rw [if_neg (by omega)]
    rw [h] at ck
    by_cases c : d = 1
    · rw [if_pos c]
      exact ftx_one n d _ c w ck (fun W B => itoa_gives n n0 n1 W (tab_below gPow ht B) _ rfl)
    · rw [if_neg c]
      have := ftx_two n d _ _ c (itoa_size n n0 n1) (itoa_size d d0 d1) w ck (fun W B => itoa_gives n n0 n1 W (tab_below gPow ht B) _ rfl) (fun W B => itoa_gives d d0 d1 W (tab_below gPow ht B) _ rfl)
      rw [cat_mk] at this
      exact this
  · rw [if_pos h]
    exact ftx_bad n d _ h w ck
theorem rtext_any (n d : Int) (n0 : -9223372036854775808 ≤ n) (n1 : n ≤ 9223372036854775807) (d0 : -9223372036854775808 ≤ d) (d1 : d ≤ 9223372036854775807) (w : World) (ht : Lib.TabIs Tryd.prog w "internal/strconv.uint64pow10" .u64 Lib.pow10Tab) :
    Calls Tryd.prog 38 #[.agg #[.int .i64 n, .int .i64 d]] w (Gives (.tuple #[.string ⟨(Sp.textS n d).1.toArray⟩, .int .i64 (Sp.textS n d).2]) w) := by
  have ck := fun w => rfcheck_any n d n0 n1 d0 d1 w
  unfold Sp.textS
  by_cases h : Sp.fchk n d = 0
  · rw [if_neg (by omega)]
    rw [h] at ck
    by_cases c : d = 1
    · rw [if_pos c]
      exact rtx_one n d _ c w ck (fun W B => itoa_gives n n0 n1 W (tab_below gPow ht B) _ rfl)
    · rw [if_neg c]
      have := rtx_two n d _ _ c (itoa_size n n0 n1) (itoa_size d d0 d1) w ck (fun W B => itoa_gives n n0 n1 W (tab_below gPow ht B) _ rfl) (fun W B => itoa_gives d d0 d1 W (tab_below gPow ht B) _ rfl)
      rw [cat_mk] at this
      exact this
  · rw [if_pos h]
    exact rtx_bad n d _ h w ck
end Go.Proofs.YtjbnejhpfknfcaaDoor
