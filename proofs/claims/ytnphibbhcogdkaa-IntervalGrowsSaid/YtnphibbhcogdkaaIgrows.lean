/-
  IntervalGrows: the walk, and its numbers.
-/
import Derived.Test.YtnphibbhcogdkaaIenclosesany
import Derived.Deep.DeepCutAuto
namespace Go.Proofs.Ytnphibbhcogdkaa
open Go.RowKit
set_option linter.unusedVariables false
set_option linter.unusedSimpArgs false

def Box (wx : World) (k : Nat) (x y : Int) : Prop := k < wx.heap.size ∧ wx.cell? ⟨k, 0, none⟩ = some (.int .i64 x) ∧ wx.cell? ⟨k, 1, none⟩ = some (.int .i64 y)
def BoxF (wx : World) (k : Nat) (x y : Int) : Prop := k < wx.heap.size ∧ wx.cell? ⟨k, 0, none⟩ = some (.int .i64 x) ∧ wx.cell? ⟨k, 1, none⟩ = some (.int .i64 y) ∧ ∀ o, wx.frozen? ⟨k, o, none⟩ = false
/-- Where the ways of a comparison meet: it found nothing, and all boxes lie as they lay. -/
def GrRel (w : World) (a b c d n q il ih x0 x1 y0 y1 : Int) (k7 k9 kb : Nat) (v : Value) (wx : World) : Prop :=
  v = .bool false ∧ Box wx w.heap.size a b ∧ Box wx (w.heap.size + 1) c d ∧ Box wx (w.heap.size + 1 + 1) n q ∧ Box wx k7 il ih ∧ BoxF wx k9 x0 x1 ∧ BoxF wx kb y0 y1 ∧ Below w.heap.size w wx
set_option maxRecDepth 100000 in
set_option maxHeartbeats 4000000 in
theorem grows_out (a b c d n q il ih e : Int) (w : World) (he : (e != 0) = true)
    (mt : ∀ w : World, Calls Try.prog 62 #[.agg #[.int .i64 a, .int .i64 b], .agg #[.int .i64 c, .int .i64 d]] w (Gives (.tuple #[.agg #[.int .i64 il, .int .i64 ih], .int .i64 e]) w)) :
    Calls Try.prog 14 #[.agg #[.int .i64 a, .int .i64 b], .agg #[.int .i64 c, .int .i64 d], .agg #[.int .i64 n, .int .i64 q]] w (Gives (.bool true) w) := by
  go_enter Try.func14, Try.ntmps14
  go_wp2_with fail
  refine (mt _).mono ?_; rintro e u1 ⟨rfl, hb⟩
  have BN : Below w.heap.size w u1 := by repeat' (first | (with_reducible exact Below.refl _ _) | (with_reducible refine Below.alloc ?_ ?_ _) | (with_reducible refine Below.setCell ?_ ?_ _) | (with_reducible refine Below.drew ?_) | (with_reducible refine Below.trans ?_ (Below.mono (by assumption) ?_)) | (simp; done) | (simp; omega) | omega)
  have BH := hid BN
  have hsz := BN.size
  clear BN hb
  go_wp2_with fail
  refine (iawake_any _).mono ?_; rintro e u2 ⟨rfl, hb⟩
  have BB := BH.out
  have BN : Below w.heap.size w u2 := by repeat' (first | (with_reducible exact Below.refl _ _) | (with_reducible refine Below.alloc ?_ ?_ _) | (with_reducible refine Below.setCell ?_ ?_ _) | (with_reducible refine Below.drew ?_) | (with_reducible refine Below.trans ?_ (Below.mono (by assumption) ?_)) | (simp; done) | (simp; omega) | omega)
  clear BB BH hsz
  have BH := hid BN
  have hsz := BN.size
  clear BN hb
  go_wp2_with fail
  go_ret
  have BB := BH.out
  exact Gives.mk rfl (by repeat' (first | (with_reducible exact Below.refl _ _) | (with_reducible refine Below.alloc ?_ ?_ _) | (with_reducible refine Below.setCell ?_ ?_ _) | (with_reducible refine Below.drew ?_) | (with_reducible refine Below.trans ?_ (Below.mono (by assumption) ?_)) | (simp; done) | (simp; omega) | omega))
set_option maxRecDepth 100000 in
set_option maxHeartbeats 8000000 in
theorem grows_walk (a b c d n q il ih s1l s1h e1 t1l t1h f1 s2l s2h e2 t2l t2h f2 s3l s3h e3 t3l t3h f3 s4l s4h t4l t4h : Int) (w : World)
    (mt : ∀ w : World, Calls Try.prog 62 #[.agg #[.int .i64 a, .int .i64 b], .agg #[.int .i64 c, .int .i64 d]] w (Gives (.tuple #[.agg #[.int .i64 il, .int .i64 ih], .int .i64 0]) w))
    (g1 : ∀ w : World, Calls Try.prog 47 #[.agg #[.int .i64 il, .int .i64 ih], .agg #[.int .i64 c, .int .i64 d]] w (Gives (.tuple #[.agg #[.int .i64 s1l, .int .i64 s1h], .int .i64 e1]) w))
    (h1 : ∀ w : World, Calls Try.prog 47 #[.agg #[.int .i64 a, .int .i64 b], .agg #[.int .i64 c, .int .i64 d]] w (Gives (.tuple #[.agg #[.int .i64 t1l, .int .i64 t1h], .int .i64 f1]) w))
    (g2 : ∀ w : World, Calls Try.prog 49 #[.agg #[.int .i64 il, .int .i64 ih], .agg #[.int .i64 c, .int .i64 d]] w (Gives (.tuple #[.agg #[.int .i64 s2l, .int .i64 s2h], .int .i64 e2]) w))
    (h2 : ∀ w : World, Calls Try.prog 49 #[.agg #[.int .i64 a, .int .i64 b], .agg #[.int .i64 c, .int .i64 d]] w (Gives (.tuple #[.agg #[.int .i64 t2l, .int .i64 t2h], .int .i64 f2]) w))
    (g3 : ∀ w : World, Calls Try.prog 56 #[.agg #[.int .i64 il, .int .i64 ih], .agg #[.int .i64 n, .int .i64 q]] w (Gives (.tuple #[.agg #[.int .i64 s3l, .int .i64 s3h], .int .i64 e3]) w))
    (h3 : ∀ w : World, Calls Try.prog 56 #[.agg #[.int .i64 a, .int .i64 b], .agg #[.int .i64 n, .int .i64 q]] w (Gives (.tuple #[.agg #[.int .i64 t3l, .int .i64 t3h], .int .i64 f3]) w))
    (g4 : ∀ w : World, Calls Try.prog 51 #[.agg #[.int .i64 il, .int .i64 ih]] w (Gives (.tuple #[.agg #[.int .i64 s4l, .int .i64 s4h], .int .i64 0]) w))
    (h4 : ∀ w : World, Calls Try.prog 51 #[.agg #[.int .i64 a, .int .i64 b]] w (Gives (.tuple #[.agg #[.int .i64 t4l, .int .i64 t4h], .int .i64 0]) w))
    (w1 : f1 = 0 → ∀ w : World, Calls Try.prog 66 #[.agg #[.int .i64 s1l, .int .i64 s1h], .agg #[.int .i64 t1l, .int .i64 t1h]] w (Gives (.bool true) w))
    (w2 : f2 = 0 → ∀ w : World, Calls Try.prog 66 #[.agg #[.int .i64 s2l, .int .i64 s2h], .agg #[.int .i64 t2l, .int .i64 t2h]] w (Gives (.bool true) w))
    (w3 : f3 = 0 → ∀ w : World, Calls Try.prog 66 #[.agg #[.int .i64 s3l, .int .i64 s3h], .agg #[.int .i64 t3l, .int .i64 t3h]] w (Gives (.bool true) w))
    (w4 : ∀ w : World, Calls Try.prog 66 #[.agg #[.int .i64 s4l, .int .i64 s4h], .agg #[.int .i64 t4l, .int .i64 t4h]] w (Gives (.bool true) w))
    (w5 : ∀ w : World, Calls Try.prog 66 #[.agg #[.int .i64 il, .int .i64 ih], .agg #[.int .i64 a, .int .i64 b]] w (Gives (.bool true) w))
    (w6 : ∀ w : World, Calls Try.prog 66 #[.agg #[.int .i64 il, .int .i64 ih], .agg #[.int .i64 c, .int .i64 d]] w (Gives (.bool true) w))
    (q1 : (f1 = 0 ∧ e1 = 0) ∨ (f1 == 0) = false) (q2 : (f2 = 0 ∧ e2 = 0) ∨ (f2 == 0) = false) (q3 : (f3 = 0 ∧ e3 = 0) ∨ (f3 == 0) = false) :
    Calls Try.prog 14 #[.agg #[.int .i64 a, .int .i64 b], .agg #[.int .i64 c, .int .i64 d], .agg #[.int .i64 n, .int .i64 q]] w (Gives (.bool true) w) := by
  have Q1 := hid q1
  have Q2 := hid q2
  have Q3 := hid q3
  have V1 := hid w1
  have V2 := hid w2
  have V3 := hid w3
  clear q1 q2 q3 w1 w2 w3
  go_enter Try.func14, Try.ntmps14
  go_wp2_with fail
  refine (mt _).mono ?_; rintro e u1 ⟨rfl, hb⟩
  have BN : Below w.heap.size w u1 := by repeat' (first | (with_reducible exact Below.refl _ _) | (with_reducible refine Below.alloc ?_ ?_ _) | (with_reducible refine Below.setCell ?_ ?_ _) | (with_reducible refine Below.drew ?_) | (with_reducible refine Below.trans ?_ (Below.mono (by assumption) ?_)) | (simp; done) | (simp; omega) | omega)
  have pabz : w.heap.size < (u1).heap.size := Nat.lt_of_lt_of_le (show w.heap.size < _ from (by first | assumption | (simp; done) | (simp; omega) | (dsimp only; omega) | omega)) hb.size; have pab0 : (u1).cell? ⟨w.heap.size, 0, none⟩ = some (.int .i64 (a)) := (hb.cell (p := ⟨w.heap.size, 0, none⟩) (by first | assumption | (simp; done) | (simp; omega) | (dsimp only; omega) | omega)).trans (by first | assumption | (simp [go_sem]; done) | (simp [go_sem, *]; done)); have pab1 : (u1).cell? ⟨w.heap.size, 1, none⟩ = some (.int .i64 (b)) := (hb.cell (p := ⟨w.heap.size, 1, none⟩) (by first | assumption | (simp; done) | (simp; omega) | (dsimp only; omega) | omega)).trans (by first | assumption | (simp [go_sem]; done) | (simp [go_sem, *]; done))
  have pbbz : w.heap.size + 1 < (u1).heap.size := Nat.lt_of_lt_of_le (show w.heap.size + 1 < _ from (by first | assumption | (simp; done) | (simp; omega) | (dsimp only; omega) | omega)) hb.size; have pbb0 : (u1).cell? ⟨w.heap.size + 1, 0, none⟩ = some (.int .i64 (c)) := (hb.cell (p := ⟨w.heap.size + 1, 0, none⟩) (by first | assumption | (simp; done) | (simp; omega) | (dsimp only; omega) | omega)).trans (by first | assumption | (simp [go_sem]; done) | (simp [go_sem, *]; done)); have pbb1 : (u1).cell? ⟨w.heap.size + 1, 1, none⟩ = some (.int .i64 (d)) := (hb.cell (p := ⟨w.heap.size + 1, 1, none⟩) (by first | assumption | (simp; done) | (simp; omega) | (dsimp only; omega) | omega)).trans (by first | assumption | (simp [go_sem]; done) | (simp [go_sem, *]; done))
  have pfbz : w.heap.size + 1 + 1 < (u1).heap.size := Nat.lt_of_lt_of_le (show w.heap.size + 1 + 1 < _ from (by first | assumption | (simp; done) | (simp; omega) | (dsimp only; omega) | omega)) hb.size; have pfb0 : (u1).cell? ⟨w.heap.size + 1 + 1, 0, none⟩ = some (.int .i64 (n)) := (hb.cell (p := ⟨w.heap.size + 1 + 1, 0, none⟩) (by first | assumption | (simp; done) | (simp; omega) | (dsimp only; omega) | omega)).trans (by first | assumption | (simp [go_sem]; done) | (simp [go_sem, *]; done)); have pfb1 : (u1).cell? ⟨w.heap.size + 1 + 1, 1, none⟩ = some (.int .i64 (q)) := (hb.cell (p := ⟨w.heap.size + 1 + 1, 1, none⟩) (by first | assumption | (simp; done) | (simp; omega) | (dsimp only; omega) | omega)).trans (by first | assumption | (simp [go_sem]; done) | (simp [go_sem, *]; done))
  have BH := hid BN
  have hsz := BN.size
  clear BN hb
  go_wp2_with fail
  refine (g1 _).mono ?_; rintro e u2 ⟨rfl, hb⟩
  have BB := BH.out
  have BN : Below w.heap.size w u2 := by repeat' (first | (with_reducible exact Below.refl _ _) | (with_reducible refine Below.alloc ?_ ?_ _) | (with_reducible refine Below.setCell ?_ ?_ _) | (with_reducible refine Below.drew ?_) | (with_reducible refine Below.trans ?_ (Below.mono (by assumption) ?_)) | (simp; done) | (simp; omega) | omega)
  have paaz : w.heap.size < (u2).heap.size := Nat.lt_of_lt_of_le (show w.heap.size < _ from (by first | assumption | (simp; done) | (simp; omega) | (dsimp only; omega) | omega)) hb.size; have paa0 : (u2).cell? ⟨w.heap.size, 0, none⟩ = some (.int .i64 (a)) := (hb.cell (p := ⟨w.heap.size, 0, none⟩) (by first | assumption | (simp; done) | (simp; omega) | (dsimp only; omega) | omega)).trans (by first | assumption | (simp [go_sem]; done) | (simp [go_sem, *]; done)); have paa1 : (u2).cell? ⟨w.heap.size, 1, none⟩ = some (.int .i64 (b)) := (hb.cell (p := ⟨w.heap.size, 1, none⟩) (by first | assumption | (simp; done) | (simp; omega) | (dsimp only; omega) | omega)).trans (by first | assumption | (simp [go_sem]; done) | (simp [go_sem, *]; done))
  have pbaz : w.heap.size + 1 < (u2).heap.size := Nat.lt_of_lt_of_le (show w.heap.size + 1 < _ from (by first | assumption | (simp; done) | (simp; omega) | (dsimp only; omega) | omega)) hb.size; have pba0 : (u2).cell? ⟨w.heap.size + 1, 0, none⟩ = some (.int .i64 (c)) := (hb.cell (p := ⟨w.heap.size + 1, 0, none⟩) (by first | assumption | (simp; done) | (simp; omega) | (dsimp only; omega) | omega)).trans (by first | assumption | (simp [go_sem]; done) | (simp [go_sem, *]; done)); have pba1 : (u2).cell? ⟨w.heap.size + 1, 1, none⟩ = some (.int .i64 (d)) := (hb.cell (p := ⟨w.heap.size + 1, 1, none⟩) (by first | assumption | (simp; done) | (simp; omega) | (dsimp only; omega) | omega)).trans (by first | assumption | (simp [go_sem]; done) | (simp [go_sem, *]; done))
  have pfaz : w.heap.size + 1 + 1 < (u2).heap.size := Nat.lt_of_lt_of_le (show w.heap.size + 1 + 1 < _ from (by first | assumption | (simp; done) | (simp; omega) | (dsimp only; omega) | omega)) hb.size; have pfa0 : (u2).cell? ⟨w.heap.size + 1 + 1, 0, none⟩ = some (.int .i64 (n)) := (hb.cell (p := ⟨w.heap.size + 1 + 1, 0, none⟩) (by first | assumption | (simp; done) | (simp; omega) | (dsimp only; omega) | omega)).trans (by first | assumption | (simp [go_sem]; done) | (simp [go_sem, *]; done)); have pfa1 : (u2).cell? ⟨w.heap.size + 1 + 1, 1, none⟩ = some (.int .i64 (q)) := (hb.cell (p := ⟨w.heap.size + 1 + 1, 1, none⟩) (by first | assumption | (simp; done) | (simp; omega) | (dsimp only; omega) | omega)).trans (by first | assumption | (simp [go_sem]; done) | (simp [go_sem, *]; done))
  have t7az : u1.heap.size < (u2).heap.size := Nat.lt_of_lt_of_le (show u1.heap.size < _ from (by first | assumption | (simp; done) | (simp; omega) | (dsimp only; omega) | omega)) hb.size; have t7a0 : (u2).cell? ⟨u1.heap.size, 0, none⟩ = some (.int .i64 (il)) := (hb.cell (p := ⟨u1.heap.size, 0, none⟩) (by first | assumption | (simp; done) | (simp; omega) | (dsimp only; omega) | omega)).trans (by first | assumption | (simp [go_sem]; done) | (simp [go_sem, *]; done)); have t7a1 : (u2).cell? ⟨u1.heap.size, 1, none⟩ = some (.int .i64 (ih)) := (hb.cell (p := ⟨u1.heap.size, 1, none⟩) (by first | assumption | (simp; done) | (simp; omega) | (dsimp only; omega) | omega)).trans (by first | assumption | (simp [go_sem]; done) | (simp [go_sem, *]; done))
  clear BB BH hsz
  clear pabz pab0 pab1 pbbz pbb0 pbb1 pfbz pfb0 pfb1
  have BH := hid BN
  have hsz := BN.size
  clear BN hb
  have npat9 : ¬ w.heap.size = u2.heap.size := by omega
  have mpat9 : ¬ u2.heap.size = w.heap.size := by omega
  have npbt9 : ¬ w.heap.size + 1 = u2.heap.size := by omega
  have mpbt9 : ¬ u2.heap.size = w.heap.size + 1 := by omega
  have npft9 : ¬ w.heap.size + 1 + 1 = u2.heap.size := by omega
  have mpft9 : ¬ u2.heap.size = w.heap.size + 1 + 1 := by omega
  have nt7t9 : ¬ u1.heap.size = u2.heap.size := by omega
  have mt7t9 : ¬ u2.heap.size = u1.heap.size := by omega
  have gt9 : w.heap.size ≤ u2.heap.size := by omega
  go_wp2_with fail
  refine (h1 _).mono ?_; rintro e u3 ⟨rfl, hb⟩
  have BB := BH.out
  have BN : Below w.heap.size w u3 := by repeat' (first | (with_reducible exact Below.refl _ _) | (with_reducible refine Below.alloc ?_ ?_ _) | (with_reducible refine Below.setCell ?_ ?_ _) | (with_reducible refine Below.drew ?_) | (with_reducible refine Below.trans ?_ (Below.mono (by assumption) ?_)) | (simp; done) | (simp; omega) | omega)
  have pabz : w.heap.size < (u3).heap.size := Nat.lt_of_lt_of_le (show w.heap.size < _ from (by first | assumption | (simp; done) | (simp; omega) | (dsimp only; omega) | omega)) hb.size; have pab0 : (u3).cell? ⟨w.heap.size, 0, none⟩ = some (.int .i64 (a)) := (hb.cell (p := ⟨w.heap.size, 0, none⟩) (by first | assumption | (simp; done) | (simp; omega) | (dsimp only; omega) | omega)).trans (by first | assumption | (simp [go_sem]; done) | (simp [go_sem, *]; done)); have pab1 : (u3).cell? ⟨w.heap.size, 1, none⟩ = some (.int .i64 (b)) := (hb.cell (p := ⟨w.heap.size, 1, none⟩) (by first | assumption | (simp; done) | (simp; omega) | (dsimp only; omega) | omega)).trans (by first | assumption | (simp [go_sem]; done) | (simp [go_sem, *]; done))
  have pbbz : w.heap.size + 1 < (u3).heap.size := Nat.lt_of_lt_of_le (show w.heap.size + 1 < _ from (by first | assumption | (simp; done) | (simp; omega) | (dsimp only; omega) | omega)) hb.size; have pbb0 : (u3).cell? ⟨w.heap.size + 1, 0, none⟩ = some (.int .i64 (c)) := (hb.cell (p := ⟨w.heap.size + 1, 0, none⟩) (by first | assumption | (simp; done) | (simp; omega) | (dsimp only; omega) | omega)).trans (by first | assumption | (simp [go_sem]; done) | (simp [go_sem, *]; done)); have pbb1 : (u3).cell? ⟨w.heap.size + 1, 1, none⟩ = some (.int .i64 (d)) := (hb.cell (p := ⟨w.heap.size + 1, 1, none⟩) (by first | assumption | (simp; done) | (simp; omega) | (dsimp only; omega) | omega)).trans (by first | assumption | (simp [go_sem]; done) | (simp [go_sem, *]; done))
  have pfbz : w.heap.size + 1 + 1 < (u3).heap.size := Nat.lt_of_lt_of_le (show w.heap.size + 1 + 1 < _ from (by first | assumption | (simp; done) | (simp; omega) | (dsimp only; omega) | omega)) hb.size; have pfb0 : (u3).cell? ⟨w.heap.size + 1 + 1, 0, none⟩ = some (.int .i64 (n)) := (hb.cell (p := ⟨w.heap.size + 1 + 1, 0, none⟩) (by first | assumption | (simp; done) | (simp; omega) | (dsimp only; omega) | omega)).trans (by first | assumption | (simp [go_sem]; done) | (simp [go_sem, *]; done)); have pfb1 : (u3).cell? ⟨w.heap.size + 1 + 1, 1, none⟩ = some (.int .i64 (q)) := (hb.cell (p := ⟨w.heap.size + 1 + 1, 1, none⟩) (by first | assumption | (simp; done) | (simp; omega) | (dsimp only; omega) | omega)).trans (by first | assumption | (simp [go_sem]; done) | (simp [go_sem, *]; done))
  have t7bz : u1.heap.size < (u3).heap.size := Nat.lt_of_lt_of_le (show u1.heap.size < _ from (by first | assumption | (simp; done) | (simp; omega) | (dsimp only; omega) | omega)) hb.size; have t7b0 : (u3).cell? ⟨u1.heap.size, 0, none⟩ = some (.int .i64 (il)) := (hb.cell (p := ⟨u1.heap.size, 0, none⟩) (by first | assumption | (simp; done) | (simp; omega) | (dsimp only; omega) | omega)).trans (by first | assumption | (simp [go_sem]; done) | (simp [go_sem, *]; done)); have t7b1 : (u3).cell? ⟨u1.heap.size, 1, none⟩ = some (.int .i64 (ih)) := (hb.cell (p := ⟨u1.heap.size, 1, none⟩) (by first | assumption | (simp; done) | (simp; omega) | (dsimp only; omega) | omega)).trans (by first | assumption | (simp [go_sem]; done) | (simp [go_sem, *]; done))
  have t9bz : u2.heap.size < (u3).heap.size := Nat.lt_of_lt_of_le (show u2.heap.size < _ from (by first | assumption | (simp; done) | (simp; omega) | (dsimp only; omega) | omega)) hb.size; have t9b0 : (u3).cell? ⟨u2.heap.size, 0, none⟩ = some (.int .i64 (s1l)) := (hb.cell (p := ⟨u2.heap.size, 0, none⟩) (by first | assumption | (simp; done) | (simp; omega) | (dsimp only; omega) | omega)).trans (by first | assumption | (simp [go_sem]; done) | (simp [go_sem, *]; done)); have t9b1 : (u3).cell? ⟨u2.heap.size, 1, none⟩ = some (.int .i64 (s1h)) := (hb.cell (p := ⟨u2.heap.size, 1, none⟩) (by first | assumption | (simp; done) | (simp; omega) | (dsimp only; omega) | omega)).trans (by first | assumption | (simp [go_sem]; done) | (simp [go_sem, *]; done)); have t9bf : ∀ o, (u3).frozen? ⟨u2.heap.size, o, none⟩ = false := fun o => (hb.frozen (p := ⟨u2.heap.size, o, none⟩) (by first | assumption | (simp; done) | (simp; omega) | (dsimp only; omega) | omega)).trans (by first | (simp [go_sem]; done) | (simp [go_sem, *]; done))
  clear BB BH hsz
  clear paaz paa0 paa1 pbaz pba0 pba1 pfaz pfa0 pfa1 t7az t7a0 t7a1
  have BH := hid BN
  have hsz := BN.size
  clear BN hb
  have npatb : ¬ w.heap.size = u3.heap.size := by omega
  have mpatb : ¬ u3.heap.size = w.heap.size := by omega
  have npbtb : ¬ w.heap.size + 1 = u3.heap.size := by omega
  have mpbtb : ¬ u3.heap.size = w.heap.size + 1 := by omega
  have npftb : ¬ w.heap.size + 1 + 1 = u3.heap.size := by omega
  have mpftb : ¬ u3.heap.size = w.heap.size + 1 + 1 := by omega
  have nt7tb : ¬ u1.heap.size = u3.heap.size := by omega
  have mt7tb : ¬ u3.heap.size = u1.heap.size := by omega
  have nt9tb : ¬ u2.heap.size = u3.heap.size := by omega
  have mt9tb : ¬ u3.heap.size = u2.heap.size := by omega
  have gtb : w.heap.size ≤ u3.heap.size := by omega
  go_upto_region 6 with fail
  go_cut [45] (fun v wx => GrRel w a b c d n q il ih s1l s1h t1l t1h u1.heap.size u2.heap.size u3.heap.size v wx)
  case first =>
    rcases Q1.out with ⟨rfl, rfl⟩ | hf1
    · have wx := V1.out rfl
      go_wp2_with fail
      refine (wx _).mono ?_; rintro e u4 ⟨rfl, hb⟩
      have BB := BH.out
      have BN : Below w.heap.size w u4 := by repeat' (first | (with_reducible exact Below.refl _ _) | (with_reducible refine Below.alloc ?_ ?_ _) | (with_reducible refine Below.setCell ?_ ?_ _) | (with_reducible refine Below.drew ?_) | (with_reducible refine Below.trans ?_ (Below.mono (by assumption) ?_)) | (simp; done) | (simp; omega) | omega)
      have paaz : w.heap.size < (u4).heap.size := Nat.lt_of_lt_of_le (show w.heap.size < _ from (by first | assumption | (simp; done) | (simp; omega) | (dsimp only; omega) | omega)) hb.size; have paa0 : (u4).cell? ⟨w.heap.size, 0, none⟩ = some (.int .i64 (a)) := (hb.cell (p := ⟨w.heap.size, 0, none⟩) (by first | assumption | (simp; done) | (simp; omega) | (dsimp only; omega) | omega)).trans (by first | assumption | (simp [go_sem]; done) | (simp [go_sem, *]; done)); have paa1 : (u4).cell? ⟨w.heap.size, 1, none⟩ = some (.int .i64 (b)) := (hb.cell (p := ⟨w.heap.size, 1, none⟩) (by first | assumption | (simp; done) | (simp; omega) | (dsimp only; omega) | omega)).trans (by first | assumption | (simp [go_sem]; done) | (simp [go_sem, *]; done))
      have pbaz : w.heap.size + 1 < (u4).heap.size := Nat.lt_of_lt_of_le (show w.heap.size + 1 < _ from (by first | assumption | (simp; done) | (simp; omega) | (dsimp only; omega) | omega)) hb.size; have pba0 : (u4).cell? ⟨w.heap.size + 1, 0, none⟩ = some (.int .i64 (c)) := (hb.cell (p := ⟨w.heap.size + 1, 0, none⟩) (by first | assumption | (simp; done) | (simp; omega) | (dsimp only; omega) | omega)).trans (by first | assumption | (simp [go_sem]; done) | (simp [go_sem, *]; done)); have pba1 : (u4).cell? ⟨w.heap.size + 1, 1, none⟩ = some (.int .i64 (d)) := (hb.cell (p := ⟨w.heap.size + 1, 1, none⟩) (by first | assumption | (simp; done) | (simp; omega) | (dsimp only; omega) | omega)).trans (by first | assumption | (simp [go_sem]; done) | (simp [go_sem, *]; done))
      have pfaz : w.heap.size + 1 + 1 < (u4).heap.size := Nat.lt_of_lt_of_le (show w.heap.size + 1 + 1 < _ from (by first | assumption | (simp; done) | (simp; omega) | (dsimp only; omega) | omega)) hb.size; have pfa0 : (u4).cell? ⟨w.heap.size + 1 + 1, 0, none⟩ = some (.int .i64 (n)) := (hb.cell (p := ⟨w.heap.size + 1 + 1, 0, none⟩) (by first | assumption | (simp; done) | (simp; omega) | (dsimp only; omega) | omega)).trans (by first | assumption | (simp [go_sem]; done) | (simp [go_sem, *]; done)); have pfa1 : (u4).cell? ⟨w.heap.size + 1 + 1, 1, none⟩ = some (.int .i64 (q)) := (hb.cell (p := ⟨w.heap.size + 1 + 1, 1, none⟩) (by first | assumption | (simp; done) | (simp; omega) | (dsimp only; omega) | omega)).trans (by first | assumption | (simp [go_sem]; done) | (simp [go_sem, *]; done))
      have t7az : u1.heap.size < (u4).heap.size := Nat.lt_of_lt_of_le (show u1.heap.size < _ from (by first | assumption | (simp; done) | (simp; omega) | (dsimp only; omega) | omega)) hb.size; have t7a0 : (u4).cell? ⟨u1.heap.size, 0, none⟩ = some (.int .i64 (il)) := (hb.cell (p := ⟨u1.heap.size, 0, none⟩) (by first | assumption | (simp; done) | (simp; omega) | (dsimp only; omega) | omega)).trans (by first | assumption | (simp [go_sem]; done) | (simp [go_sem, *]; done)); have t7a1 : (u4).cell? ⟨u1.heap.size, 1, none⟩ = some (.int .i64 (ih)) := (hb.cell (p := ⟨u1.heap.size, 1, none⟩) (by first | assumption | (simp; done) | (simp; omega) | (dsimp only; omega) | omega)).trans (by first | assumption | (simp [go_sem]; done) | (simp [go_sem, *]; done))
      have t9az : u2.heap.size < (u4).heap.size := Nat.lt_of_lt_of_le (show u2.heap.size < _ from (by first | assumption | (simp; done) | (simp; omega) | (dsimp only; omega) | omega)) hb.size; have t9a0 : (u4).cell? ⟨u2.heap.size, 0, none⟩ = some (.int .i64 (s1l)) := (hb.cell (p := ⟨u2.heap.size, 0, none⟩) (by first | assumption | (simp; done) | (simp; omega) | (dsimp only; omega) | omega)).trans (by first | assumption | (simp [go_sem]; done) | (simp [go_sem, *]; done)); have t9a1 : (u4).cell? ⟨u2.heap.size, 1, none⟩ = some (.int .i64 (s1h)) := (hb.cell (p := ⟨u2.heap.size, 1, none⟩) (by first | assumption | (simp; done) | (simp; omega) | (dsimp only; omega) | omega)).trans (by first | assumption | (simp [go_sem]; done) | (simp [go_sem, *]; done)); have t9af : ∀ o, (u4).frozen? ⟨u2.heap.size, o, none⟩ = false := fun o => (hb.frozen (p := ⟨u2.heap.size, o, none⟩) (by first | assumption | (simp; done) | (simp; omega) | (dsimp only; omega) | omega)).trans (by first | (simp [go_sem]; done) | (simp [go_sem, *]; done))
      have tbaz : u3.heap.size < (u4).heap.size := Nat.lt_of_lt_of_le (show u3.heap.size < _ from (by first | assumption | (simp; done) | (simp; omega) | (dsimp only; omega) | omega)) hb.size; have tba0 : (u4).cell? ⟨u3.heap.size, 0, none⟩ = some (.int .i64 (t1l)) := (hb.cell (p := ⟨u3.heap.size, 0, none⟩) (by first | assumption | (simp; done) | (simp; omega) | (dsimp only; omega) | omega)).trans (by first | assumption | (simp [go_sem]; done) | (simp [go_sem, *]; done)); have tba1 : (u4).cell? ⟨u3.heap.size, 1, none⟩ = some (.int .i64 (t1h)) := (hb.cell (p := ⟨u3.heap.size, 1, none⟩) (by first | assumption | (simp; done) | (simp; omega) | (dsimp only; omega) | omega)).trans (by first | assumption | (simp [go_sem]; done) | (simp [go_sem, *]; done)); have tbaf : ∀ o, (u4).frozen? ⟨u3.heap.size, o, none⟩ = false := fun o => (hb.frozen (p := ⟨u3.heap.size, o, none⟩) (by first | assumption | (simp; done) | (simp; omega) | (dsimp only; omega) | omega)).trans (by first | (simp [go_sem]; done) | (simp [go_sem, *]; done))
      clear BB BH hsz
      clear pabz pab0 pab1 pbbz pbb0 pbb1 pfbz pfb0 pfb1 t7bz t7b0 t7b1 t9bz t9b0 t9b1 t9bf
      have BH := hid BN
      have hsz := BN.size
      clear BN hb
      go_wp2_with fail
      go_meet
      have BB := BH.out
      exact ⟨rfl, ⟨(by first | assumption | (simp; done) | (simp; omega) | (dsimp only; omega) | omega), (by first | assumption | (simp [go_sem]; done) | (simp [go_sem, *]; done)), (by first | assumption | (simp [go_sem]; done) | (simp [go_sem, *]; done))⟩, ⟨(by first | assumption | (simp; done) | (simp; omega) | (dsimp only; omega) | omega), (by first | assumption | (simp [go_sem]; done) | (simp [go_sem, *]; done)), (by first | assumption | (simp [go_sem]; done) | (simp [go_sem, *]; done))⟩, ⟨(by first | assumption | (simp; done) | (simp; omega) | (dsimp only; omega) | omega), (by first | assumption | (simp [go_sem]; done) | (simp [go_sem, *]; done)), (by first | assumption | (simp [go_sem]; done) | (simp [go_sem, *]; done))⟩, ⟨(by first | assumption | (simp; done) | (simp; omega) | (dsimp only; omega) | omega), (by first | assumption | (simp [go_sem]; done) | (simp [go_sem, *]; done)), (by first | assumption | (simp [go_sem]; done) | (simp [go_sem, *]; done))⟩, ⟨(by first | assumption | (simp; done) | (simp; omega) | (dsimp only; omega) | omega), (by first | assumption | (simp [go_sem]; done) | (simp [go_sem, *]; done)), (by first | assumption | (simp [go_sem]; done) | (simp [go_sem, *]; done)), (fun o => by first | (simp [go_sem]; done) | (simp [go_sem, *]; done))⟩, ⟨(by first | assumption | (simp; done) | (simp; omega) | (dsimp only; omega) | omega), (by first | assumption | (simp [go_sem]; done) | (simp [go_sem, *]; done)), (by first | assumption | (simp [go_sem]; done) | (simp [go_sem, *]; done)), (fun o => by first | (simp [go_sem]; done) | (simp [go_sem, *]; done))⟩, by repeat' (first | (with_reducible exact Below.refl _ _) | (with_reducible refine Below.alloc ?_ ?_ _) | (with_reducible refine Below.setCell ?_ ?_ _) | (with_reducible refine Below.drew ?_) | (with_reducible refine Below.trans ?_ (Below.mono (by assumption) ?_)) | (simp; done) | (simp; omega) | omega)⟩
    · go_wp2_with fail
      go_meet
      have BB := BH.out
      exact ⟨rfl, ⟨(by first | assumption | (simp; done) | (simp; omega) | (dsimp only; omega) | omega), (by first | assumption | (simp [go_sem]; done) | (simp [go_sem, *]; done)), (by first | assumption | (simp [go_sem]; done) | (simp [go_sem, *]; done))⟩, ⟨(by first | assumption | (simp; done) | (simp; omega) | (dsimp only; omega) | omega), (by first | assumption | (simp [go_sem]; done) | (simp [go_sem, *]; done)), (by first | assumption | (simp [go_sem]; done) | (simp [go_sem, *]; done))⟩, ⟨(by first | assumption | (simp; done) | (simp; omega) | (dsimp only; omega) | omega), (by first | assumption | (simp [go_sem]; done) | (simp [go_sem, *]; done)), (by first | assumption | (simp [go_sem]; done) | (simp [go_sem, *]; done))⟩, ⟨(by first | assumption | (simp; done) | (simp; omega) | (dsimp only; omega) | omega), (by first | assumption | (simp [go_sem]; done) | (simp [go_sem, *]; done)), (by first | assumption | (simp [go_sem]; done) | (simp [go_sem, *]; done))⟩, ⟨(by first | assumption | (simp; done) | (simp; omega) | (dsimp only; omega) | omega), (by first | assumption | (simp [go_sem]; done) | (simp [go_sem, *]; done)), (by first | assumption | (simp [go_sem]; done) | (simp [go_sem, *]; done)), (fun o => by first | (simp [go_sem]; done) | (simp [go_sem, *]; done))⟩, ⟨(by first | assumption | (simp; done) | (simp; omega) | (dsimp only; omega) | omega), (by first | assumption | (simp [go_sem]; done) | (simp [go_sem, *]; done)), (by first | assumption | (simp [go_sem]; done) | (simp [go_sem, *]; done)), (fun o => by first | (simp [go_sem]; done) | (simp [go_sem, *]; done))⟩, by repeat' (first | (with_reducible exact Below.refl _ _) | (with_reducible refine Below.alloc ?_ ?_ _) | (with_reducible refine Below.setCell ?_ ?_ _) | (with_reducible refine Below.drew ?_) | (with_reducible refine Below.trans ?_ (Below.mono (by assumption) ?_)) | (simp; done) | (simp; omega) | omega)⟩
  case rest =>
    clear pabz pab0 pab1 pbbz pbb0 pbb1 pfbz pfb0 pfb1 t7bz t7b0 t7b1 t9bz t9b0 t9b1 t9bf BH hsz V1 Q1
    obtain ⟨rfl, ⟨pacz, pac0, pac1⟩, ⟨pbcz, pbc0, pbc1⟩, ⟨pfcz, pfc0, pfc1⟩, ⟨t7cz, t7c0, t7c1⟩, ⟨t9cz, t9c0, t9c1, t9cf⟩, ⟨tbcz, tbc0, tbc1, tbcf⟩, hBw⟩ := hcut
    have BH := hid hBw
    have hsz := hBw.size
    clear hBw
    go_wp2_with fail
    refine (g2 _).mono ?_; rintro e u4 ⟨rfl, hb⟩
    have BB := BH.out
    have BN : Below w.heap.size w u4 := by repeat' (first | (with_reducible exact Below.refl _ _) | (with_reducible refine Below.alloc ?_ ?_ _) | (with_reducible refine Below.setCell ?_ ?_ _) | (with_reducible refine Below.drew ?_) | (with_reducible refine Below.trans ?_ (Below.mono (by assumption) ?_)) | (simp; done) | (simp; omega) | omega)
    have paaz : w.heap.size < (u4).heap.size := Nat.lt_of_lt_of_le (show w.heap.size < _ from (by first | assumption | (simp; done) | (simp; omega) | (dsimp only; omega) | omega)) hb.size; have paa0 : (u4).cell? ⟨w.heap.size, 0, none⟩ = some (.int .i64 (a)) := (hb.cell (p := ⟨w.heap.size, 0, none⟩) (by first | assumption | (simp; done) | (simp; omega) | (dsimp only; omega) | omega)).trans (by first | assumption | (simp [go_sem]; done) | (simp [go_sem, *]; done)); have paa1 : (u4).cell? ⟨w.heap.size, 1, none⟩ = some (.int .i64 (b)) := (hb.cell (p := ⟨w.heap.size, 1, none⟩) (by first | assumption | (simp; done) | (simp; omega) | (dsimp only; omega) | omega)).trans (by first | assumption | (simp [go_sem]; done) | (simp [go_sem, *]; done))
    have pbaz : w.heap.size + 1 < (u4).heap.size := Nat.lt_of_lt_of_le (show w.heap.size + 1 < _ from (by first | assumption | (simp; done) | (simp; omega) | (dsimp only; omega) | omega)) hb.size; have pba0 : (u4).cell? ⟨w.heap.size + 1, 0, none⟩ = some (.int .i64 (c)) := (hb.cell (p := ⟨w.heap.size + 1, 0, none⟩) (by first | assumption | (simp; done) | (simp; omega) | (dsimp only; omega) | omega)).trans (by first | assumption | (simp [go_sem]; done) | (simp [go_sem, *]; done)); have pba1 : (u4).cell? ⟨w.heap.size + 1, 1, none⟩ = some (.int .i64 (d)) := (hb.cell (p := ⟨w.heap.size + 1, 1, none⟩) (by first | assumption | (simp; done) | (simp; omega) | (dsimp only; omega) | omega)).trans (by first | assumption | (simp [go_sem]; done) | (simp [go_sem, *]; done))
    have pfaz : w.heap.size + 1 + 1 < (u4).heap.size := Nat.lt_of_lt_of_le (show w.heap.size + 1 + 1 < _ from (by first | assumption | (simp; done) | (simp; omega) | (dsimp only; omega) | omega)) hb.size; have pfa0 : (u4).cell? ⟨w.heap.size + 1 + 1, 0, none⟩ = some (.int .i64 (n)) := (hb.cell (p := ⟨w.heap.size + 1 + 1, 0, none⟩) (by first | assumption | (simp; done) | (simp; omega) | (dsimp only; omega) | omega)).trans (by first | assumption | (simp [go_sem]; done) | (simp [go_sem, *]; done)); have pfa1 : (u4).cell? ⟨w.heap.size + 1 + 1, 1, none⟩ = some (.int .i64 (q)) := (hb.cell (p := ⟨w.heap.size + 1 + 1, 1, none⟩) (by first | assumption | (simp; done) | (simp; omega) | (dsimp only; omega) | omega)).trans (by first | assumption | (simp [go_sem]; done) | (simp [go_sem, *]; done))
    have t7az : u1.heap.size < (u4).heap.size := Nat.lt_of_lt_of_le (show u1.heap.size < _ from (by first | assumption | (simp; done) | (simp; omega) | (dsimp only; omega) | omega)) hb.size; have t7a0 : (u4).cell? ⟨u1.heap.size, 0, none⟩ = some (.int .i64 (il)) := (hb.cell (p := ⟨u1.heap.size, 0, none⟩) (by first | assumption | (simp; done) | (simp; omega) | (dsimp only; omega) | omega)).trans (by first | assumption | (simp [go_sem]; done) | (simp [go_sem, *]; done)); have t7a1 : (u4).cell? ⟨u1.heap.size, 1, none⟩ = some (.int .i64 (ih)) := (hb.cell (p := ⟨u1.heap.size, 1, none⟩) (by first | assumption | (simp; done) | (simp; omega) | (dsimp only; omega) | omega)).trans (by first | assumption | (simp [go_sem]; done) | (simp [go_sem, *]; done))
    have t9az : u2.heap.size < (u4).heap.size := Nat.lt_of_lt_of_le (show u2.heap.size < _ from (by first | assumption | (simp; done) | (simp; omega) | (dsimp only; omega) | omega)) hb.size; have t9a0 : (u4).cell? ⟨u2.heap.size, 0, none⟩ = some (.int .i64 (s1l)) := (hb.cell (p := ⟨u2.heap.size, 0, none⟩) (by first | assumption | (simp; done) | (simp; omega) | (dsimp only; omega) | omega)).trans (by first | assumption | (simp [go_sem]; done) | (simp [go_sem, *]; done)); have t9a1 : (u4).cell? ⟨u2.heap.size, 1, none⟩ = some (.int .i64 (s1h)) := (hb.cell (p := ⟨u2.heap.size, 1, none⟩) (by first | assumption | (simp; done) | (simp; omega) | (dsimp only; omega) | omega)).trans (by first | assumption | (simp [go_sem]; done) | (simp [go_sem, *]; done)); have t9af : ∀ o, (u4).frozen? ⟨u2.heap.size, o, none⟩ = false := fun o => (hb.frozen (p := ⟨u2.heap.size, o, none⟩) (by first | assumption | (simp; done) | (simp; omega) | (dsimp only; omega) | omega)).trans (by first | (simp [go_sem]; done) | (simp [go_sem, *]; done))
    have tbaz : u3.heap.size < (u4).heap.size := Nat.lt_of_lt_of_le (show u3.heap.size < _ from (by first | assumption | (simp; done) | (simp; omega) | (dsimp only; omega) | omega)) hb.size; have tba0 : (u4).cell? ⟨u3.heap.size, 0, none⟩ = some (.int .i64 (t1l)) := (hb.cell (p := ⟨u3.heap.size, 0, none⟩) (by first | assumption | (simp; done) | (simp; omega) | (dsimp only; omega) | omega)).trans (by first | assumption | (simp [go_sem]; done) | (simp [go_sem, *]; done)); have tba1 : (u4).cell? ⟨u3.heap.size, 1, none⟩ = some (.int .i64 (t1h)) := (hb.cell (p := ⟨u3.heap.size, 1, none⟩) (by first | assumption | (simp; done) | (simp; omega) | (dsimp only; omega) | omega)).trans (by first | assumption | (simp [go_sem]; done) | (simp [go_sem, *]; done)); have tbaf : ∀ o, (u4).frozen? ⟨u3.heap.size, o, none⟩ = false := fun o => (hb.frozen (p := ⟨u3.heap.size, o, none⟩) (by first | assumption | (simp; done) | (simp; omega) | (dsimp only; omega) | omega)).trans (by first | (simp [go_sem]; done) | (simp [go_sem, *]; done))
    clear BB BH hsz
    clear pacz pac0 pac1 pbcz pbc0 pbc1 pfcz pfc0 pfc1 t7cz t7c0 t7c1 t9cz t9c0 t9c1 t9cf tbcz tbc0 tbc1 tbcf
    have BH := hid BN
    have hsz := BN.size
    clear BN hb
    go_wp2_with fail
    refine (h2 _).mono ?_; rintro e u5 ⟨rfl, hb⟩
    have BB := BH.out
    have BN : Below w.heap.size w u5 := by repeat' (first | (with_reducible exact Below.refl _ _) | (with_reducible refine Below.alloc ?_ ?_ _) | (with_reducible refine Below.setCell ?_ ?_ _) | (with_reducible refine Below.drew ?_) | (with_reducible refine Below.trans ?_ (Below.mono (by assumption) ?_)) | (simp; done) | (simp; omega) | omega)
    have pabz : w.heap.size < (u5).heap.size := Nat.lt_of_lt_of_le (show w.heap.size < _ from (by first | assumption | (simp; done) | (simp; omega) | (dsimp only; omega) | omega)) hb.size; have pab0 : (u5).cell? ⟨w.heap.size, 0, none⟩ = some (.int .i64 (a)) := (hb.cell (p := ⟨w.heap.size, 0, none⟩) (by first | assumption | (simp; done) | (simp; omega) | (dsimp only; omega) | omega)).trans (by first | assumption | (simp [go_sem]; done) | (simp [go_sem, *]; done)); have pab1 : (u5).cell? ⟨w.heap.size, 1, none⟩ = some (.int .i64 (b)) := (hb.cell (p := ⟨w.heap.size, 1, none⟩) (by first | assumption | (simp; done) | (simp; omega) | (dsimp only; omega) | omega)).trans (by first | assumption | (simp [go_sem]; done) | (simp [go_sem, *]; done))
    have pbbz : w.heap.size + 1 < (u5).heap.size := Nat.lt_of_lt_of_le (show w.heap.size + 1 < _ from (by first | assumption | (simp; done) | (simp; omega) | (dsimp only; omega) | omega)) hb.size; have pbb0 : (u5).cell? ⟨w.heap.size + 1, 0, none⟩ = some (.int .i64 (c)) := (hb.cell (p := ⟨w.heap.size + 1, 0, none⟩) (by first | assumption | (simp; done) | (simp; omega) | (dsimp only; omega) | omega)).trans (by first | assumption | (simp [go_sem]; done) | (simp [go_sem, *]; done)); have pbb1 : (u5).cell? ⟨w.heap.size + 1, 1, none⟩ = some (.int .i64 (d)) := (hb.cell (p := ⟨w.heap.size + 1, 1, none⟩) (by first | assumption | (simp; done) | (simp; omega) | (dsimp only; omega) | omega)).trans (by first | assumption | (simp [go_sem]; done) | (simp [go_sem, *]; done))
    have pfbz : w.heap.size + 1 + 1 < (u5).heap.size := Nat.lt_of_lt_of_le (show w.heap.size + 1 + 1 < _ from (by first | assumption | (simp; done) | (simp; omega) | (dsimp only; omega) | omega)) hb.size; have pfb0 : (u5).cell? ⟨w.heap.size + 1 + 1, 0, none⟩ = some (.int .i64 (n)) := (hb.cell (p := ⟨w.heap.size + 1 + 1, 0, none⟩) (by first | assumption | (simp; done) | (simp; omega) | (dsimp only; omega) | omega)).trans (by first | assumption | (simp [go_sem]; done) | (simp [go_sem, *]; done)); have pfb1 : (u5).cell? ⟨w.heap.size + 1 + 1, 1, none⟩ = some (.int .i64 (q)) := (hb.cell (p := ⟨w.heap.size + 1 + 1, 1, none⟩) (by first | assumption | (simp; done) | (simp; omega) | (dsimp only; omega) | omega)).trans (by first | assumption | (simp [go_sem]; done) | (simp [go_sem, *]; done))
    have t7bz : u1.heap.size < (u5).heap.size := Nat.lt_of_lt_of_le (show u1.heap.size < _ from (by first | assumption | (simp; done) | (simp; omega) | (dsimp only; omega) | omega)) hb.size; have t7b0 : (u5).cell? ⟨u1.heap.size, 0, none⟩ = some (.int .i64 (il)) := (hb.cell (p := ⟨u1.heap.size, 0, none⟩) (by first | assumption | (simp; done) | (simp; omega) | (dsimp only; omega) | omega)).trans (by first | assumption | (simp [go_sem]; done) | (simp [go_sem, *]; done)); have t7b1 : (u5).cell? ⟨u1.heap.size, 1, none⟩ = some (.int .i64 (ih)) := (hb.cell (p := ⟨u1.heap.size, 1, none⟩) (by first | assumption | (simp; done) | (simp; omega) | (dsimp only; omega) | omega)).trans (by first | assumption | (simp [go_sem]; done) | (simp [go_sem, *]; done))
    have t9bz : u2.heap.size < (u5).heap.size := Nat.lt_of_lt_of_le (show u2.heap.size < _ from (by first | assumption | (simp; done) | (simp; omega) | (dsimp only; omega) | omega)) hb.size; have t9b0 : (u5).cell? ⟨u2.heap.size, 0, none⟩ = some (.int .i64 (s2l)) := (hb.cell (p := ⟨u2.heap.size, 0, none⟩) (by first | assumption | (simp; done) | (simp; omega) | (dsimp only; omega) | omega)).trans (by first | assumption | (simp [go_sem]; done) | (simp [go_sem, *]; done)); have t9b1 : (u5).cell? ⟨u2.heap.size, 1, none⟩ = some (.int .i64 (s2h)) := (hb.cell (p := ⟨u2.heap.size, 1, none⟩) (by first | assumption | (simp; done) | (simp; omega) | (dsimp only; omega) | omega)).trans (by first | assumption | (simp [go_sem]; done) | (simp [go_sem, *]; done)); have t9bf : ∀ o, (u5).frozen? ⟨u2.heap.size, o, none⟩ = false := fun o => (hb.frozen (p := ⟨u2.heap.size, o, none⟩) (by first | assumption | (simp; done) | (simp; omega) | (dsimp only; omega) | omega)).trans (by first | (simp [go_sem]; done) | (simp [go_sem, *]; done))
    have tbbz : u3.heap.size < (u5).heap.size := Nat.lt_of_lt_of_le (show u3.heap.size < _ from (by first | assumption | (simp; done) | (simp; omega) | (dsimp only; omega) | omega)) hb.size; have tbb0 : (u5).cell? ⟨u3.heap.size, 0, none⟩ = some (.int .i64 (t1l)) := (hb.cell (p := ⟨u3.heap.size, 0, none⟩) (by first | assumption | (simp; done) | (simp; omega) | (dsimp only; omega) | omega)).trans (by first | assumption | (simp [go_sem]; done) | (simp [go_sem, *]; done)); have tbb1 : (u5).cell? ⟨u3.heap.size, 1, none⟩ = some (.int .i64 (t1h)) := (hb.cell (p := ⟨u3.heap.size, 1, none⟩) (by first | assumption | (simp; done) | (simp; omega) | (dsimp only; omega) | omega)).trans (by first | assumption | (simp [go_sem]; done) | (simp [go_sem, *]; done)); have tbbf : ∀ o, (u5).frozen? ⟨u3.heap.size, o, none⟩ = false := fun o => (hb.frozen (p := ⟨u3.heap.size, o, none⟩) (by first | assumption | (simp; done) | (simp; omega) | (dsimp only; omega) | omega)).trans (by first | (simp [go_sem]; done) | (simp [go_sem, *]; done))
    clear BB BH hsz
    clear paaz paa0 paa1 pbaz pba0 pba1 pfaz pfa0 pfa1 t7az t7a0 t7a1 t9az t9a0 t9a1 t9af tbaz tba0 tba1 tbaf
    have BH := hid BN
    have hsz := BN.size
    clear BN hb
    go_upto_region 10 with fail
    go_cut [69] (fun v wx => GrRel w a b c d n q il ih s2l s2h t2l t2h u1.heap.size u2.heap.size u3.heap.size v wx)
    case first =>
      rcases Q2.out with ⟨rfl, rfl⟩ | hf2
      · have wx := V2.out rfl
        go_wp2_with fail
        refine (wx _).mono ?_; rintro e u6 ⟨rfl, hb⟩
        have BB := BH.out
        have BN : Below w.heap.size w u6 := by repeat' (first | (with_reducible exact Below.refl _ _) | (with_reducible refine Below.alloc ?_ ?_ _) | (with_reducible refine Below.setCell ?_ ?_ _) | (with_reducible refine Below.drew ?_) | (with_reducible refine Below.trans ?_ (Below.mono (by assumption) ?_)) | (simp; done) | (simp; omega) | omega)
        have paaz : w.heap.size < (u6).heap.size := Nat.lt_of_lt_of_le (show w.heap.size < _ from (by first | assumption | (simp; done) | (simp; omega) | (dsimp only; omega) | omega)) hb.size; have paa0 : (u6).cell? ⟨w.heap.size, 0, none⟩ = some (.int .i64 (a)) := (hb.cell (p := ⟨w.heap.size, 0, none⟩) (by first | assumption | (simp; done) | (simp; omega) | (dsimp only; omega) | omega)).trans (by first | assumption | (simp [go_sem]; done) | (simp [go_sem, *]; done)); have paa1 : (u6).cell? ⟨w.heap.size, 1, none⟩ = some (.int .i64 (b)) := (hb.cell (p := ⟨w.heap.size, 1, none⟩) (by first | assumption | (simp; done) | (simp; omega) | (dsimp only; omega) | omega)).trans (by first | assumption | (simp [go_sem]; done) | (simp [go_sem, *]; done))
        have pbaz : w.heap.size + 1 < (u6).heap.size := Nat.lt_of_lt_of_le (show w.heap.size + 1 < _ from (by first | assumption | (simp; done) | (simp; omega) | (dsimp only; omega) | omega)) hb.size; have pba0 : (u6).cell? ⟨w.heap.size + 1, 0, none⟩ = some (.int .i64 (c)) := (hb.cell (p := ⟨w.heap.size + 1, 0, none⟩) (by first | assumption | (simp; done) | (simp; omega) | (dsimp only; omega) | omega)).trans (by first | assumption | (simp [go_sem]; done) | (simp [go_sem, *]; done)); have pba1 : (u6).cell? ⟨w.heap.size + 1, 1, none⟩ = some (.int .i64 (d)) := (hb.cell (p := ⟨w.heap.size + 1, 1, none⟩) (by first | assumption | (simp; done) | (simp; omega) | (dsimp only; omega) | omega)).trans (by first | assumption | (simp [go_sem]; done) | (simp [go_sem, *]; done))
        have pfaz : w.heap.size + 1 + 1 < (u6).heap.size := Nat.lt_of_lt_of_le (show w.heap.size + 1 + 1 < _ from (by first | assumption | (simp; done) | (simp; omega) | (dsimp only; omega) | omega)) hb.size; have pfa0 : (u6).cell? ⟨w.heap.size + 1 + 1, 0, none⟩ = some (.int .i64 (n)) := (hb.cell (p := ⟨w.heap.size + 1 + 1, 0, none⟩) (by first | assumption | (simp; done) | (simp; omega) | (dsimp only; omega) | omega)).trans (by first | assumption | (simp [go_sem]; done) | (simp [go_sem, *]; done)); have pfa1 : (u6).cell? ⟨w.heap.size + 1 + 1, 1, none⟩ = some (.int .i64 (q)) := (hb.cell (p := ⟨w.heap.size + 1 + 1, 1, none⟩) (by first | assumption | (simp; done) | (simp; omega) | (dsimp only; omega) | omega)).trans (by first | assumption | (simp [go_sem]; done) | (simp [go_sem, *]; done))
        have t7az : u1.heap.size < (u6).heap.size := Nat.lt_of_lt_of_le (show u1.heap.size < _ from (by first | assumption | (simp; done) | (simp; omega) | (dsimp only; omega) | omega)) hb.size; have t7a0 : (u6).cell? ⟨u1.heap.size, 0, none⟩ = some (.int .i64 (il)) := (hb.cell (p := ⟨u1.heap.size, 0, none⟩) (by first | assumption | (simp; done) | (simp; omega) | (dsimp only; omega) | omega)).trans (by first | assumption | (simp [go_sem]; done) | (simp [go_sem, *]; done)); have t7a1 : (u6).cell? ⟨u1.heap.size, 1, none⟩ = some (.int .i64 (ih)) := (hb.cell (p := ⟨u1.heap.size, 1, none⟩) (by first | assumption | (simp; done) | (simp; omega) | (dsimp only; omega) | omega)).trans (by first | assumption | (simp [go_sem]; done) | (simp [go_sem, *]; done))
        have t9az : u2.heap.size < (u6).heap.size := Nat.lt_of_lt_of_le (show u2.heap.size < _ from (by first | assumption | (simp; done) | (simp; omega) | (dsimp only; omega) | omega)) hb.size; have t9a0 : (u6).cell? ⟨u2.heap.size, 0, none⟩ = some (.int .i64 (s2l)) := (hb.cell (p := ⟨u2.heap.size, 0, none⟩) (by first | assumption | (simp; done) | (simp; omega) | (dsimp only; omega) | omega)).trans (by first | assumption | (simp [go_sem]; done) | (simp [go_sem, *]; done)); have t9a1 : (u6).cell? ⟨u2.heap.size, 1, none⟩ = some (.int .i64 (s2h)) := (hb.cell (p := ⟨u2.heap.size, 1, none⟩) (by first | assumption | (simp; done) | (simp; omega) | (dsimp only; omega) | omega)).trans (by first | assumption | (simp [go_sem]; done) | (simp [go_sem, *]; done)); have t9af : ∀ o, (u6).frozen? ⟨u2.heap.size, o, none⟩ = false := fun o => (hb.frozen (p := ⟨u2.heap.size, o, none⟩) (by first | assumption | (simp; done) | (simp; omega) | (dsimp only; omega) | omega)).trans (by first | (simp [go_sem]; done) | (simp [go_sem, *]; done))
        have tbaz : u3.heap.size < (u6).heap.size := Nat.lt_of_lt_of_le (show u3.heap.size < _ from (by first | assumption | (simp; done) | (simp; omega) | (dsimp only; omega) | omega)) hb.size; have tba0 : (u6).cell? ⟨u3.heap.size, 0, none⟩ = some (.int .i64 (t2l)) := (hb.cell (p := ⟨u3.heap.size, 0, none⟩) (by first | assumption | (simp; done) | (simp; omega) | (dsimp only; omega) | omega)).trans (by first | assumption | (simp [go_sem]; done) | (simp [go_sem, *]; done)); have tba1 : (u6).cell? ⟨u3.heap.size, 1, none⟩ = some (.int .i64 (t2h)) := (hb.cell (p := ⟨u3.heap.size, 1, none⟩) (by first | assumption | (simp; done) | (simp; omega) | (dsimp only; omega) | omega)).trans (by first | assumption | (simp [go_sem]; done) | (simp [go_sem, *]; done)); have tbaf : ∀ o, (u6).frozen? ⟨u3.heap.size, o, none⟩ = false := fun o => (hb.frozen (p := ⟨u3.heap.size, o, none⟩) (by first | assumption | (simp; done) | (simp; omega) | (dsimp only; omega) | omega)).trans (by first | (simp [go_sem]; done) | (simp [go_sem, *]; done))
        clear BB BH hsz
        clear pabz pab0 pab1 pbbz pbb0 pbb1 pfbz pfb0 pfb1 t7bz t7b0 t7b1 t9bz t9b0 t9b1 t9bf tbbz tbb0 tbb1 tbbf
        have BH := hid BN
        have hsz := BN.size
        clear BN hb
        go_wp2_with fail
        go_meet
        have BB := BH.out
        exact ⟨rfl, ⟨(by first | assumption | (simp; done) | (simp; omega) | (dsimp only; omega) | omega), (by first | assumption | (simp [go_sem]; done) | (simp [go_sem, *]; done)), (by first | assumption | (simp [go_sem]; done) | (simp [go_sem, *]; done))⟩, ⟨(by first | assumption | (simp; done) | (simp; omega) | (dsimp only; omega) | omega), (by first | assumption | (simp [go_sem]; done) | (simp [go_sem, *]; done)), (by first | assumption | (simp [go_sem]; done) | (simp [go_sem, *]; done))⟩, ⟨(by first | assumption | (simp; done) | (simp; omega) | (dsimp only; omega) | omega), (by first | assumption | (simp [go_sem]; done) | (simp [go_sem, *]; done)), (by first | assumption | (simp [go_sem]; done) | (simp [go_sem, *]; done))⟩, ⟨(by first | assumption | (simp; done) | (simp; omega) | (dsimp only; omega) | omega), (by first | assumption | (simp [go_sem]; done) | (simp [go_sem, *]; done)), (by first | assumption | (simp [go_sem]; done) | (simp [go_sem, *]; done))⟩, ⟨(by first | assumption | (simp; done) | (simp; omega) | (dsimp only; omega) | omega), (by first | assumption | (simp [go_sem]; done) | (simp [go_sem, *]; done)), (by first | assumption | (simp [go_sem]; done) | (simp [go_sem, *]; done)), (fun o => by first | (simp [go_sem]; done) | (simp [go_sem, *]; done))⟩, ⟨(by first | assumption | (simp; done) | (simp; omega) | (dsimp only; omega) | omega), (by first | assumption | (simp [go_sem]; done) | (simp [go_sem, *]; done)), (by first | assumption | (simp [go_sem]; done) | (simp [go_sem, *]; done)), (fun o => by first | (simp [go_sem]; done) | (simp [go_sem, *]; done))⟩, by repeat' (first | (with_reducible exact Below.refl _ _) | (with_reducible refine Below.alloc ?_ ?_ _) | (with_reducible refine Below.setCell ?_ ?_ _) | (with_reducible refine Below.drew ?_) | (with_reducible refine Below.trans ?_ (Below.mono (by assumption) ?_)) | (simp; done) | (simp; omega) | omega)⟩
      · go_wp2_with fail
        go_meet
        have BB := BH.out
        exact ⟨rfl, ⟨(by first | assumption | (simp; done) | (simp; omega) | (dsimp only; omega) | omega), (by first | assumption | (simp [go_sem]; done) | (simp [go_sem, *]; done)), (by first | assumption | (simp [go_sem]; done) | (simp [go_sem, *]; done))⟩, ⟨(by first | assumption | (simp; done) | (simp; omega) | (dsimp only; omega) | omega), (by first | assumption | (simp [go_sem]; done) | (simp [go_sem, *]; done)), (by first | assumption | (simp [go_sem]; done) | (simp [go_sem, *]; done))⟩, ⟨(by first | assumption | (simp; done) | (simp; omega) | (dsimp only; omega) | omega), (by first | assumption | (simp [go_sem]; done) | (simp [go_sem, *]; done)), (by first | assumption | (simp [go_sem]; done) | (simp [go_sem, *]; done))⟩, ⟨(by first | assumption | (simp; done) | (simp; omega) | (dsimp only; omega) | omega), (by first | assumption | (simp [go_sem]; done) | (simp [go_sem, *]; done)), (by first | assumption | (simp [go_sem]; done) | (simp [go_sem, *]; done))⟩, ⟨(by first | assumption | (simp; done) | (simp; omega) | (dsimp only; omega) | omega), (by first | assumption | (simp [go_sem]; done) | (simp [go_sem, *]; done)), (by first | assumption | (simp [go_sem]; done) | (simp [go_sem, *]; done)), (fun o => by first | (simp [go_sem]; done) | (simp [go_sem, *]; done))⟩, ⟨(by first | assumption | (simp; done) | (simp; omega) | (dsimp only; omega) | omega), (by first | assumption | (simp [go_sem]; done) | (simp [go_sem, *]; done)), (by first | assumption | (simp [go_sem]; done) | (simp [go_sem, *]; done)), (fun o => by first | (simp [go_sem]; done) | (simp [go_sem, *]; done))⟩, by repeat' (first | (with_reducible exact Below.refl _ _) | (with_reducible refine Below.alloc ?_ ?_ _) | (with_reducible refine Below.setCell ?_ ?_ _) | (with_reducible refine Below.drew ?_) | (with_reducible refine Below.trans ?_ (Below.mono (by assumption) ?_)) | (simp; done) | (simp; omega) | omega)⟩
    case rest =>
      clear pabz pab0 pab1 pbbz pbb0 pbb1 pfbz pfb0 pfb1 t7bz t7b0 t7b1 t9bz t9b0 t9b1 t9bf tbbz tbb0 tbb1 tbbf BH hsz V2 Q2
      obtain ⟨rfl, ⟨padz, pad0, pad1⟩, ⟨pbdz, pbd0, pbd1⟩, ⟨pfdz, pfd0, pfd1⟩, ⟨t7dz, t7d0, t7d1⟩, ⟨t9dz, t9d0, t9d1, t9df⟩, ⟨tbdz, tbd0, tbd1, tbdf⟩, hBw⟩ := hcut
      have BH := hid hBw
      have hsz := hBw.size
      clear hBw
      go_wp2_with fail
      refine (g3 _).mono ?_; rintro e u6 ⟨rfl, hb⟩
      have BB := BH.out
      have BN : Below w.heap.size w u6 := by repeat' (first | (with_reducible exact Below.refl _ _) | (with_reducible refine Below.alloc ?_ ?_ _) | (with_reducible refine Below.setCell ?_ ?_ _) | (with_reducible refine Below.drew ?_) | (with_reducible refine Below.trans ?_ (Below.mono (by assumption) ?_)) | (simp; done) | (simp; omega) | omega)
      have paaz : w.heap.size < (u6).heap.size := Nat.lt_of_lt_of_le (show w.heap.size < _ from (by first | assumption | (simp; done) | (simp; omega) | (dsimp only; omega) | omega)) hb.size; have paa0 : (u6).cell? ⟨w.heap.size, 0, none⟩ = some (.int .i64 (a)) := (hb.cell (p := ⟨w.heap.size, 0, none⟩) (by first | assumption | (simp; done) | (simp; omega) | (dsimp only; omega) | omega)).trans (by first | assumption | (simp [go_sem]; done) | (simp [go_sem, *]; done)); have paa1 : (u6).cell? ⟨w.heap.size, 1, none⟩ = some (.int .i64 (b)) := (hb.cell (p := ⟨w.heap.size, 1, none⟩) (by first | assumption | (simp; done) | (simp; omega) | (dsimp only; omega) | omega)).trans (by first | assumption | (simp [go_sem]; done) | (simp [go_sem, *]; done))
      have pbaz : w.heap.size + 1 < (u6).heap.size := Nat.lt_of_lt_of_le (show w.heap.size + 1 < _ from (by first | assumption | (simp; done) | (simp; omega) | (dsimp only; omega) | omega)) hb.size; have pba0 : (u6).cell? ⟨w.heap.size + 1, 0, none⟩ = some (.int .i64 (c)) := (hb.cell (p := ⟨w.heap.size + 1, 0, none⟩) (by first | assumption | (simp; done) | (simp; omega) | (dsimp only; omega) | omega)).trans (by first | assumption | (simp [go_sem]; done) | (simp [go_sem, *]; done)); have pba1 : (u6).cell? ⟨w.heap.size + 1, 1, none⟩ = some (.int .i64 (d)) := (hb.cell (p := ⟨w.heap.size + 1, 1, none⟩) (by first | assumption | (simp; done) | (simp; omega) | (dsimp only; omega) | omega)).trans (by first | assumption | (simp [go_sem]; done) | (simp [go_sem, *]; done))
      have pfaz : w.heap.size + 1 + 1 < (u6).heap.size := Nat.lt_of_lt_of_le (show w.heap.size + 1 + 1 < _ from (by first | assumption | (simp; done) | (simp; omega) | (dsimp only; omega) | omega)) hb.size; have pfa0 : (u6).cell? ⟨w.heap.size + 1 + 1, 0, none⟩ = some (.int .i64 (n)) := (hb.cell (p := ⟨w.heap.size + 1 + 1, 0, none⟩) (by first | assumption | (simp; done) | (simp; omega) | (dsimp only; omega) | omega)).trans (by first | assumption | (simp [go_sem]; done) | (simp [go_sem, *]; done)); have pfa1 : (u6).cell? ⟨w.heap.size + 1 + 1, 1, none⟩ = some (.int .i64 (q)) := (hb.cell (p := ⟨w.heap.size + 1 + 1, 1, none⟩) (by first | assumption | (simp; done) | (simp; omega) | (dsimp only; omega) | omega)).trans (by first | assumption | (simp [go_sem]; done) | (simp [go_sem, *]; done))
      have t7az : u1.heap.size < (u6).heap.size := Nat.lt_of_lt_of_le (show u1.heap.size < _ from (by first | assumption | (simp; done) | (simp; omega) | (dsimp only; omega) | omega)) hb.size; have t7a0 : (u6).cell? ⟨u1.heap.size, 0, none⟩ = some (.int .i64 (il)) := (hb.cell (p := ⟨u1.heap.size, 0, none⟩) (by first | assumption | (simp; done) | (simp; omega) | (dsimp only; omega) | omega)).trans (by first | assumption | (simp [go_sem]; done) | (simp [go_sem, *]; done)); have t7a1 : (u6).cell? ⟨u1.heap.size, 1, none⟩ = some (.int .i64 (ih)) := (hb.cell (p := ⟨u1.heap.size, 1, none⟩) (by first | assumption | (simp; done) | (simp; omega) | (dsimp only; omega) | omega)).trans (by first | assumption | (simp [go_sem]; done) | (simp [go_sem, *]; done))
      have t9az : u2.heap.size < (u6).heap.size := Nat.lt_of_lt_of_le (show u2.heap.size < _ from (by first | assumption | (simp; done) | (simp; omega) | (dsimp only; omega) | omega)) hb.size; have t9a0 : (u6).cell? ⟨u2.heap.size, 0, none⟩ = some (.int .i64 (s2l)) := (hb.cell (p := ⟨u2.heap.size, 0, none⟩) (by first | assumption | (simp; done) | (simp; omega) | (dsimp only; omega) | omega)).trans (by first | assumption | (simp [go_sem]; done) | (simp [go_sem, *]; done)); have t9a1 : (u6).cell? ⟨u2.heap.size, 1, none⟩ = some (.int .i64 (s2h)) := (hb.cell (p := ⟨u2.heap.size, 1, none⟩) (by first | assumption | (simp; done) | (simp; omega) | (dsimp only; omega) | omega)).trans (by first | assumption | (simp [go_sem]; done) | (simp [go_sem, *]; done)); have t9af : ∀ o, (u6).frozen? ⟨u2.heap.size, o, none⟩ = false := fun o => (hb.frozen (p := ⟨u2.heap.size, o, none⟩) (by first | assumption | (simp; done) | (simp; omega) | (dsimp only; omega) | omega)).trans (by first | (simp [go_sem]; done) | (simp [go_sem, *]; done))
      have tbaz : u3.heap.size < (u6).heap.size := Nat.lt_of_lt_of_le (show u3.heap.size < _ from (by first | assumption | (simp; done) | (simp; omega) | (dsimp only; omega) | omega)) hb.size; have tba0 : (u6).cell? ⟨u3.heap.size, 0, none⟩ = some (.int .i64 (t2l)) := (hb.cell (p := ⟨u3.heap.size, 0, none⟩) (by first | assumption | (simp; done) | (simp; omega) | (dsimp only; omega) | omega)).trans (by first | assumption | (simp [go_sem]; done) | (simp [go_sem, *]; done)); have tba1 : (u6).cell? ⟨u3.heap.size, 1, none⟩ = some (.int .i64 (t2h)) := (hb.cell (p := ⟨u3.heap.size, 1, none⟩) (by first | assumption | (simp; done) | (simp; omega) | (dsimp only; omega) | omega)).trans (by first | assumption | (simp [go_sem]; done) | (simp [go_sem, *]; done)); have tbaf : ∀ o, (u6).frozen? ⟨u3.heap.size, o, none⟩ = false := fun o => (hb.frozen (p := ⟨u3.heap.size, o, none⟩) (by first | assumption | (simp; done) | (simp; omega) | (dsimp only; omega) | omega)).trans (by first | (simp [go_sem]; done) | (simp [go_sem, *]; done))
      clear BB BH hsz
      clear padz pad0 pad1 pbdz pbd0 pbd1 pfdz pfd0 pfd1 t7dz t7d0 t7d1 t9dz t9d0 t9d1 t9df tbdz tbd0 tbd1 tbdf
      have BH := hid BN
      have hsz := BN.size
      clear BN hb
      go_wp2_with fail
      refine (h3 _).mono ?_; rintro e u7 ⟨rfl, hb⟩
      have BB := BH.out
      have BN : Below w.heap.size w u7 := by repeat' (first | (with_reducible exact Below.refl _ _) | (with_reducible refine Below.alloc ?_ ?_ _) | (with_reducible refine Below.setCell ?_ ?_ _) | (with_reducible refine Below.drew ?_) | (with_reducible refine Below.trans ?_ (Below.mono (by assumption) ?_)) | (simp; done) | (simp; omega) | omega)
      have pabz : w.heap.size < (u7).heap.size := Nat.lt_of_lt_of_le (show w.heap.size < _ from (by first | assumption | (simp; done) | (simp; omega) | (dsimp only; omega) | omega)) hb.size; have pab0 : (u7).cell? ⟨w.heap.size, 0, none⟩ = some (.int .i64 (a)) := (hb.cell (p := ⟨w.heap.size, 0, none⟩) (by first | assumption | (simp; done) | (simp; omega) | (dsimp only; omega) | omega)).trans (by first | assumption | (simp [go_sem]; done) | (simp [go_sem, *]; done)); have pab1 : (u7).cell? ⟨w.heap.size, 1, none⟩ = some (.int .i64 (b)) := (hb.cell (p := ⟨w.heap.size, 1, none⟩) (by first | assumption | (simp; done) | (simp; omega) | (dsimp only; omega) | omega)).trans (by first | assumption | (simp [go_sem]; done) | (simp [go_sem, *]; done))
      have pbbz : w.heap.size + 1 < (u7).heap.size := Nat.lt_of_lt_of_le (show w.heap.size + 1 < _ from (by first | assumption | (simp; done) | (simp; omega) | (dsimp only; omega) | omega)) hb.size; have pbb0 : (u7).cell? ⟨w.heap.size + 1, 0, none⟩ = some (.int .i64 (c)) := (hb.cell (p := ⟨w.heap.size + 1, 0, none⟩) (by first | assumption | (simp; done) | (simp; omega) | (dsimp only; omega) | omega)).trans (by first | assumption | (simp [go_sem]; done) | (simp [go_sem, *]; done)); have pbb1 : (u7).cell? ⟨w.heap.size + 1, 1, none⟩ = some (.int .i64 (d)) := (hb.cell (p := ⟨w.heap.size + 1, 1, none⟩) (by first | assumption | (simp; done) | (simp; omega) | (dsimp only; omega) | omega)).trans (by first | assumption | (simp [go_sem]; done) | (simp [go_sem, *]; done))
      have pfbz : w.heap.size + 1 + 1 < (u7).heap.size := Nat.lt_of_lt_of_le (show w.heap.size + 1 + 1 < _ from (by first | assumption | (simp; done) | (simp; omega) | (dsimp only; omega) | omega)) hb.size; have pfb0 : (u7).cell? ⟨w.heap.size + 1 + 1, 0, none⟩ = some (.int .i64 (n)) := (hb.cell (p := ⟨w.heap.size + 1 + 1, 0, none⟩) (by first | assumption | (simp; done) | (simp; omega) | (dsimp only; omega) | omega)).trans (by first | assumption | (simp [go_sem]; done) | (simp [go_sem, *]; done)); have pfb1 : (u7).cell? ⟨w.heap.size + 1 + 1, 1, none⟩ = some (.int .i64 (q)) := (hb.cell (p := ⟨w.heap.size + 1 + 1, 1, none⟩) (by first | assumption | (simp; done) | (simp; omega) | (dsimp only; omega) | omega)).trans (by first | assumption | (simp [go_sem]; done) | (simp [go_sem, *]; done))
      have t7bz : u1.heap.size < (u7).heap.size := Nat.lt_of_lt_of_le (show u1.heap.size < _ from (by first | assumption | (simp; done) | (simp; omega) | (dsimp only; omega) | omega)) hb.size; have t7b0 : (u7).cell? ⟨u1.heap.size, 0, none⟩ = some (.int .i64 (il)) := (hb.cell (p := ⟨u1.heap.size, 0, none⟩) (by first | assumption | (simp; done) | (simp; omega) | (dsimp only; omega) | omega)).trans (by first | assumption | (simp [go_sem]; done) | (simp [go_sem, *]; done)); have t7b1 : (u7).cell? ⟨u1.heap.size, 1, none⟩ = some (.int .i64 (ih)) := (hb.cell (p := ⟨u1.heap.size, 1, none⟩) (by first | assumption | (simp; done) | (simp; omega) | (dsimp only; omega) | omega)).trans (by first | assumption | (simp [go_sem]; done) | (simp [go_sem, *]; done))
      have t9bz : u2.heap.size < (u7).heap.size := Nat.lt_of_lt_of_le (show u2.heap.size < _ from (by first | assumption | (simp; done) | (simp; omega) | (dsimp only; omega) | omega)) hb.size; have t9b0 : (u7).cell? ⟨u2.heap.size, 0, none⟩ = some (.int .i64 (s3l)) := (hb.cell (p := ⟨u2.heap.size, 0, none⟩) (by first | assumption | (simp; done) | (simp; omega) | (dsimp only; omega) | omega)).trans (by first | assumption | (simp [go_sem]; done) | (simp [go_sem, *]; done)); have t9b1 : (u7).cell? ⟨u2.heap.size, 1, none⟩ = some (.int .i64 (s3h)) := (hb.cell (p := ⟨u2.heap.size, 1, none⟩) (by first | assumption | (simp; done) | (simp; omega) | (dsimp only; omega) | omega)).trans (by first | assumption | (simp [go_sem]; done) | (simp [go_sem, *]; done)); have t9bf : ∀ o, (u7).frozen? ⟨u2.heap.size, o, none⟩ = false := fun o => (hb.frozen (p := ⟨u2.heap.size, o, none⟩) (by first | assumption | (simp; done) | (simp; omega) | (dsimp only; omega) | omega)).trans (by first | (simp [go_sem]; done) | (simp [go_sem, *]; done))
      have tbbz : u3.heap.size < (u7).heap.size := Nat.lt_of_lt_of_le (show u3.heap.size < _ from (by first | assumption | (simp; done) | (simp; omega) | (dsimp only; omega) | omega)) hb.size; have tbb0 : (u7).cell? ⟨u3.heap.size, 0, none⟩ = some (.int .i64 (t2l)) := (hb.cell (p := ⟨u3.heap.size, 0, none⟩) (by first | assumption | (simp; done) | (simp; omega) | (dsimp only; omega) | omega)).trans (by first | assumption | (simp [go_sem]; done) | (simp [go_sem, *]; done)); have tbb1 : (u7).cell? ⟨u3.heap.size, 1, none⟩ = some (.int .i64 (t2h)) := (hb.cell (p := ⟨u3.heap.size, 1, none⟩) (by first | assumption | (simp; done) | (simp; omega) | (dsimp only; omega) | omega)).trans (by first | assumption | (simp [go_sem]; done) | (simp [go_sem, *]; done)); have tbbf : ∀ o, (u7).frozen? ⟨u3.heap.size, o, none⟩ = false := fun o => (hb.frozen (p := ⟨u3.heap.size, o, none⟩) (by first | assumption | (simp; done) | (simp; omega) | (dsimp only; omega) | omega)).trans (by first | (simp [go_sem]; done) | (simp [go_sem, *]; done))
      clear BB BH hsz
      clear paaz paa0 paa1 pbaz pba0 pba1 pfaz pfa0 pfa1 t7az t7a0 t7a1 t9az t9a0 t9a1 t9af tbaz tba0 tba1 tbaf
      have BH := hid BN
      have hsz := BN.size
      clear BN hb
      go_upto_region 14 with fail
      go_cut [93] (fun v wx => GrRel w a b c d n q il ih s3l s3h t3l t3h u1.heap.size u2.heap.size u3.heap.size v wx)
      case first =>
        rcases Q3.out with ⟨rfl, rfl⟩ | hf3
        · have wx := V3.out rfl
          go_wp2_with fail
          refine (wx _).mono ?_; rintro e u8 ⟨rfl, hb⟩
          have BB := BH.out
          have BN : Below w.heap.size w u8 := by repeat' (first | (with_reducible exact Below.refl _ _) | (with_reducible refine Below.alloc ?_ ?_ _) | (with_reducible refine Below.setCell ?_ ?_ _) | (with_reducible refine Below.drew ?_) | (with_reducible refine Below.trans ?_ (Below.mono (by assumption) ?_)) | (simp; done) | (simp; omega) | omega)
          have paaz : w.heap.size < (u8).heap.size := Nat.lt_of_lt_of_le (show w.heap.size < _ from (by first | assumption | (simp; done) | (simp; omega) | (dsimp only; omega) | omega)) hb.size; have paa0 : (u8).cell? ⟨w.heap.size, 0, none⟩ = some (.int .i64 (a)) := (hb.cell (p := ⟨w.heap.size, 0, none⟩) (by first | assumption | (simp; done) | (simp; omega) | (dsimp only; omega) | omega)).trans (by first | assumption | (simp [go_sem]; done) | (simp [go_sem, *]; done)); have paa1 : (u8).cell? ⟨w.heap.size, 1, none⟩ = some (.int .i64 (b)) := (hb.cell (p := ⟨w.heap.size, 1, none⟩) (by first | assumption | (simp; done) | (simp; omega) | (dsimp only; omega) | omega)).trans (by first | assumption | (simp [go_sem]; done) | (simp [go_sem, *]; done))
          have pbaz : w.heap.size + 1 < (u8).heap.size := Nat.lt_of_lt_of_le (show w.heap.size + 1 < _ from (by first | assumption | (simp; done) | (simp; omega) | (dsimp only; omega) | omega)) hb.size; have pba0 : (u8).cell? ⟨w.heap.size + 1, 0, none⟩ = some (.int .i64 (c)) := (hb.cell (p := ⟨w.heap.size + 1, 0, none⟩) (by first | assumption | (simp; done) | (simp; omega) | (dsimp only; omega) | omega)).trans (by first | assumption | (simp [go_sem]; done) | (simp [go_sem, *]; done)); have pba1 : (u8).cell? ⟨w.heap.size + 1, 1, none⟩ = some (.int .i64 (d)) := (hb.cell (p := ⟨w.heap.size + 1, 1, none⟩) (by first | assumption | (simp; done) | (simp; omega) | (dsimp only; omega) | omega)).trans (by first | assumption | (simp [go_sem]; done) | (simp [go_sem, *]; done))
          have pfaz : w.heap.size + 1 + 1 < (u8).heap.size := Nat.lt_of_lt_of_le (show w.heap.size + 1 + 1 < _ from (by first | assumption | (simp; done) | (simp; omega) | (dsimp only; omega) | omega)) hb.size; have pfa0 : (u8).cell? ⟨w.heap.size + 1 + 1, 0, none⟩ = some (.int .i64 (n)) := (hb.cell (p := ⟨w.heap.size + 1 + 1, 0, none⟩) (by first | assumption | (simp; done) | (simp; omega) | (dsimp only; omega) | omega)).trans (by first | assumption | (simp [go_sem]; done) | (simp [go_sem, *]; done)); have pfa1 : (u8).cell? ⟨w.heap.size + 1 + 1, 1, none⟩ = some (.int .i64 (q)) := (hb.cell (p := ⟨w.heap.size + 1 + 1, 1, none⟩) (by first | assumption | (simp; done) | (simp; omega) | (dsimp only; omega) | omega)).trans (by first | assumption | (simp [go_sem]; done) | (simp [go_sem, *]; done))
          have t7az : u1.heap.size < (u8).heap.size := Nat.lt_of_lt_of_le (show u1.heap.size < _ from (by first | assumption | (simp; done) | (simp; omega) | (dsimp only; omega) | omega)) hb.size; have t7a0 : (u8).cell? ⟨u1.heap.size, 0, none⟩ = some (.int .i64 (il)) := (hb.cell (p := ⟨u1.heap.size, 0, none⟩) (by first | assumption | (simp; done) | (simp; omega) | (dsimp only; omega) | omega)).trans (by first | assumption | (simp [go_sem]; done) | (simp [go_sem, *]; done)); have t7a1 : (u8).cell? ⟨u1.heap.size, 1, none⟩ = some (.int .i64 (ih)) := (hb.cell (p := ⟨u1.heap.size, 1, none⟩) (by first | assumption | (simp; done) | (simp; omega) | (dsimp only; omega) | omega)).trans (by first | assumption | (simp [go_sem]; done) | (simp [go_sem, *]; done))
          have t9az : u2.heap.size < (u8).heap.size := Nat.lt_of_lt_of_le (show u2.heap.size < _ from (by first | assumption | (simp; done) | (simp; omega) | (dsimp only; omega) | omega)) hb.size; have t9a0 : (u8).cell? ⟨u2.heap.size, 0, none⟩ = some (.int .i64 (s3l)) := (hb.cell (p := ⟨u2.heap.size, 0, none⟩) (by first | assumption | (simp; done) | (simp; omega) | (dsimp only; omega) | omega)).trans (by first | assumption | (simp [go_sem]; done) | (simp [go_sem, *]; done)); have t9a1 : (u8).cell? ⟨u2.heap.size, 1, none⟩ = some (.int .i64 (s3h)) := (hb.cell (p := ⟨u2.heap.size, 1, none⟩) (by first | assumption | (simp; done) | (simp; omega) | (dsimp only; omega) | omega)).trans (by first | assumption | (simp [go_sem]; done) | (simp [go_sem, *]; done)); have t9af : ∀ o, (u8).frozen? ⟨u2.heap.size, o, none⟩ = false := fun o => (hb.frozen (p := ⟨u2.heap.size, o, none⟩) (by first | assumption | (simp; done) | (simp; omega) | (dsimp only; omega) | omega)).trans (by first | (simp [go_sem]; done) | (simp [go_sem, *]; done))
          have tbaz : u3.heap.size < (u8).heap.size := Nat.lt_of_lt_of_le (show u3.heap.size < _ from (by first | assumption | (simp; done) | (simp; omega) | (dsimp only; omega) | omega)) hb.size; have tba0 : (u8).cell? ⟨u3.heap.size, 0, none⟩ = some (.int .i64 (t3l)) := (hb.cell (p := ⟨u3.heap.size, 0, none⟩) (by first | assumption | (simp; done) | (simp; omega) | (dsimp only; omega) | omega)).trans (by first | assumption | (simp [go_sem]; done) | (simp [go_sem, *]; done)); have tba1 : (u8).cell? ⟨u3.heap.size, 1, none⟩ = some (.int .i64 (t3h)) := (hb.cell (p := ⟨u3.heap.size, 1, none⟩) (by first | assumption | (simp; done) | (simp; omega) | (dsimp only; omega) | omega)).trans (by first | assumption | (simp [go_sem]; done) | (simp [go_sem, *]; done)); have tbaf : ∀ o, (u8).frozen? ⟨u3.heap.size, o, none⟩ = false := fun o => (hb.frozen (p := ⟨u3.heap.size, o, none⟩) (by first | assumption | (simp; done) | (simp; omega) | (dsimp only; omega) | omega)).trans (by first | (simp [go_sem]; done) | (simp [go_sem, *]; done))
          clear BB BH hsz
          clear pabz pab0 pab1 pbbz pbb0 pbb1 pfbz pfb0 pfb1 t7bz t7b0 t7b1 t9bz t9b0 t9b1 t9bf tbbz tbb0 tbb1 tbbf
          have BH := hid BN
          have hsz := BN.size
          clear BN hb
          go_wp2_with fail
          go_meet
          have BB := BH.out
          exact ⟨rfl, ⟨(by first | assumption | (simp; done) | (simp; omega) | (dsimp only; omega) | omega), (by first | assumption | (simp [go_sem]; done) | (simp [go_sem, *]; done)), (by first | assumption | (simp [go_sem]; done) | (simp [go_sem, *]; done))⟩, ⟨(by first | assumption | (simp; done) | (simp; omega) | (dsimp only; omega) | omega), (by first | assumption | (simp [go_sem]; done) | (simp [go_sem, *]; done)), (by first | assumption | (simp [go_sem]; done) | (simp [go_sem, *]; done))⟩, ⟨(by first | assumption | (simp; done) | (simp; omega) | (dsimp only; omega) | omega), (by first | assumption | (simp [go_sem]; done) | (simp [go_sem, *]; done)), (by first | assumption | (simp [go_sem]; done) | (simp [go_sem, *]; done))⟩, ⟨(by first | assumption | (simp; done) | (simp; omega) | (dsimp only; omega) | omega), (by first | assumption | (simp [go_sem]; done) | (simp [go_sem, *]; done)), (by first | assumption | (simp [go_sem]; done) | (simp [go_sem, *]; done))⟩, ⟨(by first | assumption | (simp; done) | (simp; omega) | (dsimp only; omega) | omega), (by first | assumption | (simp [go_sem]; done) | (simp [go_sem, *]; done)), (by first | assumption | (simp [go_sem]; done) | (simp [go_sem, *]; done)), (fun o => by first | (simp [go_sem]; done) | (simp [go_sem, *]; done))⟩, ⟨(by first | assumption | (simp; done) | (simp; omega) | (dsimp only; omega) | omega), (by first | assumption | (simp [go_sem]; done) | (simp [go_sem, *]; done)), (by first | assumption | (simp [go_sem]; done) | (simp [go_sem, *]; done)), (fun o => by first | (simp [go_sem]; done) | (simp [go_sem, *]; done))⟩, by repeat' (first | (with_reducible exact Below.refl _ _) | (with_reducible refine Below.alloc ?_ ?_ _) | (with_reducible refine Below.setCell ?_ ?_ _) | (with_reducible refine Below.drew ?_) | (with_reducible refine Below.trans ?_ (Below.mono (by assumption) ?_)) | (simp; done) | (simp; omega) | omega)⟩
        · go_wp2_with fail
          go_meet
          have BB := BH.out
          exact ⟨rfl, ⟨(by first | assumption | (simp; done) | (simp; omega) | (dsimp only; omega) | omega), (by first | assumption | (simp [go_sem]; done) | (simp [go_sem, *]; done)), (by first | assumption | (simp [go_sem]; done) | (simp [go_sem, *]; done))⟩, ⟨(by first | assumption | (simp; done) | (simp; omega) | (dsimp only; omega) | omega), (by first | assumption | (simp [go_sem]; done) | (simp [go_sem, *]; done)), (by first | assumption | (simp [go_sem]; done) | (simp [go_sem, *]; done))⟩, ⟨(by first | assumption | (simp; done) | (simp; omega) | (dsimp only; omega) | omega), (by first | assumption | (simp [go_sem]; done) | (simp [go_sem, *]; done)), (by first | assumption | (simp [go_sem]; done) | (simp [go_sem, *]; done))⟩, ⟨(by first | assumption | (simp; done) | (simp; omega) | (dsimp only; omega) | omega), (by first | assumption | (simp [go_sem]; done) | (simp [go_sem, *]; done)), (by first | assumption | (simp [go_sem]; done) | (simp [go_sem, *]; done))⟩, ⟨(by first | assumption | (simp; done) | (simp; omega) | (dsimp only; omega) | omega), (by first | assumption | (simp [go_sem]; done) | (simp [go_sem, *]; done)), (by first | assumption | (simp [go_sem]; done) | (simp [go_sem, *]; done)), (fun o => by first | (simp [go_sem]; done) | (simp [go_sem, *]; done))⟩, ⟨(by first | assumption | (simp; done) | (simp; omega) | (dsimp only; omega) | omega), (by first | assumption | (simp [go_sem]; done) | (simp [go_sem, *]; done)), (by first | assumption | (simp [go_sem]; done) | (simp [go_sem, *]; done)), (fun o => by first | (simp [go_sem]; done) | (simp [go_sem, *]; done))⟩, by repeat' (first | (with_reducible exact Below.refl _ _) | (with_reducible refine Below.alloc ?_ ?_ _) | (with_reducible refine Below.setCell ?_ ?_ _) | (with_reducible refine Below.drew ?_) | (with_reducible refine Below.trans ?_ (Below.mono (by assumption) ?_)) | (simp; done) | (simp; omega) | omega)⟩
      case rest =>
        clear pabz pab0 pab1 pbbz pbb0 pbb1 pfbz pfb0 pfb1 t7bz t7b0 t7b1 t9bz t9b0 t9b1 t9bf tbbz tbb0 tbb1 tbbf BH hsz V3 Q3
        obtain ⟨rfl, ⟨paez, pae0, pae1⟩, ⟨pbez, pbe0, pbe1⟩, ⟨pfez, pfe0, pfe1⟩, ⟨t7ez, t7e0, t7e1⟩, ⟨t9ez, t9e0, t9e1, t9ef⟩, ⟨tbez, tbe0, tbe1, tbef⟩, hBw⟩ := hcut
        have BH := hid hBw
        have hsz := hBw.size
        clear hBw
        clear pfez pfe0 pfe1
        go_wp2_with fail
        refine (g4 _).mono ?_; rintro e u8 ⟨rfl, hb⟩
        have BB := BH.out
        have BN : Below w.heap.size w u8 := by repeat' (first | (with_reducible exact Below.refl _ _) | (with_reducible refine Below.alloc ?_ ?_ _) | (with_reducible refine Below.setCell ?_ ?_ _) | (with_reducible refine Below.drew ?_) | (with_reducible refine Below.trans ?_ (Below.mono (by assumption) ?_)) | (simp; done) | (simp; omega) | omega)
        have paaz : w.heap.size < (u8).heap.size := Nat.lt_of_lt_of_le (show w.heap.size < _ from (by first | assumption | (simp; done) | (simp; omega) | (dsimp only; omega) | omega)) hb.size; have paa0 : (u8).cell? ⟨w.heap.size, 0, none⟩ = some (.int .i64 (a)) := (hb.cell (p := ⟨w.heap.size, 0, none⟩) (by first | assumption | (simp; done) | (simp; omega) | (dsimp only; omega) | omega)).trans (by first | assumption | (simp [go_sem]; done) | (simp [go_sem, *]; done)); have paa1 : (u8).cell? ⟨w.heap.size, 1, none⟩ = some (.int .i64 (b)) := (hb.cell (p := ⟨w.heap.size, 1, none⟩) (by first | assumption | (simp; done) | (simp; omega) | (dsimp only; omega) | omega)).trans (by first | assumption | (simp [go_sem]; done) | (simp [go_sem, *]; done))
        have pbaz : w.heap.size + 1 < (u8).heap.size := Nat.lt_of_lt_of_le (show w.heap.size + 1 < _ from (by first | assumption | (simp; done) | (simp; omega) | (dsimp only; omega) | omega)) hb.size; have pba0 : (u8).cell? ⟨w.heap.size + 1, 0, none⟩ = some (.int .i64 (c)) := (hb.cell (p := ⟨w.heap.size + 1, 0, none⟩) (by first | assumption | (simp; done) | (simp; omega) | (dsimp only; omega) | omega)).trans (by first | assumption | (simp [go_sem]; done) | (simp [go_sem, *]; done)); have pba1 : (u8).cell? ⟨w.heap.size + 1, 1, none⟩ = some (.int .i64 (d)) := (hb.cell (p := ⟨w.heap.size + 1, 1, none⟩) (by first | assumption | (simp; done) | (simp; omega) | (dsimp only; omega) | omega)).trans (by first | assumption | (simp [go_sem]; done) | (simp [go_sem, *]; done))
        have t7az : u1.heap.size < (u8).heap.size := Nat.lt_of_lt_of_le (show u1.heap.size < _ from (by first | assumption | (simp; done) | (simp; omega) | (dsimp only; omega) | omega)) hb.size; have t7a0 : (u8).cell? ⟨u1.heap.size, 0, none⟩ = some (.int .i64 (il)) := (hb.cell (p := ⟨u1.heap.size, 0, none⟩) (by first | assumption | (simp; done) | (simp; omega) | (dsimp only; omega) | omega)).trans (by first | assumption | (simp [go_sem]; done) | (simp [go_sem, *]; done)); have t7a1 : (u8).cell? ⟨u1.heap.size, 1, none⟩ = some (.int .i64 (ih)) := (hb.cell (p := ⟨u1.heap.size, 1, none⟩) (by first | assumption | (simp; done) | (simp; omega) | (dsimp only; omega) | omega)).trans (by first | assumption | (simp [go_sem]; done) | (simp [go_sem, *]; done))
        have t9az : u2.heap.size < (u8).heap.size := Nat.lt_of_lt_of_le (show u2.heap.size < _ from (by first | assumption | (simp; done) | (simp; omega) | (dsimp only; omega) | omega)) hb.size; have t9a0 : (u8).cell? ⟨u2.heap.size, 0, none⟩ = some (.int .i64 (s3l)) := (hb.cell (p := ⟨u2.heap.size, 0, none⟩) (by first | assumption | (simp; done) | (simp; omega) | (dsimp only; omega) | omega)).trans (by first | assumption | (simp [go_sem]; done) | (simp [go_sem, *]; done)); have t9a1 : (u8).cell? ⟨u2.heap.size, 1, none⟩ = some (.int .i64 (s3h)) := (hb.cell (p := ⟨u2.heap.size, 1, none⟩) (by first | assumption | (simp; done) | (simp; omega) | (dsimp only; omega) | omega)).trans (by first | assumption | (simp [go_sem]; done) | (simp [go_sem, *]; done)); have t9af : ∀ o, (u8).frozen? ⟨u2.heap.size, o, none⟩ = false := fun o => (hb.frozen (p := ⟨u2.heap.size, o, none⟩) (by first | assumption | (simp; done) | (simp; omega) | (dsimp only; omega) | omega)).trans (by first | (simp [go_sem]; done) | (simp [go_sem, *]; done))
        have tbaz : u3.heap.size < (u8).heap.size := Nat.lt_of_lt_of_le (show u3.heap.size < _ from (by first | assumption | (simp; done) | (simp; omega) | (dsimp only; omega) | omega)) hb.size; have tba0 : (u8).cell? ⟨u3.heap.size, 0, none⟩ = some (.int .i64 (t3l)) := (hb.cell (p := ⟨u3.heap.size, 0, none⟩) (by first | assumption | (simp; done) | (simp; omega) | (dsimp only; omega) | omega)).trans (by first | assumption | (simp [go_sem]; done) | (simp [go_sem, *]; done)); have tba1 : (u8).cell? ⟨u3.heap.size, 1, none⟩ = some (.int .i64 (t3h)) := (hb.cell (p := ⟨u3.heap.size, 1, none⟩) (by first | assumption | (simp; done) | (simp; omega) | (dsimp only; omega) | omega)).trans (by first | assumption | (simp [go_sem]; done) | (simp [go_sem, *]; done)); have tbaf : ∀ o, (u8).frozen? ⟨u3.heap.size, o, none⟩ = false := fun o => (hb.frozen (p := ⟨u3.heap.size, o, none⟩) (by first | assumption | (simp; done) | (simp; omega) | (dsimp only; omega) | omega)).trans (by first | (simp [go_sem]; done) | (simp [go_sem, *]; done))
        clear BB BH hsz
        clear paez pae0 pae1 pbez pbe0 pbe1 t7ez t7e0 t7e1 t9ez t9e0 t9e1 t9ef tbez tbe0 tbe1 tbef
        have BH := hid BN
        have hsz := BN.size
        clear BN hb
        go_wp2_with fail
        refine (h4 _).mono ?_; rintro e u9 ⟨rfl, hb⟩
        have BB := BH.out
        have BN : Below w.heap.size w u9 := by repeat' (first | (with_reducible exact Below.refl _ _) | (with_reducible refine Below.alloc ?_ ?_ _) | (with_reducible refine Below.setCell ?_ ?_ _) | (with_reducible refine Below.drew ?_) | (with_reducible refine Below.trans ?_ (Below.mono (by assumption) ?_)) | (simp; done) | (simp; omega) | omega)
        have pabz : w.heap.size < (u9).heap.size := Nat.lt_of_lt_of_le (show w.heap.size < _ from (by first | assumption | (simp; done) | (simp; omega) | (dsimp only; omega) | omega)) hb.size; have pab0 : (u9).cell? ⟨w.heap.size, 0, none⟩ = some (.int .i64 (a)) := (hb.cell (p := ⟨w.heap.size, 0, none⟩) (by first | assumption | (simp; done) | (simp; omega) | (dsimp only; omega) | omega)).trans (by first | assumption | (simp [go_sem]; done) | (simp [go_sem, *]; done)); have pab1 : (u9).cell? ⟨w.heap.size, 1, none⟩ = some (.int .i64 (b)) := (hb.cell (p := ⟨w.heap.size, 1, none⟩) (by first | assumption | (simp; done) | (simp; omega) | (dsimp only; omega) | omega)).trans (by first | assumption | (simp [go_sem]; done) | (simp [go_sem, *]; done))
        have pbbz : w.heap.size + 1 < (u9).heap.size := Nat.lt_of_lt_of_le (show w.heap.size + 1 < _ from (by first | assumption | (simp; done) | (simp; omega) | (dsimp only; omega) | omega)) hb.size; have pbb0 : (u9).cell? ⟨w.heap.size + 1, 0, none⟩ = some (.int .i64 (c)) := (hb.cell (p := ⟨w.heap.size + 1, 0, none⟩) (by first | assumption | (simp; done) | (simp; omega) | (dsimp only; omega) | omega)).trans (by first | assumption | (simp [go_sem]; done) | (simp [go_sem, *]; done)); have pbb1 : (u9).cell? ⟨w.heap.size + 1, 1, none⟩ = some (.int .i64 (d)) := (hb.cell (p := ⟨w.heap.size + 1, 1, none⟩) (by first | assumption | (simp; done) | (simp; omega) | (dsimp only; omega) | omega)).trans (by first | assumption | (simp [go_sem]; done) | (simp [go_sem, *]; done))
        have t7bz : u1.heap.size < (u9).heap.size := Nat.lt_of_lt_of_le (show u1.heap.size < _ from (by first | assumption | (simp; done) | (simp; omega) | (dsimp only; omega) | omega)) hb.size; have t7b0 : (u9).cell? ⟨u1.heap.size, 0, none⟩ = some (.int .i64 (il)) := (hb.cell (p := ⟨u1.heap.size, 0, none⟩) (by first | assumption | (simp; done) | (simp; omega) | (dsimp only; omega) | omega)).trans (by first | assumption | (simp [go_sem]; done) | (simp [go_sem, *]; done)); have t7b1 : (u9).cell? ⟨u1.heap.size, 1, none⟩ = some (.int .i64 (ih)) := (hb.cell (p := ⟨u1.heap.size, 1, none⟩) (by first | assumption | (simp; done) | (simp; omega) | (dsimp only; omega) | omega)).trans (by first | assumption | (simp [go_sem]; done) | (simp [go_sem, *]; done))
        have t9bz : u2.heap.size < (u9).heap.size := Nat.lt_of_lt_of_le (show u2.heap.size < _ from (by first | assumption | (simp; done) | (simp; omega) | (dsimp only; omega) | omega)) hb.size; have t9b0 : (u9).cell? ⟨u2.heap.size, 0, none⟩ = some (.int .i64 (s4l)) := (hb.cell (p := ⟨u2.heap.size, 0, none⟩) (by first | assumption | (simp; done) | (simp; omega) | (dsimp only; omega) | omega)).trans (by first | assumption | (simp [go_sem]; done) | (simp [go_sem, *]; done)); have t9b1 : (u9).cell? ⟨u2.heap.size, 1, none⟩ = some (.int .i64 (s4h)) := (hb.cell (p := ⟨u2.heap.size, 1, none⟩) (by first | assumption | (simp; done) | (simp; omega) | (dsimp only; omega) | omega)).trans (by first | assumption | (simp [go_sem]; done) | (simp [go_sem, *]; done)); have t9bf : ∀ o, (u9).frozen? ⟨u2.heap.size, o, none⟩ = false := fun o => (hb.frozen (p := ⟨u2.heap.size, o, none⟩) (by first | assumption | (simp; done) | (simp; omega) | (dsimp only; omega) | omega)).trans (by first | (simp [go_sem]; done) | (simp [go_sem, *]; done))
        have tbbz : u3.heap.size < (u9).heap.size := Nat.lt_of_lt_of_le (show u3.heap.size < _ from (by first | assumption | (simp; done) | (simp; omega) | (dsimp only; omega) | omega)) hb.size; have tbb0 : (u9).cell? ⟨u3.heap.size, 0, none⟩ = some (.int .i64 (t3l)) := (hb.cell (p := ⟨u3.heap.size, 0, none⟩) (by first | assumption | (simp; done) | (simp; omega) | (dsimp only; omega) | omega)).trans (by first | assumption | (simp [go_sem]; done) | (simp [go_sem, *]; done)); have tbb1 : (u9).cell? ⟨u3.heap.size, 1, none⟩ = some (.int .i64 (t3h)) := (hb.cell (p := ⟨u3.heap.size, 1, none⟩) (by first | assumption | (simp; done) | (simp; omega) | (dsimp only; omega) | omega)).trans (by first | assumption | (simp [go_sem]; done) | (simp [go_sem, *]; done)); have tbbf : ∀ o, (u9).frozen? ⟨u3.heap.size, o, none⟩ = false := fun o => (hb.frozen (p := ⟨u3.heap.size, o, none⟩) (by first | assumption | (simp; done) | (simp; omega) | (dsimp only; omega) | omega)).trans (by first | (simp [go_sem]; done) | (simp [go_sem, *]; done))
        clear BB BH hsz
        clear paaz paa0 paa1 pbaz pba0 pba1 t7az t7a0 t7a1 t9az t9a0 t9a1 t9af tbaz tba0 tba1 tbaf
        have BH := hid BN
        have hsz := BN.size
        clear BN hb
        go_wp2_with fail
        refine (w4 _).mono ?_; rintro e u10 ⟨rfl, hb⟩
        have BB := BH.out
        have BN : Below w.heap.size w u10 := by repeat' (first | (with_reducible exact Below.refl _ _) | (with_reducible refine Below.alloc ?_ ?_ _) | (with_reducible refine Below.setCell ?_ ?_ _) | (with_reducible refine Below.drew ?_) | (with_reducible refine Below.trans ?_ (Below.mono (by assumption) ?_)) | (simp; done) | (simp; omega) | omega)
        have paaz : w.heap.size < (u10).heap.size := Nat.lt_of_lt_of_le (show w.heap.size < _ from (by first | assumption | (simp; done) | (simp; omega) | (dsimp only; omega) | omega)) hb.size; have paa0 : (u10).cell? ⟨w.heap.size, 0, none⟩ = some (.int .i64 (a)) := (hb.cell (p := ⟨w.heap.size, 0, none⟩) (by first | assumption | (simp; done) | (simp; omega) | (dsimp only; omega) | omega)).trans (by first | assumption | (simp [go_sem]; done) | (simp [go_sem, *]; done)); have paa1 : (u10).cell? ⟨w.heap.size, 1, none⟩ = some (.int .i64 (b)) := (hb.cell (p := ⟨w.heap.size, 1, none⟩) (by first | assumption | (simp; done) | (simp; omega) | (dsimp only; omega) | omega)).trans (by first | assumption | (simp [go_sem]; done) | (simp [go_sem, *]; done))
        have pbaz : w.heap.size + 1 < (u10).heap.size := Nat.lt_of_lt_of_le (show w.heap.size + 1 < _ from (by first | assumption | (simp; done) | (simp; omega) | (dsimp only; omega) | omega)) hb.size; have pba0 : (u10).cell? ⟨w.heap.size + 1, 0, none⟩ = some (.int .i64 (c)) := (hb.cell (p := ⟨w.heap.size + 1, 0, none⟩) (by first | assumption | (simp; done) | (simp; omega) | (dsimp only; omega) | omega)).trans (by first | assumption | (simp [go_sem]; done) | (simp [go_sem, *]; done)); have pba1 : (u10).cell? ⟨w.heap.size + 1, 1, none⟩ = some (.int .i64 (d)) := (hb.cell (p := ⟨w.heap.size + 1, 1, none⟩) (by first | assumption | (simp; done) | (simp; omega) | (dsimp only; omega) | omega)).trans (by first | assumption | (simp [go_sem]; done) | (simp [go_sem, *]; done))
        have t7az : u1.heap.size < (u10).heap.size := Nat.lt_of_lt_of_le (show u1.heap.size < _ from (by first | assumption | (simp; done) | (simp; omega) | (dsimp only; omega) | omega)) hb.size; have t7a0 : (u10).cell? ⟨u1.heap.size, 0, none⟩ = some (.int .i64 (il)) := (hb.cell (p := ⟨u1.heap.size, 0, none⟩) (by first | assumption | (simp; done) | (simp; omega) | (dsimp only; omega) | omega)).trans (by first | assumption | (simp [go_sem]; done) | (simp [go_sem, *]; done)); have t7a1 : (u10).cell? ⟨u1.heap.size, 1, none⟩ = some (.int .i64 (ih)) := (hb.cell (p := ⟨u1.heap.size, 1, none⟩) (by first | assumption | (simp; done) | (simp; omega) | (dsimp only; omega) | omega)).trans (by first | assumption | (simp [go_sem]; done) | (simp [go_sem, *]; done))
        have t9az : u2.heap.size < (u10).heap.size := Nat.lt_of_lt_of_le (show u2.heap.size < _ from (by first | assumption | (simp; done) | (simp; omega) | (dsimp only; omega) | omega)) hb.size; have t9a0 : (u10).cell? ⟨u2.heap.size, 0, none⟩ = some (.int .i64 (s4l)) := (hb.cell (p := ⟨u2.heap.size, 0, none⟩) (by first | assumption | (simp; done) | (simp; omega) | (dsimp only; omega) | omega)).trans (by first | assumption | (simp [go_sem]; done) | (simp [go_sem, *]; done)); have t9a1 : (u10).cell? ⟨u2.heap.size, 1, none⟩ = some (.int .i64 (s4h)) := (hb.cell (p := ⟨u2.heap.size, 1, none⟩) (by first | assumption | (simp; done) | (simp; omega) | (dsimp only; omega) | omega)).trans (by first | assumption | (simp [go_sem]; done) | (simp [go_sem, *]; done)); have t9af : ∀ o, (u10).frozen? ⟨u2.heap.size, o, none⟩ = false := fun o => (hb.frozen (p := ⟨u2.heap.size, o, none⟩) (by first | assumption | (simp; done) | (simp; omega) | (dsimp only; omega) | omega)).trans (by first | (simp [go_sem]; done) | (simp [go_sem, *]; done))
        have tbaz : u3.heap.size < (u10).heap.size := Nat.lt_of_lt_of_le (show u3.heap.size < _ from (by first | assumption | (simp; done) | (simp; omega) | (dsimp only; omega) | omega)) hb.size; have tba0 : (u10).cell? ⟨u3.heap.size, 0, none⟩ = some (.int .i64 (t4l)) := (hb.cell (p := ⟨u3.heap.size, 0, none⟩) (by first | assumption | (simp; done) | (simp; omega) | (dsimp only; omega) | omega)).trans (by first | assumption | (simp [go_sem]; done) | (simp [go_sem, *]; done)); have tba1 : (u10).cell? ⟨u3.heap.size, 1, none⟩ = some (.int .i64 (t4h)) := (hb.cell (p := ⟨u3.heap.size, 1, none⟩) (by first | assumption | (simp; done) | (simp; omega) | (dsimp only; omega) | omega)).trans (by first | assumption | (simp [go_sem]; done) | (simp [go_sem, *]; done)); have tbaf : ∀ o, (u10).frozen? ⟨u3.heap.size, o, none⟩ = false := fun o => (hb.frozen (p := ⟨u3.heap.size, o, none⟩) (by first | assumption | (simp; done) | (simp; omega) | (dsimp only; omega) | omega)).trans (by first | (simp [go_sem]; done) | (simp [go_sem, *]; done))
        clear BB BH hsz
        clear pabz pab0 pab1 pbbz pbb0 pbb1 t7bz t7b0 t7b1 t9bz t9b0 t9b1 t9bf tbbz tbb0 tbb1 tbbf
        have BH := hid BN
        have hsz := BN.size
        clear BN hb
        clear t9az t9a0 t9a1 t9af
        clear tbaz tba0 tba1 tbaf
        go_wp2_with fail
        refine (w5 _).mono ?_; rintro e u11 ⟨rfl, hb⟩
        have BB := BH.out
        have BN : Below w.heap.size w u11 := by repeat' (first | (with_reducible exact Below.refl _ _) | (with_reducible refine Below.alloc ?_ ?_ _) | (with_reducible refine Below.setCell ?_ ?_ _) | (with_reducible refine Below.drew ?_) | (with_reducible refine Below.trans ?_ (Below.mono (by assumption) ?_)) | (simp; done) | (simp; omega) | omega)
        have pabz : w.heap.size < (u11).heap.size := Nat.lt_of_lt_of_le (show w.heap.size < _ from (by first | assumption | (simp; done) | (simp; omega) | (dsimp only; omega) | omega)) hb.size; have pab0 : (u11).cell? ⟨w.heap.size, 0, none⟩ = some (.int .i64 (a)) := (hb.cell (p := ⟨w.heap.size, 0, none⟩) (by first | assumption | (simp; done) | (simp; omega) | (dsimp only; omega) | omega)).trans (by first | assumption | (simp [go_sem]; done) | (simp [go_sem, *]; done)); have pab1 : (u11).cell? ⟨w.heap.size, 1, none⟩ = some (.int .i64 (b)) := (hb.cell (p := ⟨w.heap.size, 1, none⟩) (by first | assumption | (simp; done) | (simp; omega) | (dsimp only; omega) | omega)).trans (by first | assumption | (simp [go_sem]; done) | (simp [go_sem, *]; done))
        have pbbz : w.heap.size + 1 < (u11).heap.size := Nat.lt_of_lt_of_le (show w.heap.size + 1 < _ from (by first | assumption | (simp; done) | (simp; omega) | (dsimp only; omega) | omega)) hb.size; have pbb0 : (u11).cell? ⟨w.heap.size + 1, 0, none⟩ = some (.int .i64 (c)) := (hb.cell (p := ⟨w.heap.size + 1, 0, none⟩) (by first | assumption | (simp; done) | (simp; omega) | (dsimp only; omega) | omega)).trans (by first | assumption | (simp [go_sem]; done) | (simp [go_sem, *]; done)); have pbb1 : (u11).cell? ⟨w.heap.size + 1, 1, none⟩ = some (.int .i64 (d)) := (hb.cell (p := ⟨w.heap.size + 1, 1, none⟩) (by first | assumption | (simp; done) | (simp; omega) | (dsimp only; omega) | omega)).trans (by first | assumption | (simp [go_sem]; done) | (simp [go_sem, *]; done))
        have t7bz : u1.heap.size < (u11).heap.size := Nat.lt_of_lt_of_le (show u1.heap.size < _ from (by first | assumption | (simp; done) | (simp; omega) | (dsimp only; omega) | omega)) hb.size; have t7b0 : (u11).cell? ⟨u1.heap.size, 0, none⟩ = some (.int .i64 (il)) := (hb.cell (p := ⟨u1.heap.size, 0, none⟩) (by first | assumption | (simp; done) | (simp; omega) | (dsimp only; omega) | omega)).trans (by first | assumption | (simp [go_sem]; done) | (simp [go_sem, *]; done)); have t7b1 : (u11).cell? ⟨u1.heap.size, 1, none⟩ = some (.int .i64 (ih)) := (hb.cell (p := ⟨u1.heap.size, 1, none⟩) (by first | assumption | (simp; done) | (simp; omega) | (dsimp only; omega) | omega)).trans (by first | assumption | (simp [go_sem]; done) | (simp [go_sem, *]; done))
        clear BB BH hsz
        clear paaz paa0 paa1 pbaz pba0 pba1 t7az t7a0 t7a1
        have BH := hid BN
        have hsz := BN.size
        clear BN hb
        clear pabz pab0 pab1
        go_wp2_with fail
        refine (w6 _).mono ?_; rintro e u12 ⟨rfl, hb⟩
        have BB := BH.out
        have BN : Below w.heap.size w u12 := by repeat' (first | (with_reducible exact Below.refl _ _) | (with_reducible refine Below.alloc ?_ ?_ _) | (with_reducible refine Below.setCell ?_ ?_ _) | (with_reducible refine Below.drew ?_) | (with_reducible refine Below.trans ?_ (Below.mono (by assumption) ?_)) | (simp; done) | (simp; omega) | omega)
        have pbaz : w.heap.size + 1 < (u12).heap.size := Nat.lt_of_lt_of_le (show w.heap.size + 1 < _ from (by first | assumption | (simp; done) | (simp; omega) | (dsimp only; omega) | omega)) hb.size; have pba0 : (u12).cell? ⟨w.heap.size + 1, 0, none⟩ = some (.int .i64 (c)) := (hb.cell (p := ⟨w.heap.size + 1, 0, none⟩) (by first | assumption | (simp; done) | (simp; omega) | (dsimp only; omega) | omega)).trans (by first | assumption | (simp [go_sem]; done) | (simp [go_sem, *]; done)); have pba1 : (u12).cell? ⟨w.heap.size + 1, 1, none⟩ = some (.int .i64 (d)) := (hb.cell (p := ⟨w.heap.size + 1, 1, none⟩) (by first | assumption | (simp; done) | (simp; omega) | (dsimp only; omega) | omega)).trans (by first | assumption | (simp [go_sem]; done) | (simp [go_sem, *]; done))
        have t7az : u1.heap.size < (u12).heap.size := Nat.lt_of_lt_of_le (show u1.heap.size < _ from (by first | assumption | (simp; done) | (simp; omega) | (dsimp only; omega) | omega)) hb.size; have t7a0 : (u12).cell? ⟨u1.heap.size, 0, none⟩ = some (.int .i64 (il)) := (hb.cell (p := ⟨u1.heap.size, 0, none⟩) (by first | assumption | (simp; done) | (simp; omega) | (dsimp only; omega) | omega)).trans (by first | assumption | (simp [go_sem]; done) | (simp [go_sem, *]; done)); have t7a1 : (u12).cell? ⟨u1.heap.size, 1, none⟩ = some (.int .i64 (ih)) := (hb.cell (p := ⟨u1.heap.size, 1, none⟩) (by first | assumption | (simp; done) | (simp; omega) | (dsimp only; omega) | omega)).trans (by first | assumption | (simp [go_sem]; done) | (simp [go_sem, *]; done))
        clear BB BH hsz
        clear pbbz pbb0 pbb1 t7bz t7b0 t7b1
        have BH := hid BN
        have hsz := BN.size
        clear BN hb
        clear t7az t7a0 t7a1
        clear pbaz pba0 pba1
        go_wp2_with fail
        refine (iawake_any _).mono ?_; rintro e u13 ⟨rfl, hb⟩
        have BB := BH.out
        have BN : Below w.heap.size w u13 := by repeat' (first | (with_reducible exact Below.refl _ _) | (with_reducible refine Below.alloc ?_ ?_ _) | (with_reducible refine Below.setCell ?_ ?_ _) | (with_reducible refine Below.drew ?_) | (with_reducible refine Below.trans ?_ (Below.mono (by assumption) ?_)) | (simp; done) | (simp; omega) | omega)
        clear BB BH hsz
        have BH := hid BN
        have hsz := BN.size
        clear BN hb
        go_wp2_with fail
        go_ret
        have BB := BH.out
        exact Gives.mk rfl (by repeat' (first | (with_reducible exact Below.refl _ _) | (with_reducible refine Below.alloc ?_ ?_ _) | (with_reducible refine Below.setCell ?_ ?_ _) | (with_reducible refine Below.drew ?_) | (with_reducible refine Below.trans ?_ (Below.mono (by assumption) ?_)) | (simp; done) | (simp; omega) | omega))
theorem within_as {a b c d : Int} (h : a ≤ b ∧ c ≤ a ∧ b ≤ d ∧ -1000000000000000 ≤ c ∧ d ≤ 1000000000000000) (w : World) : Calls Try.prog 66 #[.agg #[.int .i64 a, .int .i64 b], .agg #[.int .i64 c, .int .i64 d]] w (Gives (.bool true) w) := by
  have e : Sp.withinB a b c d = true := by
    unfold Sp.withinB
    rw [Sp.both_zero.2 ⟨Sp.chk_zero.2 (by omega), Sp.chk_zero.2 (by omega)⟩]
    simp; omega
  rw [← e]; exact iwithin_any a b c d w
theorem ediv_neg_le (x : Int) {d : Int} (hd : 0 < d) : x / d ≤ -((-x) / d) := by
  have h3 := Int.emod_add_mul_ediv x d
  have h6 := Int.emod_add_mul_ediv (-x) d
  have h1 := Int.emod_nonneg x (show d ≠ 0 by omega)
  have h4 := Int.emod_nonneg (-x) (show d ≠ 0 by omega)
  have key : x % d + (-x) % d + d * (x / d + (-x) / d) = 0 := by rw [Int.mul_add]; omega
  by_cases hq : x / d + (-x) / d ≥ 1
  · have : d * 1 ≤ d * (x / d + (-x) / d) := Int.mul_le_mul_of_nonneg_left hq (by omega)
    omega
  · omega
theorem fl_mono {x y n d : Int} (hn : 0 ≤ n) (hd : 0 < d) (h : x ≤ y) : x * n / d ≤ y * n / d := Int.ediv_le_ediv hd (Int.mul_le_mul_of_nonneg_right h hn)
theorem fl_neg (x n : Int) {d : Int} (hd : 0 < d) : x * n / d ≤ -((-x) * n / d) := by
  have := ediv_neg_le (x * n) hd
  rw [Int.neg_mul]; exact this
theorem flp_ok {x n d : Int} (h : (Sp.flp x n d).2 = 0) : (Sp.flp x n d).1 = x * n / d ∧ -1000000000000000 ≤ x * n / d ∧ x * n / d ≤ 1000000000000000 := by
  unfold Sp.flp at h ⊢
  split at h
  · rename_i hc; rw [if_pos hc]; exact ⟨rfl, hc⟩
  · simp at h
theorem flp_of {x n d : Int} (h : -1000000000000000 ≤ x * n / d ∧ x * n / d ≤ 1000000000000000) : Sp.flp x n d = (x * n / d, 0) := by unfold Sp.flp; rw [if_pos h]
theorem scale_ok {a b n q l h : Int} (hs : Sp.scaleS a b n q = (l, h, 0)) : Sp.fchk n q = 0 ∧ 0 ≤ n ∧ (Sp.flp a n q).2 = 0 ∧ (Sp.flp (-b) n q).2 = 0 ∧ l = (Sp.flp a n q).1 ∧ h = -(Sp.flp (-b) n q).1 := by
  unfold Sp.scaleS at hs
  by_cases c1 : Sp.chk a b = 0
  · rw [if_neg (by omega)] at hs
    by_cases c2 : Sp.fchk n q = 0
    · rw [if_neg (by omega)] at hs
      by_cases c3 : n < 0
      · rw [if_pos c3] at hs; simp at hs
      · rw [if_neg c3] at hs
        by_cases c4 : (Sp.flp a n q).2 = 0
        · rw [if_neg (by omega)] at hs
          by_cases c5 : (Sp.flp (-b) n q).2 = 0
          · rw [if_neg (by omega)] at hs
            simp only [Prod.mk.injEq] at hs
            exact ⟨c2, by omega, c4, c5, hs.1.symm, hs.2.1.symm⟩
          · rw [if_pos (by omega)] at hs; simp at hs
        · rw [if_pos (by omega)] at hs; simp at hs
    · rw [if_pos (by omega)] at hs; simp only [Prod.mk.injEq] at hs; omega
  · rw [if_pos (by omega)] at hs; simp only [Prod.mk.injEq] at hs; omega
theorem grows_any (a b c d n q : Int) (a0 : -9223372036854775808 ≤ a) (a1 : a ≤ 9223372036854775807) (b0 : -9223372036854775808 ≤ b) (b1 : b ≤ 9223372036854775807) (c0 : -9223372036854775808 ≤ c) (c1 : c ≤ 9223372036854775807) (d0 : -9223372036854775808 ≤ d) (d1 : d ≤ 9223372036854775807) (n0 : -9223372036854775808 ≤ n) (n1 : n ≤ 9223372036854775807) (q0 : -9223372036854775808 ≤ q) (q1 : q ≤ 9223372036854775807) (w : World) :
    Calls Try.prog 14 #[.agg #[.int .i64 a, .int .i64 b], .agg #[.int .i64 c, .int .i64 d], .agg #[.int .i64 n, .int .i64 q]] w (Gives (.bool true) w) := by
  obtain ⟨⟨il, ih, e⟩, hM⟩ : ∃ r, Sp.meetS a b c d = r := ⟨_, rfl⟩
  have mt := fun w => imeet_any a b c d il ih e hM w
  by_cases he : e = 0
  · subst he
    have hM2 := hM
    unfold Sp.meetS at hM2
    by_cases hb : Sp.both a b c d = 0
    · rw [if_neg (by omega)] at hM2
      by_cases hm : min b d < max a c
      · rw [if_pos hm] at hM2; simp at hM2
      · rw [if_neg hm] at hM2
        simp only [Prod.mk.injEq] at hM2
        obtain ⟨rfl, rfl, _⟩ := hM2
        obtain ⟨⟨p0, p1, p2⟩, ⟨r0, r1, r2⟩⟩ := Sp.both_ok hb
        obtain ⟨il, hil⟩ : ∃ il, max a c = il := ⟨_, rfl⟩
        obtain ⟨ih, hih⟩ : ∃ ih, min b d = ih := ⟨_, rfl⟩
        rw [hil, hih] at mt
        have hbi : Sp.both il ih c d = 0 := Sp.both_zero.2 ⟨Sp.chk_zero.2 (by omega), (Sp.both_zero.1 hb).2⟩
        have ki : Sp.chk il ih = 0 := Sp.chk_zero.2 (by omega)
        have eA : Sp.addS a b c d = Sp.lim (a + c) (b + d) := by unfold Sp.addS; rw [if_neg (by omega)]
        have eAi : Sp.addS il ih c d = Sp.lim (il + c) (ih + d) := by unfold Sp.addS; rw [if_neg (by omega)]
        have eS : Sp.subS a b c d = Sp.lim (a - d) (b - c) := by unfold Sp.subS; rw [if_neg (by omega)]
        have eSi : Sp.subS il ih c d = Sp.lim (il - d) (ih - c) := by unfold Sp.subS; rw [if_neg (by omega)]
        obtain ⟨⟨s1l, s1h, e1⟩, H1⟩ : ∃ r, Sp.addS il ih c d = r := ⟨_, rfl⟩
        obtain ⟨⟨t1l, t1h, f1⟩, K1⟩ : ∃ r, Sp.addS a b c d = r := ⟨_, rfl⟩
        obtain ⟨⟨s2l, s2h, e2⟩, H2⟩ : ∃ r, Sp.subS il ih c d = r := ⟨_, rfl⟩
        obtain ⟨⟨t2l, t2h, f2⟩, K2⟩ : ∃ r, Sp.subS a b c d = r := ⟨_, rfl⟩
        obtain ⟨⟨s3l, s3h, e3⟩, H3⟩ : ∃ r, Sp.scaleS il ih n q = r := ⟨_, rfl⟩
        obtain ⟨⟨t3l, t3h, f3⟩, K3⟩ : ∃ r, Sp.scaleS a b n q = r := ⟨_, rfl⟩
        have N1 : Sp.negS il ih = (-ih, -il, 0) := by unfold Sp.negS; rw [if_neg (by omega)]
        have N2 : Sp.negS a b = (-b, -a, 0) := by unfold Sp.negS; rw [if_neg (by rw [(Sp.both_zero.1 hb).1]; omega)]
        have F1 : (f1 = 0 → e1 = 0 ∧ s1l ≤ s1h ∧ t1l ≤ s1l ∧ s1h ≤ t1h ∧ -1000000000000000 ≤ t1l ∧ t1h ≤ 1000000000000000) := by
          intro hf
          have K := K1; have H := H1
          rw [eA] at K
          rw [eAi] at H
          rcases lim_cases (a + c) (b + d) with ⟨e, h1, h2⟩ | ⟨e, _⟩
          · rw [e] at K
            rcases lim_cases (il + c) (ih + d) with ⟨e', h1', h2'⟩ | ⟨e', h3⟩
            · rw [e'] at H
              simp only [Prod.mk.injEq] at K H
              omega
            · omega
          · rw [e] at K
            simp only [Prod.mk.injEq] at K
            omega
        have F2 : (f2 = 0 → e2 = 0 ∧ s2l ≤ s2h ∧ t2l ≤ s2l ∧ s2h ≤ t2h ∧ -1000000000000000 ≤ t2l ∧ t2h ≤ 1000000000000000) := by
          intro hf
          have K := K2; have H := H2
          rw [eS] at K
          rw [eSi] at H
          rcases lim_cases (a - d) (b - c) with ⟨e, h1, h2⟩ | ⟨e, _⟩
          · rw [e] at K
            rcases lim_cases (il - d) (ih - c) with ⟨e', h1', h2'⟩ | ⟨e', h3⟩
            · rw [e'] at H
              simp only [Prod.mk.injEq] at K H
              omega
            · omega
          · rw [e] at K
            simp only [Prod.mk.injEq] at K
            omega
        have F3 : (f3 = 0 → e3 = 0 ∧ s3l ≤ s3h ∧ t3l ≤ s3l ∧ s3h ≤ t3h ∧ -1000000000000000 ≤ t3l ∧ t3h ≤ 1000000000000000) := by
          intro hf
          subst hf
          obtain ⟨k1, k2, k3, k4, k5, k6⟩ := scale_ok K3
          obtain ⟨hq0, _⟩ := Sp.fchk_zero.1 k1
          obtain ⟨v1, v2, v3⟩ := flp_ok k3
          obtain ⟨v4, v5, v6⟩ := flp_ok k4
          have m1 := fl_mono k2 hq0 (show a ≤ il by omega)
          have m2 := fl_mono k2 hq0 (show -b ≤ -ih by omega)
          have m3 := fl_mono k2 hq0 (show il ≤ ih by omega)
          have m4 := fl_neg ih n hq0
          have m5 := fl_mono k2 hq0 (show -ih ≤ -a by omega)
          have m6 := fl_neg (-a) n hq0
          have m7 := fl_mono k2 hq0 (show ih ≤ b by omega)
          have m8 := fl_neg b n hq0
          rw [Int.neg_neg] at m6
          have l1 := flp_of (x := il) (n := n) (d := q) (by omega)
          have l2 := flp_of (x := -ih) (n := n) (d := q) (by omega)
          unfold Sp.scaleS at H3
          rw [l1, l2] at H3
          rw [if_neg (by omega), if_neg (by omega), if_neg (by omega), if_neg (by simp), if_neg (by simp)] at H3
          simp only [Prod.mk.injEq] at H3
          omega
        refine grows_walk a b c d n q il ih s1l s1h e1 t1l t1h f1 s2l s2h e2 t2l t2h f2 s3l s3h e3 t3l t3h f3 (-ih) (-il) (-b) (-a) w mt
          (fun w => iadd_any _ _ _ _ _ _ _ H1 w) (fun w => iadd_any _ _ _ _ _ _ _ K1 w) (fun w => isub_any _ _ _ _ _ _ _ H2 w) (fun w => isub_any _ _ _ _ _ _ _ K2 w)
          (fun w => iscale_any _ _ _ _ _ _ _ n0 n1 q0 q1 H3 w) (fun w => iscale_any _ _ _ _ _ _ _ n0 n1 q0 q1 K3 w) (fun w => ineg_any _ _ _ _ _ N1 w) (fun w => ineg_any _ _ _ _ _ N2 w)
          (fun h w => within_as (F1 h).2 w) (fun h w => within_as (F2 h).2 w) (fun h w => within_as (F3 h).2 w) (fun w => within_as (by omega) w) (fun w => within_as (by omega) w) (fun w => within_as (by omega) w) ?_ ?_ ?_
        · by_cases h : f1 = 0
          · exact Or.inl ⟨h, (F1 h).1⟩
          · exact Or.inr (by simpa using h)
        · by_cases h : f2 = 0
          · exact Or.inl ⟨h, (F2 h).1⟩
          · exact Or.inr (by simpa using h)
        · by_cases h : f3 = 0
          · exact Or.inl ⟨h, (F3 h).1⟩
          · exact Or.inr (by simpa using h)
    · rw [if_pos hb] at hM2
      simp only [Prod.mk.injEq] at hM2
      exact absurd hM2.2.2 hb
  · exact grows_out a b c d n q il ih e w (by simpa using he) mt
end Go.Proofs.Ytnphibbhcogdkaa
