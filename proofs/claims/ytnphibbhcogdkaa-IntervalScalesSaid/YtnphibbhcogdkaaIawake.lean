/-
  The chapter's examples, as the statements of layer 3 ask them: each holds.
-/
import Derived.Test.YtnphibbhcogdkaaIscale
namespace Go.Proofs.Ytnphibbhcogdkaa
open Go.RowKit
set_option linter.unusedVariables false
set_option linter.unusedSimpArgs false

theorem span_any (a b : Int) (w : World) :
    Calls Try.prog 96 #[.int .i64 a, .int .i64 b] w fun e w' => e = .returned (.agg #[.int .i64 a, .int .i64 b]) ∧ w' = w.alloc (Obj.cells #[.int .i64 a, .int .i64 b] 49) := by
  go_enter Try.func96, Try.ntmps96
  go_wp2_with fail
  go_returns
  exact ⟨rfl, rfl⟩
theorem is_any (a b : Int) (w : World) :
    Calls Try.prog 97 #[.agg #[.int .i64 a, .int .i64 b], .int .i64 0, .int .i64 a, .int .i64 b] w (Gives (.bool true) w) := by
  go_enter Try.func97, Try.ntmps97
  go_wp2_with fail
  have K : Hid (∀ W', Below (w.heap.size + 1) (w.alloc (Obj.cells #[.int .i64 a, .int .i64 b] 49)) W' → (Below (w.heap.size + 1) (w.alloc (Obj.cells #[.int .i64 a, .int .i64 b] 49)) W' ∧ W'.cell? ⟨w.heap.size, 0, none⟩ = some (.int .i64 a) ∧ W'.cell? ⟨w.heap.size, 1, none⟩ = some (.int .i64 b))) := hid fun W' B =>
    ⟨B, (B.cell (p := ⟨w.heap.size, 0, none⟩) (by simp)).trans (by simp [go_sem]), (B.cell (p := ⟨w.heap.size, 1, none⟩) (by simp)).trans (by simp [go_sem])⟩
  go_region_held3 (fun w' => Below (w.heap.size + 1) (w.alloc (Obj.cells #[.int .i64 a, .int .i64 b] 49)) w' ∧ w'.cell? ⟨w.heap.size, 0, none⟩ = some (.int .i64 a) ∧ w'.cell? ⟨w.heap.size, 1, none⟩ = some (.int .i64 b)) ((exact K.out _ (by repeat' (first | (with_reducible exact Below.refl _ _) | (with_reducible refine Below.alloc ?_ ?_ _) | (with_reducible refine Below.setCell ?_ ?_ _) | (with_reducible refine Below.drew ?_) | (with_reducible refine Below.trans ?_ (Below.mono (by assumption) ?_)) | (simp; done) | (simp; omega) | omega))))
    (first | (go_at_call 96; refine (span_any _ _ _).mono ?_; rintro e w' ⟨rfl, rfl⟩))
  all_goals
    go_wp2
    go_ret

    exact Gives.mk rfl (by repeat' (first | (with_reducible exact Below.refl _ _) | (with_reducible refine Below.alloc ?_ ?_ _) | (with_reducible refine Below.setCell ?_ ?_ _) | (with_reducible refine Below.drew ?_) | (with_reducible refine Below.trans ?_ (Below.mono (by assumption) ?_)) | (simp; done) | (simp; omega) | omega))
theorem keep2 {W w1 : World} {b : Nat} {x y : Value} (h : Below W.heap.size W w1) (k : b < W.heap.size ∧ W.cell? ⟨b, 0, none⟩ = some x ∧ W.cell? ⟨b, 1, none⟩ = some y) :
    b < w1.heap.size ∧ w1.cell? ⟨b, 0, none⟩ = some x ∧ w1.cell? ⟨b, 1, none⟩ = some y :=
  ⟨Nat.lt_of_lt_of_le k.1 h.size, (h.cell (p := ⟨b, 0, none⟩) k.1).trans k.2.1, (h.cell (p := ⟨b, 1, none⟩) k.1).trans k.2.2⟩
set_option maxRecDepth 100000 in
set_option maxHeartbeats 4000000 in
theorem iawake_any (w : World) : Calls Try.prog 55 #[] w (Gives (.bool true) w) := by
  have c1 := fun w => iadd_any 2 5 (-1) 3 (1) (8) 0 (by decide +kernel) w
  have c2 := fun w => isub_any 2 5 (-1) 3 (-1) (6) 0 (by decide +kernel) w
  have c3 := fun w => iscale_any (-3) 4 2 3 (-2) (3) 0 (by omega) (by omega) (by omega) (by omega) (by decide +kernel) w
  have c4 := fun w => iscale_any 1 1000000000000000 1 1000000000000000 (0) (1) 0 (by omega) (by omega) (by omega) (by omega) (by decide +kernel) w
  have c5 := fun w => iscale_any 0 1000000000000000 1000000000000000 999999999999999 (0) (0) 8 (by omega) (by omega) (by omega) (by omega) (by decide +kernel) w
  have c6 := fun w => imeet_any 0 3 3 5 (3) (3) 0 (by decide +kernel) w
  have c7 := fun w => imeet_any 0 2 3 5 (0) (0) 6 (by decide +kernel) w
  have c8 := fun w => iff_any (-7) 2 (-4) (-3) 0 (by omega) (by omega) (by omega) (by omega) (by decide +kernel) w
  go_enter Try.func55, Try.ntmps55
  go_wp2_with (go_at_call 96; refine (span_any _ _ _).mono ?_; rintro e w' ⟨rfl, rfl⟩)
  refine (c1 _).mono ?_; rintro e w1 ⟨rfl, hb⟩
  have B1 : Below w.heap.size w w1 := by repeat' (first | (with_reducible exact Below.refl _ _) | (with_reducible refine Below.alloc ?_ ?_ _) | (with_reducible refine Below.setCell ?_ ?_ _) | (with_reducible refine Below.drew ?_) | (with_reducible refine Below.trans ?_ (Below.mono (by assumption) ?_)) | (simp; done) | (simp; omega) | omega)
  clear hb
  go_wp2_with (go_at_call 96; refine (span_any _ _ _).mono ?_; rintro e w' ⟨rfl, rfl⟩)
  refine (c2 _).mono ?_; rintro e w2 ⟨rfl, hb⟩
  have pz : w1.heap.size < (w2).heap.size := Nat.lt_of_lt_of_le (show w1.heap.size < _ from (by first | assumption | (simp; done) | (simp; omega) | (dsimp only; omega) | omega)) hb.size; have p0 : (w2).cell? ⟨w1.heap.size, 0, none⟩ = some (.int .i64 (1)) := (hb.cell (p := ⟨w1.heap.size, 0, none⟩) (by first | assumption | (simp; done) | (simp; omega) | (dsimp only; omega) | omega)).trans (by first | assumption | (simp [go_sem]; done) | (simp [go_sem, *]; done)); have p1 : (w2).cell? ⟨w1.heap.size, 1, none⟩ = some (.int .i64 (8)) := (hb.cell (p := ⟨w1.heap.size, 1, none⟩) (by first | assumption | (simp; done) | (simp; omega) | (dsimp only; omega) | omega)).trans (by first | assumption | (simp [go_sem]; done) | (simp [go_sem, *]; done))
  have P2 := hid (And.intro pz (And.intro p0 p1))
  clear pz p0 p1
  have B2 : Below w1.heap.size w1 w2 := by repeat' (first | (with_reducible exact Below.refl _ _) | (with_reducible refine Below.alloc ?_ ?_ _) | (with_reducible refine Below.setCell ?_ ?_ _) | (with_reducible refine Below.drew ?_) | (with_reducible refine Below.trans ?_ (Below.mono (by assumption) ?_)) | (simp; done) | (simp; omega) | omega)
  clear hb
  go_wp2_with (go_at_call 96; refine (span_any _ _ _).mono ?_; rintro e w' ⟨rfl, rfl⟩)
  refine (c3 _).mono ?_; rintro e w3 ⟨rfl, hb⟩
  have pz : w2.heap.size < (w3).heap.size := Nat.lt_of_lt_of_le (show w2.heap.size < _ from (by first | assumption | (simp; done) | (simp; omega) | (dsimp only; omega) | omega)) hb.size; have p0 : (w3).cell? ⟨w2.heap.size, 0, none⟩ = some (.int .i64 (-1)) := (hb.cell (p := ⟨w2.heap.size, 0, none⟩) (by first | assumption | (simp; done) | (simp; omega) | (dsimp only; omega) | omega)).trans (by first | assumption | (simp [go_sem]; done) | (simp [go_sem, *]; done)); have p1 : (w3).cell? ⟨w2.heap.size, 1, none⟩ = some (.int .i64 (6)) := (hb.cell (p := ⟨w2.heap.size, 1, none⟩) (by first | assumption | (simp; done) | (simp; omega) | (dsimp only; omega) | omega)).trans (by first | assumption | (simp [go_sem]; done) | (simp [go_sem, *]; done))
  have P3 := hid (And.intro pz (And.intro p0 p1))
  clear pz p0 p1
  have B3 : Below w2.heap.size w2 w3 := by repeat' (first | (with_reducible exact Below.refl _ _) | (with_reducible refine Below.alloc ?_ ?_ _) | (with_reducible refine Below.setCell ?_ ?_ _) | (with_reducible refine Below.drew ?_) | (with_reducible refine Below.trans ?_ (Below.mono (by assumption) ?_)) | (simp; done) | (simp; omega) | omega)
  clear hb
  go_wp2_with (go_at_call 96; refine (span_any _ _ _).mono ?_; rintro e w' ⟨rfl, rfl⟩)
  refine (c4 _).mono ?_; rintro e w4 ⟨rfl, hb⟩
  have pz : w3.heap.size < (w4).heap.size := Nat.lt_of_lt_of_le (show w3.heap.size < _ from (by first | assumption | (simp; done) | (simp; omega) | (dsimp only; omega) | omega)) hb.size; have p0 : (w4).cell? ⟨w3.heap.size, 0, none⟩ = some (.int .i64 (-2)) := (hb.cell (p := ⟨w3.heap.size, 0, none⟩) (by first | assumption | (simp; done) | (simp; omega) | (dsimp only; omega) | omega)).trans (by first | assumption | (simp [go_sem]; done) | (simp [go_sem, *]; done)); have p1 : (w4).cell? ⟨w3.heap.size, 1, none⟩ = some (.int .i64 (3)) := (hb.cell (p := ⟨w3.heap.size, 1, none⟩) (by first | assumption | (simp; done) | (simp; omega) | (dsimp only; omega) | omega)).trans (by first | assumption | (simp [go_sem]; done) | (simp [go_sem, *]; done))
  have P4 := hid (And.intro pz (And.intro p0 p1))
  clear pz p0 p1
  have B4 : Below w3.heap.size w3 w4 := by repeat' (first | (with_reducible exact Below.refl _ _) | (with_reducible refine Below.alloc ?_ ?_ _) | (with_reducible refine Below.setCell ?_ ?_ _) | (with_reducible refine Below.drew ?_) | (with_reducible refine Below.trans ?_ (Below.mono (by assumption) ?_)) | (simp; done) | (simp; omega) | omega)
  clear hb
  go_wp2_with (go_at_call 96; refine (span_any _ _ _).mono ?_; rintro e w' ⟨rfl, rfl⟩)
  refine (c5 _).mono ?_; rintro e w5 ⟨rfl, hb⟩
  have pz : w4.heap.size < (w5).heap.size := Nat.lt_of_lt_of_le (show w4.heap.size < _ from (by first | assumption | (simp; done) | (simp; omega) | (dsimp only; omega) | omega)) hb.size; have p0 : (w5).cell? ⟨w4.heap.size, 0, none⟩ = some (.int .i64 (0)) := (hb.cell (p := ⟨w4.heap.size, 0, none⟩) (by first | assumption | (simp; done) | (simp; omega) | (dsimp only; omega) | omega)).trans (by first | assumption | (simp [go_sem]; done) | (simp [go_sem, *]; done)); have p1 : (w5).cell? ⟨w4.heap.size, 1, none⟩ = some (.int .i64 (1)) := (hb.cell (p := ⟨w4.heap.size, 1, none⟩) (by first | assumption | (simp; done) | (simp; omega) | (dsimp only; omega) | omega)).trans (by first | assumption | (simp [go_sem]; done) | (simp [go_sem, *]; done))
  have P5 := hid (And.intro pz (And.intro p0 p1))
  clear pz p0 p1
  have B5 : Below w4.heap.size w4 w5 := by repeat' (first | (with_reducible exact Below.refl _ _) | (with_reducible refine Below.alloc ?_ ?_ _) | (with_reducible refine Below.setCell ?_ ?_ _) | (with_reducible refine Below.drew ?_) | (with_reducible refine Below.trans ?_ (Below.mono (by assumption) ?_)) | (simp; done) | (simp; omega) | omega)
  clear hb
  go_wp2_with (go_at_call 96; refine (span_any _ _ _).mono ?_; rintro e w' ⟨rfl, rfl⟩)
  refine (c6 _).mono ?_; rintro e w6 ⟨rfl, hb⟩
  have pz : w5.heap.size < (w6).heap.size := Nat.lt_of_lt_of_le (show w5.heap.size < _ from (by first | assumption | (simp; done) | (simp; omega) | (dsimp only; omega) | omega)) hb.size; have p0 : (w6).cell? ⟨w5.heap.size, 0, none⟩ = some (.int .i64 (0)) := (hb.cell (p := ⟨w5.heap.size, 0, none⟩) (by first | assumption | (simp; done) | (simp; omega) | (dsimp only; omega) | omega)).trans (by first | assumption | (simp [go_sem]; done) | (simp [go_sem, *]; done)); have p1 : (w6).cell? ⟨w5.heap.size, 1, none⟩ = some (.int .i64 (0)) := (hb.cell (p := ⟨w5.heap.size, 1, none⟩) (by first | assumption | (simp; done) | (simp; omega) | (dsimp only; omega) | omega)).trans (by first | assumption | (simp [go_sem]; done) | (simp [go_sem, *]; done))
  have P6 := hid (And.intro pz (And.intro p0 p1))
  clear pz p0 p1
  have B6 : Below w5.heap.size w5 w6 := by repeat' (first | (with_reducible exact Below.refl _ _) | (with_reducible refine Below.alloc ?_ ?_ _) | (with_reducible refine Below.setCell ?_ ?_ _) | (with_reducible refine Below.drew ?_) | (with_reducible refine Below.trans ?_ (Below.mono (by assumption) ?_)) | (simp; done) | (simp; omega) | omega)
  clear hb
  go_wp2_with (go_at_call 96; refine (span_any _ _ _).mono ?_; rintro e w' ⟨rfl, rfl⟩)
  refine (c7 _).mono ?_; rintro e w7 ⟨rfl, hb⟩
  have pz : w6.heap.size < (w7).heap.size := Nat.lt_of_lt_of_le (show w6.heap.size < _ from (by first | assumption | (simp; done) | (simp; omega) | (dsimp only; omega) | omega)) hb.size; have p0 : (w7).cell? ⟨w6.heap.size, 0, none⟩ = some (.int .i64 (3)) := (hb.cell (p := ⟨w6.heap.size, 0, none⟩) (by first | assumption | (simp; done) | (simp; omega) | (dsimp only; omega) | omega)).trans (by first | assumption | (simp [go_sem]; done) | (simp [go_sem, *]; done)); have p1 : (w7).cell? ⟨w6.heap.size, 1, none⟩ = some (.int .i64 (3)) := (hb.cell (p := ⟨w6.heap.size, 1, none⟩) (by first | assumption | (simp; done) | (simp; omega) | (dsimp only; omega) | omega)).trans (by first | assumption | (simp [go_sem]; done) | (simp [go_sem, *]; done))
  have P7 := hid (And.intro pz (And.intro p0 p1))
  clear pz p0 p1
  have B7 : Below w6.heap.size w6 w7 := by repeat' (first | (with_reducible exact Below.refl _ _) | (with_reducible refine Below.alloc ?_ ?_ _) | (with_reducible refine Below.setCell ?_ ?_ _) | (with_reducible refine Below.drew ?_) | (with_reducible refine Below.trans ?_ (Below.mono (by assumption) ?_)) | (simp; done) | (simp; omega) | omega)
  clear hb
  go_wp2_with (go_at_call 96; refine (span_any _ _ _).mono ?_; rintro e w' ⟨rfl, rfl⟩)
  refine (c8 _).mono ?_; rintro e w8 ⟨rfl, hb⟩
  have pz : w7.heap.size < (w8).heap.size := Nat.lt_of_lt_of_le (show w7.heap.size < _ from (by first | assumption | (simp; done) | (simp; omega) | (dsimp only; omega) | omega)) hb.size; have p0 : (w8).cell? ⟨w7.heap.size, 0, none⟩ = some (.int .i64 (0)) := (hb.cell (p := ⟨w7.heap.size, 0, none⟩) (by first | assumption | (simp; done) | (simp; omega) | (dsimp only; omega) | omega)).trans (by first | assumption | (simp [go_sem]; done) | (simp [go_sem, *]; done)); have p1 : (w8).cell? ⟨w7.heap.size, 1, none⟩ = some (.int .i64 (0)) := (hb.cell (p := ⟨w7.heap.size, 1, none⟩) (by first | assumption | (simp; done) | (simp; omega) | (dsimp only; omega) | omega)).trans (by first | assumption | (simp [go_sem]; done) | (simp [go_sem, *]; done))
  have P8 := hid (And.intro pz (And.intro p0 p1))
  clear pz p0 p1
  have B8 : Below w7.heap.size w7 w8 := by repeat' (first | (with_reducible exact Below.refl _ _) | (with_reducible refine Below.alloc ?_ ?_ _) | (with_reducible refine Below.setCell ?_ ?_ _) | (with_reducible refine Below.drew ?_) | (with_reducible refine Below.trans ?_ (Below.mono (by assumption) ?_)) | (simp; done) | (simp; omega) | omega)
  clear hb
  obtain ⟨k2z, k20, k21⟩ := (keep2 B8 (keep2 B7 (keep2 B6 (keep2 B5 (keep2 B4 (keep2 B3 P2.out))))))
  obtain ⟨k3z, k30, k31⟩ := (keep2 B8 (keep2 B7 (keep2 B6 (keep2 B5 (keep2 B4 P3.out)))))
  obtain ⟨k4z, k40, k41⟩ := (keep2 B8 (keep2 B7 (keep2 B6 (keep2 B5 P4.out))))
  obtain ⟨k5z, k50, k51⟩ := (keep2 B8 (keep2 B7 (keep2 B6 P5.out)))
  obtain ⟨k6z, k60, k61⟩ := (keep2 B8 (keep2 B7 P6.out))
  obtain ⟨k7z, k70, k71⟩ := (keep2 B8 P7.out)
  obtain ⟨k8z, k80, k81⟩ := P8.out
  have BB : Below w.heap.size w w8 := B1.trans ((B2.trans ((B3.trans ((B4.trans ((B5.trans ((B6.trans ((B7.trans ((B8).mono B7.size)).mono B6.size)).mono B5.size)).mono B4.size)).mono B3.size)).mono B2.size)).mono B1.size)
  have BH := hid BB
  have hsz := BB.size
  clear BB B1 B2 B3 B4 B5 B6 B7 B8 P2 P3 P4 P5 P6 P7 P8 c1 c2 c3 c4 c5 c6 c7 c8
  have co := fun w => icontains_any 3 3 3 w
  have e1 : Sp.inB 3 3 3 = true := by decide
  rw [e1] at co
  clear e1
  have G1 : ∀ W, Below w8.heap.size w8 W → W.heap.size ≤ W.heap.size := fun _ _ => Nat.le_refl _
  clear G1
  go_wp2_with fail
  refine (is_any 1 8 _).mono ?_; rintro e y1 ⟨rfl, hb⟩
  have m2z : w2.heap.size < (y1).heap.size := Nat.lt_of_lt_of_le (show w2.heap.size < _ from (by first | assumption | (simp; done) | (simp; omega) | (dsimp only; omega) | omega)) hb.size; have m20 : (y1).cell? ⟨w2.heap.size, 0, none⟩ = some (.int .i64 (-1)) := (hb.cell (p := ⟨w2.heap.size, 0, none⟩) (by first | assumption | (simp; done) | (simp; omega) | (dsimp only; omega) | omega)).trans (by first | assumption | (simp [go_sem]; done) | (simp [go_sem, *]; done)); have m21 : (y1).cell? ⟨w2.heap.size, 1, none⟩ = some (.int .i64 (6)) := (hb.cell (p := ⟨w2.heap.size, 1, none⟩) (by first | assumption | (simp; done) | (simp; omega) | (dsimp only; omega) | omega)).trans (by first | assumption | (simp [go_sem]; done) | (simp [go_sem, *]; done))
  have M2 := hid (And.intro m2z (And.intro m20 m21))
  have m3z : w3.heap.size < (y1).heap.size := Nat.lt_of_lt_of_le (show w3.heap.size < _ from (by first | assumption | (simp; done) | (simp; omega) | (dsimp only; omega) | omega)) hb.size; have m30 : (y1).cell? ⟨w3.heap.size, 0, none⟩ = some (.int .i64 (-2)) := (hb.cell (p := ⟨w3.heap.size, 0, none⟩) (by first | assumption | (simp; done) | (simp; omega) | (dsimp only; omega) | omega)).trans (by first | assumption | (simp [go_sem]; done) | (simp [go_sem, *]; done)); have m31 : (y1).cell? ⟨w3.heap.size, 1, none⟩ = some (.int .i64 (3)) := (hb.cell (p := ⟨w3.heap.size, 1, none⟩) (by first | assumption | (simp; done) | (simp; omega) | (dsimp only; omega) | omega)).trans (by first | assumption | (simp [go_sem]; done) | (simp [go_sem, *]; done))
  have M3 := hid (And.intro m3z (And.intro m30 m31))
  have m4z : w4.heap.size < (y1).heap.size := Nat.lt_of_lt_of_le (show w4.heap.size < _ from (by first | assumption | (simp; done) | (simp; omega) | (dsimp only; omega) | omega)) hb.size; have m40 : (y1).cell? ⟨w4.heap.size, 0, none⟩ = some (.int .i64 (0)) := (hb.cell (p := ⟨w4.heap.size, 0, none⟩) (by first | assumption | (simp; done) | (simp; omega) | (dsimp only; omega) | omega)).trans (by first | assumption | (simp [go_sem]; done) | (simp [go_sem, *]; done)); have m41 : (y1).cell? ⟨w4.heap.size, 1, none⟩ = some (.int .i64 (1)) := (hb.cell (p := ⟨w4.heap.size, 1, none⟩) (by first | assumption | (simp; done) | (simp; omega) | (dsimp only; omega) | omega)).trans (by first | assumption | (simp [go_sem]; done) | (simp [go_sem, *]; done))
  have M4 := hid (And.intro m4z (And.intro m40 m41))
  have m6z : w6.heap.size < (y1).heap.size := Nat.lt_of_lt_of_le (show w6.heap.size < _ from (by first | assumption | (simp; done) | (simp; omega) | (dsimp only; omega) | omega)) hb.size; have m60 : (y1).cell? ⟨w6.heap.size, 0, none⟩ = some (.int .i64 (3)) := (hb.cell (p := ⟨w6.heap.size, 0, none⟩) (by first | assumption | (simp; done) | (simp; omega) | (dsimp only; omega) | omega)).trans (by first | assumption | (simp [go_sem]; done) | (simp [go_sem, *]; done)); have m61 : (y1).cell? ⟨w6.heap.size, 1, none⟩ = some (.int .i64 (3)) := (hb.cell (p := ⟨w6.heap.size, 1, none⟩) (by first | assumption | (simp; done) | (simp; omega) | (dsimp only; omega) | omega)).trans (by first | assumption | (simp [go_sem]; done) | (simp [go_sem, *]; done))
  have M6 := hid (And.intro m6z (And.intro m60 m61))
  have m8z : w8.heap.size < (y1).heap.size := Nat.lt_of_lt_of_le (show w8.heap.size < _ from (by first | assumption | (simp; done) | (simp; omega) | (dsimp only; omega) | omega)) hb.size; have m80 : (y1).cell? ⟨w8.heap.size, 0, none⟩ = some (.int .i64 (-4)) := (hb.cell (p := ⟨w8.heap.size, 0, none⟩) (by first | assumption | (simp; done) | (simp; omega) | (dsimp only; omega) | omega)).trans (by first | assumption | (simp [go_sem]; done) | (simp [go_sem, *]; done)); have m81 : (y1).cell? ⟨w8.heap.size, 1, none⟩ = some (.int .i64 (-3)) := (hb.cell (p := ⟨w8.heap.size, 1, none⟩) (by first | assumption | (simp; done) | (simp; omega) | (dsimp only; omega) | omega)).trans (by first | assumption | (simp [go_sem]; done) | (simp [go_sem, *]; done))
  have M8 := hid (And.intro m8z (And.intro m80 m81))
  have BB : Below w8.heap.size w8 y1 := by repeat' (first | (with_reducible exact Below.refl _ _) | (with_reducible refine Below.alloc ?_ ?_ _) | (with_reducible refine Below.setCell ?_ ?_ _) | (with_reducible refine Below.drew ?_) | (with_reducible refine Below.trans ?_ (Below.mono (by assumption) ?_)) | (simp; done) | (simp; omega) | omega)
  have BA := hid BB
  clear BB hb m2z m20 m21 m3z m30 m31 m4z m40 m41 m6z m60 m61 m8z m80 m81 k2z k20 k21 k3z k30 k31 k4z k40 k41 k5z k50 k51 k6z k60 k61 k7z k70 k71 k8z k80 k81
  obtain ⟨xz, x0, x1⟩ := M2.out
  go_wp2_with fail
  refine (is_any (-1) (6) _).mono ?_; rintro e y2 ⟨rfl, hb⟩
  clear xz x0 x1
  have M3 := hid (keep2 hb M3.out)
  have M4 := hid (keep2 hb M4.out)
  have M6 := hid (keep2 hb M6.out)
  have M8 := hid (keep2 hb M8.out)
  have BA := hid (BA.out.trans (hb.mono BA.out.size))
  clear hb
  obtain ⟨xz, x0, x1⟩ := M3.out
  go_wp2_with fail
  refine (is_any (-2) (3) _).mono ?_; rintro e y3 ⟨rfl, hb⟩
  clear xz x0 x1
  have M4 := hid (keep2 hb M4.out)
  have M6 := hid (keep2 hb M6.out)
  have M8 := hid (keep2 hb M8.out)
  have BA := hid (BA.out.trans (hb.mono BA.out.size))
  clear hb
  obtain ⟨xz, x0, x1⟩ := M4.out
  go_wp2_with fail
  refine (is_any (0) (1) _).mono ?_; rintro e y4 ⟨rfl, hb⟩
  clear xz x0 x1
  have M6 := hid (keep2 hb M6.out)
  have M8 := hid (keep2 hb M8.out)
  have BA := hid (BA.out.trans (hb.mono BA.out.size))
  clear hb
  obtain ⟨xz, x0, x1⟩ := M6.out
  go_wp2_with fail
  refine (is_any (3) (3) _).mono ?_; rintro e y5 ⟨rfl, hb⟩
  clear xz x0 x1
  have M6 := hid (keep2 hb M6.out)
  have M8 := hid (keep2 hb M8.out)
  have BA := hid (BA.out.trans (hb.mono BA.out.size))
  clear hb
  obtain ⟨xz, x0, x1⟩ := M8.out
  go_wp2_with fail
  refine (is_any (-4) (-3) _).mono ?_; rintro e y6 ⟨rfl, hb⟩
  clear xz x0 x1
  have M6 := hid (keep2 hb M6.out)
  have BA := hid (BA.out.trans (hb.mono BA.out.size))
  clear hb
  obtain ⟨xz, x0, x1⟩ := M6.out
  go_wp2_with fail
  refine (co _).mono ?_; rintro e y9 ⟨rfl, hb⟩
  go_wp2_with fail
  go_ret
  have B1 := BH.out
  have B2 := BA.out
  have B3 := B2.size
  exact Gives.mk rfl (B1.trans ((B2.trans (hb.mono B3)).mono hsz))
end Go.Proofs.Ytnphibbhcogdkaa
