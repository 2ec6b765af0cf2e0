/-
  The chapter's examples, as the statements of layer 1 ask them: each holds.
-/
import Derived.Test.YthfnblifefnfmaaWtext
import Derived.Test.YthfnblifefnfmaaWdot
import Derived.Test.YthfnblifefnfmaaWint
import Derived.Deep.RegionHeld3
namespace Go.Proofs.Ythfnblifefnfmaa
open Go.RowKit
set_option linter.unusedVariables false

theorem twenty : (⟨#[50, 48, 48, 48, 48, 48, 48, 48, 48, 48, 48, 48, 48, 48, 48, 48, 48, 48, 48, 48]⟩ : ByteArray) = ⟨(Lib.itoa (Wd.toInt ⟨false, 1, 1553255926290448384⟩)).toArray⟩ := by
  have e : Wd.toInt ⟨false, 1, 1553255926290448384⟩ = 20000000000000000000 := by decide
  rw [e]
  unfold Lib.itoa
  rw [if_neg (by decide)]
  simp [Lib.decDigits]
theorem keep3 {W w1 : World} {b : Nat} {x y z : Value} (h : Below W.heap.size W w1) (k : b < W.heap.size ∧ W.cell? ⟨b, 0, none⟩ = some x ∧ W.cell? ⟨b, 1, none⟩ = some y ∧ W.cell? ⟨b, 2, none⟩ = some z) :
    b < w1.heap.size ∧ w1.cell? ⟨b, 0, none⟩ = some x ∧ w1.cell? ⟨b, 1, none⟩ = some y ∧ w1.cell? ⟨b, 2, none⟩ = some z :=
  ⟨Nat.lt_of_lt_of_le k.1 h.size, (h.cell (p := ⟨b, 0, none⟩) k.1).trans k.2.1, (h.cell (p := ⟨b, 1, none⟩) k.1).trans k.2.2.1, (h.cell (p := ⟨b, 2, none⟩) k.1).trans k.2.2.2⟩
set_option maxRecDepth 100000 in
set_option maxHeartbeats 2000000 in
theorem awake_any (w : World) : Calls Try.prog 16 #[] w (Gives (.bool true) w) := by
  have c1 := fun w => mul_any 4000000000 5000000000 (by omega) (by omega) (by omega) (by omega) false 1 1553255926290448384 (by decide) w
  have c2 := fun w => of_any (-7) (by omega) (by omega) true 0 7 (by decide) w
  have c3 := fun w => divFloor_any true 0 7 2 (by unfold Wd.Fits; simp) (by omega) (by omega) true 0 4 1 0 (by decide) w
  have c4 := fun w => of_any 7 (by omega) (by omega) false 0 7 (by decide) w
  have c5 := fun w => divFloor_any false 0 7 (-2) (by unfold Wd.Fits; simp) (by omega) (by omega) true 0 4 (-1) 0 (by decide) w
  have c6 := fun w => of_any 12 (by omega) (by omega) false 0 12 (by decide) w
  have c7 := fun w => gcd_any false 0 12 (-18) (by unfold Wd.Fits; simp) (by omega) (by omega) 6 0 (by decide) w
  have c9 := fun w => int_any false 0 9223372036854775808 (by unfold Wd.Fits; simp) 0 8 (by decide) w
  have c10 := fun w => int_any true 0 9223372036854775808 (by unfold Wd.Fits; simp) (-9223372036854775808) 0 (by decide) w
  have c11 := fun w => text_any false 1 1553255926290448384 (by unfold Wd.Fits; simp) (by decide) ⟨#[50, 48, 48, 48, 48, 48, 48, 48, 48, 48, 48, 48, 48, 48, 48, 48, 48, 48, 48, 48]⟩ twenty w
  have c12 := fun w => of_any (-3) (by omega) (by omega) true 0 3 (by decide) w
  have c13 := fun w => of_any (-4) (by omega) (by omega) true 0 4 (by decide) w
  have c14 := fun w => of_any 32 (by omega) (by omega) false 0 32 (by decide) w
  have c15 := fun w => products_any 3 5 2 8 (by omega) (by omega) (by omega) (by omega) (by omega) (by omega) (by omega) (by omega) w
  have hp : Wd.cmpI (3 * 5) (2 * 8) = -1 := by decide
  rw [hp] at c15
  clear hp
  go_enter Try.func16, Try.ntmps16
  go_wp2_with fail
  refine (c1 _).mono ?_; rintro e w' ⟨rfl, rfl⟩
  go_wp2_with fail
  refine (c2 _).mono ?_; rintro e w' ⟨rfl, rfl⟩
  go_wp2_with fail
  refine (c3 _).mono ?_; rintro e w1 ⟨rfl, hb⟩
  have pz : w.heap.size + 1 + 1 < (w1).heap.size := Nat.lt_of_lt_of_le (show w.heap.size + 1 + 1 < _ from (by first | assumption | (simp; done) | (simp; omega) | (dsimp only; omega) | omega)) hb.size; have p0 : (w1).cell? ⟨w.heap.size + 1 + 1, 0, none⟩ = some (.bool false) := (hb.cell (p := ⟨w.heap.size + 1 + 1, 0, none⟩) (by first | assumption | (simp; done) | (simp; omega) | (dsimp only; omega) | omega)).trans (by first | assumption | (simp [go_sem]; done) | (simp [go_sem, *]; done)); have p1 : (w1).cell? ⟨w.heap.size + 1 + 1, 1, none⟩ = some (.int .u64 1) := (hb.cell (p := ⟨w.heap.size + 1 + 1, 1, none⟩) (by first | assumption | (simp; done) | (simp; omega) | (dsimp only; omega) | omega)).trans (by first | assumption | (simp [go_sem]; done) | (simp [go_sem, *]; done)); have p2 : (w1).cell? ⟨w.heap.size + 1 + 1, 2, none⟩ = some (.int .u64 1553255926290448384) := (hb.cell (p := ⟨w.heap.size + 1 + 1, 2, none⟩) (by first | assumption | (simp; done) | (simp; omega) | (dsimp only; omega) | omega)).trans (by first | assumption | (simp [go_sem]; done) | (simp [go_sem, *]; done))
  have P1 := hid (And.intro pz (And.intro p0 (And.intro p1 p2)))
  clear pz p0 p1 p2
  have B1 : Below w.heap.size w w1 := by repeat' (first | (with_reducible exact Below.refl _ _) | (with_reducible refine Below.alloc ?_ ?_ _) | (with_reducible refine Below.setCell ?_ ?_ _) | (with_reducible refine Below.drew ?_) | (with_reducible refine Below.trans ?_ (Below.mono (by assumption) ?_)) | (simp; done) | (simp; omega) | omega)
  clear hb
  go_wp2_with fail
  refine (c4 _).mono ?_; rintro e w' ⟨rfl, rfl⟩
  go_wp2_with fail
  refine (c5 _).mono ?_; rintro e w2 ⟨rfl, hb⟩
  have rz : w1.heap.size < (w2).heap.size := Nat.lt_of_lt_of_le (show w1.heap.size < _ from (by first | assumption | (simp; done) | (simp; omega) | (dsimp only; omega) | omega)) hb.size; have r0 : (w2).cell? ⟨w1.heap.size, 0, none⟩ = some (.bool true) := (hb.cell (p := ⟨w1.heap.size, 0, none⟩) (by first | assumption | (simp; done) | (simp; omega) | (dsimp only; omega) | omega)).trans (by first | assumption | (simp [go_sem]; done) | (simp [go_sem, *]; done)); have r1 : (w2).cell? ⟨w1.heap.size, 1, none⟩ = some (.int .u64 0) := (hb.cell (p := ⟨w1.heap.size, 1, none⟩) (by first | assumption | (simp; done) | (simp; omega) | (dsimp only; omega) | omega)).trans (by first | assumption | (simp [go_sem]; done) | (simp [go_sem, *]; done)); have r2 : (w2).cell? ⟨w1.heap.size, 2, none⟩ = some (.int .u64 4) := (hb.cell (p := ⟨w1.heap.size, 2, none⟩) (by first | assumption | (simp; done) | (simp; omega) | (dsimp only; omega) | omega)).trans (by first | assumption | (simp [go_sem]; done) | (simp [go_sem, *]; done))
  have Q2 := hid (And.intro rz (And.intro r0 (And.intro r1 r2)))
  have B2 : Below w1.heap.size w1 w2 := by repeat' (first | (with_reducible exact Below.refl _ _) | (with_reducible refine Below.alloc ?_ ?_ _) | (with_reducible refine Below.setCell ?_ ?_ _) | (with_reducible refine Below.drew ?_) | (with_reducible refine Below.trans ?_ (Below.mono (by assumption) ?_)) | (simp; done) | (simp; omega) | omega)
  clear rz r0 r1 r2 hb
  go_wp2_with fail
  refine (c6 _).mono ?_; rintro e w' ⟨rfl, rfl⟩
  go_wp2_with fail
  refine (c7 _).mono ?_; rintro e w3 ⟨rfl, hb⟩
  have uz : w2.heap.size < (w3).heap.size := Nat.lt_of_lt_of_le (show w2.heap.size < _ from (by first | assumption | (simp; done) | (simp; omega) | (dsimp only; omega) | omega)) hb.size; have u0 : (w3).cell? ⟨w2.heap.size, 0, none⟩ = some (.bool true) := (hb.cell (p := ⟨w2.heap.size, 0, none⟩) (by first | assumption | (simp; done) | (simp; omega) | (dsimp only; omega) | omega)).trans (by first | assumption | (simp [go_sem]; done) | (simp [go_sem, *]; done)); have u1 : (w3).cell? ⟨w2.heap.size, 1, none⟩ = some (.int .u64 0) := (hb.cell (p := ⟨w2.heap.size, 1, none⟩) (by first | assumption | (simp; done) | (simp; omega) | (dsimp only; omega) | omega)).trans (by first | assumption | (simp [go_sem]; done) | (simp [go_sem, *]; done)); have u2 : (w3).cell? ⟨w2.heap.size, 2, none⟩ = some (.int .u64 4) := (hb.cell (p := ⟨w2.heap.size, 2, none⟩) (by first | assumption | (simp; done) | (simp; omega) | (dsimp only; omega) | omega)).trans (by first | assumption | (simp [go_sem]; done) | (simp [go_sem, *]; done))
  have U3 := hid (And.intro uz (And.intro u0 (And.intro u1 u2)))
  have B3 : Below w2.heap.size w2 w3 := by repeat' (first | (with_reducible exact Below.refl _ _) | (with_reducible refine Below.alloc ?_ ?_ _) | (with_reducible refine Below.setCell ?_ ?_ _) | (with_reducible refine Below.drew ?_) | (with_reducible refine Below.trans ?_ (Below.mono (by assumption) ?_)) | (simp; done) | (simp; omega) | omega)
  clear uz u0 u1 u2 hb
  go_wp2_with fail
  refine (dot_walk ⟨w3.heap.size, 0, none⟩ ⟨w3.heap.size + 1, 0, none⟩ [1, 2, 3] [4, 5, 6] 3 3 rfl (by decide) (by decide) (by decide) (by decide) false 0 32 0 (by decide) _ rfl rfl ?_ ?_ (by simp; omega) (by simp)).mono ?_
  · intro i hi
    have : i = 0 ∨ i = 1 ∨ i = 2 := by simp at hi; omega
    rcases this with rfl | rfl | rfl <;> simp [go_sem]
  · intro i hi
    have : i = 0 ∨ i = 1 ∨ i = 2 := by simp at hi; omega
    rcases this with rfl | rfl | rfl <;> simp [go_sem]
  rintro e w4 ⟨rfl, hb⟩
  have B4 : Below w3.heap.size w3 w4 := by repeat' (first | (with_reducible exact Below.refl _ _) | (with_reducible refine Below.alloc ?_ ?_ _) | (with_reducible refine Below.setCell ?_ ?_ _) | (with_reducible refine Below.drew ?_) | (with_reducible refine Below.trans ?_ (Below.mono (by assumption) ?_)) | (simp; done) | (simp; omega) | omega)
  clear hb
  go_wp2_with fail
  refine (c9 _).mono ?_; rintro e w5 ⟨rfl, hb⟩
  have vz : w4.heap.size < (w5).heap.size := Nat.lt_of_lt_of_le (show w4.heap.size < _ from (by first | assumption | (simp; done) | (simp; omega) | (dsimp only; omega) | omega)) hb.size; have v0 : (w5).cell? ⟨w4.heap.size, 0, none⟩ = some (.bool false) := (hb.cell (p := ⟨w4.heap.size, 0, none⟩) (by first | assumption | (simp; done) | (simp; omega) | (dsimp only; omega) | omega)).trans (by first | assumption | (simp [go_sem]; done) | (simp [go_sem, *]; done)); have v1 : (w5).cell? ⟨w4.heap.size, 1, none⟩ = some (.int .u64 0) := (hb.cell (p := ⟨w4.heap.size, 1, none⟩) (by first | assumption | (simp; done) | (simp; omega) | (dsimp only; omega) | omega)).trans (by first | assumption | (simp [go_sem]; done) | (simp [go_sem, *]; done)); have v2 : (w5).cell? ⟨w4.heap.size, 2, none⟩ = some (.int .u64 32) := (hb.cell (p := ⟨w4.heap.size, 2, none⟩) (by first | assumption | (simp; done) | (simp; omega) | (dsimp only; omega) | omega)).trans (by first | assumption | (simp [go_sem]; done) | (simp [go_sem, *]; done))
  have V5 := hid (And.intro vz (And.intro v0 (And.intro v1 v2)))
  have B5 : Below w4.heap.size w4 w5 := by repeat' (first | (with_reducible exact Below.refl _ _) | (with_reducible refine Below.alloc ?_ ?_ _) | (with_reducible refine Below.setCell ?_ ?_ _) | (with_reducible refine Below.drew ?_) | (with_reducible refine Below.trans ?_ (Below.mono (by assumption) ?_)) | (simp; done) | (simp; omega) | omega)
  clear vz v0 v1 v2 hb
  go_wp2_with fail
  refine (c10 _).mono ?_; rintro e w6 ⟨rfl, B6⟩
  obtain ⟨pz, p0, p1, p2⟩ := keep3 B6 (keep3 B5 (keep3 B4 (keep3 B3 (keep3 B2 P1.out))))
  go_wp2_with fail
  refine (c11 _).mono ?_; rintro e w7 ⟨rfl, B7⟩
  clear pz p0 p1 p2
  go_wp2_with fail
  refine (c12 _).mono ?_; rintro e w' ⟨rfl, rfl⟩
  go_wp2_with fail
  have BB : Below w.heap.size w w7 := B1.trans ((B2.trans ((B3.trans ((B4.trans ((B5.trans ((B6.trans (B7.mono B6.size)).mono B5.size)).mono B4.size)).mono B3.size)).mono B2.size)).mono B1.size)
  have k2 := keep3 B7 (keep3 B6 (keep3 B5 (keep3 B4 (keep3 B3 Q2.out))))
  have k5 := keep3 B7 (keep3 B6 (keep3 B5 (keep3 B4 U3.out)))
  have k10 := keep3 B7 (keep3 B6 V5.out)
  have K : Hid (∀ W', Below w7.heap.size w7 W' → (Below w7.heap.size w7 W' ∧ W'.cell? ⟨w1.heap.size, 0, none⟩ = some (.bool true) ∧ W'.cell? ⟨w1.heap.size, 1, none⟩ = some (.int .u64 0) ∧ W'.cell? ⟨w1.heap.size, 2, none⟩ = some (.int .u64 4) ∧ W'.cell? ⟨w2.heap.size, 0, none⟩ = some (.bool true) ∧ W'.cell? ⟨w2.heap.size, 1, none⟩ = some (.int .u64 0) ∧ W'.cell? ⟨w2.heap.size, 2, none⟩ = some (.int .u64 4) ∧ W'.cell? ⟨w4.heap.size, 0, none⟩ = some (.bool false) ∧ W'.cell? ⟨w4.heap.size, 1, none⟩ = some (.int .u64 0) ∧ W'.cell? ⟨w4.heap.size, 2, none⟩ = some (.int .u64 32))) := hid fun W' B =>
    ⟨B, (keep3 B k2).2.1, (keep3 B k2).2.2.1, (keep3 B k2).2.2.2, (keep3 B k5).2.1, (keep3 B k5).2.2.1, (keep3 B k5).2.2.2, (keep3 B k10).2.1, (keep3 B k10).2.2.1, (keep3 B k10).2.2.2⟩
  have BH := hid BB
  clear BB B1 B2 B3 B4 B5 B6 B7 k2 k5 k10 P1 Q2 U3 V5 c1 c2 c3 c4 c5 c6 c7 c9 c10 c11 c12
  go_region_held3 (fun w' => Below w7.heap.size w7 w' ∧ w'.cell? ⟨w1.heap.size, 0, none⟩ = some (.bool true) ∧ w'.cell? ⟨w1.heap.size, 1, none⟩ = some (.int .u64 0) ∧ w'.cell? ⟨w1.heap.size, 2, none⟩ = some (.int .u64 4) ∧ w'.cell? ⟨w2.heap.size, 0, none⟩ = some (.bool true) ∧ w'.cell? ⟨w2.heap.size, 1, none⟩ = some (.int .u64 0) ∧ w'.cell? ⟨w2.heap.size, 2, none⟩ = some (.int .u64 4) ∧ w'.cell? ⟨w4.heap.size, 0, none⟩ = some (.bool false) ∧ w'.cell? ⟨w4.heap.size, 1, none⟩ = some (.int .u64 0) ∧ w'.cell? ⟨w4.heap.size, 2, none⟩ = some (.int .u64 32)) ((exact K.out _ (by repeat' (first | (with_reducible exact Below.refl _ _) | (with_reducible refine Below.alloc ?_ ?_ _) | (with_reducible refine Below.setCell ?_ ?_ _) | (with_reducible refine Below.drew ?_) | (with_reducible refine Below.trans ?_ (Below.mono (by assumption) ?_)) | (simp; done) | (simp; omega) | omega))))
    (first | (go_at_call 12; (with_reducible refine (c14 _).mono ?_); rintro e w8 ⟨rfl, rfl⟩) | (go_at_call 12; refine (c13 _).mono ?_; rintro e w8 ⟨rfl, rfl⟩) | (go_at_call 23; refine (c15 _).mono ?_; rintro e w8 ⟨rfl, hb8⟩))
  have BB := BH.out
  have sz := BB.size
  go_wp2
  go_ret
  exact Gives.mk rfl (by repeat' (first | (with_reducible exact Below.refl _ _) | (with_reducible refine Below.alloc ?_ ?_ _) | (with_reducible refine Below.setCell ?_ ?_ _) | (with_reducible refine Below.drew ?_) | (with_reducible refine Below.trans ?_ (Below.mono (by assumption) ?_)) | (simp; done) | (simp; omega) | omega))
end Go.Proofs.Ythfnblifefnfmaa
