/-
  FractionRounds: the walk.
-/
import Derived.Test.YtjbnejhpfknfcaaDoorFref
import Derived.Test.YtjbnejhpfknfcaaDoorFawake
namespace Go.Proofs.YtjbnejhpfknfcaaDoor
open Go.RowKit
set_option linter.unusedVariables false
set_option linter.unusedSimpArgs false

theorem fkeep2 {W w1 : World} {b : Nat} {x y : Value} (h : Below W.heap.size W w1) (k : b < W.heap.size ∧ W.cell? ⟨b, 0, none⟩ = some x ∧ W.cell? ⟨b, 1, none⟩ = some y) :
    w1.cell? ⟨b, 0, none⟩ = some x ∧ w1.cell? ⟨b, 1, none⟩ = some y :=
  ⟨(h.cell (p := ⟨b, 0, none⟩) k.1).trans k.2.1, (h.cell (p := ⟨b, 1, none⟩) k.1).trans k.2.2⟩
set_option maxRecDepth 100000 in
set_option maxHeartbeats 8000000 in
theorem frounds_walk (n d f c r : Int) (w : World)
    (aw : Calls Tryd.prog 11 #[] (w.alloc (Obj.cells #[.int .i64 n, .int .i64 d] 23)) (Gives (.bool true) (w.alloc (Obj.cells #[.int .i64 n, .int .i64 d] 23))))
    (f1 : ∀ w : World, Calls Tryd.prog 31 #[.agg #[.int .i64 n, .int .i64 d]] w (Gives (.int .i64 f) w)) (f2 : ∀ w : World, Calls Tryd.prog 32 #[.agg #[.int .i64 n, .int .i64 d]] w (Gives (.int .i64 f) w))
    (c1 : ∀ w : World, Calls Tryd.prog 33 #[.agg #[.int .i64 n, .int .i64 d]] w (Gives (.int .i64 c) w)) (c2 : ∀ w : World, Calls Tryd.prog 34 #[.agg #[.int .i64 n, .int .i64 d]] w (Gives (.int .i64 c) w))
    (r1 : ∀ w : World, Calls Tryd.prog 35 #[.agg #[.int .i64 n, .int .i64 d]] w (Gives (.int .i64 r) w)) (r2 : ∀ w : World, Calls Tryd.prog 36 #[.agg #[.int .i64 n, .int .i64 d]] w (Gives (.int .i64 r) w)) :
    Calls Tryd.prog 5 #[.agg #[.int .i64 n, .int .i64 d]] w (Gives (.bool true) w) := by
  go_enter Tryd.func5, Tryd.ntmps5
  go_wp2_with fail
  refine aw.mono ?_; rintro e u1 ⟨rfl, hb⟩
  have BN : Below w.heap.size w u1 := by repeat' (first | (with_reducible exact Below.refl _ _) | (with_reducible refine Below.alloc ?_ ?_ _) | (with_reducible refine Below.setCell ?_ ?_ _) | (with_reducible refine Below.drew ?_) | (with_reducible refine Below.trans ?_ (Below.mono (by assumption) ?_)) | (simp; done) | (simp; omega) | omega)
  have paz : w.heap.size < (u1).heap.size := Nat.lt_of_lt_of_le (show w.heap.size < _ from (by first | assumption | (simp; done) | (simp; omega) | (dsimp only; omega) | omega)) hb.size; have pa0 : (u1).cell? ⟨w.heap.size, 0, none⟩ = some (.int .i64 (n)) := (hb.cell (p := ⟨w.heap.size, 0, none⟩) (by first | assumption | (simp; done) | (simp; omega) | (dsimp only; omega) | omega)).trans (by first | assumption | (simp [go_sem]; done) | (simp [go_sem, *]; done)); have pa1 : (u1).cell? ⟨w.heap.size, 1, none⟩ = some (.int .i64 (d)) := (hb.cell (p := ⟨w.heap.size, 1, none⟩) (by first | assumption | (simp; done) | (simp; omega) | (dsimp only; omega) | omega)).trans (by first | assumption | (simp [go_sem]; done) | (simp [go_sem, *]; done))
  have BH := hid BN
  have hsz := BN.size
  have KH := hid (And.intro paz (And.intro pa0 pa1))
  clear BN hb
  go_wp2_with fail
  have K : Hid (∀ W', Below u1.heap.size u1 W' → (Below u1.heap.size u1 W' ∧ u1.heap.size ≤ W'.heap.size ∧ W'.cell? ⟨w.heap.size, 0, none⟩ = some (.int .i64 n) ∧ W'.cell? ⟨w.heap.size, 1, none⟩ = some (.int .i64 d))) := hid fun W' B => ⟨B, B.size, fkeep2 B KH.out⟩
  go_region_held3 (fun w' => Below u1.heap.size u1 w' ∧ u1.heap.size ≤ w'.heap.size ∧ w'.cell? ⟨w.heap.size, 0, none⟩ = some (.int .i64 n) ∧ w'.cell? ⟨w.heap.size, 1, none⟩ = some (.int .i64 d)) ((exact K.out _ (by repeat' (first | (with_reducible exact Below.refl _ _) | (with_reducible refine Below.alloc ?_ ?_ _) | (with_reducible refine Below.setCell ?_ ?_ _) | (with_reducible refine Below.drew ?_) | (with_reducible refine below_dn ?_ _) | (with_reducible refine Below.trans ?_ (Below.mono (by assumption) ?_)) | (simp; done) | (simp; omega) | omega))))
    (first | (go_at_call 31; refine (f1 _).mono ?_; rintro _ w5 ⟨rfl, hb2⟩; have hb5 : Below u1.heap.size u1 w5 := (by repeat' (first | (with_reducible exact Below.refl _ _) | (with_reducible refine Below.alloc ?_ ?_ _) | (with_reducible refine Below.setCell ?_ ?_ _) | (with_reducible refine Below.drew ?_) | (with_reducible refine below_dn ?_ _) | (with_reducible refine Below.trans ?_ (Below.mono (by assumption) ?_)) | (simp; done) | (simp; omega) | omega)); have hz5 : u1.heap.size ≤ w5.heap.size := hb5.size; clear hb2) | (go_at_call 32; refine (f2 _).mono ?_; rintro _ w5 ⟨rfl, hb2⟩; have hb5 : Below u1.heap.size u1 w5 := (by repeat' (first | (with_reducible exact Below.refl _ _) | (with_reducible refine Below.alloc ?_ ?_ _) | (with_reducible refine Below.setCell ?_ ?_ _) | (with_reducible refine Below.drew ?_) | (with_reducible refine below_dn ?_ _) | (with_reducible refine Below.trans ?_ (Below.mono (by assumption) ?_)) | (simp; done) | (simp; omega) | omega)); have hz5 : u1.heap.size ≤ w5.heap.size := hb5.size; clear hb2) | (go_at_call 33; refine (c1 _).mono ?_; rintro _ w5 ⟨rfl, hb2⟩; have hb5 : Below u1.heap.size u1 w5 := (by repeat' (first | (with_reducible exact Below.refl _ _) | (with_reducible refine Below.alloc ?_ ?_ _) | (with_reducible refine Below.setCell ?_ ?_ _) | (with_reducible refine Below.drew ?_) | (with_reducible refine below_dn ?_ _) | (with_reducible refine Below.trans ?_ (Below.mono (by assumption) ?_)) | (simp; done) | (simp; omega) | omega)); have hz5 : u1.heap.size ≤ w5.heap.size := hb5.size; clear hb2) | (go_at_call 34; refine (c2 _).mono ?_; rintro _ w5 ⟨rfl, hb2⟩; have hb5 : Below u1.heap.size u1 w5 := (by repeat' (first | (with_reducible exact Below.refl _ _) | (with_reducible refine Below.alloc ?_ ?_ _) | (with_reducible refine Below.setCell ?_ ?_ _) | (with_reducible refine Below.drew ?_) | (with_reducible refine below_dn ?_ _) | (with_reducible refine Below.trans ?_ (Below.mono (by assumption) ?_)) | (simp; done) | (simp; omega) | omega)); have hz5 : u1.heap.size ≤ w5.heap.size := hb5.size; clear hb2) | (go_at_call 35; refine (r1 _).mono ?_; rintro _ w5 ⟨rfl, hb2⟩; have hb5 : Below u1.heap.size u1 w5 := (by repeat' (first | (with_reducible exact Below.refl _ _) | (with_reducible refine Below.alloc ?_ ?_ _) | (with_reducible refine Below.setCell ?_ ?_ _) | (with_reducible refine Below.drew ?_) | (with_reducible refine below_dn ?_ _) | (with_reducible refine Below.trans ?_ (Below.mono (by assumption) ?_)) | (simp; done) | (simp; omega) | omega)); have hz5 : u1.heap.size ≤ w5.heap.size := hb5.size; clear hb2) | (go_at_call 36; refine (r2 _).mono ?_; rintro _ w5 ⟨rfl, hb2⟩; have hb5 : Below u1.heap.size u1 w5 := (by repeat' (first | (with_reducible exact Below.refl _ _) | (with_reducible refine Below.alloc ?_ ?_ _) | (with_reducible refine Below.setCell ?_ ?_ _) | (with_reducible refine Below.drew ?_) | (with_reducible refine below_dn ?_ _) | (with_reducible refine Below.trans ?_ (Below.mono (by assumption) ?_)) | (simp; done) | (simp; omega) | omega)); have hz5 : u1.heap.size ≤ w5.heap.size := hb5.size; clear hb2))
  all_goals
    have BB := BH.out
    go_wp2
    go_ret
    exact Gives.mk rfl (by repeat' (first | (with_reducible exact Below.refl _ _) | (with_reducible refine Below.alloc ?_ ?_ _) | (with_reducible refine Below.setCell ?_ ?_ _) | (with_reducible refine Below.drew ?_) | (with_reducible refine below_dn ?_ _) | (with_reducible refine Below.trans ?_ (Below.mono (by assumption) ?_)) | (simp; done) | (simp; omega) | omega))
theorem frounds_as (n d : Int) (N0 : -9223372036854775808 ≤ n) (N1 : n ≤ 9223372036854775807) (D0 : -9223372036854775808 ≤ d) (D1 : d ≤ 9223372036854775807) (w : World) (ht : Lib.TabIs Tryd.prog w "internal/strconv.uint64pow10" .u64 Lib.pow10Tab) :
    Calls Tryd.prog 5 #[.agg #[.int .i64 n, .int .i64 d]] w (Gives (.bool true) w) :=
  frounds_walk n d _ _ _ w (fawake_any _ (tab_below gPow ht (by repeat' (first | (with_reducible exact Below.refl _ _) | (with_reducible refine Below.alloc ?_ ?_ _) | (with_reducible refine Below.setCell ?_ ?_ _) | (with_reducible refine Below.drew ?_) | (with_reducible refine Below.trans ?_ (Below.mono (by assumption) ?_)) | (simp; done) | (simp; omega) | omega)))) (fun w => ffloor_all n d N0 N1 D0 D1 w) (fun w => rfloor_any n d N0 N1 D0 D1 w) (fun w => fceil_all n d N0 N1 D0 D1 w) (fun w => rceil_any n d N0 N1 D0 D1 w)
    (fun w => fround_any n d N0 N1 D0 D1 w) (fun w => rround_any n d N0 N1 D0 D1 w)
end Go.Proofs.YtjbnejhpfknfcaaDoor
