/-
  Layer 7: GeometryAreas: the walk. Written by tools/gen_gareas.py.
-/
import Derived.Test.YtfdnmlggemonhaaGl
import Derived.Test.YtfdnmlggemonhaaParr
namespace Go.Proofs.Ytfdnmlggemonhaa
open Go.RowKit
set_option linter.unusedVariables false
set_option linter.unusedSimpArgs false

namespace Sp
theorem areas_math (a b c d : Pt) {v1 e1 v2 e2 v3 e3 v4 e4 v5 e5 v6 e6 e0 : Int} (h1 : crossS a b c = (v1, e1)) (h2 : crossS b c a = (v2, e2)) (h3 : crossS b a c = (v3, e3)) (h4 : crossS a c d = (v4, e4)) (h5 : crossS a b d = (v5, e5)) (h6 : crossS b c d = (v6, e6)) (h0 : checkS d = e0) :
    (e1 = 2 ∧ e2 = 2 ∧ e3 = 2) ∨ (e1 = 0 ∧ e2 = 0 ∧ e3 = 0 ∧ v2 = v1 ∧ wrap64 (-v3) = v1 ∧ ((e4 = 2 ∧ e5 = 2 ∧ e6 = 2 ∧ e0 = 2) ∨ (e4 = 0 ∧ e5 = 0 ∧ e6 = 0 ∧ ∃ S, wrap64 (v1 + v4) = S ∧ wrap64 (v5 + v6) = S))) := by
  unfold crossS at h1 h2 h3 h4 h5 h6
  unfold checkS at h0
  cases ha : okP a <;> cases hb : okP b <;> cases hc : okP c <;> simp only [ha, hb, hc, Bool.and_true, Bool.and_false, Bool.false_and, Bool.true_and, Bool.and_self, if_true, if_false, reduceCtorEq, Prod.mk.injEq, Bool.false_eq_true] at h1 h2 h3
  case true.true.true =>
    refine .inr ?_
    obtain ⟨rfl, rfl⟩ := h1
    obtain ⟨rfl, rfl⟩ := h2
    obtain ⟨rfl, rfl⟩ := h3
    have b1 := crs_b ha hb hc
    refine ⟨rfl, rfl, rfl, crs_rot a b c, ?_, ?_⟩
    · rw [crs_flip, Int.neg_neg]
      exact w64 _ (by omega)
    · cases hd : okP d
      · simp [ha, hb, hc, hd] at h4 h5 h6 h0
        exact .inl ⟨h4.2.symm, h5.2.symm, h6.2.symm, h0.symm⟩
      · simp [ha, hb, hc, hd] at h4 h5 h6 h0
        obtain ⟨rfl, rfl⟩ := h4
        obtain ⟨rfl, rfl⟩ := h5
        obtain ⟨rfl, rfl⟩ := h6
        have b4 := crs_b ha hc hd
        have b5 := crs_b ha hb hd
        have b6 := crs_b hb hc hd
        refine .inr ⟨rfl, rfl, rfl, _, rfl, ?_⟩
        rw [crs_quad]
  all_goals exact .inl ⟨h1.2.symm, h2.2.symm, h3.2.symm⟩
end Sp
set_option maxRecDepth 100000 in
set_option maxHeartbeats 4000000 in
theorem areas_as (x0 x1 x2 x3 x4 x5 x6 x7 : Int) (w : World) :
    Calls Try.prog 7 #[.agg #[.int .i64 x0, .int .i64 x1, .int .i64 x2, .int .i64 x3, .int .i64 x4, .int .i64 x5, .int .i64 x6, .int .i64 x7]] w (Gives (.bool true) w) := by
  obtain ⟨⟨v1, e1⟩, hc1⟩ : ∃ r, Sp.crossS (x0, x1) (x2, x3) (x4, x5) = r := ⟨_, rfl⟩
  have c1 := Cross_any (x0, x1) (x2, x3) (x4, x5)
  rw [hc1] at c1
  dsimp only at c1
  obtain ⟨⟨v2, e2⟩, hc2⟩ : ∃ r, Sp.crossS (x2, x3) (x4, x5) (x0, x1) = r := ⟨_, rfl⟩
  have c2 := Cross_any (x2, x3) (x4, x5) (x0, x1)
  rw [hc2] at c2
  dsimp only at c2
  obtain ⟨⟨v3, e3⟩, hc3⟩ : ∃ r, Sp.crossS (x2, x3) (x0, x1) (x4, x5) = r := ⟨_, rfl⟩
  have c3 := Cross_any (x2, x3) (x0, x1) (x4, x5)
  rw [hc3] at c3
  dsimp only at c3
  obtain ⟨⟨v4, e4⟩, hc4⟩ : ∃ r, Sp.crossS (x0, x1) (x4, x5) (x6, x7) = r := ⟨_, rfl⟩
  have c4 := Cross_any (x0, x1) (x4, x5) (x6, x7)
  rw [hc4] at c4
  dsimp only at c4
  obtain ⟨⟨v5, e5⟩, hc5⟩ : ∃ r, Sp.crossS (x0, x1) (x2, x3) (x6, x7) = r := ⟨_, rfl⟩
  have c5 := Cross_any (x0, x1) (x2, x3) (x6, x7)
  rw [hc5] at c5
  dsimp only at c5
  obtain ⟨⟨v6, e6⟩, hc6⟩ : ∃ r, Sp.crossS (x2, x3) (x4, x5) (x6, x7) = r := ⟨_, rfl⟩
  have c6 := Cross_any (x2, x3) (x4, x5) (x6, x7)
  rw [hc6] at c6
  dsimp only at c6
  have ck := gcheck_any (x6, x7)
  obtain ⟨e0, hck⟩ : ∃ e, Sp.checkS (x6, x7) = e := ⟨_, rfl⟩
  rw [hck] at ck
  dsimp only at ck
  have M := Sp.areas_math (x0, x1) (x2, x3) (x4, x5) (x6, x7) hc1 hc2 hc3 hc4 hc5 hc6 hck
  clear hc1 hc2 hc3 hc4 hc5 hc6 hck
  rcases M with M | M
  · obtain ⟨rfl, rfl, rfl⟩ := M
    obtain ⟨V, hV⟩ : ∃ V : World, w.alloc (Obj.cells #[.int .i64 x0, .int .i64 x1, .int .i64 x2, .int .i64 x3, .int .i64 x4, .int .i64 x5, .int .i64 x6, .int .i64 x7] 35) = V := ⟨_, rfl⟩
    have bV : Below w.heap.size w V := by rw [← hV]; exact (Below.refl _ _).alloc (Nat.le_refl _) _
    have zV : w.heap.size < V.heap.size := by rw [← hV]; simp
    have K : Hid (∀ W' : World, Below V.heap.size V W' → (W'.cell? ⟨w.heap.size, 0, none⟩ = some (.int .i64 x0) ∧ W'.cell? ⟨w.heap.size, 1, none⟩ = some (.int .i64 x1) ∧ W'.cell? ⟨w.heap.size, 2, none⟩ = some (.int .i64 x2) ∧ W'.cell? ⟨w.heap.size, 3, none⟩ = some (.int .i64 x3) ∧ W'.cell? ⟨w.heap.size, 4, none⟩ = some (.int .i64 x4) ∧ W'.cell? ⟨w.heap.size, 5, none⟩ = some (.int .i64 x5) ∧ W'.cell? ⟨w.heap.size, 6, none⟩ = some (.int .i64 x6) ∧ W'.cell? ⟨w.heap.size, 7, none⟩ = some (.int .i64 x7))) := hid fun W' B => ⟨(B.cell (p := ⟨w.heap.size, 0, none⟩) zV).trans (by rw [← hV]; simp [go_sem]), (B.cell (p := ⟨w.heap.size, 1, none⟩) zV).trans (by rw [← hV]; simp [go_sem]), (B.cell (p := ⟨w.heap.size, 2, none⟩) zV).trans (by rw [← hV]; simp [go_sem]), (B.cell (p := ⟨w.heap.size, 3, none⟩) zV).trans (by rw [← hV]; simp [go_sem]), (B.cell (p := ⟨w.heap.size, 4, none⟩) zV).trans (by rw [← hV]; simp [go_sem]), (B.cell (p := ⟨w.heap.size, 5, none⟩) zV).trans (by rw [← hV]; simp [go_sem]), (B.cell (p := ⟨w.heap.size, 6, none⟩) zV).trans (by rw [← hV]; simp [go_sem]), (B.cell (p := ⟨w.heap.size, 7, none⟩) zV).trans (by rw [← hV]; simp [go_sem])⟩
    have HV := hid hV
    have BV := hid bV
    have ZV := hid zV
    clear hV bV zV
    go_enter Try.func7, Try.ntmps7
    go_upto_region 1 with fail
    rw [HV.out]
    obtain ⟨k0, k1, k2, k3, k4, k5, k6, k7⟩ := K.out _ (Below.refl _ _ : Below V.heap.size V V)
    have zl0 : w.heap.size < V.heap.size := Nat.lt_of_lt_of_le (ZV.out) ((Below.refl _ _ : Below V.heap.size V V)).size
    go_wp2_with fail
    refine ((c1 _)).mono ?_
    rintro _ u1 ⟨rfl, hb⟩
    have B1 : Below V.heap.size V u1 := by have hB := (Below.refl _ _ : Below V.heap.size V V); have hz := hB.size; repeat' (first | (with_reducible exact Below.refl _ _) | (with_reducible refine Below.alloc ?_ ?_ _) | (with_reducible refine Below.setCell ?_ ?_ _) | (with_reducible refine Below.drew ?_) | (with_reducible refine Below.trans ?_ (Below.mono (by assumption) ?_)) | (simp; done) | (simp; omega) | omega)
    clear hb
    clear k0 k1 k2 k3 k4 k5 k6 k7 zl0
    have B1 := hid B1
    obtain ⟨k0, k1, k2, k3, k4, k5, k6, k7⟩ := K.out _ B1.out
    have zl0 : w.heap.size < u1.heap.size := Nat.lt_of_lt_of_le (ZV.out) (B1.out).size
    go_wp2_with fail
    refine ((c2 _)).mono ?_
    rintro _ u2 ⟨rfl, hb⟩
    have B2 : Below V.heap.size V u2 := by have hB := B1.out; have hz := hB.size; repeat' (first | (with_reducible exact Below.refl _ _) | (with_reducible refine Below.alloc ?_ ?_ _) | (with_reducible refine Below.setCell ?_ ?_ _) | (with_reducible refine Below.drew ?_) | (with_reducible refine Below.trans ?_ (Below.mono (by assumption) ?_)) | (simp; done) | (simp; omega) | omega)
    clear hb
    clear k0 k1 k2 k3 k4 k5 k6 k7 zl0
    have B2 := hid B2
    obtain ⟨k0, k1, k2, k3, k4, k5, k6, k7⟩ := K.out _ B2.out
    have zl0 : w.heap.size < u2.heap.size := Nat.lt_of_lt_of_le (ZV.out) (B2.out).size
    go_wp2_with fail
    refine ((c3 _)).mono ?_
    rintro _ u3 ⟨rfl, hb⟩
    have B3 : Below V.heap.size V u3 := by have hB := B2.out; have hz := hB.size; repeat' (first | (with_reducible exact Below.refl _ _) | (with_reducible refine Below.alloc ?_ ?_ _) | (with_reducible refine Below.setCell ?_ ?_ _) | (with_reducible refine Below.drew ?_) | (with_reducible refine Below.trans ?_ (Below.mono (by assumption) ?_)) | (simp; done) | (simp; omega) | omega)
    clear hb
    clear k0 k1 k2 k3 k4 k5 k6 k7 zl0
    have B3 := hid B3
    obtain ⟨k0, k1, k2, k3, k4, k5, k6, k7⟩ := K.out _ B3.out
    have zl0 : w.heap.size < u3.heap.size := Nat.lt_of_lt_of_le (ZV.out) (B3.out).size
    go_wp2_with (go_at_call 22; refine (gawake_any _).mono ?_; rintro _ wz ⟨rfl, hz⟩)
    all_goals
      go_ret
      exact Gives.mk rfl (BV.out.trans (((B3.out).trans ((by assumption : Below u3.heap.size u3 _).mono (B3.out).size)).mono BV.out.size))
  · obtain ⟨rfl, rfl, rfl, rfl, wn, rest⟩ := M
    rcases rest with rest | rest
    · obtain ⟨rfl, rfl, rfl, rfl⟩ := rest
      obtain ⟨V, hV⟩ : ∃ V : World, w.alloc (Obj.cells #[.int .i64 x0, .int .i64 x1, .int .i64 x2, .int .i64 x3, .int .i64 x4, .int .i64 x5, .int .i64 x6, .int .i64 x7] 35) = V := ⟨_, rfl⟩
      have bV : Below w.heap.size w V := by rw [← hV]; exact (Below.refl _ _).alloc (Nat.le_refl _) _
      have zV : w.heap.size < V.heap.size := by rw [← hV]; simp
      have K : Hid (∀ W' : World, Below V.heap.size V W' → (W'.cell? ⟨w.heap.size, 0, none⟩ = some (.int .i64 x0) ∧ W'.cell? ⟨w.heap.size, 1, none⟩ = some (.int .i64 x1) ∧ W'.cell? ⟨w.heap.size, 2, none⟩ = some (.int .i64 x2) ∧ W'.cell? ⟨w.heap.size, 3, none⟩ = some (.int .i64 x3) ∧ W'.cell? ⟨w.heap.size, 4, none⟩ = some (.int .i64 x4) ∧ W'.cell? ⟨w.heap.size, 5, none⟩ = some (.int .i64 x5) ∧ W'.cell? ⟨w.heap.size, 6, none⟩ = some (.int .i64 x6) ∧ W'.cell? ⟨w.heap.size, 7, none⟩ = some (.int .i64 x7))) := hid fun W' B => ⟨(B.cell (p := ⟨w.heap.size, 0, none⟩) zV).trans (by rw [← hV]; simp [go_sem]), (B.cell (p := ⟨w.heap.size, 1, none⟩) zV).trans (by rw [← hV]; simp [go_sem]), (B.cell (p := ⟨w.heap.size, 2, none⟩) zV).trans (by rw [← hV]; simp [go_sem]), (B.cell (p := ⟨w.heap.size, 3, none⟩) zV).trans (by rw [← hV]; simp [go_sem]), (B.cell (p := ⟨w.heap.size, 4, none⟩) zV).trans (by rw [← hV]; simp [go_sem]), (B.cell (p := ⟨w.heap.size, 5, none⟩) zV).trans (by rw [← hV]; simp [go_sem]), (B.cell (p := ⟨w.heap.size, 6, none⟩) zV).trans (by rw [← hV]; simp [go_sem]), (B.cell (p := ⟨w.heap.size, 7, none⟩) zV).trans (by rw [← hV]; simp [go_sem])⟩
      have HV := hid hV
      have BV := hid bV
      have ZV := hid zV
      clear hV bV zV
      go_enter Try.func7, Try.ntmps7
      go_upto_region 1 with fail
      rw [HV.out]
      obtain ⟨k0, k1, k2, k3, k4, k5, k6, k7⟩ := K.out _ (Below.refl _ _ : Below V.heap.size V V)
      have zl0 : w.heap.size < V.heap.size := Nat.lt_of_lt_of_le (ZV.out) ((Below.refl _ _ : Below V.heap.size V V)).size
      go_wp2_with fail
      refine ((c1 _)).mono ?_
      rintro _ u1 ⟨rfl, hb⟩
      have B1 : Below V.heap.size V u1 := by have hB := (Below.refl _ _ : Below V.heap.size V V); have hz := hB.size; repeat' (first | (with_reducible exact Below.refl _ _) | (with_reducible refine Below.alloc ?_ ?_ _) | (with_reducible refine Below.setCell ?_ ?_ _) | (with_reducible refine Below.drew ?_) | (with_reducible refine Below.trans ?_ (Below.mono (by assumption) ?_)) | (simp; done) | (simp; omega) | omega)
      clear hb
      clear k0 k1 k2 k3 k4 k5 k6 k7 zl0
      have B1 := hid B1
      obtain ⟨k0, k1, k2, k3, k4, k5, k6, k7⟩ := K.out _ B1.out
      have zl0 : w.heap.size < u1.heap.size := Nat.lt_of_lt_of_le (ZV.out) (B1.out).size
      go_wp2_with fail
      refine ((c2 _)).mono ?_
      rintro _ u2 ⟨rfl, hb⟩
      have B2 : Below V.heap.size V u2 := by have hB := B1.out; have hz := hB.size; repeat' (first | (with_reducible exact Below.refl _ _) | (with_reducible refine Below.alloc ?_ ?_ _) | (with_reducible refine Below.setCell ?_ ?_ _) | (with_reducible refine Below.drew ?_) | (with_reducible refine Below.trans ?_ (Below.mono (by assumption) ?_)) | (simp; done) | (simp; omega) | omega)
      clear hb
      clear k0 k1 k2 k3 k4 k5 k6 k7 zl0
      have B2 := hid B2
      obtain ⟨k0, k1, k2, k3, k4, k5, k6, k7⟩ := K.out _ B2.out
      have zl0 : w.heap.size < u2.heap.size := Nat.lt_of_lt_of_le (ZV.out) (B2.out).size
      go_wp2_with fail
      refine ((c3 _)).mono ?_
      rintro _ u3 ⟨rfl, hb⟩
      have B3 : Below V.heap.size V u3 := by have hB := B2.out; have hz := hB.size; repeat' (first | (with_reducible exact Below.refl _ _) | (with_reducible refine Below.alloc ?_ ?_ _) | (with_reducible refine Below.setCell ?_ ?_ _) | (with_reducible refine Below.drew ?_) | (with_reducible refine Below.trans ?_ (Below.mono (by assumption) ?_)) | (simp; done) | (simp; omega) | omega)
      clear hb
      clear k0 k1 k2 k3 k4 k5 k6 k7 zl0
      have B3 := hid B3
      obtain ⟨k0, k1, k2, k3, k4, k5, k6, k7⟩ := K.out _ B3.out
      have zl0 : w.heap.size < u3.heap.size := Nat.lt_of_lt_of_le (ZV.out) (B3.out).size
      go_wp2_with fail
      refine ((c4 _)).mono ?_
      rintro _ u4 ⟨rfl, hb⟩
      have B4 : Below V.heap.size V u4 := by have hB := B3.out; have hz := hB.size; repeat' (first | (with_reducible exact Below.refl _ _) | (with_reducible refine Below.alloc ?_ ?_ _) | (with_reducible refine Below.setCell ?_ ?_ _) | (with_reducible refine Below.drew ?_) | (with_reducible refine Below.trans ?_ (Below.mono (by assumption) ?_)) | (simp; done) | (simp; omega) | omega)
      clear hb
      clear k0 k1 k2 k3 k4 k5 k6 k7 zl0
      have B4 := hid B4
      obtain ⟨k0, k1, k2, k3, k4, k5, k6, k7⟩ := K.out _ B4.out
      have zl0 : w.heap.size < u4.heap.size := Nat.lt_of_lt_of_le (ZV.out) (B4.out).size
      go_wp2_with fail
      refine ((c5 _)).mono ?_
      rintro _ u5 ⟨rfl, hb⟩
      have B5 : Below V.heap.size V u5 := by have hB := B4.out; have hz := hB.size; repeat' (first | (with_reducible exact Below.refl _ _) | (with_reducible refine Below.alloc ?_ ?_ _) | (with_reducible refine Below.setCell ?_ ?_ _) | (with_reducible refine Below.drew ?_) | (with_reducible refine Below.trans ?_ (Below.mono (by assumption) ?_)) | (simp; done) | (simp; omega) | omega)
      clear hb
      clear k0 k1 k2 k3 k4 k5 k6 k7 zl0
      have B5 := hid B5
      obtain ⟨k0, k1, k2, k3, k4, k5, k6, k7⟩ := K.out _ B5.out
      have zl0 : w.heap.size < u5.heap.size := Nat.lt_of_lt_of_le (ZV.out) (B5.out).size
      go_wp2_with fail
      refine ((c6 _)).mono ?_
      rintro _ u6 ⟨rfl, hb⟩
      have B6 : Below V.heap.size V u6 := by have hB := B5.out; have hz := hB.size; repeat' (first | (with_reducible exact Below.refl _ _) | (with_reducible refine Below.alloc ?_ ?_ _) | (with_reducible refine Below.setCell ?_ ?_ _) | (with_reducible refine Below.drew ?_) | (with_reducible refine Below.trans ?_ (Below.mono (by assumption) ?_)) | (simp; done) | (simp; omega) | omega)
      clear hb
      clear k0 k1 k2 k3 k4 k5 k6 k7 zl0
      have B6 := hid B6
      obtain ⟨k0, k1, k2, k3, k4, k5, k6, k7⟩ := K.out _ B6.out
      have zl0 : w.heap.size < u6.heap.size := Nat.lt_of_lt_of_le (ZV.out) (B6.out).size
      go_wp2_with fail
      refine ((ck _)).mono ?_
      rintro _ u7 ⟨rfl, hb⟩
      have B7 : Below V.heap.size V u7 := by have hB := B6.out; have hz := hB.size; repeat' (first | (with_reducible exact Below.refl _ _) | (with_reducible refine Below.alloc ?_ ?_ _) | (with_reducible refine Below.setCell ?_ ?_ _) | (with_reducible refine Below.drew ?_) | (with_reducible refine Below.trans ?_ (Below.mono (by assumption) ?_)) | (simp; done) | (simp; omega) | omega)
      clear hb
      clear k0 k1 k2 k3 k4 k5 k6 k7 zl0
      have B7 := hid B7
      obtain ⟨k0, k1, k2, k3, k4, k5, k6, k7⟩ := K.out _ B7.out
      have zl0 : w.heap.size < u7.heap.size := Nat.lt_of_lt_of_le (ZV.out) (B7.out).size
      go_wp2_with (go_at_call 22; refine (gawake_any _).mono ?_; rintro _ wz ⟨rfl, hz⟩)
      all_goals
        go_ret
        exact Gives.mk rfl (BV.out.trans (((B7.out).trans ((by assumption : Below u7.heap.size u7 _).mono (B7.out).size)).mono BV.out.size))
    · obtain ⟨rfl, rfl, rfl, S, s1, s2⟩ := rest
      obtain ⟨V, hV⟩ : ∃ V : World, w.alloc (Obj.cells #[.int .i64 x0, .int .i64 x1, .int .i64 x2, .int .i64 x3, .int .i64 x4, .int .i64 x5, .int .i64 x6, .int .i64 x7] 35) = V := ⟨_, rfl⟩
      have bV : Below w.heap.size w V := by rw [← hV]; exact (Below.refl _ _).alloc (Nat.le_refl _) _
      have zV : w.heap.size < V.heap.size := by rw [← hV]; simp
      have K : Hid (∀ W' : World, Below V.heap.size V W' → (W'.cell? ⟨w.heap.size, 0, none⟩ = some (.int .i64 x0) ∧ W'.cell? ⟨w.heap.size, 1, none⟩ = some (.int .i64 x1) ∧ W'.cell? ⟨w.heap.size, 2, none⟩ = some (.int .i64 x2) ∧ W'.cell? ⟨w.heap.size, 3, none⟩ = some (.int .i64 x3) ∧ W'.cell? ⟨w.heap.size, 4, none⟩ = some (.int .i64 x4) ∧ W'.cell? ⟨w.heap.size, 5, none⟩ = some (.int .i64 x5) ∧ W'.cell? ⟨w.heap.size, 6, none⟩ = some (.int .i64 x6) ∧ W'.cell? ⟨w.heap.size, 7, none⟩ = some (.int .i64 x7))) := hid fun W' B => ⟨(B.cell (p := ⟨w.heap.size, 0, none⟩) zV).trans (by rw [← hV]; simp [go_sem]), (B.cell (p := ⟨w.heap.size, 1, none⟩) zV).trans (by rw [← hV]; simp [go_sem]), (B.cell (p := ⟨w.heap.size, 2, none⟩) zV).trans (by rw [← hV]; simp [go_sem]), (B.cell (p := ⟨w.heap.size, 3, none⟩) zV).trans (by rw [← hV]; simp [go_sem]), (B.cell (p := ⟨w.heap.size, 4, none⟩) zV).trans (by rw [← hV]; simp [go_sem]), (B.cell (p := ⟨w.heap.size, 5, none⟩) zV).trans (by rw [← hV]; simp [go_sem]), (B.cell (p := ⟨w.heap.size, 6, none⟩) zV).trans (by rw [← hV]; simp [go_sem]), (B.cell (p := ⟨w.heap.size, 7, none⟩) zV).trans (by rw [← hV]; simp [go_sem])⟩
      have HV := hid hV
      have BV := hid bV
      have ZV := hid zV
      clear hV bV zV
      go_enter Try.func7, Try.ntmps7
      go_upto_region 1 with fail
      rw [HV.out]
      obtain ⟨k0, k1, k2, k3, k4, k5, k6, k7⟩ := K.out _ (Below.refl _ _ : Below V.heap.size V V)
      have zl0 : w.heap.size < V.heap.size := Nat.lt_of_lt_of_le (ZV.out) ((Below.refl _ _ : Below V.heap.size V V)).size
      go_wp2_with fail
      refine ((c1 _)).mono ?_
      rintro _ u1 ⟨rfl, hb⟩
      have B1 : Below V.heap.size V u1 := by have hB := (Below.refl _ _ : Below V.heap.size V V); have hz := hB.size; repeat' (first | (with_reducible exact Below.refl _ _) | (with_reducible refine Below.alloc ?_ ?_ _) | (with_reducible refine Below.setCell ?_ ?_ _) | (with_reducible refine Below.drew ?_) | (with_reducible refine Below.trans ?_ (Below.mono (by assumption) ?_)) | (simp; done) | (simp; omega) | omega)
      clear hb
      clear k0 k1 k2 k3 k4 k5 k6 k7 zl0
      have B1 := hid B1
      obtain ⟨k0, k1, k2, k3, k4, k5, k6, k7⟩ := K.out _ B1.out
      have zl0 : w.heap.size < u1.heap.size := Nat.lt_of_lt_of_le (ZV.out) (B1.out).size
      go_wp2_with fail
      refine ((c2 _)).mono ?_
      rintro _ u2 ⟨rfl, hb⟩
      have B2 : Below V.heap.size V u2 := by have hB := B1.out; have hz := hB.size; repeat' (first | (with_reducible exact Below.refl _ _) | (with_reducible refine Below.alloc ?_ ?_ _) | (with_reducible refine Below.setCell ?_ ?_ _) | (with_reducible refine Below.drew ?_) | (with_reducible refine Below.trans ?_ (Below.mono (by assumption) ?_)) | (simp; done) | (simp; omega) | omega)
      clear hb
      clear k0 k1 k2 k3 k4 k5 k6 k7 zl0
      have B2 := hid B2
      obtain ⟨k0, k1, k2, k3, k4, k5, k6, k7⟩ := K.out _ B2.out
      have zl0 : w.heap.size < u2.heap.size := Nat.lt_of_lt_of_le (ZV.out) (B2.out).size
      go_wp2_with fail
      refine ((c3 _)).mono ?_
      rintro _ u3 ⟨rfl, hb⟩
      have B3 : Below V.heap.size V u3 := by have hB := B2.out; have hz := hB.size; repeat' (first | (with_reducible exact Below.refl _ _) | (with_reducible refine Below.alloc ?_ ?_ _) | (with_reducible refine Below.setCell ?_ ?_ _) | (with_reducible refine Below.drew ?_) | (with_reducible refine Below.trans ?_ (Below.mono (by assumption) ?_)) | (simp; done) | (simp; omega) | omega)
      clear hb
      clear k0 k1 k2 k3 k4 k5 k6 k7 zl0
      have B3 := hid B3
      obtain ⟨k0, k1, k2, k3, k4, k5, k6, k7⟩ := K.out _ B3.out
      have zl0 : w.heap.size < u3.heap.size := Nat.lt_of_lt_of_le (ZV.out) (B3.out).size
      go_wp2_with fail
      refine ((c4 _)).mono ?_
      rintro _ u4 ⟨rfl, hb⟩
      have B4 : Below V.heap.size V u4 := by have hB := B3.out; have hz := hB.size; repeat' (first | (with_reducible exact Below.refl _ _) | (with_reducible refine Below.alloc ?_ ?_ _) | (with_reducible refine Below.setCell ?_ ?_ _) | (with_reducible refine Below.drew ?_) | (with_reducible refine Below.trans ?_ (Below.mono (by assumption) ?_)) | (simp; done) | (simp; omega) | omega)
      clear hb
      clear k0 k1 k2 k3 k4 k5 k6 k7 zl0
      have B4 := hid B4
      obtain ⟨k0, k1, k2, k3, k4, k5, k6, k7⟩ := K.out _ B4.out
      have zl0 : w.heap.size < u4.heap.size := Nat.lt_of_lt_of_le (ZV.out) (B4.out).size
      go_wp2_with fail
      refine ((c5 _)).mono ?_
      rintro _ u5 ⟨rfl, hb⟩
      have B5 : Below V.heap.size V u5 := by have hB := B4.out; have hz := hB.size; repeat' (first | (with_reducible exact Below.refl _ _) | (with_reducible refine Below.alloc ?_ ?_ _) | (with_reducible refine Below.setCell ?_ ?_ _) | (with_reducible refine Below.drew ?_) | (with_reducible refine Below.trans ?_ (Below.mono (by assumption) ?_)) | (simp; done) | (simp; omega) | omega)
      clear hb
      clear k0 k1 k2 k3 k4 k5 k6 k7 zl0
      have B5 := hid B5
      obtain ⟨k0, k1, k2, k3, k4, k5, k6, k7⟩ := K.out _ B5.out
      have zl0 : w.heap.size < u5.heap.size := Nat.lt_of_lt_of_le (ZV.out) (B5.out).size
      go_wp2_with fail
      refine ((c6 _)).mono ?_
      rintro _ u6 ⟨rfl, hb⟩
      have B6 : Below V.heap.size V u6 := by have hB := B5.out; have hz := hB.size; repeat' (first | (with_reducible exact Below.refl _ _) | (with_reducible refine Below.alloc ?_ ?_ _) | (with_reducible refine Below.setCell ?_ ?_ _) | (with_reducible refine Below.drew ?_) | (with_reducible refine Below.trans ?_ (Below.mono (by assumption) ?_)) | (simp; done) | (simp; omega) | omega)
      clear hb
      clear k0 k1 k2 k3 k4 k5 k6 k7 zl0
      have B6 := hid B6
      obtain ⟨k0, k1, k2, k3, k4, k5, k6, k7⟩ := K.out _ B6.out
      have zl0 : w.heap.size < u6.heap.size := Nat.lt_of_lt_of_le (ZV.out) (B6.out).size
      go_wp2_with (go_at_call 22; refine (gawake_any _).mono ?_; rintro _ wz ⟨rfl, hz⟩)
      all_goals
        go_ret
        exact Gives.mk rfl (BV.out.trans (((B6.out).trans ((by assumption : Below u6.heap.size u6 _).mono (B6.out).size)).mono BV.out.size))
end Go.Proofs.Ytfdnmlggemonhaa
