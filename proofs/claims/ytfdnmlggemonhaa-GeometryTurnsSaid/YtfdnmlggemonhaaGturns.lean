/-
  Layer 7: GeometryTurns: the walk. Written by tools/gen_gturns.py.
-/
import Derived.Test.YtfdnmlggemonhaaGl
import Derived.Test.YtfdnmlggemonhaaParr
namespace Go.Proofs.Ytfdnmlggemonhaa
open Go.RowKit
set_option linter.unusedVariables false
set_option linter.unusedSimpArgs false

set_option maxRecDepth 100000 in
set_option maxHeartbeats 4000000 in
theorem turns_as (x0 x1 x2 x3 x4 x5 : Int) (w : World) :
    Calls Try.prog 3 #[.agg #[.int .i64 x0, .int .i64 x1, .int .i64 x2, .int .i64 x3, .int .i64 x4, .int .i64 x5]] w (Gives (.bool true) w) := by
  have c1 := Cross_any (x0, x1) (x2, x3) (x4, x5)
  have r1 := rCross_any (x0, x1) (x2, x3) (x4, x5)
  generalize Sp.crossS (x0, x1) (x2, x3) (x4, x5) = q at c1 r1
  obtain ⟨v1, e1⟩ := q
  dsimp only at c1 r1
  have c2 := Orient_any (x0, x1) (x2, x3) (x4, x5)
  have r2 := rOrient_any (x0, x1) (x2, x3) (x4, x5)
  generalize Sp.orientS (x0, x1) (x2, x3) (x4, x5) = q at c2 r2
  obtain ⟨v2, e2⟩ := q
  dsimp only at c2 r2
  have c3 := Dist2_any (x0, x1) (x2, x3)
  have r3 := rDist2_any (x0, x1) (x2, x3)
  generalize Sp.dist2S (x0, x1) (x2, x3) = q at c3 r3
  obtain ⟨v3, e3⟩ := q
  dsimp only at c3 r3
  have c4 := Length_any (x0, x1) (x2, x3)
  have r4 := rLength_any (x0, x1) (x2, x3)
  generalize Sp.lenS (x0, x1) (x2, x3) = q at c4 r4
  obtain ⟨⟨v4, v5⟩, e4⟩ := q
  dsimp only at c4 r4
  have ck := gcheck_any (x0, x1)
  have rk := rcheck_any (x0, x1)
  generalize Sp.checkS (x0, x1) = e5 at ck rk
  dsimp only at ck rk
  obtain ⟨V, hV⟩ : ∃ V : World, w.alloc (Obj.cells #[.int .i64 x0, .int .i64 x1, .int .i64 x2, .int .i64 x3, .int .i64 x4, .int .i64 x5] 24) = V := ⟨_, rfl⟩
  have bV : Below w.heap.size w V := by rw [← hV]; exact (Below.refl _ _).alloc (Nat.le_refl _) _
  have zV : w.heap.size < V.heap.size := by rw [← hV]; simp
  have K : Hid (∀ W' : World, Below V.heap.size V W' → (W'.cell? ⟨w.heap.size, 0, none⟩ = some (.int .i64 x0) ∧ W'.cell? ⟨w.heap.size, 1, none⟩ = some (.int .i64 x1) ∧ W'.cell? ⟨w.heap.size, 2, none⟩ = some (.int .i64 x2) ∧ W'.cell? ⟨w.heap.size, 3, none⟩ = some (.int .i64 x3) ∧ W'.cell? ⟨w.heap.size, 4, none⟩ = some (.int .i64 x4) ∧ W'.cell? ⟨w.heap.size, 5, none⟩ = some (.int .i64 x5))) := hid fun W' B => ⟨(B.cell (p := ⟨w.heap.size, 0, none⟩) zV).trans (by rw [← hV]; simp [go_sem]), (B.cell (p := ⟨w.heap.size, 1, none⟩) zV).trans (by rw [← hV]; simp [go_sem]), (B.cell (p := ⟨w.heap.size, 2, none⟩) zV).trans (by rw [← hV]; simp [go_sem]), (B.cell (p := ⟨w.heap.size, 3, none⟩) zV).trans (by rw [← hV]; simp [go_sem]), (B.cell (p := ⟨w.heap.size, 4, none⟩) zV).trans (by rw [← hV]; simp [go_sem]), (B.cell (p := ⟨w.heap.size, 5, none⟩) zV).trans (by rw [← hV]; simp [go_sem])⟩
  have HV := hid hV
  have BV := hid bV
  have ZV := hid zV
  clear hV bV zV
  go_enter Try.func3, Try.ntmps3
  go_upto_region 1 with fail
  rw [HV.out]
  obtain ⟨k0, k1, k2, k3, k4, k5⟩ := K.out _ (Below.refl _ _ : Below V.heap.size V V)
  have zl0 : w.heap.size < V.heap.size := Nat.lt_of_lt_of_le (ZV.out) ((Below.refl _ _ : Below V.heap.size V V)).size
  go_wp2_with fail
  refine ((c1 _)).mono ?_
  rintro _ u1 ⟨rfl, hb⟩
  have B1 : Below V.heap.size V u1 := by have hB := (Below.refl _ _ : Below V.heap.size V V); have hz := hB.size; repeat' (first | (with_reducible exact Below.refl _ _) | (with_reducible refine Below.alloc ?_ ?_ _) | (with_reducible refine Below.setCell ?_ ?_ _) | (with_reducible refine Below.drew ?_) | (with_reducible refine Below.trans ?_ (Below.mono (by assumption) ?_)) | (simp; done) | (simp; omega) | omega)
  clear hb
  clear k0 k1 k2 k3 k4 k5 zl0
  have B1 := hid B1
  obtain ⟨k0, k1, k2, k3, k4, k5⟩ := K.out _ B1.out
  have zl0 : w.heap.size < u1.heap.size := Nat.lt_of_lt_of_le (ZV.out) (B1.out).size
  go_wp2_with fail
  refine ((r1 _)).mono ?_
  rintro _ u2 ⟨rfl, hb⟩
  have B2 : Below V.heap.size V u2 := by have hB := B1.out; have hz := hB.size; repeat' (first | (with_reducible exact Below.refl _ _) | (with_reducible refine Below.alloc ?_ ?_ _) | (with_reducible refine Below.setCell ?_ ?_ _) | (with_reducible refine Below.drew ?_) | (with_reducible refine Below.trans ?_ (Below.mono (by assumption) ?_)) | (simp; done) | (simp; omega) | omega)
  clear hb
  clear k0 k1 k2 k3 k4 k5 zl0
  have B2 := hid B2
  obtain ⟨k0, k1, k2, k3, k4, k5⟩ := K.out _ B2.out
  have zl0 : w.heap.size < u2.heap.size := Nat.lt_of_lt_of_le (ZV.out) (B2.out).size
  go_upto_region 3 with fail
  have K2 : Hid (∀ W' : World, Below u2.heap.size u2 W' → (Below u2.heap.size u2 W' ∧ W'.cell? ⟨w.heap.size, 0, none⟩ = some (.int .i64 x0) ∧ W'.cell? ⟨w.heap.size, 1, none⟩ = some (.int .i64 x1) ∧ W'.cell? ⟨w.heap.size, 2, none⟩ = some (.int .i64 x2) ∧ W'.cell? ⟨w.heap.size, 3, none⟩ = some (.int .i64 x3) ∧ W'.cell? ⟨w.heap.size, 4, none⟩ = some (.int .i64 x4) ∧ W'.cell? ⟨w.heap.size, 5, none⟩ = some (.int .i64 x5))) := hid fun W' B => ⟨B, K.out _ ((B2.out).trans (B.mono (B2.out).size))⟩
  go_region_held3 (fun W' => Below u2.heap.size u2 W' ∧ W'.cell? ⟨w.heap.size, 0, none⟩ = some (.int .i64 x0) ∧ W'.cell? ⟨w.heap.size, 1, none⟩ = some (.int .i64 x1) ∧ W'.cell? ⟨w.heap.size, 2, none⟩ = some (.int .i64 x2) ∧ W'.cell? ⟨w.heap.size, 3, none⟩ = some (.int .i64 x3) ∧ W'.cell? ⟨w.heap.size, 4, none⟩ = some (.int .i64 x4) ∧ W'.cell? ⟨w.heap.size, 5, none⟩ = some (.int .i64 x5)) ((exact K2.out _ (by repeat' (first | (with_reducible exact Below.refl _ _) | (with_reducible refine Below.alloc ?_ ?_ _) | (with_reducible refine Below.setCell ?_ ?_ _) | (with_reducible refine Below.drew ?_) | (with_reducible refine below_dn ?_ _) | (with_reducible refine Below.trans ?_ (Below.mono (by assumption) ?_)) | (simp; done) | (simp; omega) | omega))))
    (first | (go_at_call 14; (with_reducible refine (ck _).mono ?_); rintro _ w5 ⟨rfl, hb⟩; have hb5 : Below u2.heap.size u2 w5 := (by repeat' (first | (with_reducible exact Below.refl _ _) | (with_reducible refine Below.alloc ?_ ?_ _) | (with_reducible refine Below.setCell ?_ ?_ _) | (with_reducible refine Below.drew ?_) | (with_reducible refine below_dn ?_ _) | (with_reducible refine Below.trans ?_ (Below.mono (by assumption) ?_)) | (simp; done) | (simp; omega) | omega)); have hz5 : u2.heap.size ≤ w5.heap.size := hb5.size; clear hb) | (go_at_call 15; (with_reducible refine (rk _).mono ?_); rintro _ w5 ⟨rfl, hb⟩; have hb5 : Below u2.heap.size u2 w5 := (by repeat' (first | (with_reducible exact Below.refl _ _) | (with_reducible refine Below.alloc ?_ ?_ _) | (with_reducible refine Below.setCell ?_ ?_ _) | (with_reducible refine Below.drew ?_) | (with_reducible refine below_dn ?_ _) | (with_reducible refine Below.trans ?_ (Below.mono (by assumption) ?_)) | (simp; done) | (simp; omega) | omega)); have hz5 : u2.heap.size ≤ w5.heap.size := hb5.size; clear hb))
  all_goals
    have B3 := hid ((B2.out).trans (hb5.mono (B2.out).size))
    clear hb5
    try clear hz5
    try clear k0 k1 k2 k3 k4 k5
    try clear zl0
    obtain ⟨k0, k1, k2, k3, k4, k5⟩ := K.out _ B3.out
    have zl0 : w.heap.size < w5.heap.size := Nat.lt_of_lt_of_le (ZV.out) (B3.out).size
    go_wp2_with fail
    refine ((c2 _)).mono ?_
    rintro _ u4 ⟨rfl, hb⟩
    have B4 : Below V.heap.size V u4 := by have hB := B3.out; have hz := hB.size; repeat' (first | (with_reducible exact Below.refl _ _) | (with_reducible refine Below.alloc ?_ ?_ _) | (with_reducible refine Below.setCell ?_ ?_ _) | (with_reducible refine Below.drew ?_) | (with_reducible refine Below.trans ?_ (Below.mono (by assumption) ?_)) | (simp; done) | (simp; omega) | omega)
    clear hb
    clear k0 k1 k2 k3 k4 k5 zl0
    have B4 := hid B4
    obtain ⟨k0, k1, k2, k3, k4, k5⟩ := K.out _ B4.out
    have zl0 : w.heap.size < u4.heap.size := Nat.lt_of_lt_of_le (ZV.out) (B4.out).size
    go_wp2_with fail
    refine ((r2 _)).mono ?_
    rintro _ u5 ⟨rfl, hb⟩
    have B5 : Below V.heap.size V u5 := by have hB := B4.out; have hz := hB.size; repeat' (first | (with_reducible exact Below.refl _ _) | (with_reducible refine Below.alloc ?_ ?_ _) | (with_reducible refine Below.setCell ?_ ?_ _) | (with_reducible refine Below.drew ?_) | (with_reducible refine Below.trans ?_ (Below.mono (by assumption) ?_)) | (simp; done) | (simp; omega) | omega)
    clear hb
    clear k0 k1 k2 k3 k4 k5 zl0
    have B5 := hid B5
    obtain ⟨k0, k1, k2, k3, k4, k5⟩ := K.out _ B5.out
    have zl0 : w.heap.size < u5.heap.size := Nat.lt_of_lt_of_le (ZV.out) (B5.out).size
    go_wp2_with fail
    refine ((c3 _)).mono ?_
    rintro _ u6 ⟨rfl, hb⟩
    have B6 : Below V.heap.size V u6 := by have hB := B5.out; have hz := hB.size; repeat' (first | (with_reducible exact Below.refl _ _) | (with_reducible refine Below.alloc ?_ ?_ _) | (with_reducible refine Below.setCell ?_ ?_ _) | (with_reducible refine Below.drew ?_) | (with_reducible refine Below.trans ?_ (Below.mono (by assumption) ?_)) | (simp; done) | (simp; omega) | omega)
    clear hb
    clear k0 k1 k2 k3 k4 k5 zl0
    have B6 := hid B6
    obtain ⟨k0, k1, k2, k3, k4, k5⟩ := K.out _ B6.out
    have zl0 : w.heap.size < u6.heap.size := Nat.lt_of_lt_of_le (ZV.out) (B6.out).size
    go_wp2_with fail
    refine ((r3 _)).mono ?_
    rintro _ u7 ⟨rfl, hb⟩
    have B7 : Below V.heap.size V u7 := by have hB := B6.out; have hz := hB.size; repeat' (first | (with_reducible exact Below.refl _ _) | (with_reducible refine Below.alloc ?_ ?_ _) | (with_reducible refine Below.setCell ?_ ?_ _) | (with_reducible refine Below.drew ?_) | (with_reducible refine Below.trans ?_ (Below.mono (by assumption) ?_)) | (simp; done) | (simp; omega) | omega)
    clear hb
    clear k0 k1 k2 k3 k4 k5 zl0
    have B7 := hid B7
    obtain ⟨k0, k1, k2, k3, k4, k5⟩ := K.out _ B7.out
    have zl0 : w.heap.size < u7.heap.size := Nat.lt_of_lt_of_le (ZV.out) (B7.out).size
    go_wp2_with fail
    refine ((c4 _)).mono ?_
    rintro _ u8 ⟨rfl, hb⟩
    have B8 : Below V.heap.size V u8 := by have hB := B7.out; have hz := hB.size; repeat' (first | (with_reducible exact Below.refl _ _) | (with_reducible refine Below.alloc ?_ ?_ _) | (with_reducible refine Below.setCell ?_ ?_ _) | (with_reducible refine Below.drew ?_) | (with_reducible refine Below.trans ?_ (Below.mono (by assumption) ?_)) | (simp; done) | (simp; omega) | omega)
    clear hb
    clear k0 k1 k2 k3 k4 k5 zl0
    have B8 := hid B8
    obtain ⟨k0, k1, k2, k3, k4, k5⟩ := K.out _ B8.out
    have zl0 : w.heap.size < u8.heap.size := Nat.lt_of_lt_of_le (ZV.out) (B8.out).size
    go_upto_region 12 with fail
    obtain ⟨U1, hU⟩ : ∃ U : World, u8.alloc (Obj.cells #[.int .i64 v4, .int .i64 v5] 30) = U := ⟨_, rfl⟩
    have bU : Below u8.heap.size u8 U1 := by rw [← hU]; exact (Below.refl _ _).alloc (Nat.le_refl _) _
    have zU1 : u8.heap.size < U1.heap.size := by rw [← hU]; simp
    have nc0 : U1.cell? ⟨u8.heap.size, 0, none⟩ = some (.int .i64 v4) := by rw [← hU]; simp [go_sem]
    have nc1 : U1.cell? ⟨u8.heap.size, 1, none⟩ = some (.int .i64 v5) := by rw [← hU]; simp [go_sem]
    have K1 : Hid (∀ W' : World, Below U1.heap.size U1 W' → (W'.cell? ⟨w.heap.size, 0, none⟩ = some (.int .i64 x0) ∧ W'.cell? ⟨w.heap.size, 1, none⟩ = some (.int .i64 x1) ∧ W'.cell? ⟨w.heap.size, 2, none⟩ = some (.int .i64 x2) ∧ W'.cell? ⟨w.heap.size, 3, none⟩ = some (.int .i64 x3) ∧ W'.cell? ⟨w.heap.size, 4, none⟩ = some (.int .i64 x4) ∧ W'.cell? ⟨w.heap.size, 5, none⟩ = some (.int .i64 x5) ∧ W'.cell? ⟨u8.heap.size, 0, none⟩ = some (.int .i64 v4) ∧ W'.cell? ⟨u8.heap.size, 1, none⟩ = some (.int .i64 v5))) := hid fun W' B => ⟨(B.cell (p := ⟨w.heap.size, 0, none⟩) (Nat.lt_of_lt_of_le zl0 bU.size)).trans ((bU.cell (p := ⟨w.heap.size, 0, none⟩) zl0).trans k0), (B.cell (p := ⟨w.heap.size, 1, none⟩) (Nat.lt_of_lt_of_le zl0 bU.size)).trans ((bU.cell (p := ⟨w.heap.size, 1, none⟩) zl0).trans k1), (B.cell (p := ⟨w.heap.size, 2, none⟩) (Nat.lt_of_lt_of_le zl0 bU.size)).trans ((bU.cell (p := ⟨w.heap.size, 2, none⟩) zl0).trans k2), (B.cell (p := ⟨w.heap.size, 3, none⟩) (Nat.lt_of_lt_of_le zl0 bU.size)).trans ((bU.cell (p := ⟨w.heap.size, 3, none⟩) zl0).trans k3), (B.cell (p := ⟨w.heap.size, 4, none⟩) (Nat.lt_of_lt_of_le zl0 bU.size)).trans ((bU.cell (p := ⟨w.heap.size, 4, none⟩) zl0).trans k4), (B.cell (p := ⟨w.heap.size, 5, none⟩) (Nat.lt_of_lt_of_le zl0 bU.size)).trans ((bU.cell (p := ⟨w.heap.size, 5, none⟩) zl0).trans k5), (B.cell (p := ⟨u8.heap.size, 0, none⟩) zU1).trans nc0, (B.cell (p := ⟨u8.heap.size, 1, none⟩) zU1).trans nc1⟩
    have BU1 := hid bU
    have zb1_0 := hid (Nat.lt_of_lt_of_le zl0 bU.size)
    have zn1 := hid zU1
    have BV := hid (BV.out.trans (((B8.out).trans (bU.mono (B8.out).size)).mono BV.out.size))
    rw [hU]
    clear K hU bU zU1 nc0 nc1
    clear k0 k1 k2 k3 k4 k5 zl0
    have K := K1
    obtain ⟨k0, k1, k2, k3, k4, k5, k6, k7⟩ := K.out _ (Below.refl _ _ : Below U1.heap.size U1 U1)
    have zl0 : w.heap.size < U1.heap.size := Nat.lt_of_lt_of_le (zb1_0.out) ((Below.refl _ _ : Below U1.heap.size U1 U1)).size
    have zl1 : u8.heap.size < U1.heap.size := Nat.lt_of_lt_of_le (zn1.out) ((Below.refl _ _ : Below U1.heap.size U1 U1)).size
    go_wp2_with fail
    refine ((r4 _)).mono ?_
    rintro _ u9 ⟨rfl, hb⟩
    have B9 : Below U1.heap.size U1 u9 := by have hB := (Below.refl _ _ : Below U1.heap.size U1 U1); have hz := hB.size; repeat' (first | (with_reducible exact Below.refl _ _) | (with_reducible refine Below.alloc ?_ ?_ _) | (with_reducible refine Below.setCell ?_ ?_ _) | (with_reducible refine Below.drew ?_) | (with_reducible refine Below.trans ?_ (Below.mono (by assumption) ?_)) | (simp; done) | (simp; omega) | omega)
    clear hb
    clear k0 k1 k2 k3 k4 k5 k6 k7 zl0 zl1
    have B9 := hid B9
    obtain ⟨k0, k1, k2, k3, k4, k5, k6, k7⟩ := K.out _ B9.out
    have zl0 : w.heap.size < u9.heap.size := Nat.lt_of_lt_of_le (zb1_0.out) (B9.out).size
    have zl1 : u8.heap.size < u9.heap.size := Nat.lt_of_lt_of_le (zn1.out) (B9.out).size
    go_upto_region 13 with fail
    obtain ⟨U2, hU⟩ : ∃ U : World, u9.alloc (Obj.cells #[.int .i64 v4, .int .i64 v5] 30) = U := ⟨_, rfl⟩
    have bU : Below u9.heap.size u9 U2 := by rw [← hU]; exact (Below.refl _ _).alloc (Nat.le_refl _) _
    have zU2 : u9.heap.size < U2.heap.size := by rw [← hU]; simp
    have nc0 : U2.cell? ⟨u9.heap.size, 0, none⟩ = some (.int .i64 v4) := by rw [← hU]; simp [go_sem]
    have nc1 : U2.cell? ⟨u9.heap.size, 1, none⟩ = some (.int .i64 v5) := by rw [← hU]; simp [go_sem]
    have K2 : Hid (∀ W' : World, Below U2.heap.size U2 W' → (W'.cell? ⟨w.heap.size, 0, none⟩ = some (.int .i64 x0) ∧ W'.cell? ⟨w.heap.size, 1, none⟩ = some (.int .i64 x1) ∧ W'.cell? ⟨w.heap.size, 2, none⟩ = some (.int .i64 x2) ∧ W'.cell? ⟨w.heap.size, 3, none⟩ = some (.int .i64 x3) ∧ W'.cell? ⟨w.heap.size, 4, none⟩ = some (.int .i64 x4) ∧ W'.cell? ⟨w.heap.size, 5, none⟩ = some (.int .i64 x5) ∧ W'.cell? ⟨u8.heap.size, 0, none⟩ = some (.int .i64 v4) ∧ W'.cell? ⟨u8.heap.size, 1, none⟩ = some (.int .i64 v5) ∧ W'.cell? ⟨u9.heap.size, 0, none⟩ = some (.int .i64 v4) ∧ W'.cell? ⟨u9.heap.size, 1, none⟩ = some (.int .i64 v5))) := hid fun W' B => ⟨(B.cell (p := ⟨w.heap.size, 0, none⟩) (Nat.lt_of_lt_of_le zl0 bU.size)).trans ((bU.cell (p := ⟨w.heap.size, 0, none⟩) zl0).trans k0), (B.cell (p := ⟨w.heap.size, 1, none⟩) (Nat.lt_of_lt_of_le zl0 bU.size)).trans ((bU.cell (p := ⟨w.heap.size, 1, none⟩) zl0).trans k1), (B.cell (p := ⟨w.heap.size, 2, none⟩) (Nat.lt_of_lt_of_le zl0 bU.size)).trans ((bU.cell (p := ⟨w.heap.size, 2, none⟩) zl0).trans k2), (B.cell (p := ⟨w.heap.size, 3, none⟩) (Nat.lt_of_lt_of_le zl0 bU.size)).trans ((bU.cell (p := ⟨w.heap.size, 3, none⟩) zl0).trans k3), (B.cell (p := ⟨w.heap.size, 4, none⟩) (Nat.lt_of_lt_of_le zl0 bU.size)).trans ((bU.cell (p := ⟨w.heap.size, 4, none⟩) zl0).trans k4), (B.cell (p := ⟨w.heap.size, 5, none⟩) (Nat.lt_of_lt_of_le zl0 bU.size)).trans ((bU.cell (p := ⟨w.heap.size, 5, none⟩) zl0).trans k5), (B.cell (p := ⟨u8.heap.size, 0, none⟩) (Nat.lt_of_lt_of_le zl1 bU.size)).trans ((bU.cell (p := ⟨u8.heap.size, 0, none⟩) zl1).trans k6), (B.cell (p := ⟨u8.heap.size, 1, none⟩) (Nat.lt_of_lt_of_le zl1 bU.size)).trans ((bU.cell (p := ⟨u8.heap.size, 1, none⟩) zl1).trans k7), (B.cell (p := ⟨u9.heap.size, 0, none⟩) zU2).trans nc0, (B.cell (p := ⟨u9.heap.size, 1, none⟩) zU2).trans nc1⟩
    have BU2 := hid bU
    have zb2_0 := hid (Nat.lt_of_lt_of_le zl0 bU.size)
    have zb2_1 := hid (Nat.lt_of_lt_of_le zl1 bU.size)
    have zn2 := hid zU2
    have BV := hid (BV.out.trans (((B9.out).trans (bU.mono (B9.out).size)).mono BV.out.size))
    rw [hU]
    clear K hU bU zU2 nc0 nc1
    clear k0 k1 k2 k3 k4 k5 k6 k7 zl0 zl1
    have K := K2
    obtain ⟨k0, k1, k2, k3, k4, k5, k6, k7, k8, k9⟩ := K.out _ (Below.refl _ _ : Below U2.heap.size U2 U2)
    have zl0 : w.heap.size < U2.heap.size := Nat.lt_of_lt_of_le (zb2_0.out) ((Below.refl _ _ : Below U2.heap.size U2 U2)).size
    have zl1 : u8.heap.size < U2.heap.size := Nat.lt_of_lt_of_le (zb2_1.out) ((Below.refl _ _ : Below U2.heap.size U2 U2)).size
    have zl2 : u9.heap.size < U2.heap.size := Nat.lt_of_lt_of_le (zn2.out) ((Below.refl _ _ : Below U2.heap.size U2 U2)).size
    go_wp2_with (go_at_call 22; refine (gawake_any _).mono ?_; rintro _ wz ⟨rfl, hz⟩)
    all_goals
      go_ret
      exact Gives.mk rfl (BV.out.trans ((((Below.refl _ _ : Below U2.heap.size U2 U2)).trans ((by assumption : Below U2.heap.size U2 _).mono ((Below.refl _ _ : Below U2.heap.size U2 U2)).size)).mono BV.out.size))
end Go.Proofs.Ytfdnmlggemonhaa
