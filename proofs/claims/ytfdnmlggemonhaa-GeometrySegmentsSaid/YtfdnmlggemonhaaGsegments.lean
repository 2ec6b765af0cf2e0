/-
  Layer 7: GeometrySegments: the walk. Written by tools/gen_gsegn.py.
-/
import Derived.Test.YtfdnmlggemonhaaGl
import Derived.Test.YtfdnmlggemonhaaParr
import Derived.Test.YtfdnmlggemonhaaGpa
import Derived.Test.YtfdnmlggemonhaaGpb
namespace Go.Proofs.Ytfdnmlggemonhaa
open Go.RowKit
set_option linter.unusedVariables false
set_option linter.unusedSimpArgs false

set_option maxRecDepth 100000 in
set_option maxHeartbeats 4000000 in
theorem segments_as (x0 x1 x2 x3 x4 x5 x6 x7 : Int) (w : World) :
    Calls Try.prog 4 #[.agg #[.int .i64 x0, .int .i64 x1, .int .i64 x2, .int .i64 x3, .int .i64 x4, .int .i64 x5, .int .i64 x6, .int .i64 x7]] w (Gives (.bool true) w) := by
  have c1 := OnSegment_any (x0, x1) (x2, x3) (x4, x5)
  have r1 := rOnSegment_any (x0, x1) (x2, x3) (x4, x5)
  generalize Sp.onsegS (x0, x1) (x2, x3) (x4, x5) = q at c1 r1
  obtain ⟨v1, e1⟩ := q
  dsimp only at c1 r1
  have c2 := Meet_any (x0, x1) (x2, x3) (x4, x5) (x6, x7)
  have r2 := rMeet_any (x0, x1) (x2, x3) (x4, x5) (x6, x7)
  generalize Sp.meetS (x0, x1) (x2, x3) (x4, x5) (x6, x7) = q at c2 r2
  obtain ⟨v2, e2⟩ := q
  dsimp only at c2 r2
  obtain ⟨V, hV⟩ : ∃ V : World, w.alloc (Obj.cells #[.int .i64 x0, .int .i64 x1, .int .i64 x2, .int .i64 x3, .int .i64 x4, .int .i64 x5, .int .i64 x6, .int .i64 x7] 35) = V := ⟨_, rfl⟩
  have bV : Below w.heap.size w V := by rw [← hV]; exact (Below.refl _ _).alloc (Nat.le_refl _) _
  have zV : w.heap.size < V.heap.size := by rw [← hV]; simp
  have K : Hid (∀ W' : World, Below V.heap.size V W' → (W'.cell? ⟨w.heap.size, 0, none⟩ = some (.int .i64 x0) ∧ W'.cell? ⟨w.heap.size, 1, none⟩ = some (.int .i64 x1) ∧ W'.cell? ⟨w.heap.size, 2, none⟩ = some (.int .i64 x2) ∧ W'.cell? ⟨w.heap.size, 3, none⟩ = some (.int .i64 x3) ∧ W'.cell? ⟨w.heap.size, 4, none⟩ = some (.int .i64 x4) ∧ W'.cell? ⟨w.heap.size, 5, none⟩ = some (.int .i64 x5) ∧ W'.cell? ⟨w.heap.size, 6, none⟩ = some (.int .i64 x6) ∧ W'.cell? ⟨w.heap.size, 7, none⟩ = some (.int .i64 x7))) := hid fun W' B => ⟨(B.cell (p := ⟨w.heap.size, 0, none⟩) zV).trans (by rw [← hV]; simp [go_sem]), (B.cell (p := ⟨w.heap.size, 1, none⟩) zV).trans (by rw [← hV]; simp [go_sem]), (B.cell (p := ⟨w.heap.size, 2, none⟩) zV).trans (by rw [← hV]; simp [go_sem]), (B.cell (p := ⟨w.heap.size, 3, none⟩) zV).trans (by rw [← hV]; simp [go_sem]), (B.cell (p := ⟨w.heap.size, 4, none⟩) zV).trans (by rw [← hV]; simp [go_sem]), (B.cell (p := ⟨w.heap.size, 5, none⟩) zV).trans (by rw [← hV]; simp [go_sem]), (B.cell (p := ⟨w.heap.size, 6, none⟩) zV).trans (by rw [← hV]; simp [go_sem]), (B.cell (p := ⟨w.heap.size, 7, none⟩) zV).trans (by rw [← hV]; simp [go_sem])⟩
  have HV := hid hV
  have BV := hid bV
  have ZV := hid zV
  clear hV bV zV
  go_enter Try.func4, Try.ntmps4
  go_upto_region 1 with fail
  rw [HV.out]
  obtain ⟨k0, k1, k2, k3, k4, k5, k6, k7⟩ := K.out _ (Below.refl _ _ : Below V.heap.size V V)
  have zl0 : w.heap.size < V.heap.size := Nat.lt_of_lt_of_le (ZV.out) ((Below.refl _ _ : Below V.heap.size V V)).size
  go_wp2_with fail
  refine ((c1 _)).mono ?_
  rintro _ u1 ⟨rfl, hb⟩
  have B1 : Below V.heap.size V u1 := by have hB := (Below.refl _ _ : Below V.heap.size V V); have hz := hB.size; repeat' (first | (with_reducible exact Below.refl _ _) | (with_reducible refine Below.alloc ?_ ?_ _) | (with_reducible refine Below.setCell ?_ ?_ _) | (with_reducible refine Below.drew ?_) | (with_reducible refine Below.trans ?_ (Below.mono (by assumption) ?_)) | (simp; done) | (simp; omega) | omega)
  clear hb
  clear k0 k1 k2 k3 k4 k5 k6 k7 zl0
  have B1 := hid B1
  obtain ⟨k0, k1, k2, k3, k4, k5, k6, k7⟩ := K.out _ B1.out
  have zl0 : w.heap.size < u1.heap.size := Nat.lt_of_lt_of_le (ZV.out) (B1.out).size
  go_wp2_with fail
  refine ((r1 _)).mono ?_
  rintro _ u2 ⟨rfl, hb⟩
  have B2 : Below V.heap.size V u2 := by have hB := B1.out; have hz := hB.size; repeat' (first | (with_reducible exact Below.refl _ _) | (with_reducible refine Below.alloc ?_ ?_ _) | (with_reducible refine Below.setCell ?_ ?_ _) | (with_reducible refine Below.drew ?_) | (with_reducible refine Below.trans ?_ (Below.mono (by assumption) ?_)) | (simp; done) | (simp; omega) | omega)
  clear hb
  clear k0 k1 k2 k3 k4 k5 k6 k7 zl0
  have B2 := hid B2
  obtain ⟨k0, k1, k2, k3, k4, k5, k6, k7⟩ := K.out _ B2.out
  have zl0 : w.heap.size < u2.heap.size := Nat.lt_of_lt_of_le (ZV.out) (B2.out).size
  go_wp2_with fail
  refine ((c2 _)).mono ?_
  rintro _ u3 ⟨rfl, hb⟩
  have B3 : Below V.heap.size V u3 := by have hB := B2.out; have hz := hB.size; repeat' (first | (with_reducible exact Below.refl _ _) | (with_reducible refine Below.alloc ?_ ?_ _) | (with_reducible refine Below.setCell ?_ ?_ _) | (with_reducible refine Below.drew ?_) | (with_reducible refine Below.trans ?_ (Below.mono (by assumption) ?_)) | (simp; done) | (simp; omega) | omega)
  clear hb
  clear k0 k1 k2 k3 k4 k5 k6 k7 zl0
  have B3 := hid B3
  obtain ⟨k0, k1, k2, k3, k4, k5, k6, k7⟩ := K.out _ B3.out
  have zl0 : w.heap.size < u3.heap.size := Nat.lt_of_lt_of_le (ZV.out) (B3.out).size
  go_wp2_with fail
  refine ((r2 _)).mono ?_
  rintro _ u4 ⟨rfl, hb⟩
  have B4 : Below V.heap.size V u4 := by have hB := B3.out; have hz := hB.size; repeat' (first | (with_reducible exact Below.refl _ _) | (with_reducible refine Below.alloc ?_ ?_ _) | (with_reducible refine Below.setCell ?_ ?_ _) | (with_reducible refine Below.drew ?_) | (with_reducible refine Below.trans ?_ (Below.mono (by assumption) ?_)) | (simp; done) | (simp; omega) | omega)
  clear hb
  clear k0 k1 k2 k3 k4 k5 k6 k7 zl0
  have B4 := hid B4
  obtain ⟨k0, k1, k2, k3, k4, k5, k6, k7⟩ := K.out _ B4.out
  have zl0 : w.heap.size < u4.heap.size := Nat.lt_of_lt_of_le (ZV.out) (B4.out).size
  go_wp2_with (go_at_call 22; refine (gawake_any _).mono ?_; rintro _ wz ⟨rfl, hz⟩)
  all_goals
    go_ret
    exact Gives.mk rfl (BV.out.trans (((B4.out).trans ((by assumption : Below u4.heap.size u4 _).mono (B4.out).size)).mono BV.out.size))
end Go.Proofs.Ytfdnmlggemonhaa
