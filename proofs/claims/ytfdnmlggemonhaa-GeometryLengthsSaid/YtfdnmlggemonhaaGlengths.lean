/-
  Layer 7: GeometryLengths: the walk. Written by tools/gen_glengths.py.
-/
import Derived.Test.YtfdnmlggemonhaaGl
import Derived.Test.YtfdnmlggemonhaaParr
namespace Go.Proofs.Ytfdnmlggemonhaa
open Go.RowKit
set_option linter.unusedVariables false
set_option linter.unusedSimpArgs false

namespace Sp
theorem len_of {a b : Pt} {la ha ea : Int} (h : lenS a b = ((la, ha), ea)) : (ea = 2 ∧ ¬ (okP a && okP b) = true) ∨ (ea = 0 ∧ okP a = true ∧ okP b = true ∧ IsRoot (sq a b) la ∧ hiS (sq a b) la = ha ∧ 0 ≤ la ∧ la ≤ 141421) := by
  unfold lenS at h
  by_cases c : (okP a && okP b) = true
  · rw [if_pos c] at h
    simp only [Prod.mk.injEq] at h
    obtain ⟨⟨h1, h2⟩, h3⟩ := h
    subst h1 h3
    simp only [Bool.and_eq_true] at c
    have r := rt_is (sq_0 a b)
    have b := root_b r (sq_b c.1 c.2).2
    exact .inr ⟨rfl, c.1, c.2, r, h2, b.1, b.2⟩
  · rw [if_neg c] at h
    simp only [Prod.mk.injEq] at h
    exact .inl ⟨h.2.symm, c⟩
theorem lengths_math (a b c : Pt) {la ha ea lb hb eb lc hc ec D e : Int} (h1 : lenS a b = ((la, ha), ea)) (h2 : lenS b c = ((lb, hb), eb)) (h3 : lenS a c = ((lc, hc), ec)) (h4 : dist2S a b = (D, e)) :
    ea ≠ 0 ∨ (ea = 0 ∧ eb ≠ 0) ∨ (ea = 0 ∧ eb = 0 ∧ ec ≠ 0) ∨ (ea = 0 ∧ eb = 0 ∧ ec = 0 ∧ e = 0 ∧ 0 ≤ la ∧ la ≤ 141421 ∧ la ≤ ha ∧ ha ≤ la + 1 ∧ la * la ≤ D ∧ D ≤ ha * ha ∧ (ha ≠ la → la * la ≠ D ∧ ha * ha ≠ D) ∧ 0 ≤ hb ∧ hb ≤ 141422 ∧ 0 ≤ lc ∧ lc ≤ ha + hb) := by
  rcases len_of h1 with ⟨e1, _⟩ | ⟨e1, o1, o2, r1, i1, b1, b2⟩
  · exact .inl (by omega)
  · rcases len_of h2 with ⟨e2, _⟩ | ⟨e2, _, _, r2, i2, b3, b4⟩
    · exact .inr (.inl ⟨e1, by omega⟩)
    · rcases len_of h3 with ⟨e3, _⟩ | ⟨e3, _, _, r3, i3, b5, b6⟩
      · exact .inr (.inr (.inl ⟨e1, e2, by omega⟩))
      · refine .inr (.inr (.inr ⟨e1, e2, e3, ?_⟩))
        unfold dist2S at h4
        rw [if_pos (by rw [o1, o2]; rfl)] at h4
        simp only [Prod.mk.injEq] at h4
        obtain ⟨rfl, rfl⟩ := h4
        have f1 := hi_facts r1
        have f2 := hi_facts r2
        rw [i1] at f1
        rw [i2] at f2
        refine ⟨rfl, b1, b2, f1.2.1, by omega, r1.2.1, f1.1, f1.2.2.2, by omega, by omega, b5, ?_⟩
        exact triangle (by omega) (by omega) f1.1 f2.1 r3.2.1
end Sp
set_option maxRecDepth 100000 in
set_option maxHeartbeats 4000000 in
theorem lengths_as (x0 x1 x2 x3 x4 x5 : Int) (w : World) :
    Calls Try.prog 11 #[.agg #[.int .i64 x0, .int .i64 x1, .int .i64 x2, .int .i64 x3, .int .i64 x4, .int .i64 x5]] w (Gives (.bool true) w) := by
  obtain ⟨⟨⟨la, ha⟩, ea⟩, hha⟩ : ∃ r, Sp.lenS (x0, x1) (x2, x3) = r := ⟨_, rfl⟩
  have ca := Length_any (x0, x1) (x2, x3)
  rw [hha] at ca
  dsimp only at ca
  obtain ⟨⟨⟨lb, hb⟩, eb⟩, hhb⟩ : ∃ r, Sp.lenS (x2, x3) (x4, x5) = r := ⟨_, rfl⟩
  have cb := Length_any (x2, x3) (x4, x5)
  rw [hhb] at cb
  dsimp only at cb
  obtain ⟨⟨⟨lc, hc⟩, ec⟩, hhc⟩ : ∃ r, Sp.lenS (x0, x1) (x4, x5) = r := ⟨_, rfl⟩
  have cc := Length_any (x0, x1) (x4, x5)
  rw [hhc] at cc
  dsimp only at cc
  obtain ⟨⟨D, ed⟩, hcd⟩ : ∃ r, Sp.dist2S (x0, x1) (x2, x3) = r := ⟨_, rfl⟩
  have cd := Dist2_any (x0, x1) (x2, x3)
  rw [hcd] at cd
  dsimp only at cd
  have M := Sp.lengths_math (x0, x1) (x2, x3) (x4, x5) hha hhb hhc hcd
  clear hha hhb hhc hcd
  rcases M with M | M | M | M
  · have q1 := M
    obtain ⟨V, hV⟩ : ∃ V : World, w.alloc (Obj.cells #[.int .i64 x0, .int .i64 x1, .int .i64 x2, .int .i64 x3, .int .i64 x4, .int .i64 x5] 24) = V := ⟨_, rfl⟩
    have bV : Below w.heap.size w V := by rw [← hV]; exact (Below.refl _ _).alloc (Nat.le_refl _) _
    have zV : w.heap.size < V.heap.size := by rw [← hV]; simp
    have K : Hid (∀ W' : World, Below V.heap.size V W' → (W'.cell? ⟨w.heap.size, 0, none⟩ = some (.int .i64 x0) ∧ W'.cell? ⟨w.heap.size, 1, none⟩ = some (.int .i64 x1) ∧ W'.cell? ⟨w.heap.size, 2, none⟩ = some (.int .i64 x2) ∧ W'.cell? ⟨w.heap.size, 3, none⟩ = some (.int .i64 x3) ∧ W'.cell? ⟨w.heap.size, 4, none⟩ = some (.int .i64 x4) ∧ W'.cell? ⟨w.heap.size, 5, none⟩ = some (.int .i64 x5))) := hid fun W' B => ⟨(B.cell (p := ⟨w.heap.size, 0, none⟩) zV).trans (by rw [← hV]; simp [go_sem]), (B.cell (p := ⟨w.heap.size, 1, none⟩) zV).trans (by rw [← hV]; simp [go_sem]), (B.cell (p := ⟨w.heap.size, 2, none⟩) zV).trans (by rw [← hV]; simp [go_sem]), (B.cell (p := ⟨w.heap.size, 3, none⟩) zV).trans (by rw [← hV]; simp [go_sem]), (B.cell (p := ⟨w.heap.size, 4, none⟩) zV).trans (by rw [← hV]; simp [go_sem]), (B.cell (p := ⟨w.heap.size, 5, none⟩) zV).trans (by rw [← hV]; simp [go_sem])⟩
    have HV := hid hV
    have BV := hid bV
    have ZV := hid zV
    clear hV bV zV
    go_enter Try.func11, Try.ntmps11
    go_upto_region 1 with fail
    rw [HV.out]
    obtain ⟨k0, k1, k2, k3, k4, k5⟩ := K.out _ (Below.refl _ _ : Below V.heap.size V V)
    have zl0 : w.heap.size < V.heap.size := Nat.lt_of_lt_of_le (ZV.out) ((Below.refl _ _ : Below V.heap.size V V)).size
    go_wp2_with fail
    refine ((ca _)).mono ?_
    rintro _ u1 ⟨rfl, hb⟩
    have B1 : Below V.heap.size V u1 := by have hB := (Below.refl _ _ : Below V.heap.size V V); have hz := hB.size; repeat' (first | (with_reducible exact Below.refl _ _) | (with_reducible refine Below.alloc ?_ ?_ _) | (with_reducible refine Below.setCell ?_ ?_ _) | (with_reducible refine Below.drew ?_) | (with_reducible refine Below.trans ?_ (Below.mono (by assumption) ?_)) | (simp; done) | (simp; omega) | omega)
    clear hb
    clear k0 k1 k2 k3 k4 k5 zl0
    have B1 := hid B1
    obtain ⟨k0, k1, k2, k3, k4, k5⟩ := K.out _ B1.out
    have zl0 : w.heap.size < u1.heap.size := Nat.lt_of_lt_of_le (ZV.out) (B1.out).size
    go_upto_region 2 with fail
    obtain ⟨U1, hU⟩ : ∃ U : World, u1.alloc (Obj.cells #[.int .i64 la, .int .i64 ha] 30) = U := ⟨_, rfl⟩
    have bU : Below u1.heap.size u1 U1 := by rw [← hU]; exact (Below.refl _ _).alloc (Nat.le_refl _) _
    have zU1 : u1.heap.size < U1.heap.size := by rw [← hU]; simp
    have nc0 : U1.cell? ⟨u1.heap.size, 0, none⟩ = some (.int .i64 la) := by rw [← hU]; simp [go_sem]
    have nc1 : U1.cell? ⟨u1.heap.size, 1, none⟩ = some (.int .i64 ha) := by rw [← hU]; simp [go_sem]
    have K1 : Hid (∀ W' : World, Below U1.heap.size U1 W' → (W'.cell? ⟨w.heap.size, 0, none⟩ = some (.int .i64 x0) ∧ W'.cell? ⟨w.heap.size, 1, none⟩ = some (.int .i64 x1) ∧ W'.cell? ⟨w.heap.size, 2, none⟩ = some (.int .i64 x2) ∧ W'.cell? ⟨w.heap.size, 3, none⟩ = some (.int .i64 x3) ∧ W'.cell? ⟨w.heap.size, 4, none⟩ = some (.int .i64 x4) ∧ W'.cell? ⟨w.heap.size, 5, none⟩ = some (.int .i64 x5) ∧ W'.cell? ⟨u1.heap.size, 0, none⟩ = some (.int .i64 la) ∧ W'.cell? ⟨u1.heap.size, 1, none⟩ = some (.int .i64 ha))) := hid fun W' B => ⟨(B.cell (p := ⟨w.heap.size, 0, none⟩) (Nat.lt_of_lt_of_le zl0 bU.size)).trans ((bU.cell (p := ⟨w.heap.size, 0, none⟩) zl0).trans k0), (B.cell (p := ⟨w.heap.size, 1, none⟩) (Nat.lt_of_lt_of_le zl0 bU.size)).trans ((bU.cell (p := ⟨w.heap.size, 1, none⟩) zl0).trans k1), (B.cell (p := ⟨w.heap.size, 2, none⟩) (Nat.lt_of_lt_of_le zl0 bU.size)).trans ((bU.cell (p := ⟨w.heap.size, 2, none⟩) zl0).trans k2), (B.cell (p := ⟨w.heap.size, 3, none⟩) (Nat.lt_of_lt_of_le zl0 bU.size)).trans ((bU.cell (p := ⟨w.heap.size, 3, none⟩) zl0).trans k3), (B.cell (p := ⟨w.heap.size, 4, none⟩) (Nat.lt_of_lt_of_le zl0 bU.size)).trans ((bU.cell (p := ⟨w.heap.size, 4, none⟩) zl0).trans k4), (B.cell (p := ⟨w.heap.size, 5, none⟩) (Nat.lt_of_lt_of_le zl0 bU.size)).trans ((bU.cell (p := ⟨w.heap.size, 5, none⟩) zl0).trans k5), (B.cell (p := ⟨u1.heap.size, 0, none⟩) zU1).trans nc0, (B.cell (p := ⟨u1.heap.size, 1, none⟩) zU1).trans nc1⟩
    have BU1 := hid bU
    have zb1_0 := hid (Nat.lt_of_lt_of_le zl0 bU.size)
    have zn1 := hid zU1
    have BV := hid (BV.out.trans (((B1.out).trans (bU.mono (B1.out).size)).mono BV.out.size))
    rw [hU]
    clear K hU bU zU1 nc0 nc1
    clear k0 k1 k2 k3 k4 k5 zl0
    have K := K1
    obtain ⟨k0, k1, k2, k3, k4, k5, k6, k7⟩ := K.out _ (Below.refl _ _ : Below U1.heap.size U1 U1)
    have zl0 : w.heap.size < U1.heap.size := Nat.lt_of_lt_of_le (zb1_0.out) ((Below.refl _ _ : Below U1.heap.size U1 U1)).size
    have zl1 : u1.heap.size < U1.heap.size := Nat.lt_of_lt_of_le (zn1.out) ((Below.refl _ _ : Below U1.heap.size U1 U1)).size
    go_wp2_with fail
    refine ((cb _)).mono ?_
    rintro _ u2 ⟨rfl, hb⟩
    have B2 : Below U1.heap.size U1 u2 := by have hB := (Below.refl _ _ : Below U1.heap.size U1 U1); have hz := hB.size; repeat' (first | (with_reducible exact Below.refl _ _) | (with_reducible refine Below.alloc ?_ ?_ _) | (with_reducible refine Below.setCell ?_ ?_ _) | (with_reducible refine Below.drew ?_) | (with_reducible refine Below.trans ?_ (Below.mono (by assumption) ?_)) | (simp; done) | (simp; omega) | omega)
    clear hb
    clear k0 k1 k2 k3 k4 k5 k6 k7 zl0 zl1
    have B2 := hid B2
    obtain ⟨k0, k1, k2, k3, k4, k5, k6, k7⟩ := K.out _ B2.out
    have zl0 : w.heap.size < u2.heap.size := Nat.lt_of_lt_of_le (zb1_0.out) (B2.out).size
    have zl1 : u1.heap.size < u2.heap.size := Nat.lt_of_lt_of_le (zn1.out) (B2.out).size
    go_upto_region 3 with fail
    obtain ⟨U2, hU⟩ : ∃ U : World, u2.alloc (Obj.cells #[.int .i64 lb, .int .i64 hb] 30) = U := ⟨_, rfl⟩
    have bU : Below u2.heap.size u2 U2 := by rw [← hU]; exact (Below.refl _ _).alloc (Nat.le_refl _) _
    have zU2 : u2.heap.size < U2.heap.size := by rw [← hU]; simp
    have nc0 : U2.cell? ⟨u2.heap.size, 0, none⟩ = some (.int .i64 lb) := by rw [← hU]; simp [go_sem]
    have nc1 : U2.cell? ⟨u2.heap.size, 1, none⟩ = some (.int .i64 hb) := by rw [← hU]; simp [go_sem]
    have K2 : Hid (∀ W' : World, Below U2.heap.size U2 W' → (W'.cell? ⟨w.heap.size, 0, none⟩ = some (.int .i64 x0) ∧ W'.cell? ⟨w.heap.size, 1, none⟩ = some (.int .i64 x1) ∧ W'.cell? ⟨w.heap.size, 2, none⟩ = some (.int .i64 x2) ∧ W'.cell? ⟨w.heap.size, 3, none⟩ = some (.int .i64 x3) ∧ W'.cell? ⟨w.heap.size, 4, none⟩ = some (.int .i64 x4) ∧ W'.cell? ⟨w.heap.size, 5, none⟩ = some (.int .i64 x5) ∧ W'.cell? ⟨u1.heap.size, 0, none⟩ = some (.int .i64 la) ∧ W'.cell? ⟨u1.heap.size, 1, none⟩ = some (.int .i64 ha) ∧ W'.cell? ⟨u2.heap.size, 0, none⟩ = some (.int .i64 lb) ∧ W'.cell? ⟨u2.heap.size, 1, none⟩ = some (.int .i64 hb))) := hid fun W' B => ⟨(B.cell (p := ⟨w.heap.size, 0, none⟩) (Nat.lt_of_lt_of_le zl0 bU.size)).trans ((bU.cell (p := ⟨w.heap.size, 0, none⟩) zl0).trans k0), (B.cell (p := ⟨w.heap.size, 1, none⟩) (Nat.lt_of_lt_of_le zl0 bU.size)).trans ((bU.cell (p := ⟨w.heap.size, 1, none⟩) zl0).trans k1), (B.cell (p := ⟨w.heap.size, 2, none⟩) (Nat.lt_of_lt_of_le zl0 bU.size)).trans ((bU.cell (p := ⟨w.heap.size, 2, none⟩) zl0).trans k2), (B.cell (p := ⟨w.heap.size, 3, none⟩) (Nat.lt_of_lt_of_le zl0 bU.size)).trans ((bU.cell (p := ⟨w.heap.size, 3, none⟩) zl0).trans k3), (B.cell (p := ⟨w.heap.size, 4, none⟩) (Nat.lt_of_lt_of_le zl0 bU.size)).trans ((bU.cell (p := ⟨w.heap.size, 4, none⟩) zl0).trans k4), (B.cell (p := ⟨w.heap.size, 5, none⟩) (Nat.lt_of_lt_of_le zl0 bU.size)).trans ((bU.cell (p := ⟨w.heap.size, 5, none⟩) zl0).trans k5), (B.cell (p := ⟨u1.heap.size, 0, none⟩) (Nat.lt_of_lt_of_le zl1 bU.size)).trans ((bU.cell (p := ⟨u1.heap.size, 0, none⟩) zl1).trans k6), (B.cell (p := ⟨u1.heap.size, 1, none⟩) (Nat.lt_of_lt_of_le zl1 bU.size)).trans ((bU.cell (p := ⟨u1.heap.size, 1, none⟩) zl1).trans k7), (B.cell (p := ⟨u2.heap.size, 0, none⟩) zU2).trans nc0, (B.cell (p := ⟨u2.heap.size, 1, none⟩) zU2).trans nc1⟩
    have BU2 := hid bU
    have zb2_0 := hid (Nat.lt_of_lt_of_le zl0 bU.size)
    have zb2_1 := hid (Nat.lt_of_lt_of_le zl1 bU.size)
    have zn2 := hid zU2
    have BV := hid (BV.out.trans (((B2.out).trans (bU.mono (B2.out).size)).mono BV.out.size))
    rw [hU]
    clear K hU bU zU2 nc0 nc1
    clear k0 k1 k2 k3 k4 k5 k6 k7 zl0 zl1
    have K := K2
    obtain ⟨k0, k1, k2, k3, k4, k5, k6, k7, k8, k9⟩ := K.out _ (Below.refl _ _ : Below U2.heap.size U2 U2)
    have zl0 : w.heap.size < U2.heap.size := Nat.lt_of_lt_of_le (zb2_0.out) ((Below.refl _ _ : Below U2.heap.size U2 U2)).size
    have zl1 : u1.heap.size < U2.heap.size := Nat.lt_of_lt_of_le (zb2_1.out) ((Below.refl _ _ : Below U2.heap.size U2 U2)).size
    have zl2 : u2.heap.size < U2.heap.size := Nat.lt_of_lt_of_le (zn2.out) ((Below.refl _ _ : Below U2.heap.size U2 U2)).size
    go_wp2_with fail
    refine ((cc _)).mono ?_
    rintro _ u3 ⟨rfl, hb⟩
    have B3 : Below U2.heap.size U2 u3 := by have hB := (Below.refl _ _ : Below U2.heap.size U2 U2); have hz := hB.size; repeat' (first | (with_reducible exact Below.refl _ _) | (with_reducible refine Below.alloc ?_ ?_ _) | (with_reducible refine Below.setCell ?_ ?_ _) | (with_reducible refine Below.drew ?_) | (with_reducible refine Below.trans ?_ (Below.mono (by assumption) ?_)) | (simp; done) | (simp; omega) | omega)
    clear hb
    clear k0 k1 k2 k3 k4 k5 k6 k7 k8 k9 zl0 zl1 zl2
    have B3 := hid B3
    obtain ⟨k0, k1, k2, k3, k4, k5, k6, k7, k8, k9⟩ := K.out _ B3.out
    have zl0 : w.heap.size < u3.heap.size := Nat.lt_of_lt_of_le (zb2_0.out) (B3.out).size
    have zl1 : u1.heap.size < u3.heap.size := Nat.lt_of_lt_of_le (zb2_1.out) (B3.out).size
    have zl2 : u2.heap.size < u3.heap.size := Nat.lt_of_lt_of_le (zn2.out) (B3.out).size
    go_upto_region 4 with fail
    obtain ⟨U3, hU⟩ : ∃ U : World, u3.alloc (Obj.cells #[.int .i64 lc, .int .i64 hc] 30) = U := ⟨_, rfl⟩
    have bU : Below u3.heap.size u3 U3 := by rw [← hU]; exact (Below.refl _ _).alloc (Nat.le_refl _) _
    have zU3 : u3.heap.size < U3.heap.size := by rw [← hU]; simp
    have nc0 : U3.cell? ⟨u3.heap.size, 0, none⟩ = some (.int .i64 lc) := by rw [← hU]; simp [go_sem]
    have nc1 : U3.cell? ⟨u3.heap.size, 1, none⟩ = some (.int .i64 hc) := by rw [← hU]; simp [go_sem]
    have K3 : Hid (∀ W' : World, Below U3.heap.size U3 W' → (W'.cell? ⟨w.heap.size, 0, none⟩ = some (.int .i64 x0) ∧ W'.cell? ⟨w.heap.size, 1, none⟩ = some (.int .i64 x1) ∧ W'.cell? ⟨w.heap.size, 2, none⟩ = some (.int .i64 x2) ∧ W'.cell? ⟨w.heap.size, 3, none⟩ = some (.int .i64 x3) ∧ W'.cell? ⟨w.heap.size, 4, none⟩ = some (.int .i64 x4) ∧ W'.cell? ⟨w.heap.size, 5, none⟩ = some (.int .i64 x5) ∧ W'.cell? ⟨u1.heap.size, 0, none⟩ = some (.int .i64 la) ∧ W'.cell? ⟨u1.heap.size, 1, none⟩ = some (.int .i64 ha) ∧ W'.cell? ⟨u2.heap.size, 0, none⟩ = some (.int .i64 lb) ∧ W'.cell? ⟨u2.heap.size, 1, none⟩ = some (.int .i64 hb) ∧ W'.cell? ⟨u3.heap.size, 0, none⟩ = some (.int .i64 lc) ∧ W'.cell? ⟨u3.heap.size, 1, none⟩ = some (.int .i64 hc))) := hid fun W' B => ⟨(B.cell (p := ⟨w.heap.size, 0, none⟩) (Nat.lt_of_lt_of_le zl0 bU.size)).trans ((bU.cell (p := ⟨w.heap.size, 0, none⟩) zl0).trans k0), (B.cell (p := ⟨w.heap.size, 1, none⟩) (Nat.lt_of_lt_of_le zl0 bU.size)).trans ((bU.cell (p := ⟨w.heap.size, 1, none⟩) zl0).trans k1), (B.cell (p := ⟨w.heap.size, 2, none⟩) (Nat.lt_of_lt_of_le zl0 bU.size)).trans ((bU.cell (p := ⟨w.heap.size, 2, none⟩) zl0).trans k2), (B.cell (p := ⟨w.heap.size, 3, none⟩) (Nat.lt_of_lt_of_le zl0 bU.size)).trans ((bU.cell (p := ⟨w.heap.size, 3, none⟩) zl0).trans k3), (B.cell (p := ⟨w.heap.size, 4, none⟩) (Nat.lt_of_lt_of_le zl0 bU.size)).trans ((bU.cell (p := ⟨w.heap.size, 4, none⟩) zl0).trans k4), (B.cell (p := ⟨w.heap.size, 5, none⟩) (Nat.lt_of_lt_of_le zl0 bU.size)).trans ((bU.cell (p := ⟨w.heap.size, 5, none⟩) zl0).trans k5), (B.cell (p := ⟨u1.heap.size, 0, none⟩) (Nat.lt_of_lt_of_le zl1 bU.size)).trans ((bU.cell (p := ⟨u1.heap.size, 0, none⟩) zl1).trans k6), (B.cell (p := ⟨u1.heap.size, 1, none⟩) (Nat.lt_of_lt_of_le zl1 bU.size)).trans ((bU.cell (p := ⟨u1.heap.size, 1, none⟩) zl1).trans k7), (B.cell (p := ⟨u2.heap.size, 0, none⟩) (Nat.lt_of_lt_of_le zl2 bU.size)).trans ((bU.cell (p := ⟨u2.heap.size, 0, none⟩) zl2).trans k8), (B.cell (p := ⟨u2.heap.size, 1, none⟩) (Nat.lt_of_lt_of_le zl2 bU.size)).trans ((bU.cell (p := ⟨u2.heap.size, 1, none⟩) zl2).trans k9), (B.cell (p := ⟨u3.heap.size, 0, none⟩) zU3).trans nc0, (B.cell (p := ⟨u3.heap.size, 1, none⟩) zU3).trans nc1⟩
    have BU3 := hid bU
    have zb3_0 := hid (Nat.lt_of_lt_of_le zl0 bU.size)
    have zb3_1 := hid (Nat.lt_of_lt_of_le zl1 bU.size)
    have zb3_2 := hid (Nat.lt_of_lt_of_le zl2 bU.size)
    have zn3 := hid zU3
    have BV := hid (BV.out.trans (((B3.out).trans (bU.mono (B3.out).size)).mono BV.out.size))
    rw [hU]
    clear K hU bU zU3 nc0 nc1
    clear k0 k1 k2 k3 k4 k5 k6 k7 k8 k9 zl0 zl1 zl2
    have K := K3
    obtain ⟨k0, k1, k2, k3, k4, k5, k6, k7, k8, k9, k10, k11⟩ := K.out _ (Below.refl _ _ : Below U3.heap.size U3 U3)
    have zl0 : w.heap.size < U3.heap.size := Nat.lt_of_lt_of_le (zb3_0.out) ((Below.refl _ _ : Below U3.heap.size U3 U3)).size
    have zl1 : u1.heap.size < U3.heap.size := Nat.lt_of_lt_of_le (zb3_1.out) ((Below.refl _ _ : Below U3.heap.size U3 U3)).size
    have zl2 : u2.heap.size < U3.heap.size := Nat.lt_of_lt_of_le (zb3_2.out) ((Below.refl _ _ : Below U3.heap.size U3 U3)).size
    have zl3 : u3.heap.size < U3.heap.size := Nat.lt_of_lt_of_le (zn3.out) ((Below.refl _ _ : Below U3.heap.size U3 U3)).size
    go_wp2_with (go_at_call 22; refine (gawake_any _).mono ?_; rintro _ wz ⟨rfl, hz⟩)
    all_goals
      go_ret
      exact Gives.mk rfl (BV.out.trans ((((Below.refl _ _ : Below U3.heap.size U3 U3)).trans ((by assumption : Below U3.heap.size U3 _).mono ((Below.refl _ _ : Below U3.heap.size U3 U3)).size)).mono BV.out.size))
  · obtain ⟨rfl, q1⟩ := M
    obtain ⟨V, hV⟩ : ∃ V : World, w.alloc (Obj.cells #[.int .i64 x0, .int .i64 x1, .int .i64 x2, .int .i64 x3, .int .i64 x4, .int .i64 x5] 24) = V := ⟨_, rfl⟩
    have bV : Below w.heap.size w V := by rw [← hV]; exact (Below.refl _ _).alloc (Nat.le_refl _) _
    have zV : w.heap.size < V.heap.size := by rw [← hV]; simp
    have K : Hid (∀ W' : World, Below V.heap.size V W' → (W'.cell? ⟨w.heap.size, 0, none⟩ = some (.int .i64 x0) ∧ W'.cell? ⟨w.heap.size, 1, none⟩ = some (.int .i64 x1) ∧ W'.cell? ⟨w.heap.size, 2, none⟩ = some (.int .i64 x2) ∧ W'.cell? ⟨w.heap.size, 3, none⟩ = some (.int .i64 x3) ∧ W'.cell? ⟨w.heap.size, 4, none⟩ = some (.int .i64 x4) ∧ W'.cell? ⟨w.heap.size, 5, none⟩ = some (.int .i64 x5))) := hid fun W' B => ⟨(B.cell (p := ⟨w.heap.size, 0, none⟩) zV).trans (by rw [← hV]; simp [go_sem]), (B.cell (p := ⟨w.heap.size, 1, none⟩) zV).trans (by rw [← hV]; simp [go_sem]), (B.cell (p := ⟨w.heap.size, 2, none⟩) zV).trans (by rw [← hV]; simp [go_sem]), (B.cell (p := ⟨w.heap.size, 3, none⟩) zV).trans (by rw [← hV]; simp [go_sem]), (B.cell (p := ⟨w.heap.size, 4, none⟩) zV).trans (by rw [← hV]; simp [go_sem]), (B.cell (p := ⟨w.heap.size, 5, none⟩) zV).trans (by rw [← hV]; simp [go_sem])⟩
    have HV := hid hV
    have BV := hid bV
    have ZV := hid zV
    clear hV bV zV
    go_enter Try.func11, Try.ntmps11
    go_upto_region 1 with fail
    rw [HV.out]
    obtain ⟨k0, k1, k2, k3, k4, k5⟩ := K.out _ (Below.refl _ _ : Below V.heap.size V V)
    have zl0 : w.heap.size < V.heap.size := Nat.lt_of_lt_of_le (ZV.out) ((Below.refl _ _ : Below V.heap.size V V)).size
    go_wp2_with fail
    refine ((ca _)).mono ?_
    rintro _ u1 ⟨rfl, hb⟩
    have B1 : Below V.heap.size V u1 := by have hB := (Below.refl _ _ : Below V.heap.size V V); have hz := hB.size; repeat' (first | (with_reducible exact Below.refl _ _) | (with_reducible refine Below.alloc ?_ ?_ _) | (with_reducible refine Below.setCell ?_ ?_ _) | (with_reducible refine Below.drew ?_) | (with_reducible refine Below.trans ?_ (Below.mono (by assumption) ?_)) | (simp; done) | (simp; omega) | omega)
    clear hb
    clear k0 k1 k2 k3 k4 k5 zl0
    have B1 := hid B1
    obtain ⟨k0, k1, k2, k3, k4, k5⟩ := K.out _ B1.out
    have zl0 : w.heap.size < u1.heap.size := Nat.lt_of_lt_of_le (ZV.out) (B1.out).size
    go_upto_region 2 with fail
    obtain ⟨U1, hU⟩ : ∃ U : World, u1.alloc (Obj.cells #[.int .i64 la, .int .i64 ha] 30) = U := ⟨_, rfl⟩
    have bU : Below u1.heap.size u1 U1 := by rw [← hU]; exact (Below.refl _ _).alloc (Nat.le_refl _) _
    have zU1 : u1.heap.size < U1.heap.size := by rw [← hU]; simp
    have nc0 : U1.cell? ⟨u1.heap.size, 0, none⟩ = some (.int .i64 la) := by rw [← hU]; simp [go_sem]
    have nc1 : U1.cell? ⟨u1.heap.size, 1, none⟩ = some (.int .i64 ha) := by rw [← hU]; simp [go_sem]
    have K1 : Hid (∀ W' : World, Below U1.heap.size U1 W' → (W'.cell? ⟨w.heap.size, 0, none⟩ = some (.int .i64 x0) ∧ W'.cell? ⟨w.heap.size, 1, none⟩ = some (.int .i64 x1) ∧ W'.cell? ⟨w.heap.size, 2, none⟩ = some (.int .i64 x2) ∧ W'.cell? ⟨w.heap.size, 3, none⟩ = some (.int .i64 x3) ∧ W'.cell? ⟨w.heap.size, 4, none⟩ = some (.int .i64 x4) ∧ W'.cell? ⟨w.heap.size, 5, none⟩ = some (.int .i64 x5) ∧ W'.cell? ⟨u1.heap.size, 0, none⟩ = some (.int .i64 la) ∧ W'.cell? ⟨u1.heap.size, 1, none⟩ = some (.int .i64 ha))) := hid fun W' B => ⟨(B.cell (p := ⟨w.heap.size, 0, none⟩) (Nat.lt_of_lt_of_le zl0 bU.size)).trans ((bU.cell (p := ⟨w.heap.size, 0, none⟩) zl0).trans k0), (B.cell (p := ⟨w.heap.size, 1, none⟩) (Nat.lt_of_lt_of_le zl0 bU.size)).trans ((bU.cell (p := ⟨w.heap.size, 1, none⟩) zl0).trans k1), (B.cell (p := ⟨w.heap.size, 2, none⟩) (Nat.lt_of_lt_of_le zl0 bU.size)).trans ((bU.cell (p := ⟨w.heap.size, 2, none⟩) zl0).trans k2), (B.cell (p := ⟨w.heap.size, 3, none⟩) (Nat.lt_of_lt_of_le zl0 bU.size)).trans ((bU.cell (p := ⟨w.heap.size, 3, none⟩) zl0).trans k3), (B.cell (p := ⟨w.heap.size, 4, none⟩) (Nat.lt_of_lt_of_le zl0 bU.size)).trans ((bU.cell (p := ⟨w.heap.size, 4, none⟩) zl0).trans k4), (B.cell (p := ⟨w.heap.size, 5, none⟩) (Nat.lt_of_lt_of_le zl0 bU.size)).trans ((bU.cell (p := ⟨w.heap.size, 5, none⟩) zl0).trans k5), (B.cell (p := ⟨u1.heap.size, 0, none⟩) zU1).trans nc0, (B.cell (p := ⟨u1.heap.size, 1, none⟩) zU1).trans nc1⟩
    have BU1 := hid bU
    have zb1_0 := hid (Nat.lt_of_lt_of_le zl0 bU.size)
    have zn1 := hid zU1
    have BV := hid (BV.out.trans (((B1.out).trans (bU.mono (B1.out).size)).mono BV.out.size))
    rw [hU]
    clear K hU bU zU1 nc0 nc1
    clear k0 k1 k2 k3 k4 k5 zl0
    have K := K1
    obtain ⟨k0, k1, k2, k3, k4, k5, k6, k7⟩ := K.out _ (Below.refl _ _ : Below U1.heap.size U1 U1)
    have zl0 : w.heap.size < U1.heap.size := Nat.lt_of_lt_of_le (zb1_0.out) ((Below.refl _ _ : Below U1.heap.size U1 U1)).size
    have zl1 : u1.heap.size < U1.heap.size := Nat.lt_of_lt_of_le (zn1.out) ((Below.refl _ _ : Below U1.heap.size U1 U1)).size
    go_wp2_with fail
    refine ((cb _)).mono ?_
    rintro _ u2 ⟨rfl, hb⟩
    have B2 : Below U1.heap.size U1 u2 := by have hB := (Below.refl _ _ : Below U1.heap.size U1 U1); have hz := hB.size; repeat' (first | (with_reducible exact Below.refl _ _) | (with_reducible refine Below.alloc ?_ ?_ _) | (with_reducible refine Below.setCell ?_ ?_ _) | (with_reducible refine Below.drew ?_) | (with_reducible refine Below.trans ?_ (Below.mono (by assumption) ?_)) | (simp; done) | (simp; omega) | omega)
    clear hb
    clear k0 k1 k2 k3 k4 k5 k6 k7 zl0 zl1
    have B2 := hid B2
    obtain ⟨k0, k1, k2, k3, k4, k5, k6, k7⟩ := K.out _ B2.out
    have zl0 : w.heap.size < u2.heap.size := Nat.lt_of_lt_of_le (zb1_0.out) (B2.out).size
    have zl1 : u1.heap.size < u2.heap.size := Nat.lt_of_lt_of_le (zn1.out) (B2.out).size
    go_upto_region 3 with fail
    obtain ⟨U2, hU⟩ : ∃ U : World, u2.alloc (Obj.cells #[.int .i64 lb, .int .i64 hb] 30) = U := ⟨_, rfl⟩
    have bU : Below u2.heap.size u2 U2 := by rw [← hU]; exact (Below.refl _ _).alloc (Nat.le_refl _) _
    have zU2 : u2.heap.size < U2.heap.size := by rw [← hU]; simp
    have nc0 : U2.cell? ⟨u2.heap.size, 0, none⟩ = some (.int .i64 lb) := by rw [← hU]; simp [go_sem]
    have nc1 : U2.cell? ⟨u2.heap.size, 1, none⟩ = some (.int .i64 hb) := by rw [← hU]; simp [go_sem]
    have K2 : Hid (∀ W' : World, Below U2.heap.size U2 W' → (W'.cell? ⟨w.heap.size, 0, none⟩ = some (.int .i64 x0) ∧ W'.cell? ⟨w.heap.size, 1, none⟩ = some (.int .i64 x1) ∧ W'.cell? ⟨w.heap.size, 2, none⟩ = some (.int .i64 x2) ∧ W'.cell? ⟨w.heap.size, 3, none⟩ = some (.int .i64 x3) ∧ W'.cell? ⟨w.heap.size, 4, none⟩ = some (.int .i64 x4) ∧ W'.cell? ⟨w.heap.size, 5, none⟩ = some (.int .i64 x5) ∧ W'.cell? ⟨u1.heap.size, 0, none⟩ = some (.int .i64 la) ∧ W'.cell? ⟨u1.heap.size, 1, none⟩ = some (.int .i64 ha) ∧ W'.cell? ⟨u2.heap.size, 0, none⟩ = some (.int .i64 lb) ∧ W'.cell? ⟨u2.heap.size, 1, none⟩ = some (.int .i64 hb))) := hid fun W' B => ⟨(B.cell (p := ⟨w.heap.size, 0, none⟩) (Nat.lt_of_lt_of_le zl0 bU.size)).trans ((bU.cell (p := ⟨w.heap.size, 0, none⟩) zl0).trans k0), (B.cell (p := ⟨w.heap.size, 1, none⟩) (Nat.lt_of_lt_of_le zl0 bU.size)).trans ((bU.cell (p := ⟨w.heap.size, 1, none⟩) zl0).trans k1), (B.cell (p := ⟨w.heap.size, 2, none⟩) (Nat.lt_of_lt_of_le zl0 bU.size)).trans ((bU.cell (p := ⟨w.heap.size, 2, none⟩) zl0).trans k2), (B.cell (p := ⟨w.heap.size, 3, none⟩) (Nat.lt_of_lt_of_le zl0 bU.size)).trans ((bU.cell (p := ⟨w.heap.size, 3, none⟩) zl0).trans k3), (B.cell (p := ⟨w.heap.size, 4, none⟩) (Nat.lt_of_lt_of_le zl0 bU.size)).trans ((bU.cell (p := ⟨w.heap.size, 4, none⟩) zl0).trans k4), (B.cell (p := ⟨w.heap.size, 5, none⟩) (Nat.lt_of_lt_of_le zl0 bU.size)).trans ((bU.cell (p := ⟨w.heap.size, 5, none⟩) zl0).trans k5), (B.cell (p := ⟨u1.heap.size, 0, none⟩) (Nat.lt_of_lt_of_le zl1 bU.size)).trans ((bU.cell (p := ⟨u1.heap.size, 0, none⟩) zl1).trans k6), (B.cell (p := ⟨u1.heap.size, 1, none⟩) (Nat.lt_of_lt_of_le zl1 bU.size)).trans ((bU.cell (p := ⟨u1.heap.size, 1, none⟩) zl1).trans k7), (B.cell (p := ⟨u2.heap.size, 0, none⟩) zU2).trans nc0, (B.cell (p := ⟨u2.heap.size, 1, none⟩) zU2).trans nc1⟩
    have BU2 := hid bU
    have zb2_0 := hid (Nat.lt_of_lt_of_le zl0 bU.size)
    have zb2_1 := hid (Nat.lt_of_lt_of_le zl1 bU.size)
    have zn2 := hid zU2
    have BV := hid (BV.out.trans (((B2.out).trans (bU.mono (B2.out).size)).mono BV.out.size))
    rw [hU]
    clear K hU bU zU2 nc0 nc1
    clear k0 k1 k2 k3 k4 k5 k6 k7 zl0 zl1
    have K := K2
    obtain ⟨k0, k1, k2, k3, k4, k5, k6, k7, k8, k9⟩ := K.out _ (Below.refl _ _ : Below U2.heap.size U2 U2)
    have zl0 : w.heap.size < U2.heap.size := Nat.lt_of_lt_of_le (zb2_0.out) ((Below.refl _ _ : Below U2.heap.size U2 U2)).size
    have zl1 : u1.heap.size < U2.heap.size := Nat.lt_of_lt_of_le (zb2_1.out) ((Below.refl _ _ : Below U2.heap.size U2 U2)).size
    have zl2 : u2.heap.size < U2.heap.size := Nat.lt_of_lt_of_le (zn2.out) ((Below.refl _ _ : Below U2.heap.size U2 U2)).size
    go_wp2_with fail
    refine ((cc _)).mono ?_
    rintro _ u3 ⟨rfl, hb⟩
    have B3 : Below U2.heap.size U2 u3 := by have hB := (Below.refl _ _ : Below U2.heap.size U2 U2); have hz := hB.size; repeat' (first | (with_reducible exact Below.refl _ _) | (with_reducible refine Below.alloc ?_ ?_ _) | (with_reducible refine Below.setCell ?_ ?_ _) | (with_reducible refine Below.drew ?_) | (with_reducible refine Below.trans ?_ (Below.mono (by assumption) ?_)) | (simp; done) | (simp; omega) | omega)
    clear hb
    clear k0 k1 k2 k3 k4 k5 k6 k7 k8 k9 zl0 zl1 zl2
    have B3 := hid B3
    obtain ⟨k0, k1, k2, k3, k4, k5, k6, k7, k8, k9⟩ := K.out _ B3.out
    have zl0 : w.heap.size < u3.heap.size := Nat.lt_of_lt_of_le (zb2_0.out) (B3.out).size
    have zl1 : u1.heap.size < u3.heap.size := Nat.lt_of_lt_of_le (zb2_1.out) (B3.out).size
    have zl2 : u2.heap.size < u3.heap.size := Nat.lt_of_lt_of_le (zn2.out) (B3.out).size
    go_upto_region 4 with fail
    obtain ⟨U3, hU⟩ : ∃ U : World, u3.alloc (Obj.cells #[.int .i64 lc, .int .i64 hc] 30) = U := ⟨_, rfl⟩
    have bU : Below u3.heap.size u3 U3 := by rw [← hU]; exact (Below.refl _ _).alloc (Nat.le_refl _) _
    have zU3 : u3.heap.size < U3.heap.size := by rw [← hU]; simp
    have nc0 : U3.cell? ⟨u3.heap.size, 0, none⟩ = some (.int .i64 lc) := by rw [← hU]; simp [go_sem]
    have nc1 : U3.cell? ⟨u3.heap.size, 1, none⟩ = some (.int .i64 hc) := by rw [← hU]; simp [go_sem]
    have K3 : Hid (∀ W' : World, Below U3.heap.size U3 W' → (W'.cell? ⟨w.heap.size, 0, none⟩ = some (.int .i64 x0) ∧ W'.cell? ⟨w.heap.size, 1, none⟩ = some (.int .i64 x1) ∧ W'.cell? ⟨w.heap.size, 2, none⟩ = some (.int .i64 x2) ∧ W'.cell? ⟨w.heap.size, 3, none⟩ = some (.int .i64 x3) ∧ W'.cell? ⟨w.heap.size, 4, none⟩ = some (.int .i64 x4) ∧ W'.cell? ⟨w.heap.size, 5, none⟩ = some (.int .i64 x5) ∧ W'.cell? ⟨u1.heap.size, 0, none⟩ = some (.int .i64 la) ∧ W'.cell? ⟨u1.heap.size, 1, none⟩ = some (.int .i64 ha) ∧ W'.cell? ⟨u2.heap.size, 0, none⟩ = some (.int .i64 lb) ∧ W'.cell? ⟨u2.heap.size, 1, none⟩ = some (.int .i64 hb) ∧ W'.cell? ⟨u3.heap.size, 0, none⟩ = some (.int .i64 lc) ∧ W'.cell? ⟨u3.heap.size, 1, none⟩ = some (.int .i64 hc))) := hid fun W' B => ⟨(B.cell (p := ⟨w.heap.size, 0, none⟩) (Nat.lt_of_lt_of_le zl0 bU.size)).trans ((bU.cell (p := ⟨w.heap.size, 0, none⟩) zl0).trans k0), (B.cell (p := ⟨w.heap.size, 1, none⟩) (Nat.lt_of_lt_of_le zl0 bU.size)).trans ((bU.cell (p := ⟨w.heap.size, 1, none⟩) zl0).trans k1), (B.cell (p := ⟨w.heap.size, 2, none⟩) (Nat.lt_of_lt_of_le zl0 bU.size)).trans ((bU.cell (p := ⟨w.heap.size, 2, none⟩) zl0).trans k2), (B.cell (p := ⟨w.heap.size, 3, none⟩) (Nat.lt_of_lt_of_le zl0 bU.size)).trans ((bU.cell (p := ⟨w.heap.size, 3, none⟩) zl0).trans k3), (B.cell (p := ⟨w.heap.size, 4, none⟩) (Nat.lt_of_lt_of_le zl0 bU.size)).trans ((bU.cell (p := ⟨w.heap.size, 4, none⟩) zl0).trans k4), (B.cell (p := ⟨w.heap.size, 5, none⟩) (Nat.lt_of_lt_of_le zl0 bU.size)).trans ((bU.cell (p := ⟨w.heap.size, 5, none⟩) zl0).trans k5), (B.cell (p := ⟨u1.heap.size, 0, none⟩) (Nat.lt_of_lt_of_le zl1 bU.size)).trans ((bU.cell (p := ⟨u1.heap.size, 0, none⟩) zl1).trans k6), (B.cell (p := ⟨u1.heap.size, 1, none⟩) (Nat.lt_of_lt_of_le zl1 bU.size)).trans ((bU.cell (p := ⟨u1.heap.size, 1, none⟩) zl1).trans k7), (B.cell (p := ⟨u2.heap.size, 0, none⟩) (Nat.lt_of_lt_of_le zl2 bU.size)).trans ((bU.cell (p := ⟨u2.heap.size, 0, none⟩) zl2).trans k8), (B.cell (p := ⟨u2.heap.size, 1, none⟩) (Nat.lt_of_lt_of_le zl2 bU.size)).trans ((bU.cell (p := ⟨u2.heap.size, 1, none⟩) zl2).trans k9), (B.cell (p := ⟨u3.heap.size, 0, none⟩) zU3).trans nc0, (B.cell (p := ⟨u3.heap.size, 1, none⟩) zU3).trans nc1⟩
    have BU3 := hid bU
    have zb3_0 := hid (Nat.lt_of_lt_of_le zl0 bU.size)
    have zb3_1 := hid (Nat.lt_of_lt_of_le zl1 bU.size)
    have zb3_2 := hid (Nat.lt_of_lt_of_le zl2 bU.size)
    have zn3 := hid zU3
    have BV := hid (BV.out.trans (((B3.out).trans (bU.mono (B3.out).size)).mono BV.out.size))
    rw [hU]
    clear K hU bU zU3 nc0 nc1
    clear k0 k1 k2 k3 k4 k5 k6 k7 k8 k9 zl0 zl1 zl2
    have K := K3
    obtain ⟨k0, k1, k2, k3, k4, k5, k6, k7, k8, k9, k10, k11⟩ := K.out _ (Below.refl _ _ : Below U3.heap.size U3 U3)
    have zl0 : w.heap.size < U3.heap.size := Nat.lt_of_lt_of_le (zb3_0.out) ((Below.refl _ _ : Below U3.heap.size U3 U3)).size
    have zl1 : u1.heap.size < U3.heap.size := Nat.lt_of_lt_of_le (zb3_1.out) ((Below.refl _ _ : Below U3.heap.size U3 U3)).size
    have zl2 : u2.heap.size < U3.heap.size := Nat.lt_of_lt_of_le (zb3_2.out) ((Below.refl _ _ : Below U3.heap.size U3 U3)).size
    have zl3 : u3.heap.size < U3.heap.size := Nat.lt_of_lt_of_le (zn3.out) ((Below.refl _ _ : Below U3.heap.size U3 U3)).size
    go_wp2_with (go_at_call 22; refine (gawake_any _).mono ?_; rintro _ wz ⟨rfl, hz⟩)
    all_goals
      go_ret
      exact Gives.mk rfl (BV.out.trans ((((Below.refl _ _ : Below U3.heap.size U3 U3)).trans ((by assumption : Below U3.heap.size U3 _).mono ((Below.refl _ _ : Below U3.heap.size U3 U3)).size)).mono BV.out.size))
  · obtain ⟨rfl, rfl, q1⟩ := M
    obtain ⟨V, hV⟩ : ∃ V : World, w.alloc (Obj.cells #[.int .i64 x0, .int .i64 x1, .int .i64 x2, .int .i64 x3, .int .i64 x4, .int .i64 x5] 24) = V := ⟨_, rfl⟩
    have bV : Below w.heap.size w V := by rw [← hV]; exact (Below.refl _ _).alloc (Nat.le_refl _) _
    have zV : w.heap.size < V.heap.size := by rw [← hV]; simp
    have K : Hid (∀ W' : World, Below V.heap.size V W' → (W'.cell? ⟨w.heap.size, 0, none⟩ = some (.int .i64 x0) ∧ W'.cell? ⟨w.heap.size, 1, none⟩ = some (.int .i64 x1) ∧ W'.cell? ⟨w.heap.size, 2, none⟩ = some (.int .i64 x2) ∧ W'.cell? ⟨w.heap.size, 3, none⟩ = some (.int .i64 x3) ∧ W'.cell? ⟨w.heap.size, 4, none⟩ = some (.int .i64 x4) ∧ W'.cell? ⟨w.heap.size, 5, none⟩ = some (.int .i64 x5))) := hid fun W' B => ⟨(B.cell (p := ⟨w.heap.size, 0, none⟩) zV).trans (by rw [← hV]; simp [go_sem]), (B.cell (p := ⟨w.heap.size, 1, none⟩) zV).trans (by rw [← hV]; simp [go_sem]), (B.cell (p := ⟨w.heap.size, 2, none⟩) zV).trans (by rw [← hV]; simp [go_sem]), (B.cell (p := ⟨w.heap.size, 3, none⟩) zV).trans (by rw [← hV]; simp [go_sem]), (B.cell (p := ⟨w.heap.size, 4, none⟩) zV).trans (by rw [← hV]; simp [go_sem]), (B.cell (p := ⟨w.heap.size, 5, none⟩) zV).trans (by rw [← hV]; simp [go_sem])⟩
    have HV := hid hV
    have BV := hid bV
    have ZV := hid zV
    clear hV bV zV
    go_enter Try.func11, Try.ntmps11
    go_upto_region 1 with fail
    rw [HV.out]
    obtain ⟨k0, k1, k2, k3, k4, k5⟩ := K.out _ (Below.refl _ _ : Below V.heap.size V V)
    have zl0 : w.heap.size < V.heap.size := Nat.lt_of_lt_of_le (ZV.out) ((Below.refl _ _ : Below V.heap.size V V)).size
    go_wp2_with fail
    refine ((ca _)).mono ?_
    rintro _ u1 ⟨rfl, hb⟩
    have B1 : Below V.heap.size V u1 := by have hB := (Below.refl _ _ : Below V.heap.size V V); have hz := hB.size; repeat' (first | (with_reducible exact Below.refl _ _) | (with_reducible refine Below.alloc ?_ ?_ _) | (with_reducible refine Below.setCell ?_ ?_ _) | (with_reducible refine Below.drew ?_) | (with_reducible refine Below.trans ?_ (Below.mono (by assumption) ?_)) | (simp; done) | (simp; omega) | omega)
    clear hb
    clear k0 k1 k2 k3 k4 k5 zl0
    have B1 := hid B1
    obtain ⟨k0, k1, k2, k3, k4, k5⟩ := K.out _ B1.out
    have zl0 : w.heap.size < u1.heap.size := Nat.lt_of_lt_of_le (ZV.out) (B1.out).size
    go_upto_region 2 with fail
    obtain ⟨U1, hU⟩ : ∃ U : World, u1.alloc (Obj.cells #[.int .i64 la, .int .i64 ha] 30) = U := ⟨_, rfl⟩
    have bU : Below u1.heap.size u1 U1 := by rw [← hU]; exact (Below.refl _ _).alloc (Nat.le_refl _) _
    have zU1 : u1.heap.size < U1.heap.size := by rw [← hU]; simp
    have nc0 : U1.cell? ⟨u1.heap.size, 0, none⟩ = some (.int .i64 la) := by rw [← hU]; simp [go_sem]
    have nc1 : U1.cell? ⟨u1.heap.size, 1, none⟩ = some (.int .i64 ha) := by rw [← hU]; simp [go_sem]
    have K1 : Hid (∀ W' : World, Below U1.heap.size U1 W' → (W'.cell? ⟨w.heap.size, 0, none⟩ = some (.int .i64 x0) ∧ W'.cell? ⟨w.heap.size, 1, none⟩ = some (.int .i64 x1) ∧ W'.cell? ⟨w.heap.size, 2, none⟩ = some (.int .i64 x2) ∧ W'.cell? ⟨w.heap.size, 3, none⟩ = some (.int .i64 x3) ∧ W'.cell? ⟨w.heap.size, 4, none⟩ = some (.int .i64 x4) ∧ W'.cell? ⟨w.heap.size, 5, none⟩ = some (.int .i64 x5) ∧ W'.cell? ⟨u1.heap.size, 0, none⟩ = some (.int .i64 la) ∧ W'.cell? ⟨u1.heap.size, 1, none⟩ = some (.int .i64 ha))) := hid fun W' B => ⟨(B.cell (p := ⟨w.heap.size, 0, none⟩) (Nat.lt_of_lt_of_le zl0 bU.size)).trans ((bU.cell (p := ⟨w.heap.size, 0, none⟩) zl0).trans k0), (B.cell (p := ⟨w.heap.size, 1, none⟩) (Nat.lt_of_lt_of_le zl0 bU.size)).trans ((bU.cell (p := ⟨w.heap.size, 1, none⟩) zl0).trans k1), (B.cell (p := ⟨w.heap.size, 2, none⟩) (Nat.lt_of_lt_of_le zl0 bU.size)).trans ((bU.cell (p := ⟨w.heap.size, 2, none⟩) zl0).trans k2), (B.cell (p := ⟨w.heap.size, 3, none⟩) (Nat.lt_of_lt_of_le zl0 bU.size)).trans ((bU.cell (p := ⟨w.heap.size, 3, none⟩) zl0).trans k3), (B.cell (p := ⟨w.heap.size, 4, none⟩) (Nat.lt_of_lt_of_le zl0 bU.size)).trans ((bU.cell (p := ⟨w.heap.size, 4, none⟩) zl0).trans k4), (B.cell (p := ⟨w.heap.size, 5, none⟩) (Nat.lt_of_lt_of_le zl0 bU.size)).trans ((bU.cell (p := ⟨w.heap.size, 5, none⟩) zl0).trans k5), (B.cell (p := ⟨u1.heap.size, 0, none⟩) zU1).trans nc0, (B.cell (p := ⟨u1.heap.size, 1, none⟩) zU1).trans nc1⟩
    have BU1 := hid bU
    have zb1_0 := hid (Nat.lt_of_lt_of_le zl0 bU.size)
    have zn1 := hid zU1
    have BV := hid (BV.out.trans (((B1.out).trans (bU.mono (B1.out).size)).mono BV.out.size))
    rw [hU]
    clear K hU bU zU1 nc0 nc1
    clear k0 k1 k2 k3 k4 k5 zl0
    have K := K1
    obtain ⟨k0, k1, k2, k3, k4, k5, k6, k7⟩ := K.out _ (Below.refl _ _ : Below U1.heap.size U1 U1)
    have zl0 : w.heap.size < U1.heap.size := Nat.lt_of_lt_of_le (zb1_0.out) ((Below.refl _ _ : Below U1.heap.size U1 U1)).size
    have zl1 : u1.heap.size < U1.heap.size := Nat.lt_of_lt_of_le (zn1.out) ((Below.refl _ _ : Below U1.heap.size U1 U1)).size
    go_wp2_with fail
    refine ((cb _)).mono ?_
    rintro _ u2 ⟨rfl, hb⟩
    have B2 : Below U1.heap.size U1 u2 := by have hB := (Below.refl _ _ : Below U1.heap.size U1 U1); have hz := hB.size; repeat' (first | (with_reducible exact Below.refl _ _) | (with_reducible refine Below.alloc ?_ ?_ _) | (with_reducible refine Below.setCell ?_ ?_ _) | (with_reducible refine Below.drew ?_) | (with_reducible refine Below.trans ?_ (Below.mono (by assumption) ?_)) | (simp; done) | (simp; omega) | omega)
    clear hb
    clear k0 k1 k2 k3 k4 k5 k6 k7 zl0 zl1
    have B2 := hid B2
    obtain ⟨k0, k1, k2, k3, k4, k5, k6, k7⟩ := K.out _ B2.out
    have zl0 : w.heap.size < u2.heap.size := Nat.lt_of_lt_of_le (zb1_0.out) (B2.out).size
    have zl1 : u1.heap.size < u2.heap.size := Nat.lt_of_lt_of_le (zn1.out) (B2.out).size
    go_upto_region 3 with fail
    obtain ⟨U2, hU⟩ : ∃ U : World, u2.alloc (Obj.cells #[.int .i64 lb, .int .i64 hb] 30) = U := ⟨_, rfl⟩
    have bU : Below u2.heap.size u2 U2 := by rw [← hU]; exact (Below.refl _ _).alloc (Nat.le_refl _) _
    have zU2 : u2.heap.size < U2.heap.size := by rw [← hU]; simp
    have nc0 : U2.cell? ⟨u2.heap.size, 0, none⟩ = some (.int .i64 lb) := by rw [← hU]; simp [go_sem]
    have nc1 : U2.cell? ⟨u2.heap.size, 1, none⟩ = some (.int .i64 hb) := by rw [← hU]; simp [go_sem]
    have K2 : Hid (∀ W' : World, Below U2.heap.size U2 W' → (W'.cell? ⟨w.heap.size, 0, none⟩ = some (.int .i64 x0) ∧ W'.cell? ⟨w.heap.size, 1, none⟩ = some (.int .i64 x1) ∧ W'.cell? ⟨w.heap.size, 2, none⟩ = some (.int .i64 x2) ∧ W'.cell? ⟨w.heap.size, 3, none⟩ = some (.int .i64 x3) ∧ W'.cell? ⟨w.heap.size, 4, none⟩ = some (.int .i64 x4) ∧ W'.cell? ⟨w.heap.size, 5, none⟩ = some (.int .i64 x5) ∧ W'.cell? ⟨u1.heap.size, 0, none⟩ = some (.int .i64 la) ∧ W'.cell? ⟨u1.heap.size, 1, none⟩ = some (.int .i64 ha) ∧ W'.cell? ⟨u2.heap.size, 0, none⟩ = some (.int .i64 lb) ∧ W'.cell? ⟨u2.heap.size, 1, none⟩ = some (.int .i64 hb))) := hid fun W' B => ⟨(B.cell (p := ⟨w.heap.size, 0, none⟩) (Nat.lt_of_lt_of_le zl0 bU.size)).trans ((bU.cell (p := ⟨w.heap.size, 0, none⟩) zl0).trans k0), (B.cell (p := ⟨w.heap.size, 1, none⟩) (Nat.lt_of_lt_of_le zl0 bU.size)).trans ((bU.cell (p := ⟨w.heap.size, 1, none⟩) zl0).trans k1), (B.cell (p := ⟨w.heap.size, 2, none⟩) (Nat.lt_of_lt_of_le zl0 bU.size)).trans ((bU.cell (p := ⟨w.heap.size, 2, none⟩) zl0).trans k2), (B.cell (p := ⟨w.heap.size, 3, none⟩) (Nat.lt_of_lt_of_le zl0 bU.size)).trans ((bU.cell (p := ⟨w.heap.size, 3, none⟩) zl0).trans k3), (B.cell (p := ⟨w.heap.size, 4, none⟩) (Nat.lt_of_lt_of_le zl0 bU.size)).trans ((bU.cell (p := ⟨w.heap.size, 4, none⟩) zl0).trans k4), (B.cell (p := ⟨w.heap.size, 5, none⟩) (Nat.lt_of_lt_of_le zl0 bU.size)).trans ((bU.cell (p := ⟨w.heap.size, 5, none⟩) zl0).trans k5), (B.cell (p := ⟨u1.heap.size, 0, none⟩) (Nat.lt_of_lt_of_le zl1 bU.size)).trans ((bU.cell (p := ⟨u1.heap.size, 0, none⟩) zl1).trans k6), (B.cell (p := ⟨u1.heap.size, 1, none⟩) (Nat.lt_of_lt_of_le zl1 bU.size)).trans ((bU.cell (p := ⟨u1.heap.size, 1, none⟩) zl1).trans k7), (B.cell (p := ⟨u2.heap.size, 0, none⟩) zU2).trans nc0, (B.cell (p := ⟨u2.heap.size, 1, none⟩) zU2).trans nc1⟩
    have BU2 := hid bU
    have zb2_0 := hid (Nat.lt_of_lt_of_le zl0 bU.size)
    have zb2_1 := hid (Nat.lt_of_lt_of_le zl1 bU.size)
    have zn2 := hid zU2
    have BV := hid (BV.out.trans (((B2.out).trans (bU.mono (B2.out).size)).mono BV.out.size))
    rw [hU]
    clear K hU bU zU2 nc0 nc1
    clear k0 k1 k2 k3 k4 k5 k6 k7 zl0 zl1
    have K := K2
    obtain ⟨k0, k1, k2, k3, k4, k5, k6, k7, k8, k9⟩ := K.out _ (Below.refl _ _ : Below U2.heap.size U2 U2)
    have zl0 : w.heap.size < U2.heap.size := Nat.lt_of_lt_of_le (zb2_0.out) ((Below.refl _ _ : Below U2.heap.size U2 U2)).size
    have zl1 : u1.heap.size < U2.heap.size := Nat.lt_of_lt_of_le (zb2_1.out) ((Below.refl _ _ : Below U2.heap.size U2 U2)).size
    have zl2 : u2.heap.size < U2.heap.size := Nat.lt_of_lt_of_le (zn2.out) ((Below.refl _ _ : Below U2.heap.size U2 U2)).size
    go_wp2_with fail
    refine ((cc _)).mono ?_
    rintro _ u3 ⟨rfl, hb⟩
    have B3 : Below U2.heap.size U2 u3 := by have hB := (Below.refl _ _ : Below U2.heap.size U2 U2); have hz := hB.size; repeat' (first | (with_reducible exact Below.refl _ _) | (with_reducible refine Below.alloc ?_ ?_ _) | (with_reducible refine Below.setCell ?_ ?_ _) | (with_reducible refine Below.drew ?_) | (with_reducible refine Below.trans ?_ (Below.mono (by assumption) ?_)) | (simp; done) | (simp; omega) | omega)
    clear hb
    clear k0 k1 k2 k3 k4 k5 k6 k7 k8 k9 zl0 zl1 zl2
    have B3 := hid B3
    obtain ⟨k0, k1, k2, k3, k4, k5, k6, k7, k8, k9⟩ := K.out _ B3.out
    have zl0 : w.heap.size < u3.heap.size := Nat.lt_of_lt_of_le (zb2_0.out) (B3.out).size
    have zl1 : u1.heap.size < u3.heap.size := Nat.lt_of_lt_of_le (zb2_1.out) (B3.out).size
    have zl2 : u2.heap.size < u3.heap.size := Nat.lt_of_lt_of_le (zn2.out) (B3.out).size
    go_upto_region 4 with fail
    obtain ⟨U3, hU⟩ : ∃ U : World, u3.alloc (Obj.cells #[.int .i64 lc, .int .i64 hc] 30) = U := ⟨_, rfl⟩
    have bU : Below u3.heap.size u3 U3 := by rw [← hU]; exact (Below.refl _ _).alloc (Nat.le_refl _) _
    have zU3 : u3.heap.size < U3.heap.size := by rw [← hU]; simp
    have nc0 : U3.cell? ⟨u3.heap.size, 0, none⟩ = some (.int .i64 lc) := by rw [← hU]; simp [go_sem]
    have nc1 : U3.cell? ⟨u3.heap.size, 1, none⟩ = some (.int .i64 hc) := by rw [← hU]; simp [go_sem]
    have K3 : Hid (∀ W' : World, Below U3.heap.size U3 W' → (W'.cell? ⟨w.heap.size, 0, none⟩ = some (.int .i64 x0) ∧ W'.cell? ⟨w.heap.size, 1, none⟩ = some (.int .i64 x1) ∧ W'.cell? ⟨w.heap.size, 2, none⟩ = some (.int .i64 x2) ∧ W'.cell? ⟨w.heap.size, 3, none⟩ = some (.int .i64 x3) ∧ W'.cell? ⟨w.heap.size, 4, none⟩ = some (.int .i64 x4) ∧ W'.cell? ⟨w.heap.size, 5, none⟩ = some (.int .i64 x5) ∧ W'.cell? ⟨u1.heap.size, 0, none⟩ = some (.int .i64 la) ∧ W'.cell? ⟨u1.heap.size, 1, none⟩ = some (.int .i64 ha) ∧ W'.cell? ⟨u2.heap.size, 0, none⟩ = some (.int .i64 lb) ∧ W'.cell? ⟨u2.heap.size, 1, none⟩ = some (.int .i64 hb) ∧ W'.cell? ⟨u3.heap.size, 0, none⟩ = some (.int .i64 lc) ∧ W'.cell? ⟨u3.heap.size, 1, none⟩ = some (.int .i64 hc))) := hid fun W' B => ⟨(B.cell (p := ⟨w.heap.size, 0, none⟩) (Nat.lt_of_lt_of_le zl0 bU.size)).trans ((bU.cell (p := ⟨w.heap.size, 0, none⟩) zl0).trans k0), (B.cell (p := ⟨w.heap.size, 1, none⟩) (Nat.lt_of_lt_of_le zl0 bU.size)).trans ((bU.cell (p := ⟨w.heap.size, 1, none⟩) zl0).trans k1), (B.cell (p := ⟨w.heap.size, 2, none⟩) (Nat.lt_of_lt_of_le zl0 bU.size)).trans ((bU.cell (p := ⟨w.heap.size, 2, none⟩) zl0).trans k2), (B.cell (p := ⟨w.heap.size, 3, none⟩) (Nat.lt_of_lt_of_le zl0 bU.size)).trans ((bU.cell (p := ⟨w.heap.size, 3, none⟩) zl0).trans k3), (B.cell (p := ⟨w.heap.size, 4, none⟩) (Nat.lt_of_lt_of_le zl0 bU.size)).trans ((bU.cell (p := ⟨w.heap.size, 4, none⟩) zl0).trans k4), (B.cell (p := ⟨w.heap.size, 5, none⟩) (Nat.lt_of_lt_of_le zl0 bU.size)).trans ((bU.cell (p := ⟨w.heap.size, 5, none⟩) zl0).trans k5), (B.cell (p := ⟨u1.heap.size, 0, none⟩) (Nat.lt_of_lt_of_le zl1 bU.size)).trans ((bU.cell (p := ⟨u1.heap.size, 0, none⟩) zl1).trans k6), (B.cell (p := ⟨u1.heap.size, 1, none⟩) (Nat.lt_of_lt_of_le zl1 bU.size)).trans ((bU.cell (p := ⟨u1.heap.size, 1, none⟩) zl1).trans k7), (B.cell (p := ⟨u2.heap.size, 0, none⟩) (Nat.lt_of_lt_of_le zl2 bU.size)).trans ((bU.cell (p := ⟨u2.heap.size, 0, none⟩) zl2).trans k8), (B.cell (p := ⟨u2.heap.size, 1, none⟩) (Nat.lt_of_lt_of_le zl2 bU.size)).trans ((bU.cell (p := ⟨u2.heap.size, 1, none⟩) zl2).trans k9), (B.cell (p := ⟨u3.heap.size, 0, none⟩) zU3).trans nc0, (B.cell (p := ⟨u3.heap.size, 1, none⟩) zU3).trans nc1⟩
    have BU3 := hid bU
    have zb3_0 := hid (Nat.lt_of_lt_of_le zl0 bU.size)
    have zb3_1 := hid (Nat.lt_of_lt_of_le zl1 bU.size)
    have zb3_2 := hid (Nat.lt_of_lt_of_le zl2 bU.size)
    have zn3 := hid zU3
    have BV := hid (BV.out.trans (((B3.out).trans (bU.mono (B3.out).size)).mono BV.out.size))
    rw [hU]
    clear K hU bU zU3 nc0 nc1
    clear k0 k1 k2 k3 k4 k5 k6 k7 k8 k9 zl0 zl1 zl2
    have K := K3
    obtain ⟨k0, k1, k2, k3, k4, k5, k6, k7, k8, k9, k10, k11⟩ := K.out _ (Below.refl _ _ : Below U3.heap.size U3 U3)
    have zl0 : w.heap.size < U3.heap.size := Nat.lt_of_lt_of_le (zb3_0.out) ((Below.refl _ _ : Below U3.heap.size U3 U3)).size
    have zl1 : u1.heap.size < U3.heap.size := Nat.lt_of_lt_of_le (zb3_1.out) ((Below.refl _ _ : Below U3.heap.size U3 U3)).size
    have zl2 : u2.heap.size < U3.heap.size := Nat.lt_of_lt_of_le (zb3_2.out) ((Below.refl _ _ : Below U3.heap.size U3 U3)).size
    have zl3 : u3.heap.size < U3.heap.size := Nat.lt_of_lt_of_le (zn3.out) ((Below.refl _ _ : Below U3.heap.size U3 U3)).size
    go_wp2_with (go_at_call 22; refine (gawake_any _).mono ?_; rintro _ wz ⟨rfl, hz⟩)
    all_goals
      go_ret
      exact Gives.mk rfl (BV.out.trans ((((Below.refl _ _ : Below U3.heap.size U3 U3)).trans ((by assumption : Below U3.heap.size U3 _).mono ((Below.refl _ _ : Below U3.heap.size U3 U3)).size)).mono BV.out.size))
  · obtain ⟨rfl, rfl, rfl, rfl, m1, m2, m3, m4, m5, m6, m7, m8, m9, m10, m11⟩ := M
    have s1 := sq_w (x := la) m1 (by omega)
    have s2 := sq_w (x := ha) (by omega) (by omega)
    obtain ⟨qa, hqa⟩ : ∃ q, la * la = q := ⟨_, rfl⟩
    obtain ⟨qh, hqh⟩ : ∃ q, ha * ha = q := ⟨_, rfl⟩
    rw [hqa] at m5 m7 s1
    rw [hqh] at m6 m7 s2
    rcases Classical.em (ha = la) with y1 | y1
    · have y2 := y1.symm
      subst y2
      clear m7 y1
      obtain ⟨V, hV⟩ : ∃ V : World, w.alloc (Obj.cells #[.int .i64 x0, .int .i64 x1, .int .i64 x2, .int .i64 x3, .int .i64 x4, .int .i64 x5] 24) = V := ⟨_, rfl⟩
      have bV : Below w.heap.size w V := by rw [← hV]; exact (Below.refl _ _).alloc (Nat.le_refl _) _
      have zV : w.heap.size < V.heap.size := by rw [← hV]; simp
      have K : Hid (∀ W' : World, Below V.heap.size V W' → (W'.cell? ⟨w.heap.size, 0, none⟩ = some (.int .i64 x0) ∧ W'.cell? ⟨w.heap.size, 1, none⟩ = some (.int .i64 x1) ∧ W'.cell? ⟨w.heap.size, 2, none⟩ = some (.int .i64 x2) ∧ W'.cell? ⟨w.heap.size, 3, none⟩ = some (.int .i64 x3) ∧ W'.cell? ⟨w.heap.size, 4, none⟩ = some (.int .i64 x4) ∧ W'.cell? ⟨w.heap.size, 5, none⟩ = some (.int .i64 x5))) := hid fun W' B => ⟨(B.cell (p := ⟨w.heap.size, 0, none⟩) zV).trans (by rw [← hV]; simp [go_sem]), (B.cell (p := ⟨w.heap.size, 1, none⟩) zV).trans (by rw [← hV]; simp [go_sem]), (B.cell (p := ⟨w.heap.size, 2, none⟩) zV).trans (by rw [← hV]; simp [go_sem]), (B.cell (p := ⟨w.heap.size, 3, none⟩) zV).trans (by rw [← hV]; simp [go_sem]), (B.cell (p := ⟨w.heap.size, 4, none⟩) zV).trans (by rw [← hV]; simp [go_sem]), (B.cell (p := ⟨w.heap.size, 5, none⟩) zV).trans (by rw [← hV]; simp [go_sem])⟩
      have HV := hid hV
      have BV := hid bV
      have ZV := hid zV
      clear hV bV zV
      go_enter Try.func11, Try.ntmps11
      go_upto_region 1 with fail
      rw [HV.out]
      obtain ⟨k0, k1, k2, k3, k4, k5⟩ := K.out _ (Below.refl _ _ : Below V.heap.size V V)
      have zl0 : w.heap.size < V.heap.size := Nat.lt_of_lt_of_le (ZV.out) ((Below.refl _ _ : Below V.heap.size V V)).size
      go_wp2_with fail
      refine ((ca _)).mono ?_
      rintro _ u1 ⟨rfl, hb⟩
      have B1 : Below V.heap.size V u1 := by have hB := (Below.refl _ _ : Below V.heap.size V V); have hz := hB.size; repeat' (first | (with_reducible exact Below.refl _ _) | (with_reducible refine Below.alloc ?_ ?_ _) | (with_reducible refine Below.setCell ?_ ?_ _) | (with_reducible refine Below.drew ?_) | (with_reducible refine Below.trans ?_ (Below.mono (by assumption) ?_)) | (simp; done) | (simp; omega) | omega)
      clear hb
      clear k0 k1 k2 k3 k4 k5 zl0
      have B1 := hid B1
      obtain ⟨k0, k1, k2, k3, k4, k5⟩ := K.out _ B1.out
      have zl0 : w.heap.size < u1.heap.size := Nat.lt_of_lt_of_le (ZV.out) (B1.out).size
      go_upto_region 2 with fail
      obtain ⟨U1, hU⟩ : ∃ U : World, u1.alloc (Obj.cells #[.int .i64 la, .int .i64 la] 30) = U := ⟨_, rfl⟩
      have bU : Below u1.heap.size u1 U1 := by rw [← hU]; exact (Below.refl _ _).alloc (Nat.le_refl _) _
      have zU1 : u1.heap.size < U1.heap.size := by rw [← hU]; simp
      have nc0 : U1.cell? ⟨u1.heap.size, 0, none⟩ = some (.int .i64 la) := by rw [← hU]; simp [go_sem]
      have nc1 : U1.cell? ⟨u1.heap.size, 1, none⟩ = some (.int .i64 la) := by rw [← hU]; simp [go_sem]
      have K1 : Hid (∀ W' : World, Below U1.heap.size U1 W' → (W'.cell? ⟨w.heap.size, 0, none⟩ = some (.int .i64 x0) ∧ W'.cell? ⟨w.heap.size, 1, none⟩ = some (.int .i64 x1) ∧ W'.cell? ⟨w.heap.size, 2, none⟩ = some (.int .i64 x2) ∧ W'.cell? ⟨w.heap.size, 3, none⟩ = some (.int .i64 x3) ∧ W'.cell? ⟨w.heap.size, 4, none⟩ = some (.int .i64 x4) ∧ W'.cell? ⟨w.heap.size, 5, none⟩ = some (.int .i64 x5) ∧ W'.cell? ⟨u1.heap.size, 0, none⟩ = some (.int .i64 la) ∧ W'.cell? ⟨u1.heap.size, 1, none⟩ = some (.int .i64 la))) := hid fun W' B => ⟨(B.cell (p := ⟨w.heap.size, 0, none⟩) (Nat.lt_of_lt_of_le zl0 bU.size)).trans ((bU.cell (p := ⟨w.heap.size, 0, none⟩) zl0).trans k0), (B.cell (p := ⟨w.heap.size, 1, none⟩) (Nat.lt_of_lt_of_le zl0 bU.size)).trans ((bU.cell (p := ⟨w.heap.size, 1, none⟩) zl0).trans k1), (B.cell (p := ⟨w.heap.size, 2, none⟩) (Nat.lt_of_lt_of_le zl0 bU.size)).trans ((bU.cell (p := ⟨w.heap.size, 2, none⟩) zl0).trans k2), (B.cell (p := ⟨w.heap.size, 3, none⟩) (Nat.lt_of_lt_of_le zl0 bU.size)).trans ((bU.cell (p := ⟨w.heap.size, 3, none⟩) zl0).trans k3), (B.cell (p := ⟨w.heap.size, 4, none⟩) (Nat.lt_of_lt_of_le zl0 bU.size)).trans ((bU.cell (p := ⟨w.heap.size, 4, none⟩) zl0).trans k4), (B.cell (p := ⟨w.heap.size, 5, none⟩) (Nat.lt_of_lt_of_le zl0 bU.size)).trans ((bU.cell (p := ⟨w.heap.size, 5, none⟩) zl0).trans k5), (B.cell (p := ⟨u1.heap.size, 0, none⟩) zU1).trans nc0, (B.cell (p := ⟨u1.heap.size, 1, none⟩) zU1).trans nc1⟩
      have BU1 := hid bU
      have zb1_0 := hid (Nat.lt_of_lt_of_le zl0 bU.size)
      have zn1 := hid zU1
      have BV := hid (BV.out.trans (((B1.out).trans (bU.mono (B1.out).size)).mono BV.out.size))
      rw [hU]
      clear K hU bU zU1 nc0 nc1
      clear k0 k1 k2 k3 k4 k5 zl0
      have K := K1
      obtain ⟨k0, k1, k2, k3, k4, k5, k6, k7⟩ := K.out _ (Below.refl _ _ : Below U1.heap.size U1 U1)
      have zl0 : w.heap.size < U1.heap.size := Nat.lt_of_lt_of_le (zb1_0.out) ((Below.refl _ _ : Below U1.heap.size U1 U1)).size
      have zl1 : u1.heap.size < U1.heap.size := Nat.lt_of_lt_of_le (zn1.out) ((Below.refl _ _ : Below U1.heap.size U1 U1)).size
      go_wp2_with fail
      refine ((cb _)).mono ?_
      rintro _ u2 ⟨rfl, hb⟩
      have B2 : Below U1.heap.size U1 u2 := by have hB := (Below.refl _ _ : Below U1.heap.size U1 U1); have hz := hB.size; repeat' (first | (with_reducible exact Below.refl _ _) | (with_reducible refine Below.alloc ?_ ?_ _) | (with_reducible refine Below.setCell ?_ ?_ _) | (with_reducible refine Below.drew ?_) | (with_reducible refine Below.trans ?_ (Below.mono (by assumption) ?_)) | (simp; done) | (simp; omega) | omega)
      clear hb
      clear k0 k1 k2 k3 k4 k5 k6 k7 zl0 zl1
      have B2 := hid B2
      obtain ⟨k0, k1, k2, k3, k4, k5, k6, k7⟩ := K.out _ B2.out
      have zl0 : w.heap.size < u2.heap.size := Nat.lt_of_lt_of_le (zb1_0.out) (B2.out).size
      have zl1 : u1.heap.size < u2.heap.size := Nat.lt_of_lt_of_le (zn1.out) (B2.out).size
      go_upto_region 3 with fail
      obtain ⟨U2, hU⟩ : ∃ U : World, u2.alloc (Obj.cells #[.int .i64 lb, .int .i64 hb] 30) = U := ⟨_, rfl⟩
      have bU : Below u2.heap.size u2 U2 := by rw [← hU]; exact (Below.refl _ _).alloc (Nat.le_refl _) _
      have zU2 : u2.heap.size < U2.heap.size := by rw [← hU]; simp
      have nc0 : U2.cell? ⟨u2.heap.size, 0, none⟩ = some (.int .i64 lb) := by rw [← hU]; simp [go_sem]
      have nc1 : U2.cell? ⟨u2.heap.size, 1, none⟩ = some (.int .i64 hb) := by rw [← hU]; simp [go_sem]
      have K2 : Hid (∀ W' : World, Below U2.heap.size U2 W' → (W'.cell? ⟨w.heap.size, 0, none⟩ = some (.int .i64 x0) ∧ W'.cell? ⟨w.heap.size, 1, none⟩ = some (.int .i64 x1) ∧ W'.cell? ⟨w.heap.size, 2, none⟩ = some (.int .i64 x2) ∧ W'.cell? ⟨w.heap.size, 3, none⟩ = some (.int .i64 x3) ∧ W'.cell? ⟨w.heap.size, 4, none⟩ = some (.int .i64 x4) ∧ W'.cell? ⟨w.heap.size, 5, none⟩ = some (.int .i64 x5) ∧ W'.cell? ⟨u1.heap.size, 0, none⟩ = some (.int .i64 la) ∧ W'.cell? ⟨u1.heap.size, 1, none⟩ = some (.int .i64 la) ∧ W'.cell? ⟨u2.heap.size, 0, none⟩ = some (.int .i64 lb) ∧ W'.cell? ⟨u2.heap.size, 1, none⟩ = some (.int .i64 hb))) := hid fun W' B => ⟨(B.cell (p := ⟨w.heap.size, 0, none⟩) (Nat.lt_of_lt_of_le zl0 bU.size)).trans ((bU.cell (p := ⟨w.heap.size, 0, none⟩) zl0).trans k0), (B.cell (p := ⟨w.heap.size, 1, none⟩) (Nat.lt_of_lt_of_le zl0 bU.size)).trans ((bU.cell (p := ⟨w.heap.size, 1, none⟩) zl0).trans k1), (B.cell (p := ⟨w.heap.size, 2, none⟩) (Nat.lt_of_lt_of_le zl0 bU.size)).trans ((bU.cell (p := ⟨w.heap.size, 2, none⟩) zl0).trans k2), (B.cell (p := ⟨w.heap.size, 3, none⟩) (Nat.lt_of_lt_of_le zl0 bU.size)).trans ((bU.cell (p := ⟨w.heap.size, 3, none⟩) zl0).trans k3), (B.cell (p := ⟨w.heap.size, 4, none⟩) (Nat.lt_of_lt_of_le zl0 bU.size)).trans ((bU.cell (p := ⟨w.heap.size, 4, none⟩) zl0).trans k4), (B.cell (p := ⟨w.heap.size, 5, none⟩) (Nat.lt_of_lt_of_le zl0 bU.size)).trans ((bU.cell (p := ⟨w.heap.size, 5, none⟩) zl0).trans k5), (B.cell (p := ⟨u1.heap.size, 0, none⟩) (Nat.lt_of_lt_of_le zl1 bU.size)).trans ((bU.cell (p := ⟨u1.heap.size, 0, none⟩) zl1).trans k6), (B.cell (p := ⟨u1.heap.size, 1, none⟩) (Nat.lt_of_lt_of_le zl1 bU.size)).trans ((bU.cell (p := ⟨u1.heap.size, 1, none⟩) zl1).trans k7), (B.cell (p := ⟨u2.heap.size, 0, none⟩) zU2).trans nc0, (B.cell (p := ⟨u2.heap.size, 1, none⟩) zU2).trans nc1⟩
      have BU2 := hid bU
      have zb2_0 := hid (Nat.lt_of_lt_of_le zl0 bU.size)
      have zb2_1 := hid (Nat.lt_of_lt_of_le zl1 bU.size)
      have zn2 := hid zU2
      have BV := hid (BV.out.trans (((B2.out).trans (bU.mono (B2.out).size)).mono BV.out.size))
      rw [hU]
      clear K hU bU zU2 nc0 nc1
      clear k0 k1 k2 k3 k4 k5 k6 k7 zl0 zl1
      have K := K2
      obtain ⟨k0, k1, k2, k3, k4, k5, k6, k7, k8, k9⟩ := K.out _ (Below.refl _ _ : Below U2.heap.size U2 U2)
      have zl0 : w.heap.size < U2.heap.size := Nat.lt_of_lt_of_le (zb2_0.out) ((Below.refl _ _ : Below U2.heap.size U2 U2)).size
      have zl1 : u1.heap.size < U2.heap.size := Nat.lt_of_lt_of_le (zb2_1.out) ((Below.refl _ _ : Below U2.heap.size U2 U2)).size
      have zl2 : u2.heap.size < U2.heap.size := Nat.lt_of_lt_of_le (zn2.out) ((Below.refl _ _ : Below U2.heap.size U2 U2)).size
      go_wp2_with fail
      refine ((cc _)).mono ?_
      rintro _ u3 ⟨rfl, hb⟩
      have B3 : Below U2.heap.size U2 u3 := by have hB := (Below.refl _ _ : Below U2.heap.size U2 U2); have hz := hB.size; repeat' (first | (with_reducible exact Below.refl _ _) | (with_reducible refine Below.alloc ?_ ?_ _) | (with_reducible refine Below.setCell ?_ ?_ _) | (with_reducible refine Below.drew ?_) | (with_reducible refine Below.trans ?_ (Below.mono (by assumption) ?_)) | (simp; done) | (simp; omega) | omega)
      clear hb
      clear k0 k1 k2 k3 k4 k5 k6 k7 k8 k9 zl0 zl1 zl2
      have B3 := hid B3
      obtain ⟨k0, k1, k2, k3, k4, k5, k6, k7, k8, k9⟩ := K.out _ B3.out
      have zl0 : w.heap.size < u3.heap.size := Nat.lt_of_lt_of_le (zb2_0.out) (B3.out).size
      have zl1 : u1.heap.size < u3.heap.size := Nat.lt_of_lt_of_le (zb2_1.out) (B3.out).size
      have zl2 : u2.heap.size < u3.heap.size := Nat.lt_of_lt_of_le (zn2.out) (B3.out).size
      go_upto_region 4 with fail
      obtain ⟨U3, hU⟩ : ∃ U : World, u3.alloc (Obj.cells #[.int .i64 lc, .int .i64 hc] 30) = U := ⟨_, rfl⟩
      have bU : Below u3.heap.size u3 U3 := by rw [← hU]; exact (Below.refl _ _).alloc (Nat.le_refl _) _
      have zU3 : u3.heap.size < U3.heap.size := by rw [← hU]; simp
      have nc0 : U3.cell? ⟨u3.heap.size, 0, none⟩ = some (.int .i64 lc) := by rw [← hU]; simp [go_sem]
      have nc1 : U3.cell? ⟨u3.heap.size, 1, none⟩ = some (.int .i64 hc) := by rw [← hU]; simp [go_sem]
      have K3 : Hid (∀ W' : World, Below U3.heap.size U3 W' → (W'.cell? ⟨w.heap.size, 0, none⟩ = some (.int .i64 x0) ∧ W'.cell? ⟨w.heap.size, 1, none⟩ = some (.int .i64 x1) ∧ W'.cell? ⟨w.heap.size, 2, none⟩ = some (.int .i64 x2) ∧ W'.cell? ⟨w.heap.size, 3, none⟩ = some (.int .i64 x3) ∧ W'.cell? ⟨w.heap.size, 4, none⟩ = some (.int .i64 x4) ∧ W'.cell? ⟨w.heap.size, 5, none⟩ = some (.int .i64 x5) ∧ W'.cell? ⟨u1.heap.size, 0, none⟩ = some (.int .i64 la) ∧ W'.cell? ⟨u1.heap.size, 1, none⟩ = some (.int .i64 la) ∧ W'.cell? ⟨u2.heap.size, 0, none⟩ = some (.int .i64 lb) ∧ W'.cell? ⟨u2.heap.size, 1, none⟩ = some (.int .i64 hb) ∧ W'.cell? ⟨u3.heap.size, 0, none⟩ = some (.int .i64 lc) ∧ W'.cell? ⟨u3.heap.size, 1, none⟩ = some (.int .i64 hc))) := hid fun W' B => ⟨(B.cell (p := ⟨w.heap.size, 0, none⟩) (Nat.lt_of_lt_of_le zl0 bU.size)).trans ((bU.cell (p := ⟨w.heap.size, 0, none⟩) zl0).trans k0), (B.cell (p := ⟨w.heap.size, 1, none⟩) (Nat.lt_of_lt_of_le zl0 bU.size)).trans ((bU.cell (p := ⟨w.heap.size, 1, none⟩) zl0).trans k1), (B.cell (p := ⟨w.heap.size, 2, none⟩) (Nat.lt_of_lt_of_le zl0 bU.size)).trans ((bU.cell (p := ⟨w.heap.size, 2, none⟩) zl0).trans k2), (B.cell (p := ⟨w.heap.size, 3, none⟩) (Nat.lt_of_lt_of_le zl0 bU.size)).trans ((bU.cell (p := ⟨w.heap.size, 3, none⟩) zl0).trans k3), (B.cell (p := ⟨w.heap.size, 4, none⟩) (Nat.lt_of_lt_of_le zl0 bU.size)).trans ((bU.cell (p := ⟨w.heap.size, 4, none⟩) zl0).trans k4), (B.cell (p := ⟨w.heap.size, 5, none⟩) (Nat.lt_of_lt_of_le zl0 bU.size)).trans ((bU.cell (p := ⟨w.heap.size, 5, none⟩) zl0).trans k5), (B.cell (p := ⟨u1.heap.size, 0, none⟩) (Nat.lt_of_lt_of_le zl1 bU.size)).trans ((bU.cell (p := ⟨u1.heap.size, 0, none⟩) zl1).trans k6), (B.cell (p := ⟨u1.heap.size, 1, none⟩) (Nat.lt_of_lt_of_le zl1 bU.size)).trans ((bU.cell (p := ⟨u1.heap.size, 1, none⟩) zl1).trans k7), (B.cell (p := ⟨u2.heap.size, 0, none⟩) (Nat.lt_of_lt_of_le zl2 bU.size)).trans ((bU.cell (p := ⟨u2.heap.size, 0, none⟩) zl2).trans k8), (B.cell (p := ⟨u2.heap.size, 1, none⟩) (Nat.lt_of_lt_of_le zl2 bU.size)).trans ((bU.cell (p := ⟨u2.heap.size, 1, none⟩) zl2).trans k9), (B.cell (p := ⟨u3.heap.size, 0, none⟩) zU3).trans nc0, (B.cell (p := ⟨u3.heap.size, 1, none⟩) zU3).trans nc1⟩
      have BU3 := hid bU
      have zb3_0 := hid (Nat.lt_of_lt_of_le zl0 bU.size)
      have zb3_1 := hid (Nat.lt_of_lt_of_le zl1 bU.size)
      have zb3_2 := hid (Nat.lt_of_lt_of_le zl2 bU.size)
      have zn3 := hid zU3
      have BV := hid (BV.out.trans (((B3.out).trans (bU.mono (B3.out).size)).mono BV.out.size))
      rw [hU]
      clear K hU bU zU3 nc0 nc1
      clear k0 k1 k2 k3 k4 k5 k6 k7 k8 k9 zl0 zl1 zl2
      have K := K3
      obtain ⟨k0, k1, k2, k3, k4, k5, k6, k7, k8, k9, k10, k11⟩ := K.out _ (Below.refl _ _ : Below U3.heap.size U3 U3)
      have zl0 : w.heap.size < U3.heap.size := Nat.lt_of_lt_of_le (zb3_0.out) ((Below.refl _ _ : Below U3.heap.size U3 U3)).size
      have zl1 : u1.heap.size < U3.heap.size := Nat.lt_of_lt_of_le (zb3_1.out) ((Below.refl _ _ : Below U3.heap.size U3 U3)).size
      have zl2 : u2.heap.size < U3.heap.size := Nat.lt_of_lt_of_le (zb3_2.out) ((Below.refl _ _ : Below U3.heap.size U3 U3)).size
      have zl3 : u3.heap.size < U3.heap.size := Nat.lt_of_lt_of_le (zn3.out) ((Below.refl _ _ : Below U3.heap.size U3 U3)).size
      go_wp2_with fail
      refine ((cd _)).mono ?_
      rintro _ u4 ⟨rfl, hb⟩
      have B4 : Below U3.heap.size U3 u4 := by have hB := (Below.refl _ _ : Below U3.heap.size U3 U3); have hz := hB.size; repeat' (first | (with_reducible exact Below.refl _ _) | (with_reducible refine Below.alloc ?_ ?_ _) | (with_reducible refine Below.setCell ?_ ?_ _) | (with_reducible refine Below.drew ?_) | (with_reducible refine Below.trans ?_ (Below.mono (by assumption) ?_)) | (simp; done) | (simp; omega) | omega)
      clear hb
      clear k0 k1 k2 k3 k4 k5 k6 k7 k8 k9 k10 k11 zl0 zl1 zl2 zl3
      have B4 := hid B4
      obtain ⟨k0, k1, k2, k3, k4, k5, k6, k7, k8, k9, k10, k11⟩ := K.out _ B4.out
      have zl0 : w.heap.size < u4.heap.size := Nat.lt_of_lt_of_le (zb3_0.out) (B4.out).size
      have zl1 : u1.heap.size < u4.heap.size := Nat.lt_of_lt_of_le (zb3_1.out) (B4.out).size
      have zl2 : u2.heap.size < u4.heap.size := Nat.lt_of_lt_of_le (zb3_2.out) (B4.out).size
      have zl3 : u3.heap.size < u4.heap.size := Nat.lt_of_lt_of_le (zn3.out) (B4.out).size
      go_wp2_with (go_at_call 22; refine (gawake_any _).mono ?_; rintro _ wz ⟨rfl, hz⟩)
      all_goals
        go_ret
        exact Gives.mk rfl (BV.out.trans (((B4.out).trans ((by assumption : Below u4.heap.size u4 _).mono (B4.out).size)).mono BV.out.size))
    · have m12 := (m7 y1).1
      have m13 := (m7 y1).2
      have m14 : ha - la ≤ 1 := by omega
      have m15 : ha ≤ 200000 := by omega
      have m16 : (ha != la) = true := by simpa using y1
      have m17 : (qa == D) = false := by simpa using m12
      have m18 : (qh == D) = false := by simpa using m13
      clear m7
      obtain ⟨V, hV⟩ : ∃ V : World, w.alloc (Obj.cells #[.int .i64 x0, .int .i64 x1, .int .i64 x2, .int .i64 x3, .int .i64 x4, .int .i64 x5] 24) = V := ⟨_, rfl⟩
      have bV : Below w.heap.size w V := by rw [← hV]; exact (Below.refl _ _).alloc (Nat.le_refl _) _
      have zV : w.heap.size < V.heap.size := by rw [← hV]; simp
      have K : Hid (∀ W' : World, Below V.heap.size V W' → (W'.cell? ⟨w.heap.size, 0, none⟩ = some (.int .i64 x0) ∧ W'.cell? ⟨w.heap.size, 1, none⟩ = some (.int .i64 x1) ∧ W'.cell? ⟨w.heap.size, 2, none⟩ = some (.int .i64 x2) ∧ W'.cell? ⟨w.heap.size, 3, none⟩ = some (.int .i64 x3) ∧ W'.cell? ⟨w.heap.size, 4, none⟩ = some (.int .i64 x4) ∧ W'.cell? ⟨w.heap.size, 5, none⟩ = some (.int .i64 x5))) := hid fun W' B => ⟨(B.cell (p := ⟨w.heap.size, 0, none⟩) zV).trans (by rw [← hV]; simp [go_sem]), (B.cell (p := ⟨w.heap.size, 1, none⟩) zV).trans (by rw [← hV]; simp [go_sem]), (B.cell (p := ⟨w.heap.size, 2, none⟩) zV).trans (by rw [← hV]; simp [go_sem]), (B.cell (p := ⟨w.heap.size, 3, none⟩) zV).trans (by rw [← hV]; simp [go_sem]), (B.cell (p := ⟨w.heap.size, 4, none⟩) zV).trans (by rw [← hV]; simp [go_sem]), (B.cell (p := ⟨w.heap.size, 5, none⟩) zV).trans (by rw [← hV]; simp [go_sem])⟩
      have HV := hid hV
      have BV := hid bV
      have ZV := hid zV
      clear hV bV zV
      go_enter Try.func11, Try.ntmps11
      go_upto_region 1 with fail
      rw [HV.out]
      obtain ⟨k0, k1, k2, k3, k4, k5⟩ := K.out _ (Below.refl _ _ : Below V.heap.size V V)
      have zl0 : w.heap.size < V.heap.size := Nat.lt_of_lt_of_le (ZV.out) ((Below.refl _ _ : Below V.heap.size V V)).size
      go_wp2_with fail
      refine ((ca _)).mono ?_
      rintro _ u1 ⟨rfl, hb⟩
      have B1 : Below V.heap.size V u1 := by have hB := (Below.refl _ _ : Below V.heap.size V V); have hz := hB.size; repeat' (first | (with_reducible exact Below.refl _ _) | (with_reducible refine Below.alloc ?_ ?_ _) | (with_reducible refine Below.setCell ?_ ?_ _) | (with_reducible refine Below.drew ?_) | (with_reducible refine Below.trans ?_ (Below.mono (by assumption) ?_)) | (simp; done) | (simp; omega) | omega)
      clear hb
      clear k0 k1 k2 k3 k4 k5 zl0
      have B1 := hid B1
      obtain ⟨k0, k1, k2, k3, k4, k5⟩ := K.out _ B1.out
      have zl0 : w.heap.size < u1.heap.size := Nat.lt_of_lt_of_le (ZV.out) (B1.out).size
      go_upto_region 2 with fail
      obtain ⟨U1, hU⟩ : ∃ U : World, u1.alloc (Obj.cells #[.int .i64 la, .int .i64 ha] 30) = U := ⟨_, rfl⟩
      have bU : Below u1.heap.size u1 U1 := by rw [← hU]; exact (Below.refl _ _).alloc (Nat.le_refl _) _
      have zU1 : u1.heap.size < U1.heap.size := by rw [← hU]; simp
      have nc0 : U1.cell? ⟨u1.heap.size, 0, none⟩ = some (.int .i64 la) := by rw [← hU]; simp [go_sem]
      have nc1 : U1.cell? ⟨u1.heap.size, 1, none⟩ = some (.int .i64 ha) := by rw [← hU]; simp [go_sem]
      have K1 : Hid (∀ W' : World, Below U1.heap.size U1 W' → (W'.cell? ⟨w.heap.size, 0, none⟩ = some (.int .i64 x0) ∧ W'.cell? ⟨w.heap.size, 1, none⟩ = some (.int .i64 x1) ∧ W'.cell? ⟨w.heap.size, 2, none⟩ = some (.int .i64 x2) ∧ W'.cell? ⟨w.heap.size, 3, none⟩ = some (.int .i64 x3) ∧ W'.cell? ⟨w.heap.size, 4, none⟩ = some (.int .i64 x4) ∧ W'.cell? ⟨w.heap.size, 5, none⟩ = some (.int .i64 x5) ∧ W'.cell? ⟨u1.heap.size, 0, none⟩ = some (.int .i64 la) ∧ W'.cell? ⟨u1.heap.size, 1, none⟩ = some (.int .i64 ha))) := hid fun W' B => ⟨(B.cell (p := ⟨w.heap.size, 0, none⟩) (Nat.lt_of_lt_of_le zl0 bU.size)).trans ((bU.cell (p := ⟨w.heap.size, 0, none⟩) zl0).trans k0), (B.cell (p := ⟨w.heap.size, 1, none⟩) (Nat.lt_of_lt_of_le zl0 bU.size)).trans ((bU.cell (p := ⟨w.heap.size, 1, none⟩) zl0).trans k1), (B.cell (p := ⟨w.heap.size, 2, none⟩) (Nat.lt_of_lt_of_le zl0 bU.size)).trans ((bU.cell (p := ⟨w.heap.size, 2, none⟩) zl0).trans k2), (B.cell (p := ⟨w.heap.size, 3, none⟩) (Nat.lt_of_lt_of_le zl0 bU.size)).trans ((bU.cell (p := ⟨w.heap.size, 3, none⟩) zl0).trans k3), (B.cell (p := ⟨w.heap.size, 4, none⟩) (Nat.lt_of_lt_of_le zl0 bU.size)).trans ((bU.cell (p := ⟨w.heap.size, 4, none⟩) zl0).trans k4), (B.cell (p := ⟨w.heap.size, 5, none⟩) (Nat.lt_of_lt_of_le zl0 bU.size)).trans ((bU.cell (p := ⟨w.heap.size, 5, none⟩) zl0).trans k5), (B.cell (p := ⟨u1.heap.size, 0, none⟩) zU1).trans nc0, (B.cell (p := ⟨u1.heap.size, 1, none⟩) zU1).trans nc1⟩
      have BU1 := hid bU
      have zb1_0 := hid (Nat.lt_of_lt_of_le zl0 bU.size)
      have zn1 := hid zU1
      have BV := hid (BV.out.trans (((B1.out).trans (bU.mono (B1.out).size)).mono BV.out.size))
      rw [hU]
      clear K hU bU zU1 nc0 nc1
      clear k0 k1 k2 k3 k4 k5 zl0
      have K := K1
      obtain ⟨k0, k1, k2, k3, k4, k5, k6, k7⟩ := K.out _ (Below.refl _ _ : Below U1.heap.size U1 U1)
      have zl0 : w.heap.size < U1.heap.size := Nat.lt_of_lt_of_le (zb1_0.out) ((Below.refl _ _ : Below U1.heap.size U1 U1)).size
      have zl1 : u1.heap.size < U1.heap.size := Nat.lt_of_lt_of_le (zn1.out) ((Below.refl _ _ : Below U1.heap.size U1 U1)).size
      go_wp2_with fail
      refine ((cb _)).mono ?_
      rintro _ u2 ⟨rfl, hb⟩
      have B2 : Below U1.heap.size U1 u2 := by have hB := (Below.refl _ _ : Below U1.heap.size U1 U1); have hz := hB.size; repeat' (first | (with_reducible exact Below.refl _ _) | (with_reducible refine Below.alloc ?_ ?_ _) | (with_reducible refine Below.setCell ?_ ?_ _) | (with_reducible refine Below.drew ?_) | (with_reducible refine Below.trans ?_ (Below.mono (by assumption) ?_)) | (simp; done) | (simp; omega) | omega)
      clear hb
      clear k0 k1 k2 k3 k4 k5 k6 k7 zl0 zl1
      have B2 := hid B2
      obtain ⟨k0, k1, k2, k3, k4, k5, k6, k7⟩ := K.out _ B2.out
      have zl0 : w.heap.size < u2.heap.size := Nat.lt_of_lt_of_le (zb1_0.out) (B2.out).size
      have zl1 : u1.heap.size < u2.heap.size := Nat.lt_of_lt_of_le (zn1.out) (B2.out).size
      go_upto_region 3 with fail
      obtain ⟨U2, hU⟩ : ∃ U : World, u2.alloc (Obj.cells #[.int .i64 lb, .int .i64 hb] 30) = U := ⟨_, rfl⟩
      have bU : Below u2.heap.size u2 U2 := by rw [← hU]; exact (Below.refl _ _).alloc (Nat.le_refl _) _
      have zU2 : u2.heap.size < U2.heap.size := by rw [← hU]; simp
      have nc0 : U2.cell? ⟨u2.heap.size, 0, none⟩ = some (.int .i64 lb) := by rw [← hU]; simp [go_sem]
      have nc1 : U2.cell? ⟨u2.heap.size, 1, none⟩ = some (.int .i64 hb) := by rw [← hU]; simp [go_sem]
      have K2 : Hid (∀ W' : World, Below U2.heap.size U2 W' → (W'.cell? ⟨w.heap.size, 0, none⟩ = some (.int .i64 x0) ∧ W'.cell? ⟨w.heap.size, 1, none⟩ = some (.int .i64 x1) ∧ W'.cell? ⟨w.heap.size, 2, none⟩ = some (.int .i64 x2) ∧ W'.cell? ⟨w.heap.size, 3, none⟩ = some (.int .i64 x3) ∧ W'.cell? ⟨w.heap.size, 4, none⟩ = some (.int .i64 x4) ∧ W'.cell? ⟨w.heap.size, 5, none⟩ = some (.int .i64 x5) ∧ W'.cell? ⟨u1.heap.size, 0, none⟩ = some (.int .i64 la) ∧ W'.cell? ⟨u1.heap.size, 1, none⟩ = some (.int .i64 ha) ∧ W'.cell? ⟨u2.heap.size, 0, none⟩ = some (.int .i64 lb) ∧ W'.cell? ⟨u2.heap.size, 1, none⟩ = some (.int .i64 hb))) := hid fun W' B => ⟨(B.cell (p := ⟨w.heap.size, 0, none⟩) (Nat.lt_of_lt_of_le zl0 bU.size)).trans ((bU.cell (p := ⟨w.heap.size, 0, none⟩) zl0).trans k0), (B.cell (p := ⟨w.heap.size, 1, none⟩) (Nat.lt_of_lt_of_le zl0 bU.size)).trans ((bU.cell (p := ⟨w.heap.size, 1, none⟩) zl0).trans k1), (B.cell (p := ⟨w.heap.size, 2, none⟩) (Nat.lt_of_lt_of_le zl0 bU.size)).trans ((bU.cell (p := ⟨w.heap.size, 2, none⟩) zl0).trans k2), (B.cell (p := ⟨w.heap.size, 3, none⟩) (Nat.lt_of_lt_of_le zl0 bU.size)).trans ((bU.cell (p := ⟨w.heap.size, 3, none⟩) zl0).trans k3), (B.cell (p := ⟨w.heap.size, 4, none⟩) (Nat.lt_of_lt_of_le zl0 bU.size)).trans ((bU.cell (p := ⟨w.heap.size, 4, none⟩) zl0).trans k4), (B.cell (p := ⟨w.heap.size, 5, none⟩) (Nat.lt_of_lt_of_le zl0 bU.size)).trans ((bU.cell (p := ⟨w.heap.size, 5, none⟩) zl0).trans k5), (B.cell (p := ⟨u1.heap.size, 0, none⟩) (Nat.lt_of_lt_of_le zl1 bU.size)).trans ((bU.cell (p := ⟨u1.heap.size, 0, none⟩) zl1).trans k6), (B.cell (p := ⟨u1.heap.size, 1, none⟩) (Nat.lt_of_lt_of_le zl1 bU.size)).trans ((bU.cell (p := ⟨u1.heap.size, 1, none⟩) zl1).trans k7), (B.cell (p := ⟨u2.heap.size, 0, none⟩) zU2).trans nc0, (B.cell (p := ⟨u2.heap.size, 1, none⟩) zU2).trans nc1⟩
      have BU2 := hid bU
      have zb2_0 := hid (Nat.lt_of_lt_of_le zl0 bU.size)
      have zb2_1 := hid (Nat.lt_of_lt_of_le zl1 bU.size)
      have zn2 := hid zU2
      have BV := hid (BV.out.trans (((B2.out).trans (bU.mono (B2.out).size)).mono BV.out.size))
      rw [hU]
      clear K hU bU zU2 nc0 nc1
      clear k0 k1 k2 k3 k4 k5 k6 k7 zl0 zl1
      have K := K2
      obtain ⟨k0, k1, k2, k3, k4, k5, k6, k7, k8, k9⟩ := K.out _ (Below.refl _ _ : Below U2.heap.size U2 U2)
      have zl0 : w.heap.size < U2.heap.size := Nat.lt_of_lt_of_le (zb2_0.out) ((Below.refl _ _ : Below U2.heap.size U2 U2)).size
      have zl1 : u1.heap.size < U2.heap.size := Nat.lt_of_lt_of_le (zb2_1.out) ((Below.refl _ _ : Below U2.heap.size U2 U2)).size
      have zl2 : u2.heap.size < U2.heap.size := Nat.lt_of_lt_of_le (zn2.out) ((Below.refl _ _ : Below U2.heap.size U2 U2)).size
      go_wp2_with fail
      refine ((cc _)).mono ?_
      rintro _ u3 ⟨rfl, hb⟩
      have B3 : Below U2.heap.size U2 u3 := by have hB := (Below.refl _ _ : Below U2.heap.size U2 U2); have hz := hB.size; repeat' (first | (with_reducible exact Below.refl _ _) | (with_reducible refine Below.alloc ?_ ?_ _) | (with_reducible refine Below.setCell ?_ ?_ _) | (with_reducible refine Below.drew ?_) | (with_reducible refine Below.trans ?_ (Below.mono (by assumption) ?_)) | (simp; done) | (simp; omega) | omega)
      clear hb
      clear k0 k1 k2 k3 k4 k5 k6 k7 k8 k9 zl0 zl1 zl2
      have B3 := hid B3
      obtain ⟨k0, k1, k2, k3, k4, k5, k6, k7, k8, k9⟩ := K.out _ B3.out
      have zl0 : w.heap.size < u3.heap.size := Nat.lt_of_lt_of_le (zb2_0.out) (B3.out).size
      have zl1 : u1.heap.size < u3.heap.size := Nat.lt_of_lt_of_le (zb2_1.out) (B3.out).size
      have zl2 : u2.heap.size < u3.heap.size := Nat.lt_of_lt_of_le (zn2.out) (B3.out).size
      go_upto_region 4 with fail
      obtain ⟨U3, hU⟩ : ∃ U : World, u3.alloc (Obj.cells #[.int .i64 lc, .int .i64 hc] 30) = U := ⟨_, rfl⟩
      have bU : Below u3.heap.size u3 U3 := by rw [← hU]; exact (Below.refl _ _).alloc (Nat.le_refl _) _
      have zU3 : u3.heap.size < U3.heap.size := by rw [← hU]; simp
      have nc0 : U3.cell? ⟨u3.heap.size, 0, none⟩ = some (.int .i64 lc) := by rw [← hU]; simp [go_sem]
      have nc1 : U3.cell? ⟨u3.heap.size, 1, none⟩ = some (.int .i64 hc) := by rw [← hU]; simp [go_sem]
      have K3 : Hid (∀ W' : World, Below U3.heap.size U3 W' → (W'.cell? ⟨w.heap.size, 0, none⟩ = some (.int .i64 x0) ∧ W'.cell? ⟨w.heap.size, 1, none⟩ = some (.int .i64 x1) ∧ W'.cell? ⟨w.heap.size, 2, none⟩ = some (.int .i64 x2) ∧ W'.cell? ⟨w.heap.size, 3, none⟩ = some (.int .i64 x3) ∧ W'.cell? ⟨w.heap.size, 4, none⟩ = some (.int .i64 x4) ∧ W'.cell? ⟨w.heap.size, 5, none⟩ = some (.int .i64 x5) ∧ W'.cell? ⟨u1.heap.size, 0, none⟩ = some (.int .i64 la) ∧ W'.cell? ⟨u1.heap.size, 1, none⟩ = some (.int .i64 ha) ∧ W'.cell? ⟨u2.heap.size, 0, none⟩ = some (.int .i64 lb) ∧ W'.cell? ⟨u2.heap.size, 1, none⟩ = some (.int .i64 hb) ∧ W'.cell? ⟨u3.heap.size, 0, none⟩ = some (.int .i64 lc) ∧ W'.cell? ⟨u3.heap.size, 1, none⟩ = some (.int .i64 hc))) := hid fun W' B => ⟨(B.cell (p := ⟨w.heap.size, 0, none⟩) (Nat.lt_of_lt_of_le zl0 bU.size)).trans ((bU.cell (p := ⟨w.heap.size, 0, none⟩) zl0).trans k0), (B.cell (p := ⟨w.heap.size, 1, none⟩) (Nat.lt_of_lt_of_le zl0 bU.size)).trans ((bU.cell (p := ⟨w.heap.size, 1, none⟩) zl0).trans k1), (B.cell (p := ⟨w.heap.size, 2, none⟩) (Nat.lt_of_lt_of_le zl0 bU.size)).trans ((bU.cell (p := ⟨w.heap.size, 2, none⟩) zl0).trans k2), (B.cell (p := ⟨w.heap.size, 3, none⟩) (Nat.lt_of_lt_of_le zl0 bU.size)).trans ((bU.cell (p := ⟨w.heap.size, 3, none⟩) zl0).trans k3), (B.cell (p := ⟨w.heap.size, 4, none⟩) (Nat.lt_of_lt_of_le zl0 bU.size)).trans ((bU.cell (p := ⟨w.heap.size, 4, none⟩) zl0).trans k4), (B.cell (p := ⟨w.heap.size, 5, none⟩) (Nat.lt_of_lt_of_le zl0 bU.size)).trans ((bU.cell (p := ⟨w.heap.size, 5, none⟩) zl0).trans k5), (B.cell (p := ⟨u1.heap.size, 0, none⟩) (Nat.lt_of_lt_of_le zl1 bU.size)).trans ((bU.cell (p := ⟨u1.heap.size, 0, none⟩) zl1).trans k6), (B.cell (p := ⟨u1.heap.size, 1, none⟩) (Nat.lt_of_lt_of_le zl1 bU.size)).trans ((bU.cell (p := ⟨u1.heap.size, 1, none⟩) zl1).trans k7), (B.cell (p := ⟨u2.heap.size, 0, none⟩) (Nat.lt_of_lt_of_le zl2 bU.size)).trans ((bU.cell (p := ⟨u2.heap.size, 0, none⟩) zl2).trans k8), (B.cell (p := ⟨u2.heap.size, 1, none⟩) (Nat.lt_of_lt_of_le zl2 bU.size)).trans ((bU.cell (p := ⟨u2.heap.size, 1, none⟩) zl2).trans k9), (B.cell (p := ⟨u3.heap.size, 0, none⟩) zU3).trans nc0, (B.cell (p := ⟨u3.heap.size, 1, none⟩) zU3).trans nc1⟩
      have BU3 := hid bU
      have zb3_0 := hid (Nat.lt_of_lt_of_le zl0 bU.size)
      have zb3_1 := hid (Nat.lt_of_lt_of_le zl1 bU.size)
      have zb3_2 := hid (Nat.lt_of_lt_of_le zl2 bU.size)
      have zn3 := hid zU3
      have BV := hid (BV.out.trans (((B3.out).trans (bU.mono (B3.out).size)).mono BV.out.size))
      rw [hU]
      clear K hU bU zU3 nc0 nc1
      clear k0 k1 k2 k3 k4 k5 k6 k7 k8 k9 zl0 zl1 zl2
      have K := K3
      obtain ⟨k0, k1, k2, k3, k4, k5, k6, k7, k8, k9, k10, k11⟩ := K.out _ (Below.refl _ _ : Below U3.heap.size U3 U3)
      have zl0 : w.heap.size < U3.heap.size := Nat.lt_of_lt_of_le (zb3_0.out) ((Below.refl _ _ : Below U3.heap.size U3 U3)).size
      have zl1 : u1.heap.size < U3.heap.size := Nat.lt_of_lt_of_le (zb3_1.out) ((Below.refl _ _ : Below U3.heap.size U3 U3)).size
      have zl2 : u2.heap.size < U3.heap.size := Nat.lt_of_lt_of_le (zb3_2.out) ((Below.refl _ _ : Below U3.heap.size U3 U3)).size
      have zl3 : u3.heap.size < U3.heap.size := Nat.lt_of_lt_of_le (zn3.out) ((Below.refl _ _ : Below U3.heap.size U3 U3)).size
      go_wp2_with fail
      refine ((cd _)).mono ?_
      rintro _ u4 ⟨rfl, hb⟩
      have B4 : Below U3.heap.size U3 u4 := by have hB := (Below.refl _ _ : Below U3.heap.size U3 U3); have hz := hB.size; repeat' (first | (with_reducible exact Below.refl _ _) | (with_reducible refine Below.alloc ?_ ?_ _) | (with_reducible refine Below.setCell ?_ ?_ _) | (with_reducible refine Below.drew ?_) | (with_reducible refine Below.trans ?_ (Below.mono (by assumption) ?_)) | (simp; done) | (simp; omega) | omega)
      clear hb
      clear k0 k1 k2 k3 k4 k5 k6 k7 k8 k9 k10 k11 zl0 zl1 zl2 zl3
      have B4 := hid B4
      obtain ⟨k0, k1, k2, k3, k4, k5, k6, k7, k8, k9, k10, k11⟩ := K.out _ B4.out
      have zl0 : w.heap.size < u4.heap.size := Nat.lt_of_lt_of_le (zb3_0.out) (B4.out).size
      have zl1 : u1.heap.size < u4.heap.size := Nat.lt_of_lt_of_le (zb3_1.out) (B4.out).size
      have zl2 : u2.heap.size < u4.heap.size := Nat.lt_of_lt_of_le (zb3_2.out) (B4.out).size
      have zl3 : u3.heap.size < u4.heap.size := Nat.lt_of_lt_of_le (zn3.out) (B4.out).size
      go_wp2_with (go_at_call 22; refine (gawake_any _).mono ?_; rintro _ wz ⟨rfl, hz⟩)
      all_goals
        go_ret
        exact Gives.mk rfl (BV.out.trans (((B4.out).trans ((by assumption : Below u4.heap.size u4 _).mono (B4.out).size)).mono BV.out.size))
end Go.Proofs.Ytfdnmlggemonhaa
