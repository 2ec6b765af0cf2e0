/-
  Layer 7: GeometryTouches: the walk. Written by tools/gen_gtouches.py.
-/
import Derived.Test.YtfdnmlggemonhaaGl
import Derived.Test.YtfdnmlggemonhaaParr
namespace Go.Proofs.Ytfdnmlggemonhaa
open Go.RowKit
set_option linter.unusedVariables false
set_option linter.unusedSimpArgs false

namespace Sp
theorem segs_swap {a b c d : Pt} (h : segsS a b c d = 0) : segsS d c a b = 0 := by
  obtain ⟨h1, h2, h3, h4, h5, h6⟩ := segs0 h
  unfold segsS
  rw [if_pos (by rw [h1, h2, h3, h4]; rfl), if_neg]
  rintro (e | e)
  · exact h6 e.symm
  · exact h5 e
theorem touches_math (a b c d : Pt) {n e f m g h0 h1 : Int} {o o0 o1 : Bool} (k1 : meetS a b c d = (n, e)) (k2 : closesS a b c d 0 = (o, f)) (k3 : meetS d c a b = (m, g)) (k4 : onsegS a c d = (o0, h0)) (k5 : onsegS b c d = (o1, h1)) :
    (e ≠ 0 ∧ f = e) ∨ (e = 0 ∧ f = 0 ∧ g = 0 ∧ m = n ∧ h0 = 0 ∧ h1 = 0 ∧ ((n = 0 ∧ o = false ∧ o0 = false ∧ o1 = false) ∨ (n ≠ 0 ∧ o = true))) := by
  unfold meetS at k1
  unfold closesS at k2
  by_cases s : segsS a b c d = 0
  · rw [if_pos s] at k1 k2
    rw [if_pos (by decide)] at k2
    unfold meetS at k3
    rw [if_pos (segs_swap s)] at k3
    obtain ⟨p1, p2, p3, p4, p5, p6⟩ := segs0 s
    unfold onsegS at k4 k5
    rw [if_pos (by rw [p1, p3, p4]; rfl)] at k4
    rw [if_pos (by rw [p2, p3, p4]; rfl)] at k5
    simp only [Prod.mk.injEq] at k1 k2 k3 k4 k5
    obtain ⟨k1, rfl⟩ := k1
    obtain ⟨k2, rfl⟩ := k2
    obtain ⟨k3, rfl⟩ := k3
    obtain ⟨k4, rfl⟩ := k4
    obtain ⟨k5, rfl⟩ := k5
    refine .inr ⟨rfl, rfl, rfl, ?_, rfl, rfl, ?_⟩
    · rw [← k3, ← k1]; exact (rel_sym a b c d).symm
    · rw [close_zero] at k2
      by_cases z : relS a b c d = 0
      · refine .inl ⟨by omega, ?_, ?_, ?_⟩
        · rw [← k2]; simpa using z
        · rw [← k4]; exact apart_a z
        · rw [← k5]; exact apart_b z
      · exact .inr ⟨by omega, by rw [← k2]; simpa using z⟩
  · rw [if_neg s] at k1 k2
    simp only [Prod.mk.injEq] at k1 k2
    exact .inl ⟨by omega, by omega⟩
end Sp
def TouRel (V : World) (t : Value) (wr : World) : Prop := (t = .int .i64 0 ∨ t = .int .i64 1 ∨ t = .int .i64 2) ∧ Below V.heap.size V wr
set_option maxRecDepth 100000 in
set_option maxHeartbeats 4000000 in
theorem touches_as (x0 x1 x2 x3 x4 x5 x6 x7 : Int) (w : World) :
    Calls Try.prog 8 #[.agg #[.int .i64 x0, .int .i64 x1, .int .i64 x2, .int .i64 x3, .int .i64 x4, .int .i64 x5, .int .i64 x6, .int .i64 x7]] w (Gives (.bool true) w) := by
  obtain ⟨⟨n, e⟩, hc1⟩ : ∃ r, Sp.meetS (x0, x1) (x2, x3) (x4, x5) (x6, x7) = r := ⟨_, rfl⟩
  have c1 := Meet_any (x0, x1) (x2, x3) (x4, x5) (x6, x7)
  rw [hc1] at c1
  dsimp only at c1
  obtain ⟨⟨o, f⟩, hc2⟩ : ∃ r, Sp.closesS (x0, x1) (x2, x3) (x4, x5) (x6, x7) 0 = r := ⟨_, rfl⟩
  have c2 := Close_any (x0, x1) (x2, x3) (x4, x5) (x6, x7) 0
  rw [hc2] at c2
  dsimp only at c2
  obtain ⟨⟨m, g⟩, hc3⟩ : ∃ r, Sp.meetS (x6, x7) (x4, x5) (x0, x1) (x2, x3) = r := ⟨_, rfl⟩
  have c3 := Meet_any (x6, x7) (x4, x5) (x0, x1) (x2, x3)
  rw [hc3] at c3
  dsimp only at c3
  obtain ⟨⟨o0, h0⟩, hc4⟩ : ∃ r, Sp.onsegS (x0, x1) (x4, x5) (x6, x7) = r := ⟨_, rfl⟩
  have c4 := OnSegment_any (x0, x1) (x4, x5) (x6, x7)
  rw [hc4] at c4
  dsimp only at c4
  obtain ⟨⟨o1, h1⟩, hc5⟩ : ∃ r, Sp.onsegS (x2, x3) (x4, x5) (x6, x7) = r := ⟨_, rfl⟩
  have c5 := OnSegment_any (x2, x3) (x4, x5) (x6, x7)
  rw [hc5] at c5
  dsimp only at c5
  have M := Sp.touches_math (x0, x1) (x2, x3) (x4, x5) (x6, x7) hc1 hc2 hc3 hc4 hc5
  clear hc1 hc2 hc3 hc4 hc5
  rcases M with M | M
  · obtain ⟨q1, rfl⟩ := M
    obtain ⟨V, hV⟩ : ∃ V : World, w.alloc (Obj.cells #[.int .i64 x0, .int .i64 x1, .int .i64 x2, .int .i64 x3, .int .i64 x4, .int .i64 x5, .int .i64 x6, .int .i64 x7] 35) = V := ⟨_, rfl⟩
    have bV : Below w.heap.size w V := by rw [← hV]; exact (Below.refl _ _).alloc (Nat.le_refl _) _
    have zV : w.heap.size < V.heap.size := by rw [← hV]; simp
    have K : Hid (∀ W' : World, Below V.heap.size V W' → (W'.cell? ⟨w.heap.size, 0, none⟩ = some (.int .i64 x0) ∧ W'.cell? ⟨w.heap.size, 1, none⟩ = some (.int .i64 x1) ∧ W'.cell? ⟨w.heap.size, 2, none⟩ = some (.int .i64 x2) ∧ W'.cell? ⟨w.heap.size, 3, none⟩ = some (.int .i64 x3) ∧ W'.cell? ⟨w.heap.size, 4, none⟩ = some (.int .i64 x4) ∧ W'.cell? ⟨w.heap.size, 5, none⟩ = some (.int .i64 x5) ∧ W'.cell? ⟨w.heap.size, 6, none⟩ = some (.int .i64 x6) ∧ W'.cell? ⟨w.heap.size, 7, none⟩ = some (.int .i64 x7))) := hid fun W' B => ⟨(B.cell (p := ⟨w.heap.size, 0, none⟩) zV).trans (by rw [← hV]; simp [go_sem]), (B.cell (p := ⟨w.heap.size, 1, none⟩) zV).trans (by rw [← hV]; simp [go_sem]), (B.cell (p := ⟨w.heap.size, 2, none⟩) zV).trans (by rw [← hV]; simp [go_sem]), (B.cell (p := ⟨w.heap.size, 3, none⟩) zV).trans (by rw [← hV]; simp [go_sem]), (B.cell (p := ⟨w.heap.size, 4, none⟩) zV).trans (by rw [← hV]; simp [go_sem]), (B.cell (p := ⟨w.heap.size, 5, none⟩) zV).trans (by rw [← hV]; simp [go_sem]), (B.cell (p := ⟨w.heap.size, 6, none⟩) zV).trans (by rw [← hV]; simp [go_sem]), (B.cell (p := ⟨w.heap.size, 7, none⟩) zV).trans (by rw [← hV]; simp [go_sem])⟩
    have HV := hid hV
    have BV := hid bV
    have ZV := hid zV
    clear hV bV zV
    go_enter Try.func8, Try.ntmps8
    go_upto_region 1 with fail
    rw [HV.out]
    obtain ⟨k0, k1, k2, k3, k4, k5, k6, k7⟩ := K.out _ (Below.refl _ _ : Below V.heap.size V V)
    have zl0 : w.heap.size < V.heap.size := Nat.lt_of_lt_of_le (ZV.out) ((Below.refl _ _ : Below V.heap.size V V)).size
    go_wp2_with fail
    refine ((c1 _)).mono ?_
    rintro _ u1 ⟨rfl, hb⟩
    have B1 : Below V.heap.size V u1 := by have hB := (Below.refl _ _ : Below V.heap.size V V); have hz := hB.size; repeat' (first | (with_reducible exact Below.refl _ _) | (with_reducible refine Below.alloc ?_ ?_ _) | (with_reducible refine Below.setCell ?_ ?_ _) | (with_reducible refine Below.drew ?_) | (with_reducible refine Below.trans ?_ (Below.mono (by assumption) ?_)) | (simp; done) | (simp; omega) | omega)
    clear hb
    clear k0 k1 k2 k3 k4 k5 k6 k7 zl0
    have B1 := hid B1
    obtain ⟨k0, k1, k2, k3, k4, k5, k6, k7⟩ := K.out _ B1.out
    have zl0 : w.heap.size < u1.heap.size := Nat.lt_of_lt_of_le (ZV.out) (B1.out).size
    go_wp2_with fail
    refine ((c2 _)).mono ?_
    rintro _ u2 ⟨rfl, hb⟩
    have B2 : Below V.heap.size V u2 := by have hB := B1.out; have hz := hB.size; repeat' (first | (with_reducible exact Below.refl _ _) | (with_reducible refine Below.alloc ?_ ?_ _) | (with_reducible refine Below.setCell ?_ ?_ _) | (with_reducible refine Below.drew ?_) | (with_reducible refine Below.trans ?_ (Below.mono (by assumption) ?_)) | (simp; done) | (simp; omega) | omega)
    clear hb
    clear k0 k1 k2 k3 k4 k5 k6 k7 zl0
    have B2 := hid B2
    obtain ⟨k0, k1, k2, k3, k4, k5, k6, k7⟩ := K.out _ B2.out
    have zl0 : w.heap.size < u2.heap.size := Nat.lt_of_lt_of_le (ZV.out) (B2.out).size
    go_wp2_with (go_at_call 22; refine (gawake_any _).mono ?_; rintro _ wz ⟨rfl, hz⟩)
    all_goals
      go_ret
      exact Gives.mk rfl (BV.out.trans (((B2.out).trans ((by assumption : Below u2.heap.size u2 _).mono (B2.out).size)).mono BV.out.size))
  · obtain ⟨rfl, rfl, rfl, rfl, rfl, rfl, rest⟩ := M
    rcases rest with rest | rest
    · obtain ⟨rfl, rfl, rfl, rfl⟩ := rest
      obtain ⟨V, hV⟩ : ∃ V : World, w.alloc (Obj.cells #[.int .i64 x0, .int .i64 x1, .int .i64 x2, .int .i64 x3, .int .i64 x4, .int .i64 x5, .int .i64 x6, .int .i64 x7] 35) = V := ⟨_, rfl⟩
      have bV : Below w.heap.size w V := by rw [← hV]; exact (Below.refl _ _).alloc (Nat.le_refl _) _
      have zV : w.heap.size < V.heap.size := by rw [← hV]; simp
      have K : Hid (∀ W' : World, Below V.heap.size V W' → (W'.cell? ⟨w.heap.size, 0, none⟩ = some (.int .i64 x0) ∧ W'.cell? ⟨w.heap.size, 1, none⟩ = some (.int .i64 x1) ∧ W'.cell? ⟨w.heap.size, 2, none⟩ = some (.int .i64 x2) ∧ W'.cell? ⟨w.heap.size, 3, none⟩ = some (.int .i64 x3) ∧ W'.cell? ⟨w.heap.size, 4, none⟩ = some (.int .i64 x4) ∧ W'.cell? ⟨w.heap.size, 5, none⟩ = some (.int .i64 x5) ∧ W'.cell? ⟨w.heap.size, 6, none⟩ = some (.int .i64 x6) ∧ W'.cell? ⟨w.heap.size, 7, none⟩ = some (.int .i64 x7))) := hid fun W' B => ⟨(B.cell (p := ⟨w.heap.size, 0, none⟩) zV).trans (by rw [← hV]; simp [go_sem]), (B.cell (p := ⟨w.heap.size, 1, none⟩) zV).trans (by rw [← hV]; simp [go_sem]), (B.cell (p := ⟨w.heap.size, 2, none⟩) zV).trans (by rw [← hV]; simp [go_sem]), (B.cell (p := ⟨w.heap.size, 3, none⟩) zV).trans (by rw [← hV]; simp [go_sem]), (B.cell (p := ⟨w.heap.size, 4, none⟩) zV).trans (by rw [← hV]; simp [go_sem]), (B.cell (p := ⟨w.heap.size, 5, none⟩) zV).trans (by rw [← hV]; simp [go_sem]), (B.cell (p := ⟨w.heap.size, 6, none⟩) zV).trans (by rw [← hV]; simp [go_sem]), (B.cell (p := ⟨w.heap.size, 7, none⟩) zV).trans (by rw [← hV]; simp [go_sem])⟩
      have HV := hid hV
      have BV := hid bV
      have ZV := hid zV
      clear hV bV zV
      go_enter Try.func8, Try.ntmps8
      go_upto_region 1 with fail
      rw [HV.out]
      obtain ⟨k0, k1, k2, k3, k4, k5, k6, k7⟩ := K.out _ (Below.refl _ _ : Below V.heap.size V V)
      have zl0 : w.heap.size < V.heap.size := Nat.lt_of_lt_of_le (ZV.out) ((Below.refl _ _ : Below V.heap.size V V)).size
      go_wp2_with fail
      refine ((c1 _)).mono ?_
      rintro _ u1 ⟨rfl, hb⟩
      have B1 : Below V.heap.size V u1 := by have hB := (Below.refl _ _ : Below V.heap.size V V); have hz := hB.size; repeat' (first | (with_reducible exact Below.refl _ _) | (with_reducible refine Below.alloc ?_ ?_ _) | (with_reducible refine Below.setCell ?_ ?_ _) | (with_reducible refine Below.drew ?_) | (with_reducible refine Below.trans ?_ (Below.mono (by assumption) ?_)) | (simp; done) | (simp; omega) | omega)
      clear hb
      clear k0 k1 k2 k3 k4 k5 k6 k7 zl0
      have B1 := hid B1
      obtain ⟨k0, k1, k2, k3, k4, k5, k6, k7⟩ := K.out _ B1.out
      have zl0 : w.heap.size < u1.heap.size := Nat.lt_of_lt_of_le (ZV.out) (B1.out).size
      go_wp2_with fail
      refine ((c2 _)).mono ?_
      rintro _ u2 ⟨rfl, hb⟩
      have B2 : Below V.heap.size V u2 := by have hB := B1.out; have hz := hB.size; repeat' (first | (with_reducible exact Below.refl _ _) | (with_reducible refine Below.alloc ?_ ?_ _) | (with_reducible refine Below.setCell ?_ ?_ _) | (with_reducible refine Below.drew ?_) | (with_reducible refine Below.trans ?_ (Below.mono (by assumption) ?_)) | (simp; done) | (simp; omega) | omega)
      clear hb
      clear k0 k1 k2 k3 k4 k5 k6 k7 zl0
      have B2 := hid B2
      obtain ⟨k0, k1, k2, k3, k4, k5, k6, k7⟩ := K.out _ B2.out
      have zl0 : w.heap.size < u2.heap.size := Nat.lt_of_lt_of_le (ZV.out) (B2.out).size
      go_wp2_with fail
      refine ((c3 _)).mono ?_
      rintro _ u3 ⟨rfl, hb⟩
      have B3 : Below V.heap.size V u3 := by have hB := B2.out; have hz := hB.size; repeat' (first | (with_reducible exact Below.refl _ _) | (with_reducible refine Below.alloc ?_ ?_ _) | (with_reducible refine Below.setCell ?_ ?_ _) | (with_reducible refine Below.drew ?_) | (with_reducible refine Below.trans ?_ (Below.mono (by assumption) ?_)) | (simp; done) | (simp; omega) | omega)
      clear hb
      clear k0 k1 k2 k3 k4 k5 k6 k7 zl0
      have B3 := hid B3
      obtain ⟨k0, k1, k2, k3, k4, k5, k6, k7⟩ := K.out _ B3.out
      have zl0 : w.heap.size < u3.heap.size := Nat.lt_of_lt_of_le (ZV.out) (B3.out).size
      have BL := hid (B3.out)
      go_wp2_with fail
      go_loopw [9] (fun t wr => TouRel V t wr) (fun t _ => 2 - (intOf t).toNat)
      case atStart => exact ⟨.inl rfl, BL.out⟩
      case round =>
        obtain ⟨ht, hB⟩ := hrel
        clear k0 k1 k2 k3 k4 k5 k6 k7 zl0
        have HB := hid hB
        clear hB
        obtain ⟨k0, k1, k2, k3, k4, k5, k6, k7⟩ := K.out _ HB.out
        have zl0 : w.heap.size < wr.heap.size := Nat.lt_of_lt_of_le (ZV.out) (HB.out).size
        rcases ht with rfl | rfl | rfl
        · go_upto_region 11 with fail
          have K2 : Hid (∀ W' : World, Below wr.heap.size wr W' → (Below wr.heap.size wr W' ∧ W'.cell? ⟨w.heap.size, 0, none⟩ = some (.int .i64 x0) ∧ W'.cell? ⟨w.heap.size, 1, none⟩ = some (.int .i64 x1) ∧ W'.cell? ⟨w.heap.size, 2, none⟩ = some (.int .i64 x2) ∧ W'.cell? ⟨w.heap.size, 3, none⟩ = some (.int .i64 x3) ∧ W'.cell? ⟨w.heap.size, 4, none⟩ = some (.int .i64 x4) ∧ W'.cell? ⟨w.heap.size, 5, none⟩ = some (.int .i64 x5) ∧ W'.cell? ⟨w.heap.size, 6, none⟩ = some (.int .i64 x6) ∧ W'.cell? ⟨w.heap.size, 7, none⟩ = some (.int .i64 x7))) := hid fun W' B => ⟨B, K.out _ ((HB.out).trans (B.mono (HB.out).size))⟩
          go_region_held3 (fun W' => Below wr.heap.size wr W' ∧ W'.cell? ⟨w.heap.size, 0, none⟩ = some (.int .i64 x0) ∧ W'.cell? ⟨w.heap.size, 1, none⟩ = some (.int .i64 x1) ∧ W'.cell? ⟨w.heap.size, 2, none⟩ = some (.int .i64 x2) ∧ W'.cell? ⟨w.heap.size, 3, none⟩ = some (.int .i64 x3) ∧ W'.cell? ⟨w.heap.size, 4, none⟩ = some (.int .i64 x4) ∧ W'.cell? ⟨w.heap.size, 5, none⟩ = some (.int .i64 x5) ∧ W'.cell? ⟨w.heap.size, 6, none⟩ = some (.int .i64 x6) ∧ W'.cell? ⟨w.heap.size, 7, none⟩ = some (.int .i64 x7)) ((exact K2.out _ (by repeat' (first | (with_reducible exact Below.refl _ _) | (with_reducible refine Below.alloc ?_ ?_ _) | (with_reducible refine Below.setCell ?_ ?_ _) | (with_reducible refine Below.drew ?_) | (with_reducible refine below_dn ?_ _) | (with_reducible refine Below.trans ?_ (Below.mono (by assumption) ?_)) | (simp; done) | (simp; omega) | omega))))
            (first | (go_at_call 23; (with_reducible refine (c4 _).mono ?_); rintro _ w5 ⟨rfl, hb⟩; have hb5 : Below wr.heap.size wr w5 := (by repeat' (first | (with_reducible exact Below.refl _ _) | (with_reducible refine Below.alloc ?_ ?_ _) | (with_reducible refine Below.setCell ?_ ?_ _) | (with_reducible refine Below.drew ?_) | (with_reducible refine below_dn ?_ _) | (with_reducible refine Below.trans ?_ (Below.mono (by assumption) ?_)) | (simp; done) | (simp; omega) | omega)); have hz5 : wr.heap.size ≤ w5.heap.size := hb5.size; clear hb))
          all_goals
            have B4 := hid ((HB.out).trans (hb5.mono (HB.out).size))
            clear hb5
            try clear hz5
            try clear k0 k1 k2 k3 k4 k5 k6 k7
            try clear zl0
            obtain ⟨k0, k1, k2, k3, k4, k5, k6, k7⟩ := K.out _ B4.out
            have zl0 : w.heap.size < w5.heap.size := Nat.lt_of_lt_of_le (ZV.out) (B4.out).size
            go_wp2_with fail
            go_roundw
            case rel => exact ⟨by first | exact .inr (.inl rfl) | exact .inr (.inr rfl), B4.out⟩
            case measure => simp [intOf]
        · go_upto_region 11 with fail
          have K2 : Hid (∀ W' : World, Below wr.heap.size wr W' → (Below wr.heap.size wr W' ∧ W'.cell? ⟨w.heap.size, 0, none⟩ = some (.int .i64 x0) ∧ W'.cell? ⟨w.heap.size, 1, none⟩ = some (.int .i64 x1) ∧ W'.cell? ⟨w.heap.size, 2, none⟩ = some (.int .i64 x2) ∧ W'.cell? ⟨w.heap.size, 3, none⟩ = some (.int .i64 x3) ∧ W'.cell? ⟨w.heap.size, 4, none⟩ = some (.int .i64 x4) ∧ W'.cell? ⟨w.heap.size, 5, none⟩ = some (.int .i64 x5) ∧ W'.cell? ⟨w.heap.size, 6, none⟩ = some (.int .i64 x6) ∧ W'.cell? ⟨w.heap.size, 7, none⟩ = some (.int .i64 x7))) := hid fun W' B => ⟨B, K.out _ ((HB.out).trans (B.mono (HB.out).size))⟩
          go_region_held3 (fun W' => Below wr.heap.size wr W' ∧ W'.cell? ⟨w.heap.size, 0, none⟩ = some (.int .i64 x0) ∧ W'.cell? ⟨w.heap.size, 1, none⟩ = some (.int .i64 x1) ∧ W'.cell? ⟨w.heap.size, 2, none⟩ = some (.int .i64 x2) ∧ W'.cell? ⟨w.heap.size, 3, none⟩ = some (.int .i64 x3) ∧ W'.cell? ⟨w.heap.size, 4, none⟩ = some (.int .i64 x4) ∧ W'.cell? ⟨w.heap.size, 5, none⟩ = some (.int .i64 x5) ∧ W'.cell? ⟨w.heap.size, 6, none⟩ = some (.int .i64 x6) ∧ W'.cell? ⟨w.heap.size, 7, none⟩ = some (.int .i64 x7)) ((exact K2.out _ (by repeat' (first | (with_reducible exact Below.refl _ _) | (with_reducible refine Below.alloc ?_ ?_ _) | (with_reducible refine Below.setCell ?_ ?_ _) | (with_reducible refine Below.drew ?_) | (with_reducible refine below_dn ?_ _) | (with_reducible refine Below.trans ?_ (Below.mono (by assumption) ?_)) | (simp; done) | (simp; omega) | omega))))
            (first | (go_at_call 23; (with_reducible refine (c5 _).mono ?_); rintro _ w5 ⟨rfl, hb⟩; have hb5 : Below wr.heap.size wr w5 := (by repeat' (first | (with_reducible exact Below.refl _ _) | (with_reducible refine Below.alloc ?_ ?_ _) | (with_reducible refine Below.setCell ?_ ?_ _) | (with_reducible refine Below.drew ?_) | (with_reducible refine below_dn ?_ _) | (with_reducible refine Below.trans ?_ (Below.mono (by assumption) ?_)) | (simp; done) | (simp; omega) | omega)); have hz5 : wr.heap.size ≤ w5.heap.size := hb5.size; clear hb))
          all_goals
            have B4 := hid ((HB.out).trans (hb5.mono (HB.out).size))
            clear hb5
            try clear hz5
            try clear k0 k1 k2 k3 k4 k5 k6 k7
            try clear zl0
            obtain ⟨k0, k1, k2, k3, k4, k5, k6, k7⟩ := K.out _ B4.out
            have zl0 : w.heap.size < w5.heap.size := Nat.lt_of_lt_of_le (ZV.out) (B4.out).size
            go_wp2_with fail
            go_roundw
            case rel => exact ⟨by first | exact .inr (.inl rfl) | exact .inr (.inr rfl), B4.out⟩
            case measure => simp [intOf]
        · go_wp2_with (go_at_call 22; refine (gawake_any _).mono ?_; rintro _ wz ⟨rfl, hz⟩)
          all_goals
            go_ret
            exact Gives.mk rfl (BV.out.trans (((HB.out).trans ((by assumption : Below wr.heap.size wr _).mono (HB.out).size)).mono BV.out.size))
    · obtain ⟨q1, rfl⟩ := rest
      have q2 : (m != 0) = true := by simpa using q1
      have q3 : (m == 0) = false := by simpa using q1
      obtain ⟨V, hV⟩ : ∃ V : World, w.alloc (Obj.cells #[.int .i64 x0, .int .i64 x1, .int .i64 x2, .int .i64 x3, .int .i64 x4, .int .i64 x5, .int .i64 x6, .int .i64 x7] 35) = V := ⟨_, rfl⟩
      have bV : Below w.heap.size w V := by rw [← hV]; exact (Below.refl _ _).alloc (Nat.le_refl _) _
      have zV : w.heap.size < V.heap.size := by rw [← hV]; simp
      have K : Hid (∀ W' : World, Below V.heap.size V W' → (W'.cell? ⟨w.heap.size, 0, none⟩ = some (.int .i64 x0) ∧ W'.cell? ⟨w.heap.size, 1, none⟩ = some (.int .i64 x1) ∧ W'.cell? ⟨w.heap.size, 2, none⟩ = some (.int .i64 x2) ∧ W'.cell? ⟨w.heap.size, 3, none⟩ = some (.int .i64 x3) ∧ W'.cell? ⟨w.heap.size, 4, none⟩ = some (.int .i64 x4) ∧ W'.cell? ⟨w.heap.size, 5, none⟩ = some (.int .i64 x5) ∧ W'.cell? ⟨w.heap.size, 6, none⟩ = some (.int .i64 x6) ∧ W'.cell? ⟨w.heap.size, 7, none⟩ = some (.int .i64 x7))) := hid fun W' B => ⟨(B.cell (p := ⟨w.heap.size, 0, none⟩) zV).trans (by rw [← hV]; simp [go_sem]), (B.cell (p := ⟨w.heap.size, 1, none⟩) zV).trans (by rw [← hV]; simp [go_sem]), (B.cell (p := ⟨w.heap.size, 2, none⟩) zV).trans (by rw [← hV]; simp [go_sem]), (B.cell (p := ⟨w.heap.size, 3, none⟩) zV).trans (by rw [← hV]; simp [go_sem]), (B.cell (p := ⟨w.heap.size, 4, none⟩) zV).trans (by rw [← hV]; simp [go_sem]), (B.cell (p := ⟨w.heap.size, 5, none⟩) zV).trans (by rw [← hV]; simp [go_sem]), (B.cell (p := ⟨w.heap.size, 6, none⟩) zV).trans (by rw [← hV]; simp [go_sem]), (B.cell (p := ⟨w.heap.size, 7, none⟩) zV).trans (by rw [← hV]; simp [go_sem])⟩
      have HV := hid hV
      have BV := hid bV
      have ZV := hid zV
      clear hV bV zV
      go_enter Try.func8, Try.ntmps8
      go_upto_region 1 with fail
      rw [HV.out]
      obtain ⟨k0, k1, k2, k3, k4, k5, k6, k7⟩ := K.out _ (Below.refl _ _ : Below V.heap.size V V)
      have zl0 : w.heap.size < V.heap.size := Nat.lt_of_lt_of_le (ZV.out) ((Below.refl _ _ : Below V.heap.size V V)).size
      go_wp2_with fail
      refine ((c1 _)).mono ?_
      rintro _ u1 ⟨rfl, hb⟩
      have B1 : Below V.heap.size V u1 := by have hB := (Below.refl _ _ : Below V.heap.size V V); have hz := hB.size; repeat' (first | (with_reducible exact Below.refl _ _) | (with_reducible refine Below.alloc ?_ ?_ _) | (with_reducible refine Below.setCell ?_ ?_ _) | (with_reducible refine Below.drew ?_) | (with_reducible refine Below.trans ?_ (Below.mono (by assumption) ?_)) | (simp; done) | (simp; omega) | omega)
      clear hb
      clear k0 k1 k2 k3 k4 k5 k6 k7 zl0
      have B1 := hid B1
      obtain ⟨k0, k1, k2, k3, k4, k5, k6, k7⟩ := K.out _ B1.out
      have zl0 : w.heap.size < u1.heap.size := Nat.lt_of_lt_of_le (ZV.out) (B1.out).size
      go_wp2_with fail
      refine ((c2 _)).mono ?_
      rintro _ u2 ⟨rfl, hb⟩
      have B2 : Below V.heap.size V u2 := by have hB := B1.out; have hz := hB.size; repeat' (first | (with_reducible exact Below.refl _ _) | (with_reducible refine Below.alloc ?_ ?_ _) | (with_reducible refine Below.setCell ?_ ?_ _) | (with_reducible refine Below.drew ?_) | (with_reducible refine Below.trans ?_ (Below.mono (by assumption) ?_)) | (simp; done) | (simp; omega) | omega)
      clear hb
      clear k0 k1 k2 k3 k4 k5 k6 k7 zl0
      have B2 := hid B2
      obtain ⟨k0, k1, k2, k3, k4, k5, k6, k7⟩ := K.out _ B2.out
      have zl0 : w.heap.size < u2.heap.size := Nat.lt_of_lt_of_le (ZV.out) (B2.out).size
      go_wp2_with fail
      refine ((c3 _)).mono ?_
      rintro _ u3 ⟨rfl, hb⟩
      have B3 : Below V.heap.size V u3 := by have hB := B2.out; have hz := hB.size; repeat' (first | (with_reducible exact Below.refl _ _) | (with_reducible refine Below.alloc ?_ ?_ _) | (with_reducible refine Below.setCell ?_ ?_ _) | (with_reducible refine Below.drew ?_) | (with_reducible refine Below.trans ?_ (Below.mono (by assumption) ?_)) | (simp; done) | (simp; omega) | omega)
      clear hb
      clear k0 k1 k2 k3 k4 k5 k6 k7 zl0
      have B3 := hid B3
      obtain ⟨k0, k1, k2, k3, k4, k5, k6, k7⟩ := K.out _ B3.out
      have zl0 : w.heap.size < u3.heap.size := Nat.lt_of_lt_of_le (ZV.out) (B3.out).size
      have BL := hid (B3.out)
      go_wp2_with fail
      go_loopw [9] (fun t wr => TouRel V t wr) (fun t _ => 2 - (intOf t).toNat)
      case atStart => exact ⟨.inl rfl, BL.out⟩
      case round =>
        obtain ⟨ht, hB⟩ := hrel
        clear k0 k1 k2 k3 k4 k5 k6 k7 zl0
        have HB := hid hB
        clear hB
        obtain ⟨k0, k1, k2, k3, k4, k5, k6, k7⟩ := K.out _ HB.out
        have zl0 : w.heap.size < wr.heap.size := Nat.lt_of_lt_of_le (ZV.out) (HB.out).size
        rcases ht with rfl | rfl | rfl
        · go_upto_region 11 with fail
          have K2 : Hid (∀ W' : World, Below wr.heap.size wr W' → (Below wr.heap.size wr W' ∧ W'.cell? ⟨w.heap.size, 0, none⟩ = some (.int .i64 x0) ∧ W'.cell? ⟨w.heap.size, 1, none⟩ = some (.int .i64 x1) ∧ W'.cell? ⟨w.heap.size, 2, none⟩ = some (.int .i64 x2) ∧ W'.cell? ⟨w.heap.size, 3, none⟩ = some (.int .i64 x3) ∧ W'.cell? ⟨w.heap.size, 4, none⟩ = some (.int .i64 x4) ∧ W'.cell? ⟨w.heap.size, 5, none⟩ = some (.int .i64 x5) ∧ W'.cell? ⟨w.heap.size, 6, none⟩ = some (.int .i64 x6) ∧ W'.cell? ⟨w.heap.size, 7, none⟩ = some (.int .i64 x7))) := hid fun W' B => ⟨B, K.out _ ((HB.out).trans (B.mono (HB.out).size))⟩
          go_region_held3 (fun W' => Below wr.heap.size wr W' ∧ W'.cell? ⟨w.heap.size, 0, none⟩ = some (.int .i64 x0) ∧ W'.cell? ⟨w.heap.size, 1, none⟩ = some (.int .i64 x1) ∧ W'.cell? ⟨w.heap.size, 2, none⟩ = some (.int .i64 x2) ∧ W'.cell? ⟨w.heap.size, 3, none⟩ = some (.int .i64 x3) ∧ W'.cell? ⟨w.heap.size, 4, none⟩ = some (.int .i64 x4) ∧ W'.cell? ⟨w.heap.size, 5, none⟩ = some (.int .i64 x5) ∧ W'.cell? ⟨w.heap.size, 6, none⟩ = some (.int .i64 x6) ∧ W'.cell? ⟨w.heap.size, 7, none⟩ = some (.int .i64 x7)) ((exact K2.out _ (by repeat' (first | (with_reducible exact Below.refl _ _) | (with_reducible refine Below.alloc ?_ ?_ _) | (with_reducible refine Below.setCell ?_ ?_ _) | (with_reducible refine Below.drew ?_) | (with_reducible refine below_dn ?_ _) | (with_reducible refine Below.trans ?_ (Below.mono (by assumption) ?_)) | (simp; done) | (simp; omega) | omega))))
            (first | (go_at_call 23; (with_reducible refine (c4 _).mono ?_); rintro _ w5 ⟨rfl, hb⟩; have hb5 : Below wr.heap.size wr w5 := (by repeat' (first | (with_reducible exact Below.refl _ _) | (with_reducible refine Below.alloc ?_ ?_ _) | (with_reducible refine Below.setCell ?_ ?_ _) | (with_reducible refine Below.drew ?_) | (with_reducible refine below_dn ?_ _) | (with_reducible refine Below.trans ?_ (Below.mono (by assumption) ?_)) | (simp; done) | (simp; omega) | omega)); have hz5 : wr.heap.size ≤ w5.heap.size := hb5.size; clear hb))
          all_goals
            have B4 := hid ((HB.out).trans (hb5.mono (HB.out).size))
            clear hb5
            try clear hz5
            try clear k0 k1 k2 k3 k4 k5 k6 k7
            try clear zl0
            obtain ⟨k0, k1, k2, k3, k4, k5, k6, k7⟩ := K.out _ B4.out
            have zl0 : w.heap.size < w5.heap.size := Nat.lt_of_lt_of_le (ZV.out) (B4.out).size
            cases o0
            all_goals
              go_wp2_with fail
              go_roundw
              case rel => exact ⟨by first | exact .inr (.inl rfl) | exact .inr (.inr rfl), B4.out⟩
              case measure => simp [intOf]
        · go_upto_region 11 with fail
          have K2 : Hid (∀ W' : World, Below wr.heap.size wr W' → (Below wr.heap.size wr W' ∧ W'.cell? ⟨w.heap.size, 0, none⟩ = some (.int .i64 x0) ∧ W'.cell? ⟨w.heap.size, 1, none⟩ = some (.int .i64 x1) ∧ W'.cell? ⟨w.heap.size, 2, none⟩ = some (.int .i64 x2) ∧ W'.cell? ⟨w.heap.size, 3, none⟩ = some (.int .i64 x3) ∧ W'.cell? ⟨w.heap.size, 4, none⟩ = some (.int .i64 x4) ∧ W'.cell? ⟨w.heap.size, 5, none⟩ = some (.int .i64 x5) ∧ W'.cell? ⟨w.heap.size, 6, none⟩ = some (.int .i64 x6) ∧ W'.cell? ⟨w.heap.size, 7, none⟩ = some (.int .i64 x7))) := hid fun W' B => ⟨B, K.out _ ((HB.out).trans (B.mono (HB.out).size))⟩
          go_region_held3 (fun W' => Below wr.heap.size wr W' ∧ W'.cell? ⟨w.heap.size, 0, none⟩ = some (.int .i64 x0) ∧ W'.cell? ⟨w.heap.size, 1, none⟩ = some (.int .i64 x1) ∧ W'.cell? ⟨w.heap.size, 2, none⟩ = some (.int .i64 x2) ∧ W'.cell? ⟨w.heap.size, 3, none⟩ = some (.int .i64 x3) ∧ W'.cell? ⟨w.heap.size, 4, none⟩ = some (.int .i64 x4) ∧ W'.cell? ⟨w.heap.size, 5, none⟩ = some (.int .i64 x5) ∧ W'.cell? ⟨w.heap.size, 6, none⟩ = some (.int .i64 x6) ∧ W'.cell? ⟨w.heap.size, 7, none⟩ = some (.int .i64 x7)) ((exact K2.out _ (by repeat' (first | (with_reducible exact Below.refl _ _) | (with_reducible refine Below.alloc ?_ ?_ _) | (with_reducible refine Below.setCell ?_ ?_ _) | (with_reducible refine Below.drew ?_) | (with_reducible refine below_dn ?_ _) | (with_reducible refine Below.trans ?_ (Below.mono (by assumption) ?_)) | (simp; done) | (simp; omega) | omega))))
            (first | (go_at_call 23; (with_reducible refine (c5 _).mono ?_); rintro _ w5 ⟨rfl, hb⟩; have hb5 : Below wr.heap.size wr w5 := (by repeat' (first | (with_reducible exact Below.refl _ _) | (with_reducible refine Below.alloc ?_ ?_ _) | (with_reducible refine Below.setCell ?_ ?_ _) | (with_reducible refine Below.drew ?_) | (with_reducible refine below_dn ?_ _) | (with_reducible refine Below.trans ?_ (Below.mono (by assumption) ?_)) | (simp; done) | (simp; omega) | omega)); have hz5 : wr.heap.size ≤ w5.heap.size := hb5.size; clear hb))
          all_goals
            have B4 := hid ((HB.out).trans (hb5.mono (HB.out).size))
            clear hb5
            try clear hz5
            try clear k0 k1 k2 k3 k4 k5 k6 k7
            try clear zl0
            obtain ⟨k0, k1, k2, k3, k4, k5, k6, k7⟩ := K.out _ B4.out
            have zl0 : w.heap.size < w5.heap.size := Nat.lt_of_lt_of_le (ZV.out) (B4.out).size
            cases o1
            all_goals
              go_wp2_with fail
              go_roundw
              case rel => exact ⟨by first | exact .inr (.inl rfl) | exact .inr (.inr rfl), B4.out⟩
              case measure => simp [intOf]
        · go_wp2_with (go_at_call 22; refine (gawake_any _).mono ?_; rintro _ wz ⟨rfl, hz⟩)
          all_goals
            go_ret
            exact Gives.mk rfl (BV.out.trans (((HB.out).trans ((by assumption : Below wr.heap.size wr _).mono (HB.out).size)).mono BV.out.size))
end Go.Proofs.Ytfdnmlggemonhaa
