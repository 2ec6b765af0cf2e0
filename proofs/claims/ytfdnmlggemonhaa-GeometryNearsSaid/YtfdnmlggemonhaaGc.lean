/-
  Layer 7: Valid, Check, Cross, Orient, Dist2, OnSegment of the reference, Check of package geometry, by contract. Written by tools/gen_gc.py.
-/
import Derived.Test.YtfdnmlggemonhaaGb
namespace Go.Proofs.Ytfdnmlggemonhaa
open Go.RowKit
set_option linter.unusedVariables false
set_option linter.unusedSimpArgs false

theorem rvalid_any (p : Sp.Pt) (w : World) : Calls Try.prog 38 #[.agg #[.int .i64 p.1, .int .i64 p.2]] w (Gives (.bool (Sp.okP p)) w) := by
  obtain ⟨x, y⟩ := p
  dsimp only
  by_cases h1 : 0 ≤ x
  · by_cases h2 : x ≤ 100000
    · by_cases h3 : 0 ≤ y
      · by_cases h4 : y ≤ 100000
        · have e : Sp.okP (x, y) = true := by rw [Sp.okP_iff]; exact ⟨h1, h2, h3, h4⟩
          rw [e]
          go_enter Try.func38, Try.ntmps38
          go_wp2_with fail
          go_ret
          exact Gives.mk rfl ((Below.refl _ _).alloc (Nat.le_refl _) _)
        · have e : Sp.okP (x, y) = false := by rw [← Bool.not_eq_true, Sp.okP_iff]; exact fun h => h4 h.2.2.2
          rw [e]
          go_enter Try.func38, Try.ntmps38
          go_wp2_with fail
          go_ret
          exact Gives.mk rfl ((Below.refl _ _).alloc (Nat.le_refl _) _)
      · have e : Sp.okP (x, y) = false := by rw [← Bool.not_eq_true, Sp.okP_iff]; exact fun h => h3 h.2.2.1
        rw [e]
        go_enter Try.func38, Try.ntmps38
        go_wp2_with fail
        go_ret
        exact Gives.mk rfl ((Below.refl _ _).alloc (Nat.le_refl _) _)
    · have e : Sp.okP (x, y) = false := by rw [← Bool.not_eq_true, Sp.okP_iff]; exact fun h => h2 h.2.1
      rw [e]
      go_enter Try.func38, Try.ntmps38
      go_wp2_with fail
      go_ret
      exact Gives.mk rfl ((Below.refl _ _).alloc (Nat.le_refl _) _)
  · have e : Sp.okP (x, y) = false := by rw [← Bool.not_eq_true, Sp.okP_iff]; exact fun h => h1 h.1
    rw [e]
    go_enter Try.func38, Try.ntmps38
    go_wp2_with fail
    go_ret
    exact Gives.mk rfl ((Below.refl _ _).alloc (Nat.le_refl _) _)
namespace Sp
def checkS (p : Pt) : Int := if okP p = true then 0 else 2
end Sp
theorem rcheck_any (p : Sp.Pt) (w : World) : Calls Try.prog 15 #[.agg #[.int .i64 p.1, .int .i64 p.2]] w (Gives (.int .i64 (Sp.checkS p)) w) := by
  have dv := rvalid_any p
  unfold Sp.checkS
  generalize Sp.okP p = e at dv ⊢
  obtain ⟨x, y⟩ := p
  dsimp only at *
  cases e
  all_goals
    go_enter Try.func15, Try.ntmps15
    go_wp2_with fail
    refine (dv _).mono ?_
    rintro _ u1 ⟨rfl, hb⟩
    go_wp2_with fail
    go_ret
    exact Gives.mk (by simp) (((Below.refl _ _).alloc (Nat.le_refl _) _).trans (hb.mono (by simp)))
theorem gcheck_any (p : Sp.Pt) (w : World) : Calls Try.prog 14 #[.agg #[.int .i64 p.1, .int .i64 p.2]] w (Gives (.int .i64 (Sp.checkS p)) w) := by
  have dv := fun (W : World) T => chk_any (some ⟨w.heap.size + 1, 0, none⟩) 1 [p] (by simp) W T (Sp.checkS p) (by rw [Sp.chkL_cons]; rfl)
  have K6 := fun (W : World) => Pts.mk1 (g := w.heap.size + 1) (w := W) (a := p)
  generalize Sp.checkS p = e at dv ⊢
  obtain ⟨x, y⟩ := p
  dsimp only at *
  go_enter Try.func14, Try.ntmps14
  go_wp2_with fail
  refine (dv _ (K6 _ (by simp) (by simp [go_sem]) (by simp [go_sem]))).mono ?_
  rintro _ u1 ⟨rfl, hb⟩
  go_wp2_with fail
  go_ret
  exact Gives.mk rfl (by repeat' (first | (with_reducible exact Below.refl _ _) | (with_reducible refine Below.alloc ?_ ?_ _) | (with_reducible refine Below.setCell ?_ ?_ _) | (with_reducible refine Below.drew ?_) | (with_reducible refine Below.trans ?_ (Below.mono (by assumption) ?_)) | (simp; done) | (simp; omega) | omega))

set_option maxRecDepth 100000 in
set_option maxHeartbeats 4000000 in
theorem rCross_any (a b c : Sp.Pt) (w : World) :
    Calls Try.prog 13 #[.agg #[.int .i64 a.1, .int .i64 a.2], .agg #[.int .i64 b.1, .int .i64 b.2], .agg #[.int .i64 c.1, .int .i64 c.2]] w (Gives (.tuple #[.int .i64 (Sp.crossS a b c).1, .int .i64 (Sp.crossS a b c).2]) w) := by
  have va := rvalid_any a
  have vb := rvalid_any b
  have vc := rvalid_any c
  have dv := rturn_any a b c
  obtain ⟨⟨rx, ry⟩, hR⟩ : ∃ r, Sp.crossS a b c = r := ⟨_, rfl⟩
  rw [hR]
  unfold Sp.crossS at hR
  generalize Sp.crs a b c = v at dv hR
  generalize Sp.okP a = ea at va dv hR
  generalize Sp.okP b = eb at vb dv hR
  generalize Sp.okP c = ec at vc dv hR
  have HR := hid hR
  have DW := hid dv
  clear hR dv
  obtain ⟨a1, a2⟩ := a
  obtain ⟨b1, b2⟩ := b
  obtain ⟨c1, c2⟩ := c
  dsimp only at *
  obtain ⟨V, hV⟩ : ∃ V : World, (((w.alloc (Obj.cells #[.int .i64 (a1), .int .i64 (a2)] 23)).alloc (Obj.cells #[.int .i64 (b1), .int .i64 (b2)] 23)).alloc (Obj.cells #[.int .i64 (c1), .int .i64 (c2)] 23)) = V := ⟨_, rfl⟩
  have bV : Below w.heap.size w V := by rw [← hV]; (repeat' (first | (with_reducible exact Below.refl _ _) | (with_reducible refine Below.alloc ?_ ?_ _) | (with_reducible refine Below.setCell ?_ ?_ _) | (with_reducible refine Below.drew ?_) | (with_reducible refine Below.trans ?_ (Below.mono (by assumption) ?_)) | (simp; done) | (simp; omega) | omega))
  have zV : V.heap.size = w.heap.size + 1 + 1 + 1 := by rw [← hV]; simp
  have dV : V.drawn = w.drawn := by rw [← hV]; rfl
  have K : Hid (∀ W' : World, Below V.heap.size V W' → (W'.cell? ⟨w.heap.size, 0, none⟩ = some (.int .i64 a1) ∧ W'.cell? ⟨w.heap.size, 1, none⟩ = some (.int .i64 a2) ∧ W'.cell? ⟨w.heap.size + 1, 0, none⟩ = some (.int .i64 b1) ∧ W'.cell? ⟨w.heap.size + 1, 1, none⟩ = some (.int .i64 b2) ∧ W'.cell? ⟨w.heap.size + 1 + 1, 0, none⟩ = some (.int .i64 c1) ∧ W'.cell? ⟨w.heap.size + 1 + 1, 1, none⟩ = some (.int .i64 c2))) := hid fun W' B => ⟨(B.cell (p := ⟨w.heap.size, 0, none⟩) (by simp only; omega)).trans (by rw [← hV]; simp [go_sem]), (B.cell (p := ⟨w.heap.size, 1, none⟩) (by simp only; omega)).trans (by rw [← hV]; simp [go_sem]), (B.cell (p := ⟨w.heap.size + 1, 0, none⟩) (by simp only; omega)).trans (by rw [← hV]; simp [go_sem]), (B.cell (p := ⟨w.heap.size + 1, 1, none⟩) (by simp only; omega)).trans (by rw [← hV]; simp [go_sem]), (B.cell (p := ⟨w.heap.size + 1 + 1, 0, none⟩) (by simp only; omega)).trans (by rw [← hV]; simp [go_sem]), (B.cell (p := ⟨w.heap.size + 1 + 1, 1, none⟩) (by simp only; omega)).trans (by rw [← hV]; simp [go_sem])⟩
  have HV := hid hV
  have BV := hid bV
  have ZV := hid zV
  have DV := hid dV
  clear hV bV zV dV
  go_enter Try.func13, Try.ntmps13
  go_upto_region 1 with fail
  rw [HV.out]
  obtain ⟨ac0, ac1, bc0, bc1, cc0, cc1⟩ := K.out _ (Below.refl _ _ : Below V.heap.size V V)
  have zl : w.heap.size + 1 + 1 < V.heap.size := by have h1 := ZV.out; have h2 := ((Below.refl _ _ : Below V.heap.size V V)).size; omega
  cases ea
  · go_wp2_with fail
    refine ((va _)).mono ?_
    rintro _ u1 ⟨rfl, hb⟩
    have B1 : Below V.heap.size V u1 := by have hB := (Below.refl _ _ : Below V.heap.size V V); have hz := hB.size; repeat' (first | (with_reducible exact Below.refl _ _) | (with_reducible refine Below.alloc ?_ ?_ _) | (with_reducible refine Below.setCell ?_ ?_ _) | (with_reducible refine Below.drew ?_) | (with_reducible refine Below.trans ?_ (Below.mono (by assumption) ?_)) | (simp; done) | (simp; omega) | omega)
    clear hb
    clear ac0 ac1 bc0 bc1 cc0 cc1 zl
    have B1 := hid B1
    obtain ⟨ac0, ac1, bc0, bc1, cc0, cc1⟩ := K.out _ B1.out
    have zl : w.heap.size + 1 + 1 < u1.heap.size := by have h1 := ZV.out; have h2 := (B1.out).size; omega
    go_wp2_with fail
    refine bodyPost_ret (v := .tuple #[.int .i64 0, .int .i64 2]) (by simp [results, Try.results13, go_sem]) rfl ?_
    have hB := B1.out
    have hz := hB.size
    have hV := BV.out.trans (hB.mono BV.out.size)
    exact Gives.mk (by (have h := HR.out; simp at h; obtain ⟨rfl, rfl⟩ := h; rfl)) (by first | exact hV | (repeat' (first | (with_reducible exact Below.refl _ _) | (with_reducible refine Below.alloc ?_ ?_ _) | (with_reducible refine Below.setCell ?_ ?_ _) | (with_reducible refine Below.drew ?_) | (with_reducible refine Below.trans ?_ (Below.mono (by assumption) ?_)) | (simp; done) | (simp; omega) | omega)))
  · go_wp2_with fail
    refine ((va _)).mono ?_
    rintro _ u1 ⟨rfl, hb⟩
    have B1 : Below V.heap.size V u1 := by have hB := (Below.refl _ _ : Below V.heap.size V V); have hz := hB.size; repeat' (first | (with_reducible exact Below.refl _ _) | (with_reducible refine Below.alloc ?_ ?_ _) | (with_reducible refine Below.setCell ?_ ?_ _) | (with_reducible refine Below.drew ?_) | (with_reducible refine Below.trans ?_ (Below.mono (by assumption) ?_)) | (simp; done) | (simp; omega) | omega)
    clear hb
    clear ac0 ac1 bc0 bc1 cc0 cc1 zl
    have B1 := hid B1
    obtain ⟨ac0, ac1, bc0, bc1, cc0, cc1⟩ := K.out _ B1.out
    have zl : w.heap.size + 1 + 1 < u1.heap.size := by have h1 := ZV.out; have h2 := (B1.out).size; omega
    cases eb
    · go_wp2_with fail
      refine ((vb _)).mono ?_
      rintro _ u2 ⟨rfl, hb⟩
      have B2 : Below V.heap.size V u2 := by have hB := B1.out; have hz := hB.size; repeat' (first | (with_reducible exact Below.refl _ _) | (with_reducible refine Below.alloc ?_ ?_ _) | (with_reducible refine Below.setCell ?_ ?_ _) | (with_reducible refine Below.drew ?_) | (with_reducible refine Below.trans ?_ (Below.mono (by assumption) ?_)) | (simp; done) | (simp; omega) | omega)
      clear hb
      clear ac0 ac1 bc0 bc1 cc0 cc1 zl
      have B2 := hid B2
      obtain ⟨ac0, ac1, bc0, bc1, cc0, cc1⟩ := K.out _ B2.out
      have zl : w.heap.size + 1 + 1 < u2.heap.size := by have h1 := ZV.out; have h2 := (B2.out).size; omega
      go_wp2_with fail
      refine bodyPost_ret (v := .tuple #[.int .i64 0, .int .i64 2]) (by simp [results, Try.results13, go_sem]) rfl ?_
      have hB := B2.out
      have hz := hB.size
      have hV := BV.out.trans (hB.mono BV.out.size)
      exact Gives.mk (by (have h := HR.out; simp at h; obtain ⟨rfl, rfl⟩ := h; rfl)) (by first | exact hV | (repeat' (first | (with_reducible exact Below.refl _ _) | (with_reducible refine Below.alloc ?_ ?_ _) | (with_reducible refine Below.setCell ?_ ?_ _) | (with_reducible refine Below.drew ?_) | (with_reducible refine Below.trans ?_ (Below.mono (by assumption) ?_)) | (simp; done) | (simp; omega) | omega)))
    · go_wp2_with fail
      refine ((vb _)).mono ?_
      rintro _ u2 ⟨rfl, hb⟩
      have B2 : Below V.heap.size V u2 := by have hB := B1.out; have hz := hB.size; repeat' (first | (with_reducible exact Below.refl _ _) | (with_reducible refine Below.alloc ?_ ?_ _) | (with_reducible refine Below.setCell ?_ ?_ _) | (with_reducible refine Below.drew ?_) | (with_reducible refine Below.trans ?_ (Below.mono (by assumption) ?_)) | (simp; done) | (simp; omega) | omega)
      clear hb
      clear ac0 ac1 bc0 bc1 cc0 cc1 zl
      have B2 := hid B2
      obtain ⟨ac0, ac1, bc0, bc1, cc0, cc1⟩ := K.out _ B2.out
      have zl : w.heap.size + 1 + 1 < u2.heap.size := by have h1 := ZV.out; have h2 := (B2.out).size; omega
      cases ec
      · go_wp2_with fail
        refine ((vc _)).mono ?_
        rintro _ u3 ⟨rfl, hb⟩
        have B3 : Below V.heap.size V u3 := by have hB := B2.out; have hz := hB.size; repeat' (first | (with_reducible exact Below.refl _ _) | (with_reducible refine Below.alloc ?_ ?_ _) | (with_reducible refine Below.setCell ?_ ?_ _) | (with_reducible refine Below.drew ?_) | (with_reducible refine Below.trans ?_ (Below.mono (by assumption) ?_)) | (simp; done) | (simp; omega) | omega)
        clear hb
        clear ac0 ac1 bc0 bc1 cc0 cc1 zl
        have B3 := hid B3
        obtain ⟨ac0, ac1, bc0, bc1, cc0, cc1⟩ := K.out _ B3.out
        have zl : w.heap.size + 1 + 1 < u3.heap.size := by have h1 := ZV.out; have h2 := (B3.out).size; omega
        go_wp2_with fail
        refine bodyPost_ret (v := .tuple #[.int .i64 0, .int .i64 2]) (by simp [results, Try.results13, go_sem]) rfl ?_
        have hB := B3.out
        have hz := hB.size
        have hV := BV.out.trans (hB.mono BV.out.size)
        exact Gives.mk (by (have h := HR.out; simp at h; obtain ⟨rfl, rfl⟩ := h; rfl)) (by first | exact hV | (repeat' (first | (with_reducible exact Below.refl _ _) | (with_reducible refine Below.alloc ?_ ?_ _) | (with_reducible refine Below.setCell ?_ ?_ _) | (with_reducible refine Below.drew ?_) | (with_reducible refine Below.trans ?_ (Below.mono (by assumption) ?_)) | (simp; done) | (simp; omega) | omega)))
      · go_wp2_with fail
        refine ((vc _)).mono ?_
        rintro _ u3 ⟨rfl, hb⟩
        have B3 : Below V.heap.size V u3 := by have hB := B2.out; have hz := hB.size; repeat' (first | (with_reducible exact Below.refl _ _) | (with_reducible refine Below.alloc ?_ ?_ _) | (with_reducible refine Below.setCell ?_ ?_ _) | (with_reducible refine Below.drew ?_) | (with_reducible refine Below.trans ?_ (Below.mono (by assumption) ?_)) | (simp; done) | (simp; omega) | omega)
        clear hb
        clear ac0 ac1 bc0 bc1 cc0 cc1 zl
        have B3 := hid B3
        obtain ⟨ac0, ac1, bc0, bc1, cc0, cc1⟩ := K.out _ B3.out
        have zl : w.heap.size + 1 + 1 < u3.heap.size := by have h1 := ZV.out; have h2 := (B3.out).size; omega
        go_wp2_with fail
        refine ((DW.out (by first | trivial | rfl) (by first | trivial | rfl) (by first | trivial | rfl) _).mono (fun _ _ h => h.g)).mono ?_
        rintro _ u4 ⟨rfl, hb⟩
        have B4 : Below V.heap.size V u4 := by have hB := B3.out; have hz := hB.size; repeat' (first | (with_reducible exact Below.refl _ _) | (with_reducible refine Below.alloc ?_ ?_ _) | (with_reducible refine Below.setCell ?_ ?_ _) | (with_reducible refine Below.drew ?_) | (with_reducible refine Below.trans ?_ (Below.mono (by assumption) ?_)) | (simp; done) | (simp; omega) | omega)
        clear hb
        clear ac0 ac1 bc0 bc1 cc0 cc1 zl
        have B4 := hid B4
        obtain ⟨ac0, ac1, bc0, bc1, cc0, cc1⟩ := K.out _ B4.out
        have zl : w.heap.size + 1 + 1 < u4.heap.size := by have h1 := ZV.out; have h2 := (B4.out).size; omega
        go_wp2_with fail
        refine bodyPost_ret (v := .tuple #[.int .i64 v, .int .i64 0]) (by simp [results, Try.results13, go_sem]) rfl ?_
        have hB := B4.out
        have hz := hB.size
        have hV := BV.out.trans (hB.mono BV.out.size)
        exact Gives.mk (by (have h := HR.out; simp at h; obtain ⟨rfl, rfl⟩ := h; rfl)) (by first | exact hV | (repeat' (first | (with_reducible exact Below.refl _ _) | (with_reducible refine Below.alloc ?_ ?_ _) | (with_reducible refine Below.setCell ?_ ?_ _) | (with_reducible refine Below.drew ?_) | (with_reducible refine Below.trans ?_ (Below.mono (by assumption) ?_)) | (simp; done) | (simp; omega) | omega)))

set_option maxRecDepth 100000 in
set_option maxHeartbeats 4000000 in
theorem rDist2_any (a b : Sp.Pt) (w : World) :
    Calls Try.prog 19 #[.agg #[.int .i64 a.1, .int .i64 a.2], .agg #[.int .i64 b.1, .int .i64 b.2]] w (Gives (.tuple #[.int .i64 (Sp.dist2S a b).1, .int .i64 (Sp.dist2S a b).2]) w) := by
  have va := rvalid_any a
  have vb := rvalid_any b
  have dv := rsquare_any a b
  obtain ⟨⟨rx, ry⟩, hR⟩ : ∃ r, Sp.dist2S a b = r := ⟨_, rfl⟩
  rw [hR]
  unfold Sp.dist2S at hR
  generalize Sp.sq a b = v at dv hR
  generalize Sp.okP a = ea at va dv hR
  generalize Sp.okP b = eb at vb dv hR
  have HR := hid hR
  have DW := hid dv
  clear hR dv
  obtain ⟨a1, a2⟩ := a
  obtain ⟨b1, b2⟩ := b
  dsimp only at *
  obtain ⟨V, hV⟩ : ∃ V : World, ((w.alloc (Obj.cells #[.int .i64 (a1), .int .i64 (a2)] 23)).alloc (Obj.cells #[.int .i64 (b1), .int .i64 (b2)] 23)) = V := ⟨_, rfl⟩
  have bV : Below w.heap.size w V := by rw [← hV]; (repeat' (first | (with_reducible exact Below.refl _ _) | (with_reducible refine Below.alloc ?_ ?_ _) | (with_reducible refine Below.setCell ?_ ?_ _) | (with_reducible refine Below.drew ?_) | (with_reducible refine Below.trans ?_ (Below.mono (by assumption) ?_)) | (simp; done) | (simp; omega) | omega))
  have zV : V.heap.size = w.heap.size + 1 + 1 := by rw [← hV]; simp
  have dV : V.drawn = w.drawn := by rw [← hV]; rfl
  have K : Hid (∀ W' : World, Below V.heap.size V W' → (W'.cell? ⟨w.heap.size, 0, none⟩ = some (.int .i64 a1) ∧ W'.cell? ⟨w.heap.size, 1, none⟩ = some (.int .i64 a2) ∧ W'.cell? ⟨w.heap.size + 1, 0, none⟩ = some (.int .i64 b1) ∧ W'.cell? ⟨w.heap.size + 1, 1, none⟩ = some (.int .i64 b2))) := hid fun W' B => ⟨(B.cell (p := ⟨w.heap.size, 0, none⟩) (by simp only; omega)).trans (by rw [← hV]; simp [go_sem]), (B.cell (p := ⟨w.heap.size, 1, none⟩) (by simp only; omega)).trans (by rw [← hV]; simp [go_sem]), (B.cell (p := ⟨w.heap.size + 1, 0, none⟩) (by simp only; omega)).trans (by rw [← hV]; simp [go_sem]), (B.cell (p := ⟨w.heap.size + 1, 1, none⟩) (by simp only; omega)).trans (by rw [← hV]; simp [go_sem])⟩
  have HV := hid hV
  have BV := hid bV
  have ZV := hid zV
  have DV := hid dV
  clear hV bV zV dV
  go_enter Try.func19, Try.ntmps19
  go_upto_region 1 with fail
  rw [HV.out]
  obtain ⟨ac0, ac1, bc0, bc1⟩ := K.out _ (Below.refl _ _ : Below V.heap.size V V)
  have zl : w.heap.size + 1 < V.heap.size := by have h1 := ZV.out; have h2 := ((Below.refl _ _ : Below V.heap.size V V)).size; omega
  cases ea
  · go_wp2_with fail
    refine ((va _)).mono ?_
    rintro _ u1 ⟨rfl, hb⟩
    have B1 : Below V.heap.size V u1 := by have hB := (Below.refl _ _ : Below V.heap.size V V); have hz := hB.size; repeat' (first | (with_reducible exact Below.refl _ _) | (with_reducible refine Below.alloc ?_ ?_ _) | (with_reducible refine Below.setCell ?_ ?_ _) | (with_reducible refine Below.drew ?_) | (with_reducible refine Below.trans ?_ (Below.mono (by assumption) ?_)) | (simp; done) | (simp; omega) | omega)
    clear hb
    clear ac0 ac1 bc0 bc1 zl
    have B1 := hid B1
    obtain ⟨ac0, ac1, bc0, bc1⟩ := K.out _ B1.out
    have zl : w.heap.size + 1 < u1.heap.size := by have h1 := ZV.out; have h2 := (B1.out).size; omega
    go_wp2_with fail
    refine bodyPost_ret (v := .tuple #[.int .i64 0, .int .i64 2]) (by simp [results, Try.results19, go_sem]) rfl ?_
    have hB := B1.out
    have hz := hB.size
    have hV := BV.out.trans (hB.mono BV.out.size)
    exact Gives.mk (by (have h := HR.out; simp at h; obtain ⟨rfl, rfl⟩ := h; rfl)) (by first | exact hV | (repeat' (first | (with_reducible exact Below.refl _ _) | (with_reducible refine Below.alloc ?_ ?_ _) | (with_reducible refine Below.setCell ?_ ?_ _) | (with_reducible refine Below.drew ?_) | (with_reducible refine Below.trans ?_ (Below.mono (by assumption) ?_)) | (simp; done) | (simp; omega) | omega)))
  · go_wp2_with fail
    refine ((va _)).mono ?_
    rintro _ u1 ⟨rfl, hb⟩
    have B1 : Below V.heap.size V u1 := by have hB := (Below.refl _ _ : Below V.heap.size V V); have hz := hB.size; repeat' (first | (with_reducible exact Below.refl _ _) | (with_reducible refine Below.alloc ?_ ?_ _) | (with_reducible refine Below.setCell ?_ ?_ _) | (with_reducible refine Below.drew ?_) | (with_reducible refine Below.trans ?_ (Below.mono (by assumption) ?_)) | (simp; done) | (simp; omega) | omega)
    clear hb
    clear ac0 ac1 bc0 bc1 zl
    have B1 := hid B1
    obtain ⟨ac0, ac1, bc0, bc1⟩ := K.out _ B1.out
    have zl : w.heap.size + 1 < u1.heap.size := by have h1 := ZV.out; have h2 := (B1.out).size; omega
    cases eb
    · go_wp2_with fail
      refine ((vb _)).mono ?_
      rintro _ u2 ⟨rfl, hb⟩
      have B2 : Below V.heap.size V u2 := by have hB := B1.out; have hz := hB.size; repeat' (first | (with_reducible exact Below.refl _ _) | (with_reducible refine Below.alloc ?_ ?_ _) | (with_reducible refine Below.setCell ?_ ?_ _) | (with_reducible refine Below.drew ?_) | (with_reducible refine Below.trans ?_ (Below.mono (by assumption) ?_)) | (simp; done) | (simp; omega) | omega)
      clear hb
      clear ac0 ac1 bc0 bc1 zl
      have B2 := hid B2
      obtain ⟨ac0, ac1, bc0, bc1⟩ := K.out _ B2.out
      have zl : w.heap.size + 1 < u2.heap.size := by have h1 := ZV.out; have h2 := (B2.out).size; omega
      go_wp2_with fail
      refine bodyPost_ret (v := .tuple #[.int .i64 0, .int .i64 2]) (by simp [results, Try.results19, go_sem]) rfl ?_
      have hB := B2.out
      have hz := hB.size
      have hV := BV.out.trans (hB.mono BV.out.size)
      exact Gives.mk (by (have h := HR.out; simp at h; obtain ⟨rfl, rfl⟩ := h; rfl)) (by first | exact hV | (repeat' (first | (with_reducible exact Below.refl _ _) | (with_reducible refine Below.alloc ?_ ?_ _) | (with_reducible refine Below.setCell ?_ ?_ _) | (with_reducible refine Below.drew ?_) | (with_reducible refine Below.trans ?_ (Below.mono (by assumption) ?_)) | (simp; done) | (simp; omega) | omega)))
    · go_wp2_with fail
      refine ((vb _)).mono ?_
      rintro _ u2 ⟨rfl, hb⟩
      have B2 : Below V.heap.size V u2 := by have hB := B1.out; have hz := hB.size; repeat' (first | (with_reducible exact Below.refl _ _) | (with_reducible refine Below.alloc ?_ ?_ _) | (with_reducible refine Below.setCell ?_ ?_ _) | (with_reducible refine Below.drew ?_) | (with_reducible refine Below.trans ?_ (Below.mono (by assumption) ?_)) | (simp; done) | (simp; omega) | omega)
      clear hb
      clear ac0 ac1 bc0 bc1 zl
      have B2 := hid B2
      obtain ⟨ac0, ac1, bc0, bc1⟩ := K.out _ B2.out
      have zl : w.heap.size + 1 < u2.heap.size := by have h1 := ZV.out; have h2 := (B2.out).size; omega
      go_wp2_with fail
      refine ((DW.out (by first | trivial | rfl) (by first | trivial | rfl) _).mono (fun _ _ h => h.g)).mono ?_
      rintro _ u3 ⟨rfl, hb⟩
      have B3 : Below V.heap.size V u3 := by have hB := B2.out; have hz := hB.size; repeat' (first | (with_reducible exact Below.refl _ _) | (with_reducible refine Below.alloc ?_ ?_ _) | (with_reducible refine Below.setCell ?_ ?_ _) | (with_reducible refine Below.drew ?_) | (with_reducible refine Below.trans ?_ (Below.mono (by assumption) ?_)) | (simp; done) | (simp; omega) | omega)
      clear hb
      clear ac0 ac1 bc0 bc1 zl
      have B3 := hid B3
      obtain ⟨ac0, ac1, bc0, bc1⟩ := K.out _ B3.out
      have zl : w.heap.size + 1 < u3.heap.size := by have h1 := ZV.out; have h2 := (B3.out).size; omega
      go_wp2_with fail
      refine bodyPost_ret (v := .tuple #[.int .i64 v, .int .i64 0]) (by simp [results, Try.results19, go_sem]) rfl ?_
      have hB := B3.out
      have hz := hB.size
      have hV := BV.out.trans (hB.mono BV.out.size)
      exact Gives.mk (by (have h := HR.out; simp at h; obtain ⟨rfl, rfl⟩ := h; rfl)) (by first | exact hV | (repeat' (first | (with_reducible exact Below.refl _ _) | (with_reducible refine Below.alloc ?_ ?_ _) | (with_reducible refine Below.setCell ?_ ?_ _) | (with_reducible refine Below.drew ?_) | (with_reducible refine Below.trans ?_ (Below.mono (by assumption) ?_)) | (simp; done) | (simp; omega) | omega)))

set_option maxRecDepth 100000 in
set_option maxHeartbeats 4000000 in
theorem rOnSegment_any (p a b : Sp.Pt) (w : World) :
    Calls Try.prog 24 #[.agg #[.int .i64 p.1, .int .i64 p.2], .agg #[.int .i64 a.1, .int .i64 a.2], .agg #[.int .i64 b.1, .int .i64 b.2]] w (Gives (.tuple #[.bool (Sp.onsegS p a b).1, .int .i64 (Sp.onsegS p a b).2]) w) := by
  have vp := rvalid_any p
  have va := rvalid_any a
  have vb := rvalid_any b
  have dv := ron_any p a b
  obtain ⟨⟨rx, ry⟩, hR⟩ : ∃ r, Sp.onsegS p a b = r := ⟨_, rfl⟩
  rw [hR]
  unfold Sp.onsegS at hR
  generalize Sp.onS p a b = v at dv hR
  generalize Sp.okP p = ep at vp dv hR
  generalize Sp.okP a = ea at va dv hR
  generalize Sp.okP b = eb at vb dv hR
  have HR := hid hR
  have DW := hid dv
  clear hR dv
  obtain ⟨p1, p2⟩ := p
  obtain ⟨a1, a2⟩ := a
  obtain ⟨b1, b2⟩ := b
  dsimp only at *
  obtain ⟨V, hV⟩ : ∃ V : World, (((w.alloc (Obj.cells #[.int .i64 (p1), .int .i64 (p2)] 23)).alloc (Obj.cells #[.int .i64 (a1), .int .i64 (a2)] 23)).alloc (Obj.cells #[.int .i64 (b1), .int .i64 (b2)] 23)) = V := ⟨_, rfl⟩
  have bV : Below w.heap.size w V := by rw [← hV]; (repeat' (first | (with_reducible exact Below.refl _ _) | (with_reducible refine Below.alloc ?_ ?_ _) | (with_reducible refine Below.setCell ?_ ?_ _) | (with_reducible refine Below.drew ?_) | (with_reducible refine Below.trans ?_ (Below.mono (by assumption) ?_)) | (simp; done) | (simp; omega) | omega))
  have zV : V.heap.size = w.heap.size + 1 + 1 + 1 := by rw [← hV]; simp
  have dV : V.drawn = w.drawn := by rw [← hV]; rfl
  have K : Hid (∀ W' : World, Below V.heap.size V W' → (W'.cell? ⟨w.heap.size, 0, none⟩ = some (.int .i64 p1) ∧ W'.cell? ⟨w.heap.size, 1, none⟩ = some (.int .i64 p2) ∧ W'.cell? ⟨w.heap.size + 1, 0, none⟩ = some (.int .i64 a1) ∧ W'.cell? ⟨w.heap.size + 1, 1, none⟩ = some (.int .i64 a2) ∧ W'.cell? ⟨w.heap.size + 1 + 1, 0, none⟩ = some (.int .i64 b1) ∧ W'.cell? ⟨w.heap.size + 1 + 1, 1, none⟩ = some (.int .i64 b2))) := hid fun W' B => ⟨(B.cell (p := ⟨w.heap.size, 0, none⟩) (by simp only; omega)).trans (by rw [← hV]; simp [go_sem]), (B.cell (p := ⟨w.heap.size, 1, none⟩) (by simp only; omega)).trans (by rw [← hV]; simp [go_sem]), (B.cell (p := ⟨w.heap.size + 1, 0, none⟩) (by simp only; omega)).trans (by rw [← hV]; simp [go_sem]), (B.cell (p := ⟨w.heap.size + 1, 1, none⟩) (by simp only; omega)).trans (by rw [← hV]; simp [go_sem]), (B.cell (p := ⟨w.heap.size + 1 + 1, 0, none⟩) (by simp only; omega)).trans (by rw [← hV]; simp [go_sem]), (B.cell (p := ⟨w.heap.size + 1 + 1, 1, none⟩) (by simp only; omega)).trans (by rw [← hV]; simp [go_sem])⟩
  have HV := hid hV
  have BV := hid bV
  have ZV := hid zV
  have DV := hid dV
  clear hV bV zV dV
  go_enter Try.func24, Try.ntmps24
  go_upto_region 1 with fail
  rw [HV.out]
  obtain ⟨pc0, pc1, ac0, ac1, bc0, bc1⟩ := K.out _ (Below.refl _ _ : Below V.heap.size V V)
  have zl : w.heap.size + 1 + 1 < V.heap.size := by have h1 := ZV.out; have h2 := ((Below.refl _ _ : Below V.heap.size V V)).size; omega
  cases ep
  · go_wp2_with fail
    refine ((vp _)).mono ?_
    rintro _ u1 ⟨rfl, hb⟩
    have B1 : Below V.heap.size V u1 := by have hB := (Below.refl _ _ : Below V.heap.size V V); have hz := hB.size; repeat' (first | (with_reducible exact Below.refl _ _) | (with_reducible refine Below.alloc ?_ ?_ _) | (with_reducible refine Below.setCell ?_ ?_ _) | (with_reducible refine Below.drew ?_) | (with_reducible refine Below.trans ?_ (Below.mono (by assumption) ?_)) | (simp; done) | (simp; omega) | omega)
    clear hb
    clear pc0 pc1 ac0 ac1 bc0 bc1 zl
    have B1 := hid B1
    obtain ⟨pc0, pc1, ac0, ac1, bc0, bc1⟩ := K.out _ B1.out
    have zl : w.heap.size + 1 + 1 < u1.heap.size := by have h1 := ZV.out; have h2 := (B1.out).size; omega
    go_wp2_with fail
    refine bodyPost_ret (v := .tuple #[.bool false, .int .i64 2]) (by simp [results, Try.results24, go_sem]) rfl ?_
    have hB := B1.out
    have hz := hB.size
    have hV := BV.out.trans (hB.mono BV.out.size)
    exact Gives.mk (by (have h := HR.out; simp at h; obtain ⟨rfl, rfl⟩ := h; rfl)) (by first | exact hV | (repeat' (first | (with_reducible exact Below.refl _ _) | (with_reducible refine Below.alloc ?_ ?_ _) | (with_reducible refine Below.setCell ?_ ?_ _) | (with_reducible refine Below.drew ?_) | (with_reducible refine Below.trans ?_ (Below.mono (by assumption) ?_)) | (simp; done) | (simp; omega) | omega)))
  · go_wp2_with fail
    refine ((vp _)).mono ?_
    rintro _ u1 ⟨rfl, hb⟩
    have B1 : Below V.heap.size V u1 := by have hB := (Below.refl _ _ : Below V.heap.size V V); have hz := hB.size; repeat' (first | (with_reducible exact Below.refl _ _) | (with_reducible refine Below.alloc ?_ ?_ _) | (with_reducible refine Below.setCell ?_ ?_ _) | (with_reducible refine Below.drew ?_) | (with_reducible refine Below.trans ?_ (Below.mono (by assumption) ?_)) | (simp; done) | (simp; omega) | omega)
    clear hb
    clear pc0 pc1 ac0 ac1 bc0 bc1 zl
    have B1 := hid B1
    obtain ⟨pc0, pc1, ac0, ac1, bc0, bc1⟩ := K.out _ B1.out
    have zl : w.heap.size + 1 + 1 < u1.heap.size := by have h1 := ZV.out; have h2 := (B1.out).size; omega
    cases ea
    · go_wp2_with fail
      refine ((va _)).mono ?_
      rintro _ u2 ⟨rfl, hb⟩
      have B2 : Below V.heap.size V u2 := by have hB := B1.out; have hz := hB.size; repeat' (first | (with_reducible exact Below.refl _ _) | (with_reducible refine Below.alloc ?_ ?_ _) | (with_reducible refine Below.setCell ?_ ?_ _) | (with_reducible refine Below.drew ?_) | (with_reducible refine Below.trans ?_ (Below.mono (by assumption) ?_)) | (simp; done) | (simp; omega) | omega)
      clear hb
      clear pc0 pc1 ac0 ac1 bc0 bc1 zl
      have B2 := hid B2
      obtain ⟨pc0, pc1, ac0, ac1, bc0, bc1⟩ := K.out _ B2.out
      have zl : w.heap.size + 1 + 1 < u2.heap.size := by have h1 := ZV.out; have h2 := (B2.out).size; omega
      go_wp2_with fail
      refine bodyPost_ret (v := .tuple #[.bool false, .int .i64 2]) (by simp [results, Try.results24, go_sem]) rfl ?_
      have hB := B2.out
      have hz := hB.size
      have hV := BV.out.trans (hB.mono BV.out.size)
      exact Gives.mk (by (have h := HR.out; simp at h; obtain ⟨rfl, rfl⟩ := h; rfl)) (by first | exact hV | (repeat' (first | (with_reducible exact Below.refl _ _) | (with_reducible refine Below.alloc ?_ ?_ _) | (with_reducible refine Below.setCell ?_ ?_ _) | (with_reducible refine Below.drew ?_) | (with_reducible refine Below.trans ?_ (Below.mono (by assumption) ?_)) | (simp; done) | (simp; omega) | omega)))
    · go_wp2_with fail
      refine ((va _)).mono ?_
      rintro _ u2 ⟨rfl, hb⟩
      have B2 : Below V.heap.size V u2 := by have hB := B1.out; have hz := hB.size; repeat' (first | (with_reducible exact Below.refl _ _) | (with_reducible refine Below.alloc ?_ ?_ _) | (with_reducible refine Below.setCell ?_ ?_ _) | (with_reducible refine Below.drew ?_) | (with_reducible refine Below.trans ?_ (Below.mono (by assumption) ?_)) | (simp; done) | (simp; omega) | omega)
      clear hb
      clear pc0 pc1 ac0 ac1 bc0 bc1 zl
      have B2 := hid B2
      obtain ⟨pc0, pc1, ac0, ac1, bc0, bc1⟩ := K.out _ B2.out
      have zl : w.heap.size + 1 + 1 < u2.heap.size := by have h1 := ZV.out; have h2 := (B2.out).size; omega
      cases eb
      · go_wp2_with fail
        refine ((vb _)).mono ?_
        rintro _ u3 ⟨rfl, hb⟩
        have B3 : Below V.heap.size V u3 := by have hB := B2.out; have hz := hB.size; repeat' (first | (with_reducible exact Below.refl _ _) | (with_reducible refine Below.alloc ?_ ?_ _) | (with_reducible refine Below.setCell ?_ ?_ _) | (with_reducible refine Below.drew ?_) | (with_reducible refine Below.trans ?_ (Below.mono (by assumption) ?_)) | (simp; done) | (simp; omega) | omega)
        clear hb
        clear pc0 pc1 ac0 ac1 bc0 bc1 zl
        have B3 := hid B3
        obtain ⟨pc0, pc1, ac0, ac1, bc0, bc1⟩ := K.out _ B3.out
        have zl : w.heap.size + 1 + 1 < u3.heap.size := by have h1 := ZV.out; have h2 := (B3.out).size; omega
        go_wp2_with fail
        refine bodyPost_ret (v := .tuple #[.bool false, .int .i64 2]) (by simp [results, Try.results24, go_sem]) rfl ?_
        have hB := B3.out
        have hz := hB.size
        have hV := BV.out.trans (hB.mono BV.out.size)
        exact Gives.mk (by (have h := HR.out; simp at h; obtain ⟨rfl, rfl⟩ := h; rfl)) (by first | exact hV | (repeat' (first | (with_reducible exact Below.refl _ _) | (with_reducible refine Below.alloc ?_ ?_ _) | (with_reducible refine Below.setCell ?_ ?_ _) | (with_reducible refine Below.drew ?_) | (with_reducible refine Below.trans ?_ (Below.mono (by assumption) ?_)) | (simp; done) | (simp; omega) | omega)))
      · go_wp2_with fail
        refine ((vb _)).mono ?_
        rintro _ u3 ⟨rfl, hb⟩
        have B3 : Below V.heap.size V u3 := by have hB := B2.out; have hz := hB.size; repeat' (first | (with_reducible exact Below.refl _ _) | (with_reducible refine Below.alloc ?_ ?_ _) | (with_reducible refine Below.setCell ?_ ?_ _) | (with_reducible refine Below.drew ?_) | (with_reducible refine Below.trans ?_ (Below.mono (by assumption) ?_)) | (simp; done) | (simp; omega) | omega)
        clear hb
        clear pc0 pc1 ac0 ac1 bc0 bc1 zl
        have B3 := hid B3
        obtain ⟨pc0, pc1, ac0, ac1, bc0, bc1⟩ := K.out _ B3.out
        have zl : w.heap.size + 1 + 1 < u3.heap.size := by have h1 := ZV.out; have h2 := (B3.out).size; omega
        go_wp2_with fail
        refine ((DW.out (by first | trivial | rfl) (by first | trivial | rfl) (by first | trivial | rfl) _).mono (fun _ _ h => h.g)).mono ?_
        rintro _ u4 ⟨rfl, hb⟩
        have B4 : Below V.heap.size V u4 := by have hB := B3.out; have hz := hB.size; repeat' (first | (with_reducible exact Below.refl _ _) | (with_reducible refine Below.alloc ?_ ?_ _) | (with_reducible refine Below.setCell ?_ ?_ _) | (with_reducible refine Below.drew ?_) | (with_reducible refine Below.trans ?_ (Below.mono (by assumption) ?_)) | (simp; done) | (simp; omega) | omega)
        clear hb
        clear pc0 pc1 ac0 ac1 bc0 bc1 zl
        have B4 := hid B4
        obtain ⟨pc0, pc1, ac0, ac1, bc0, bc1⟩ := K.out _ B4.out
        have zl : w.heap.size + 1 + 1 < u4.heap.size := by have h1 := ZV.out; have h2 := (B4.out).size; omega
        go_wp2_with fail
        refine bodyPost_ret (v := .tuple #[.bool v, .int .i64 0]) (by simp [results, Try.results24, go_sem]) rfl ?_
        have hB := B4.out
        have hz := hB.size
        have hV := BV.out.trans (hB.mono BV.out.size)
        exact Gives.mk (by (have h := HR.out; simp at h; obtain ⟨rfl, rfl⟩ := h; rfl)) (by first | exact hV | (repeat' (first | (with_reducible exact Below.refl _ _) | (with_reducible refine Below.alloc ?_ ?_ _) | (with_reducible refine Below.setCell ?_ ?_ _) | (with_reducible refine Below.drew ?_) | (with_reducible refine Below.trans ?_ (Below.mono (by assumption) ?_)) | (simp; done) | (simp; omega) | omega)))

set_option maxRecDepth 100000 in
set_option maxHeartbeats 4000000 in
theorem rOrient_any (a b c : Sp.Pt) (w : World) :
    Calls Try.prog 17 #[.agg #[.int .i64 a.1, .int .i64 a.2], .agg #[.int .i64 b.1, .int .i64 b.2], .agg #[.int .i64 c.1, .int .i64 c.2]] w (Gives (.tuple #[.int .i64 (Sp.orientS a b c).1, .int .i64 (Sp.orientS a b c).2]) w) := by
  have dv := rCross_any a b c
  have e : Sp.orientS a b c = (Sp.sg (Sp.crossS a b c).1, (Sp.crossS a b c).2) := by unfold Sp.orientS Sp.crossS; split <;> rfl
  rw [e]
  generalize Sp.crossS a b c = r at dv ⊢
  obtain ⟨v, x⟩ := r
  have sv := rsign_any v
  dsimp only at dv ⊢
  generalize Sp.sg v = s at sv ⊢
  clear e
  obtain ⟨a1, a2⟩ := a
  obtain ⟨b1, b2⟩ := b
  obtain ⟨c1, c2⟩ := c
  dsimp only at *
  obtain ⟨V, hV⟩ : ∃ V : World, (((w.alloc (Obj.cells #[.int .i64 (a1), .int .i64 (a2)] 23)).alloc (Obj.cells #[.int .i64 (b1), .int .i64 (b2)] 23)).alloc (Obj.cells #[.int .i64 (c1), .int .i64 (c2)] 23)) = V := ⟨_, rfl⟩
  have bV : Below w.heap.size w V := by rw [← hV]; (repeat' (first | (with_reducible exact Below.refl _ _) | (with_reducible refine Below.alloc ?_ ?_ _) | (with_reducible refine Below.setCell ?_ ?_ _) | (with_reducible refine Below.drew ?_) | (with_reducible refine Below.trans ?_ (Below.mono (by assumption) ?_)) | (simp; done) | (simp; omega) | omega))
  have zV : V.heap.size = w.heap.size + 1 + 1 + 1 := by rw [← hV]; simp
  have dV : V.drawn = w.drawn := by rw [← hV]; rfl
  have K : Hid (∀ W' : World, Below V.heap.size V W' → (W'.cell? ⟨w.heap.size, 0, none⟩ = some (.int .i64 a1) ∧ W'.cell? ⟨w.heap.size, 1, none⟩ = some (.int .i64 a2) ∧ W'.cell? ⟨w.heap.size + 1, 0, none⟩ = some (.int .i64 b1) ∧ W'.cell? ⟨w.heap.size + 1, 1, none⟩ = some (.int .i64 b2) ∧ W'.cell? ⟨w.heap.size + 1 + 1, 0, none⟩ = some (.int .i64 c1) ∧ W'.cell? ⟨w.heap.size + 1 + 1, 1, none⟩ = some (.int .i64 c2))) := hid fun W' B => ⟨(B.cell (p := ⟨w.heap.size, 0, none⟩) (by simp only; omega)).trans (by rw [← hV]; simp [go_sem]), (B.cell (p := ⟨w.heap.size, 1, none⟩) (by simp only; omega)).trans (by rw [← hV]; simp [go_sem]), (B.cell (p := ⟨w.heap.size + 1, 0, none⟩) (by simp only; omega)).trans (by rw [← hV]; simp [go_sem]), (B.cell (p := ⟨w.heap.size + 1, 1, none⟩) (by simp only; omega)).trans (by rw [← hV]; simp [go_sem]), (B.cell (p := ⟨w.heap.size + 1 + 1, 0, none⟩) (by simp only; omega)).trans (by rw [← hV]; simp [go_sem]), (B.cell (p := ⟨w.heap.size + 1 + 1, 1, none⟩) (by simp only; omega)).trans (by rw [← hV]; simp [go_sem])⟩
  have HV := hid hV
  have BV := hid bV
  have ZV := hid zV
  have DV := hid dV
  clear hV bV zV dV
  go_enter Try.func17, Try.ntmps17
  go_upto_region 1 with fail
  rw [HV.out]
  obtain ⟨ac0, ac1, bc0, bc1, cc0, cc1⟩ := K.out _ (Below.refl _ _ : Below V.heap.size V V)
  have zl : w.heap.size + 1 + 1 < V.heap.size := by have h1 := ZV.out; have h2 := ((Below.refl _ _ : Below V.heap.size V V)).size; omega
  go_wp2_with fail
  refine ((dv _)).mono ?_
  rintro _ u1 ⟨rfl, hb⟩
  have B1 : Below V.heap.size V u1 := by have hB := (Below.refl _ _ : Below V.heap.size V V); have hz := hB.size; repeat' (first | (with_reducible exact Below.refl _ _) | (with_reducible refine Below.alloc ?_ ?_ _) | (with_reducible refine Below.setCell ?_ ?_ _) | (with_reducible refine Below.drew ?_) | (with_reducible refine Below.trans ?_ (Below.mono (by assumption) ?_)) | (simp; done) | (simp; omega) | omega)
  clear hb
  clear ac0 ac1 bc0 bc1 cc0 cc1 zl
  have B1 := hid B1
  obtain ⟨ac0, ac1, bc0, bc1, cc0, cc1⟩ := K.out _ B1.out
  have zl : w.heap.size + 1 + 1 < u1.heap.size := by have h1 := ZV.out; have h2 := (B1.out).size; omega
  go_wp2_with fail
  refine (sv _).mono ?_
  rintro _ uq ⟨rfl, rfl⟩
  go_wp2_with fail
  refine bodyPost_ret (v := .tuple #[.int .i64 s, .int .i64 x]) (by simp [results, Try.results17, go_sem]) rfl ?_
  have hB := B1.out
  have hz := hB.size
  have hV := BV.out.trans (hB.mono BV.out.size)
  exact Gives.mk (rfl) (by first | exact hV | (repeat' (first | (with_reducible exact Below.refl _ _) | (with_reducible refine Below.alloc ?_ ?_ _) | (with_reducible refine Below.setCell ?_ ?_ _) | (with_reducible refine Below.drew ?_) | (with_reducible refine Below.trans ?_ (Below.mono (by assumption) ?_)) | (simp; done) | (simp; omega) | omega)))

end Go.Proofs.Ytfdnmlggemonhaa
