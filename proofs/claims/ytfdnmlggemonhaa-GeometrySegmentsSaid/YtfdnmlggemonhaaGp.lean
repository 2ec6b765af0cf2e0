/-
  Layer 7: Within, Both, Meet, Near, Close of the reference, by contract. Written by tools/gen_gp.py.
-/
import Derived.Test.YtfdnmlggemonhaaGo
import Derived.Test.YtfdnmlggemonhaaGf
import Derived.Test.YtfdnmlggemonhaaWreftimes2
namespace Go.Proofs.Ytfdnmlggemonhaa
open Go.RowKit
set_option linter.unusedVariables false
set_option linter.unusedSimpArgs false

set_option maxRecDepth 100000 in
set_option maxHeartbeats 4000000 in
theorem rwithin_any (p a b : Sp.Pt) (r : Int) (hp : Sp.okP p = true) (ha : Sp.okP a = true) (hb : Sp.okP b = true) (r0 : 0 ≤ r) (r1 : r ≤ 200000) (w : World) :
    Calls Try.prog 55 #[.agg #[.int .i64 p.1, .int .i64 p.2], .agg #[.int .i64 a.1, .int .i64 a.2], .agg #[.int .i64 b.1, .int .i64 b.2], .int .i64 r] w (Gives (.bool (Sp.nearS p a b r)) w) := by
  have d1 := rsquare_any p a hp ha
  have d2 := rsquare_any p b hp hb
  have d3 := rsquare_any a b ha hb
  have d4 := rturn_any a b p ha hb hp
  have tw := dt_w ha hp hb
  have c5 := Sp.crs_b ha hb hp
  have lb := Sp.sq_b ha hb
  obtain ⟨rr, hrr⟩ : ∃ x, r * r = x := ⟨_, rfl⟩
  have q0 : 0 ≤ rr := by rw [← hrr]; exact Int.mul_nonneg r0 r0
  have q1 : rr ≤ 40000000000 := by rw [← hrr]; exact Int.mul_le_mul r1 r1 r0 (by omega)
  obtain ⟨R, hR⟩ : ∃ R, Sp.nearS p a b r = R := ⟨_, rfl⟩
  rw [hR]
  rw [Sp.near_ref, hrr] at hR
  have w1 : wrap64 (r * r) = rr := by rw [hrr]; exact w64 _ (by omega)
  generalize Sp.sq p a = X at *
  generalize Sp.sq p b = Y at *
  generalize Sp.sq a b = L at *
  generalize Sp.dt a p b = T at *
  generalize Sp.crs a b p = A at *
  have d6 := rwProducts_any A A rr L (by omega) (by omega) (by omega) (by omega) (by omega) (by omega) (by omega) (by omega)
  have ce := cmpI_le (A * A) (rr * L)
  generalize Wd.cmpI (A * A) (rr * L) = C at d6 ce
  have HR := hid hR
  have CE := hid ce
  clear hp ha hb r0 r1 c5 lb q0 q1 hR ce hrr
  obtain ⟨p1, p2⟩ := p
  obtain ⟨a1, a2⟩ := a
  obtain ⟨b1, b2⟩ := b
  dsimp only at *
  obtain ⟨V, hV⟩ : ∃ V : World, (((w.alloc (Obj.cells #[.int .i64 (p1), .int .i64 (p2)] 23)).alloc (Obj.cells #[.int .i64 (a1), .int .i64 (a2)] 23)).alloc (Obj.cells #[.int .i64 (b1), .int .i64 (b2)] 23)) = V := ⟨_, rfl⟩
  have bV : Below w.heap.size w V := by rw [← hV]; (repeat' (first | (with_reducible exact Below.refl _ _) | (with_reducible refine Below.alloc ?_ ?_ _) | (with_reducible refine Below.setCell ?_ ?_ _) | (with_reducible refine Below.drew ?_) | (with_reducible refine Below.trans ?_ (Below.mono (by assumption) ?_)) | (simp; done) | (simp; omega) | omega))
  have zV : V.heap.size = w.heap.size + 1 + 1 + 1 := by rw [← hV]; simp
  have dV : V.drawn = w.drawn := by rw [← hV]; rfl
  have K : Hid (∀ W' : World, Below V.heap.size V W' → (W'.cell? ⟨w.heap.size, 0, none⟩ = some (.int .i64 p1) ∧ W'.cell? ⟨w.heap.size, 1, none⟩ = some (.int .i64 p2) ∧ W'.cell? ⟨w.heap.size + 1, 0, none⟩ = some (.int .i64 a1) ∧ W'.cell? ⟨w.heap.size + 1, 1, none⟩ = some (.int .i64 a2) ∧ W'.cell? ⟨w.heap.size + 1 + 1, 0, none⟩ = some (.int .i64 b1) ∧ W'.cell? ⟨w.heap.size + 1 + 1, 1, none⟩ = some (.int .i64 b2))) := hid fun W' B => ⟨(B.cell (p := ⟨w.heap.size, 0, none⟩) (by simp only; omega)).trans (by rw [← hV]; simp [go_sem]), (B.cell (p := ⟨w.heap.size, 1, none⟩) (by simp only; omega)).trans (by rw [← hV]; simp [go_sem]), (B.cell (p := ⟨w.heap.size + 1, 0, none⟩) (by simp only; omega)).trans (by rw [← hV]; simp [go_sem]), (B.cell (p := ⟨w.heap.size + 1, 1, none⟩) (by simp only; omega)).trans (by rw [← hV]; simp [go_sem]), (B.cell (p := ⟨w.heap.size + 1 + 1, 0, none⟩) (by simp only; omega)).trans (by rw [← hV]; simp [go_sem]), (B.cell (p := ⟨w.heap.size + 1 + 1, 1, none⟩) (by simp only; omega)).trans (by rw [← hV]; simp [go_sem])⟩
  have HV := hid hV
  have BV := hid bV
  have ZV := hid zV
  have DV := hid dV
  clear hV bV zV dV
  go_enter Try.func55, Try.ntmps55
  go_upto_region 1 with fail
  rw [HV.out]
  obtain ⟨pc0, pc1, ac0, ac1, bc0, bc1⟩ := K.out _ (Below.refl _ _ : Below V.heap.size V V)
  have zl : w.heap.size + 1 + 1 < V.heap.size := by have h1 := ZV.out; have h2 := ((Below.refl _ _ : Below V.heap.size V V)).size; omega
  rcases Classical.em (X ≤ rr) with y1 | y1
  · go_wp2_with fail
    refine ((d1 _).mono (fun _ _ h => h.g)).mono ?_
    rintro _ u1 ⟨rfl, hb⟩
    have B1 : Below V.heap.size V u1 := by have hB := (Below.refl _ _ : Below V.heap.size V V); have hz := hB.size; repeat' (first | (with_reducible exact Below.refl _ _) | (with_reducible refine Below.alloc ?_ ?_ _) | (with_reducible refine Below.setCell ?_ ?_ _) | (with_reducible refine Below.drew ?_) | (with_reducible refine Below.trans ?_ (Below.mono (by assumption) ?_)) | (simp; done) | (simp; omega) | omega)
    clear hb
    clear pc0 pc1 ac0 ac1 bc0 bc1 zl
    have B1 := hid B1
    obtain ⟨pc0, pc1, ac0, ac1, bc0, bc1⟩ := K.out _ B1.out
    have zl : w.heap.size + 1 + 1 < u1.heap.size := by have h1 := ZV.out; have h2 := (B1.out).size; omega
    go_wp2_with fail
    go_ret
    have hB := B1.out
    have hz := hB.size
    have hV := BV.out.trans (hB.mono BV.out.size)
    exact Gives.mk (congrArg Value.bool (by have h := HR.out; rw [decide_eq_true (show X ≤ rr by omega)] at h; simpa using h.symm)) (by first | exact hV | (repeat' (first | (with_reducible exact Below.refl _ _) | (with_reducible refine Below.alloc ?_ ?_ _) | (with_reducible refine Below.setCell ?_ ?_ _) | (with_reducible refine Below.drew ?_) | (with_reducible refine Below.trans ?_ (Below.mono (by assumption) ?_)) | (simp; done) | (simp; omega) | omega)))
  · rcases Classical.em (Y ≤ rr) with y2 | y2
    · go_wp2_with fail
      refine ((d1 _).mono (fun _ _ h => h.g)).mono ?_
      rintro _ u1 ⟨rfl, hb⟩
      have B1 : Below V.heap.size V u1 := by have hB := (Below.refl _ _ : Below V.heap.size V V); have hz := hB.size; repeat' (first | (with_reducible exact Below.refl _ _) | (with_reducible refine Below.alloc ?_ ?_ _) | (with_reducible refine Below.setCell ?_ ?_ _) | (with_reducible refine Below.drew ?_) | (with_reducible refine Below.trans ?_ (Below.mono (by assumption) ?_)) | (simp; done) | (simp; omega) | omega)
      clear hb
      clear pc0 pc1 ac0 ac1 bc0 bc1 zl
      have B1 := hid B1
      obtain ⟨pc0, pc1, ac0, ac1, bc0, bc1⟩ := K.out _ B1.out
      have zl : w.heap.size + 1 + 1 < u1.heap.size := by have h1 := ZV.out; have h2 := (B1.out).size; omega
      go_wp2_with fail
      refine ((d2 _).mono (fun _ _ h => h.g)).mono ?_
      rintro _ u2 ⟨rfl, hb⟩
      have B2 : Below V.heap.size V u2 := by have hB := B1.out; have hz := hB.size; repeat' (first | (with_reducible exact Below.refl _ _) | (with_reducible refine Below.alloc ?_ ?_ _) | (with_reducible refine Below.setCell ?_ ?_ _) | (with_reducible refine Below.drew ?_) | (with_reducible refine Below.trans ?_ (Below.mono (by assumption) ?_)) | (simp; done) | (simp; omega) | omega)
      clear hb
      clear pc0 pc1 ac0 ac1 bc0 bc1 zl
      have B2 := hid B2
      obtain ⟨pc0, pc1, ac0, ac1, bc0, bc1⟩ := K.out _ B2.out
      have zl : w.heap.size + 1 + 1 < u2.heap.size := by have h1 := ZV.out; have h2 := (B2.out).size; omega
      go_wp2_with fail
      go_ret
      have hB := B2.out
      have hz := hB.size
      have hV := BV.out.trans (hB.mono BV.out.size)
      exact Gives.mk (congrArg Value.bool (by have h := HR.out; rw [decide_eq_false (show ¬ X ≤ rr by omega), decide_eq_true (show Y ≤ rr by omega)] at h; simpa using h.symm)) (by first | exact hV | (repeat' (first | (with_reducible exact Below.refl _ _) | (with_reducible refine Below.alloc ?_ ?_ _) | (with_reducible refine Below.setCell ?_ ?_ _) | (with_reducible refine Below.drew ?_) | (with_reducible refine Below.trans ?_ (Below.mono (by assumption) ?_)) | (simp; done) | (simp; omega) | omega)))
    · rcases Classical.em (T ≤ 0) with y3 | y3
      · go_wp2_with fail
        refine ((d1 _).mono (fun _ _ h => h.g)).mono ?_
        rintro _ u1 ⟨rfl, hb⟩
        have B1 : Below V.heap.size V u1 := by have hB := (Below.refl _ _ : Below V.heap.size V V); have hz := hB.size; repeat' (first | (with_reducible exact Below.refl _ _) | (with_reducible refine Below.alloc ?_ ?_ _) | (with_reducible refine Below.setCell ?_ ?_ _) | (with_reducible refine Below.drew ?_) | (with_reducible refine Below.trans ?_ (Below.mono (by assumption) ?_)) | (simp; done) | (simp; omega) | omega)
        clear hb
        clear pc0 pc1 ac0 ac1 bc0 bc1 zl
        have B1 := hid B1
        obtain ⟨pc0, pc1, ac0, ac1, bc0, bc1⟩ := K.out _ B1.out
        have zl : w.heap.size + 1 + 1 < u1.heap.size := by have h1 := ZV.out; have h2 := (B1.out).size; omega
        go_wp2_with fail
        refine ((d2 _).mono (fun _ _ h => h.g)).mono ?_
        rintro _ u2 ⟨rfl, hb⟩
        have B2 : Below V.heap.size V u2 := by have hB := B1.out; have hz := hB.size; repeat' (first | (with_reducible exact Below.refl _ _) | (with_reducible refine Below.alloc ?_ ?_ _) | (with_reducible refine Below.setCell ?_ ?_ _) | (with_reducible refine Below.drew ?_) | (with_reducible refine Below.trans ?_ (Below.mono (by assumption) ?_)) | (simp; done) | (simp; omega) | omega)
        clear hb
        clear pc0 pc1 ac0 ac1 bc0 bc1 zl
        have B2 := hid B2
        obtain ⟨pc0, pc1, ac0, ac1, bc0, bc1⟩ := K.out _ B2.out
        have zl : w.heap.size + 1 + 1 < u2.heap.size := by have h1 := ZV.out; have h2 := (B2.out).size; omega
        go_wp2_with fail
        go_ret
        have hB := B2.out
        have hz := hB.size
        have hV := BV.out.trans (hB.mono BV.out.size)
        exact Gives.mk (congrArg Value.bool (by have h := HR.out; rw [decide_eq_false (show ¬ X ≤ rr by omega), decide_eq_false (show ¬ Y ≤ rr by omega), decide_eq_true (show T ≤ 0 by omega)] at h; simpa using h.symm)) (by first | exact hV | (repeat' (first | (with_reducible exact Below.refl _ _) | (with_reducible refine Below.alloc ?_ ?_ _) | (with_reducible refine Below.setCell ?_ ?_ _) | (with_reducible refine Below.drew ?_) | (with_reducible refine Below.trans ?_ (Below.mono (by assumption) ?_)) | (simp; done) | (simp; omega) | omega)))
      · rcases Classical.em (L ≤ T) with y4 | y4
        · go_wp2_with fail
          refine ((d1 _).mono (fun _ _ h => h.g)).mono ?_
          rintro _ u1 ⟨rfl, hb⟩
          have B1 : Below V.heap.size V u1 := by have hB := (Below.refl _ _ : Below V.heap.size V V); have hz := hB.size; repeat' (first | (with_reducible exact Below.refl _ _) | (with_reducible refine Below.alloc ?_ ?_ _) | (with_reducible refine Below.setCell ?_ ?_ _) | (with_reducible refine Below.drew ?_) | (with_reducible refine Below.trans ?_ (Below.mono (by assumption) ?_)) | (simp; done) | (simp; omega) | omega)
          clear hb
          clear pc0 pc1 ac0 ac1 bc0 bc1 zl
          have B1 := hid B1
          obtain ⟨pc0, pc1, ac0, ac1, bc0, bc1⟩ := K.out _ B1.out
          have zl : w.heap.size + 1 + 1 < u1.heap.size := by have h1 := ZV.out; have h2 := (B1.out).size; omega
          go_wp2_with fail
          refine ((d2 _).mono (fun _ _ h => h.g)).mono ?_
          rintro _ u2 ⟨rfl, hb⟩
          have B2 : Below V.heap.size V u2 := by have hB := B1.out; have hz := hB.size; repeat' (first | (with_reducible exact Below.refl _ _) | (with_reducible refine Below.alloc ?_ ?_ _) | (with_reducible refine Below.setCell ?_ ?_ _) | (with_reducible refine Below.drew ?_) | (with_reducible refine Below.trans ?_ (Below.mono (by assumption) ?_)) | (simp; done) | (simp; omega) | omega)
          clear hb
          clear pc0 pc1 ac0 ac1 bc0 bc1 zl
          have B2 := hid B2
          obtain ⟨pc0, pc1, ac0, ac1, bc0, bc1⟩ := K.out _ B2.out
          have zl : w.heap.size + 1 + 1 < u2.heap.size := by have h1 := ZV.out; have h2 := (B2.out).size; omega
          go_wp2_with fail
          refine ((d3 _).mono (fun _ _ h => h.g)).mono ?_
          rintro _ u3 ⟨rfl, hb⟩
          have B3 : Below V.heap.size V u3 := by have hB := B2.out; have hz := hB.size; repeat' (first | (with_reducible exact Below.refl _ _) | (with_reducible refine Below.alloc ?_ ?_ _) | (with_reducible refine Below.setCell ?_ ?_ _) | (with_reducible refine Below.drew ?_) | (with_reducible refine Below.trans ?_ (Below.mono (by assumption) ?_)) | (simp; done) | (simp; omega) | omega)
          clear hb
          clear pc0 pc1 ac0 ac1 bc0 bc1 zl
          have B3 := hid B3
          obtain ⟨pc0, pc1, ac0, ac1, bc0, bc1⟩ := K.out _ B3.out
          have zl : w.heap.size + 1 + 1 < u3.heap.size := by have h1 := ZV.out; have h2 := (B3.out).size; omega
          go_wp2_with fail
          go_ret
          have hB := B3.out
          have hz := hB.size
          have hV := BV.out.trans (hB.mono BV.out.size)
          exact Gives.mk (congrArg Value.bool (by have h := HR.out; rw [decide_eq_false (show ¬ X ≤ rr by omega), decide_eq_false (show ¬ Y ≤ rr by omega), decide_eq_false (show ¬ T ≤ 0 by omega), decide_eq_true (show L ≤ T by omega)] at h; simpa using h.symm)) (by first | exact hV | (repeat' (first | (with_reducible exact Below.refl _ _) | (with_reducible refine Below.alloc ?_ ?_ _) | (with_reducible refine Below.setCell ?_ ?_ _) | (with_reducible refine Below.drew ?_) | (with_reducible refine Below.trans ?_ (Below.mono (by assumption) ?_)) | (simp; done) | (simp; omega) | omega)))
        · go_wp2_with fail
          refine ((d1 _).mono (fun _ _ h => h.g)).mono ?_
          rintro _ u1 ⟨rfl, hb⟩
          have B1 : Below V.heap.size V u1 := by have hB := (Below.refl _ _ : Below V.heap.size V V); have hz := hB.size; repeat' (first | (with_reducible exact Below.refl _ _) | (with_reducible refine Below.alloc ?_ ?_ _) | (with_reducible refine Below.setCell ?_ ?_ _) | (with_reducible refine Below.drew ?_) | (with_reducible refine Below.trans ?_ (Below.mono (by assumption) ?_)) | (simp; done) | (simp; omega) | omega)
          clear hb
          clear pc0 pc1 ac0 ac1 bc0 bc1 zl
          have B1 := hid B1
          obtain ⟨pc0, pc1, ac0, ac1, bc0, bc1⟩ := K.out _ B1.out
          have zl : w.heap.size + 1 + 1 < u1.heap.size := by have h1 := ZV.out; have h2 := (B1.out).size; omega
          go_wp2_with fail
          refine ((d2 _).mono (fun _ _ h => h.g)).mono ?_
          rintro _ u2 ⟨rfl, hb⟩
          have B2 : Below V.heap.size V u2 := by have hB := B1.out; have hz := hB.size; repeat' (first | (with_reducible exact Below.refl _ _) | (with_reducible refine Below.alloc ?_ ?_ _) | (with_reducible refine Below.setCell ?_ ?_ _) | (with_reducible refine Below.drew ?_) | (with_reducible refine Below.trans ?_ (Below.mono (by assumption) ?_)) | (simp; done) | (simp; omega) | omega)
          clear hb
          clear pc0 pc1 ac0 ac1 bc0 bc1 zl
          have B2 := hid B2
          obtain ⟨pc0, pc1, ac0, ac1, bc0, bc1⟩ := K.out _ B2.out
          have zl : w.heap.size + 1 + 1 < u2.heap.size := by have h1 := ZV.out; have h2 := (B2.out).size; omega
          go_wp2_with fail
          refine ((d3 _).mono (fun _ _ h => h.g)).mono ?_
          rintro _ u3 ⟨rfl, hb⟩
          have B3 : Below V.heap.size V u3 := by have hB := B2.out; have hz := hB.size; repeat' (first | (with_reducible exact Below.refl _ _) | (with_reducible refine Below.alloc ?_ ?_ _) | (with_reducible refine Below.setCell ?_ ?_ _) | (with_reducible refine Below.drew ?_) | (with_reducible refine Below.trans ?_ (Below.mono (by assumption) ?_)) | (simp; done) | (simp; omega) | omega)
          clear hb
          clear pc0 pc1 ac0 ac1 bc0 bc1 zl
          have B3 := hid B3
          obtain ⟨pc0, pc1, ac0, ac1, bc0, bc1⟩ := K.out _ B3.out
          have zl : w.heap.size + 1 + 1 < u3.heap.size := by have h1 := ZV.out; have h2 := (B3.out).size; omega
          go_wp2_with fail
          refine ((d4 _).mono (fun _ _ h => h.g)).mono ?_
          rintro _ u4 ⟨rfl, hb⟩
          have B4 : Below V.heap.size V u4 := by have hB := B3.out; have hz := hB.size; repeat' (first | (with_reducible exact Below.refl _ _) | (with_reducible refine Below.alloc ?_ ?_ _) | (with_reducible refine Below.setCell ?_ ?_ _) | (with_reducible refine Below.drew ?_) | (with_reducible refine Below.trans ?_ (Below.mono (by assumption) ?_)) | (simp; done) | (simp; omega) | omega)
          clear hb
          clear pc0 pc1 ac0 ac1 bc0 bc1 zl
          have B4 := hid B4
          obtain ⟨pc0, pc1, ac0, ac1, bc0, bc1⟩ := K.out _ B4.out
          have zl : w.heap.size + 1 + 1 < u4.heap.size := by have h1 := ZV.out; have h2 := (B4.out).size; omega
          go_wp2_with fail
          refine ((d3 _).mono (fun _ _ h => h.g)).mono ?_
          rintro _ u5 ⟨rfl, hb⟩
          have B5 : Below V.heap.size V u5 := by have hB := B4.out; have hz := hB.size; repeat' (first | (with_reducible exact Below.refl _ _) | (with_reducible refine Below.alloc ?_ ?_ _) | (with_reducible refine Below.setCell ?_ ?_ _) | (with_reducible refine Below.drew ?_) | (with_reducible refine Below.trans ?_ (Below.mono (by assumption) ?_)) | (simp; done) | (simp; omega) | omega)
          clear hb
          clear pc0 pc1 ac0 ac1 bc0 bc1 zl
          have B5 := hid B5
          obtain ⟨pc0, pc1, ac0, ac1, bc0, bc1⟩ := K.out _ B5.out
          have zl : w.heap.size + 1 + 1 < u5.heap.size := by have h1 := ZV.out; have h2 := (B5.out).size; omega
          go_wp2_with fail
          refine (d6 _).mono ?_
          rintro _ u6 ⟨rfl, hb⟩
          have B6 : Below V.heap.size V u6 := by have hB := B5.out; have hz := hB.size; repeat' (first | (with_reducible exact Below.refl _ _) | (with_reducible refine Below.alloc ?_ ?_ _) | (with_reducible refine Below.setCell ?_ ?_ _) | (with_reducible refine Below.drew ?_) | (with_reducible refine Below.trans ?_ (Below.mono (by assumption) ?_)) | (simp; done) | (simp; omega) | omega)
          clear hb
          clear pc0 pc1 ac0 ac1 bc0 bc1 zl
          have B6 := hid B6
          obtain ⟨pc0, pc1, ac0, ac1, bc0, bc1⟩ := K.out _ B6.out
          have zl : w.heap.size + 1 + 1 < u6.heap.size := by have h1 := ZV.out; have h2 := (B6.out).size; omega
          go_wp2_with fail
          go_ret
          have hB := B6.out
          have hz := hB.size
          have hV := BV.out.trans (hB.mono BV.out.size)
          exact Gives.mk (congrArg Value.bool (by have h := HR.out; rw [decide_eq_false (show ¬ X ≤ rr by omega), decide_eq_false (show ¬ Y ≤ rr by omega), decide_eq_false (show ¬ T ≤ 0 by omega), decide_eq_false (show ¬ L ≤ T by omega)] at h; rw [CE.out]; simpa using h.symm)) (by first | exact hV | (repeat' (first | (with_reducible exact Below.refl _ _) | (with_reducible refine Below.alloc ?_ ?_ _) | (with_reducible refine Below.setCell ?_ ?_ _) | (with_reducible refine Below.drew ?_) | (with_reducible refine Below.trans ?_ (Below.mono (by assumption) ?_)) | (simp; done) | (simp; omega) | omega)))

set_option maxRecDepth 100000 in
set_option maxHeartbeats 4000000 in
theorem rboth_any (a b c d : Sp.Pt) (r : Int) (ha : Sp.okP a = true) (hb : Sp.okP b = true) (hc : Sp.okP c = true) (hd : Sp.okP d = true) (r0 : 0 ≤ r) (r1 : r ≤ 200000) (w : World) :
    Calls Try.prog 56 #[.agg #[.int .i64 a.1, .int .i64 a.2], .agg #[.int .i64 b.1, .int .i64 b.2], .agg #[.int .i64 c.1, .int .i64 c.2], .agg #[.int .i64 d.1, .int .i64 d.2], .int .i64 r] w (Gives (.bool (Sp.closeS a b c d r)) w) := by
  have rv := rrel_any a b c d ha hb hc hd
  have n1 := rwithin_any a c d r ha hc hd r0 r1
  have n2 := rwithin_any b c d r hb hc hd r0 r1
  have n3 := rwithin_any c a b r hc ha hb r0 r1
  have n4 := rwithin_any d a b r hd ha hb r0 r1
  obtain ⟨R, hR⟩ : ∃ R, Sp.closeS a b c d r = R := ⟨_, rfl⟩
  rw [hR]
  unfold Sp.closeS at hR
  generalize Sp.relS a b c d = v at rv hR
  generalize Sp.nearS a c d r = x1 at n1 hR
  generalize Sp.nearS b c d r = x2 at n2 hR
  generalize Sp.nearS c a b r = x3 at n3 hR
  generalize Sp.nearS d a b r = x4 at n4 hR
  have HR := hid hR
  clear hR ha hb hc hd r0 r1
  obtain ⟨a1, a2⟩ := a
  obtain ⟨b1, b2⟩ := b
  obtain ⟨c1, c2⟩ := c
  obtain ⟨d1, d2⟩ := d
  dsimp only at *
  obtain ⟨V, hV⟩ : ∃ V : World, ((((w.alloc (Obj.cells #[.int .i64 (a1), .int .i64 (a2)] 23)).alloc (Obj.cells #[.int .i64 (b1), .int .i64 (b2)] 23)).alloc (Obj.cells #[.int .i64 (c1), .int .i64 (c2)] 23)).alloc (Obj.cells #[.int .i64 (d1), .int .i64 (d2)] 23)) = V := ⟨_, rfl⟩
  have bV : Below w.heap.size w V := by rw [← hV]; (repeat' (first | (with_reducible exact Below.refl _ _) | (with_reducible refine Below.alloc ?_ ?_ _) | (with_reducible refine Below.setCell ?_ ?_ _) | (with_reducible refine Below.drew ?_) | (with_reducible refine Below.trans ?_ (Below.mono (by assumption) ?_)) | (simp; done) | (simp; omega) | omega))
  have zV : V.heap.size = w.heap.size + 1 + 1 + 1 + 1 := by rw [← hV]; simp
  have dV : V.drawn = w.drawn := by rw [← hV]; rfl
  have K : Hid (∀ W' : World, Below V.heap.size V W' → (W'.cell? ⟨w.heap.size, 0, none⟩ = some (.int .i64 a1) ∧ W'.cell? ⟨w.heap.size, 1, none⟩ = some (.int .i64 a2) ∧ W'.cell? ⟨w.heap.size + 1, 0, none⟩ = some (.int .i64 b1) ∧ W'.cell? ⟨w.heap.size + 1, 1, none⟩ = some (.int .i64 b2) ∧ W'.cell? ⟨w.heap.size + 1 + 1, 0, none⟩ = some (.int .i64 c1) ∧ W'.cell? ⟨w.heap.size + 1 + 1, 1, none⟩ = some (.int .i64 c2) ∧ W'.cell? ⟨w.heap.size + 1 + 1 + 1, 0, none⟩ = some (.int .i64 d1) ∧ W'.cell? ⟨w.heap.size + 1 + 1 + 1, 1, none⟩ = some (.int .i64 d2))) := hid fun W' B => ⟨(B.cell (p := ⟨w.heap.size, 0, none⟩) (by simp only; omega)).trans (by rw [← hV]; simp [go_sem]), (B.cell (p := ⟨w.heap.size, 1, none⟩) (by simp only; omega)).trans (by rw [← hV]; simp [go_sem]), (B.cell (p := ⟨w.heap.size + 1, 0, none⟩) (by simp only; omega)).trans (by rw [← hV]; simp [go_sem]), (B.cell (p := ⟨w.heap.size + 1, 1, none⟩) (by simp only; omega)).trans (by rw [← hV]; simp [go_sem]), (B.cell (p := ⟨w.heap.size + 1 + 1, 0, none⟩) (by simp only; omega)).trans (by rw [← hV]; simp [go_sem]), (B.cell (p := ⟨w.heap.size + 1 + 1, 1, none⟩) (by simp only; omega)).trans (by rw [← hV]; simp [go_sem]), (B.cell (p := ⟨w.heap.size + 1 + 1 + 1, 0, none⟩) (by simp only; omega)).trans (by rw [← hV]; simp [go_sem]), (B.cell (p := ⟨w.heap.size + 1 + 1 + 1, 1, none⟩) (by simp only; omega)).trans (by rw [← hV]; simp [go_sem])⟩
  have HV := hid hV
  have BV := hid bV
  have ZV := hid zV
  have DV := hid dV
  clear hV bV zV dV
  go_enter Try.func56, Try.ntmps56
  go_upto_region 1 with fail
  rw [HV.out]
  obtain ⟨ac0, ac1, bc0, bc1, cc0, cc1, dc0, dc1⟩ := K.out _ (Below.refl _ _ : Below V.heap.size V V)
  have zl : w.heap.size + 1 + 1 + 1 < V.heap.size := by have h1 := ZV.out; have h2 := ((Below.refl _ _ : Below V.heap.size V V)).size; omega
  rcases Classical.em (v = 0) with y2 | y2
  · subst y2
    cases x1
    · cases x2
      · cases x3
        · cases x4
          · go_wp2_with fail
            refine ((rv _)).mono ?_
            rintro _ u1 ⟨rfl, hb⟩
            have B1 : Below V.heap.size V u1 := by have hB := (Below.refl _ _ : Below V.heap.size V V); have hz := hB.size; repeat' (first | (with_reducible exact Below.refl _ _) | (with_reducible refine Below.alloc ?_ ?_ _) | (with_reducible refine Below.setCell ?_ ?_ _) | (with_reducible refine Below.drew ?_) | (with_reducible refine Below.trans ?_ (Below.mono (by assumption) ?_)) | (simp; done) | (simp; omega) | omega)
            clear hb
            clear ac0 ac1 bc0 bc1 cc0 cc1 dc0 dc1 zl
            have B1 := hid B1
            obtain ⟨ac0, ac1, bc0, bc1, cc0, cc1, dc0, dc1⟩ := K.out _ B1.out
            have zl : w.heap.size + 1 + 1 + 1 < u1.heap.size := by have h1 := ZV.out; have h2 := (B1.out).size; omega
            go_wp2_with fail
            refine ((n1 _)).mono ?_
            rintro _ u2 ⟨rfl, hb⟩
            have B2 : Below V.heap.size V u2 := by have hB := B1.out; have hz := hB.size; repeat' (first | (with_reducible exact Below.refl _ _) | (with_reducible refine Below.alloc ?_ ?_ _) | (with_reducible refine Below.setCell ?_ ?_ _) | (with_reducible refine Below.drew ?_) | (with_reducible refine Below.trans ?_ (Below.mono (by assumption) ?_)) | (simp; done) | (simp; omega) | omega)
            clear hb
            clear ac0 ac1 bc0 bc1 cc0 cc1 dc0 dc1 zl
            have B2 := hid B2
            obtain ⟨ac0, ac1, bc0, bc1, cc0, cc1, dc0, dc1⟩ := K.out _ B2.out
            have zl : w.heap.size + 1 + 1 + 1 < u2.heap.size := by have h1 := ZV.out; have h2 := (B2.out).size; omega
            go_wp2_with fail
            refine ((n2 _)).mono ?_
            rintro _ u3 ⟨rfl, hb⟩
            have B3 : Below V.heap.size V u3 := by have hB := B2.out; have hz := hB.size; repeat' (first | (with_reducible exact Below.refl _ _) | (with_reducible refine Below.alloc ?_ ?_ _) | (with_reducible refine Below.setCell ?_ ?_ _) | (with_reducible refine Below.drew ?_) | (with_reducible refine Below.trans ?_ (Below.mono (by assumption) ?_)) | (simp; done) | (simp; omega) | omega)
            clear hb
            clear ac0 ac1 bc0 bc1 cc0 cc1 dc0 dc1 zl
            have B3 := hid B3
            obtain ⟨ac0, ac1, bc0, bc1, cc0, cc1, dc0, dc1⟩ := K.out _ B3.out
            have zl : w.heap.size + 1 + 1 + 1 < u3.heap.size := by have h1 := ZV.out; have h2 := (B3.out).size; omega
            go_wp2_with fail
            refine ((n3 _)).mono ?_
            rintro _ u4 ⟨rfl, hb⟩
            have B4 : Below V.heap.size V u4 := by have hB := B3.out; have hz := hB.size; repeat' (first | (with_reducible exact Below.refl _ _) | (with_reducible refine Below.alloc ?_ ?_ _) | (with_reducible refine Below.setCell ?_ ?_ _) | (with_reducible refine Below.drew ?_) | (with_reducible refine Below.trans ?_ (Below.mono (by assumption) ?_)) | (simp; done) | (simp; omega) | omega)
            clear hb
            clear ac0 ac1 bc0 bc1 cc0 cc1 dc0 dc1 zl
            have B4 := hid B4
            obtain ⟨ac0, ac1, bc0, bc1, cc0, cc1, dc0, dc1⟩ := K.out _ B4.out
            have zl : w.heap.size + 1 + 1 + 1 < u4.heap.size := by have h1 := ZV.out; have h2 := (B4.out).size; omega
            go_wp2_with fail
            refine ((n4 _)).mono ?_
            rintro _ u5 ⟨rfl, hb⟩
            have B5 : Below V.heap.size V u5 := by have hB := B4.out; have hz := hB.size; repeat' (first | (with_reducible exact Below.refl _ _) | (with_reducible refine Below.alloc ?_ ?_ _) | (with_reducible refine Below.setCell ?_ ?_ _) | (with_reducible refine Below.drew ?_) | (with_reducible refine Below.trans ?_ (Below.mono (by assumption) ?_)) | (simp; done) | (simp; omega) | omega)
            clear hb
            clear ac0 ac1 bc0 bc1 cc0 cc1 dc0 dc1 zl
            have B5 := hid B5
            obtain ⟨ac0, ac1, bc0, bc1, cc0, cc1, dc0, dc1⟩ := K.out _ B5.out
            have zl : w.heap.size + 1 + 1 + 1 < u5.heap.size := by have h1 := ZV.out; have h2 := (B5.out).size; omega
            go_wp2_with fail
            go_ret
            have hB := B5.out
            have hz := hB.size
            have hV := BV.out.trans (hB.mono BV.out.size)
            exact Gives.mk (congrArg Value.bool (by have h := HR.out; simp at h; exact h)) (by first | exact hV | (repeat' (first | (with_reducible exact Below.refl _ _) | (with_reducible refine Below.alloc ?_ ?_ _) | (with_reducible refine Below.setCell ?_ ?_ _) | (with_reducible refine Below.drew ?_) | (with_reducible refine Below.trans ?_ (Below.mono (by assumption) ?_)) | (simp; done) | (simp; omega) | omega)))
          · go_wp2_with fail
            refine ((rv _)).mono ?_
            rintro _ u1 ⟨rfl, hb⟩
            have B1 : Below V.heap.size V u1 := by have hB := (Below.refl _ _ : Below V.heap.size V V); have hz := hB.size; repeat' (first | (with_reducible exact Below.refl _ _) | (with_reducible refine Below.alloc ?_ ?_ _) | (with_reducible refine Below.setCell ?_ ?_ _) | (with_reducible refine Below.drew ?_) | (with_reducible refine Below.trans ?_ (Below.mono (by assumption) ?_)) | (simp; done) | (simp; omega) | omega)
            clear hb
            clear ac0 ac1 bc0 bc1 cc0 cc1 dc0 dc1 zl
            have B1 := hid B1
            obtain ⟨ac0, ac1, bc0, bc1, cc0, cc1, dc0, dc1⟩ := K.out _ B1.out
            have zl : w.heap.size + 1 + 1 + 1 < u1.heap.size := by have h1 := ZV.out; have h2 := (B1.out).size; omega
            go_wp2_with fail
            refine ((n1 _)).mono ?_
            rintro _ u2 ⟨rfl, hb⟩
            have B2 : Below V.heap.size V u2 := by have hB := B1.out; have hz := hB.size; repeat' (first | (with_reducible exact Below.refl _ _) | (with_reducible refine Below.alloc ?_ ?_ _) | (with_reducible refine Below.setCell ?_ ?_ _) | (with_reducible refine Below.drew ?_) | (with_reducible refine Below.trans ?_ (Below.mono (by assumption) ?_)) | (simp; done) | (simp; omega) | omega)
            clear hb
            clear ac0 ac1 bc0 bc1 cc0 cc1 dc0 dc1 zl
            have B2 := hid B2
            obtain ⟨ac0, ac1, bc0, bc1, cc0, cc1, dc0, dc1⟩ := K.out _ B2.out
            have zl : w.heap.size + 1 + 1 + 1 < u2.heap.size := by have h1 := ZV.out; have h2 := (B2.out).size; omega
            go_wp2_with fail
            refine ((n2 _)).mono ?_
            rintro _ u3 ⟨rfl, hb⟩
            have B3 : Below V.heap.size V u3 := by have hB := B2.out; have hz := hB.size; repeat' (first | (with_reducible exact Below.refl _ _) | (with_reducible refine Below.alloc ?_ ?_ _) | (with_reducible refine Below.setCell ?_ ?_ _) | (with_reducible refine Below.drew ?_) | (with_reducible refine Below.trans ?_ (Below.mono (by assumption) ?_)) | (simp; done) | (simp; omega) | omega)
            clear hb
            clear ac0 ac1 bc0 bc1 cc0 cc1 dc0 dc1 zl
            have B3 := hid B3
            obtain ⟨ac0, ac1, bc0, bc1, cc0, cc1, dc0, dc1⟩ := K.out _ B3.out
            have zl : w.heap.size + 1 + 1 + 1 < u3.heap.size := by have h1 := ZV.out; have h2 := (B3.out).size; omega
            go_wp2_with fail
            refine ((n3 _)).mono ?_
            rintro _ u4 ⟨rfl, hb⟩
            have B4 : Below V.heap.size V u4 := by have hB := B3.out; have hz := hB.size; repeat' (first | (with_reducible exact Below.refl _ _) | (with_reducible refine Below.alloc ?_ ?_ _) | (with_reducible refine Below.setCell ?_ ?_ _) | (with_reducible refine Below.drew ?_) | (with_reducible refine Below.trans ?_ (Below.mono (by assumption) ?_)) | (simp; done) | (simp; omega) | omega)
            clear hb
            clear ac0 ac1 bc0 bc1 cc0 cc1 dc0 dc1 zl
            have B4 := hid B4
            obtain ⟨ac0, ac1, bc0, bc1, cc0, cc1, dc0, dc1⟩ := K.out _ B4.out
            have zl : w.heap.size + 1 + 1 + 1 < u4.heap.size := by have h1 := ZV.out; have h2 := (B4.out).size; omega
            go_wp2_with fail
            refine ((n4 _)).mono ?_
            rintro _ u5 ⟨rfl, hb⟩
            have B5 : Below V.heap.size V u5 := by have hB := B4.out; have hz := hB.size; repeat' (first | (with_reducible exact Below.refl _ _) | (with_reducible refine Below.alloc ?_ ?_ _) | (with_reducible refine Below.setCell ?_ ?_ _) | (with_reducible refine Below.drew ?_) | (with_reducible refine Below.trans ?_ (Below.mono (by assumption) ?_)) | (simp; done) | (simp; omega) | omega)
            clear hb
            clear ac0 ac1 bc0 bc1 cc0 cc1 dc0 dc1 zl
            have B5 := hid B5
            obtain ⟨ac0, ac1, bc0, bc1, cc0, cc1, dc0, dc1⟩ := K.out _ B5.out
            have zl : w.heap.size + 1 + 1 + 1 < u5.heap.size := by have h1 := ZV.out; have h2 := (B5.out).size; omega
            go_wp2_with fail
            go_ret
            have hB := B5.out
            have hz := hB.size
            have hV := BV.out.trans (hB.mono BV.out.size)
            exact Gives.mk (congrArg Value.bool (by have h := HR.out; simp at h; exact h)) (by first | exact hV | (repeat' (first | (with_reducible exact Below.refl _ _) | (with_reducible refine Below.alloc ?_ ?_ _) | (with_reducible refine Below.setCell ?_ ?_ _) | (with_reducible refine Below.drew ?_) | (with_reducible refine Below.trans ?_ (Below.mono (by assumption) ?_)) | (simp; done) | (simp; omega) | omega)))
        · go_wp2_with fail
          refine ((rv _)).mono ?_
          rintro _ u1 ⟨rfl, hb⟩
          have B1 : Below V.heap.size V u1 := by have hB := (Below.refl _ _ : Below V.heap.size V V); have hz := hB.size; repeat' (first | (with_reducible exact Below.refl _ _) | (with_reducible refine Below.alloc ?_ ?_ _) | (with_reducible refine Below.setCell ?_ ?_ _) | (with_reducible refine Below.drew ?_) | (with_reducible refine Below.trans ?_ (Below.mono (by assumption) ?_)) | (simp; done) | (simp; omega) | omega)
          clear hb
          clear ac0 ac1 bc0 bc1 cc0 cc1 dc0 dc1 zl
          have B1 := hid B1
          obtain ⟨ac0, ac1, bc0, bc1, cc0, cc1, dc0, dc1⟩ := K.out _ B1.out
          have zl : w.heap.size + 1 + 1 + 1 < u1.heap.size := by have h1 := ZV.out; have h2 := (B1.out).size; omega
          go_wp2_with fail
          refine ((n1 _)).mono ?_
          rintro _ u2 ⟨rfl, hb⟩
          have B2 : Below V.heap.size V u2 := by have hB := B1.out; have hz := hB.size; repeat' (first | (with_reducible exact Below.refl _ _) | (with_reducible refine Below.alloc ?_ ?_ _) | (with_reducible refine Below.setCell ?_ ?_ _) | (with_reducible refine Below.drew ?_) | (with_reducible refine Below.trans ?_ (Below.mono (by assumption) ?_)) | (simp; done) | (simp; omega) | omega)
          clear hb
          clear ac0 ac1 bc0 bc1 cc0 cc1 dc0 dc1 zl
          have B2 := hid B2
          obtain ⟨ac0, ac1, bc0, bc1, cc0, cc1, dc0, dc1⟩ := K.out _ B2.out
          have zl : w.heap.size + 1 + 1 + 1 < u2.heap.size := by have h1 := ZV.out; have h2 := (B2.out).size; omega
          go_wp2_with fail
          refine ((n2 _)).mono ?_
          rintro _ u3 ⟨rfl, hb⟩
          have B3 : Below V.heap.size V u3 := by have hB := B2.out; have hz := hB.size; repeat' (first | (with_reducible exact Below.refl _ _) | (with_reducible refine Below.alloc ?_ ?_ _) | (with_reducible refine Below.setCell ?_ ?_ _) | (with_reducible refine Below.drew ?_) | (with_reducible refine Below.trans ?_ (Below.mono (by assumption) ?_)) | (simp; done) | (simp; omega) | omega)
          clear hb
          clear ac0 ac1 bc0 bc1 cc0 cc1 dc0 dc1 zl
          have B3 := hid B3
          obtain ⟨ac0, ac1, bc0, bc1, cc0, cc1, dc0, dc1⟩ := K.out _ B3.out
          have zl : w.heap.size + 1 + 1 + 1 < u3.heap.size := by have h1 := ZV.out; have h2 := (B3.out).size; omega
          go_wp2_with fail
          refine ((n3 _)).mono ?_
          rintro _ u4 ⟨rfl, hb⟩
          have B4 : Below V.heap.size V u4 := by have hB := B3.out; have hz := hB.size; repeat' (first | (with_reducible exact Below.refl _ _) | (with_reducible refine Below.alloc ?_ ?_ _) | (with_reducible refine Below.setCell ?_ ?_ _) | (with_reducible refine Below.drew ?_) | (with_reducible refine Below.trans ?_ (Below.mono (by assumption) ?_)) | (simp; done) | (simp; omega) | omega)
          clear hb
          clear ac0 ac1 bc0 bc1 cc0 cc1 dc0 dc1 zl
          have B4 := hid B4
          obtain ⟨ac0, ac1, bc0, bc1, cc0, cc1, dc0, dc1⟩ := K.out _ B4.out
          have zl : w.heap.size + 1 + 1 + 1 < u4.heap.size := by have h1 := ZV.out; have h2 := (B4.out).size; omega
          go_wp2_with fail
          go_ret
          have hB := B4.out
          have hz := hB.size
          have hV := BV.out.trans (hB.mono BV.out.size)
          exact Gives.mk (congrArg Value.bool (by have h := HR.out; simp at h; exact h)) (by first | exact hV | (repeat' (first | (with_reducible exact Below.refl _ _) | (with_reducible refine Below.alloc ?_ ?_ _) | (with_reducible refine Below.setCell ?_ ?_ _) | (with_reducible refine Below.drew ?_) | (with_reducible refine Below.trans ?_ (Below.mono (by assumption) ?_)) | (simp; done) | (simp; omega) | omega)))
      · go_wp2_with fail
        refine ((rv _)).mono ?_
        rintro _ u1 ⟨rfl, hb⟩
        have B1 : Below V.heap.size V u1 := by have hB := (Below.refl _ _ : Below V.heap.size V V); have hz := hB.size; repeat' (first | (with_reducible exact Below.refl _ _) | (with_reducible refine Below.alloc ?_ ?_ _) | (with_reducible refine Below.setCell ?_ ?_ _) | (with_reducible refine Below.drew ?_) | (with_reducible refine Below.trans ?_ (Below.mono (by assumption) ?_)) | (simp; done) | (simp; omega) | omega)
        clear hb
        clear ac0 ac1 bc0 bc1 cc0 cc1 dc0 dc1 zl
        have B1 := hid B1
        obtain ⟨ac0, ac1, bc0, bc1, cc0, cc1, dc0, dc1⟩ := K.out _ B1.out
        have zl : w.heap.size + 1 + 1 + 1 < u1.heap.size := by have h1 := ZV.out; have h2 := (B1.out).size; omega
        go_wp2_with fail
        refine ((n1 _)).mono ?_
        rintro _ u2 ⟨rfl, hb⟩
        have B2 : Below V.heap.size V u2 := by have hB := B1.out; have hz := hB.size; repeat' (first | (with_reducible exact Below.refl _ _) | (with_reducible refine Below.alloc ?_ ?_ _) | (with_reducible refine Below.setCell ?_ ?_ _) | (with_reducible refine Below.drew ?_) | (with_reducible refine Below.trans ?_ (Below.mono (by assumption) ?_)) | (simp; done) | (simp; omega) | omega)
        clear hb
        clear ac0 ac1 bc0 bc1 cc0 cc1 dc0 dc1 zl
        have B2 := hid B2
        obtain ⟨ac0, ac1, bc0, bc1, cc0, cc1, dc0, dc1⟩ := K.out _ B2.out
        have zl : w.heap.size + 1 + 1 + 1 < u2.heap.size := by have h1 := ZV.out; have h2 := (B2.out).size; omega
        go_wp2_with fail
        refine ((n2 _)).mono ?_
        rintro _ u3 ⟨rfl, hb⟩
        have B3 : Below V.heap.size V u3 := by have hB := B2.out; have hz := hB.size; repeat' (first | (with_reducible exact Below.refl _ _) | (with_reducible refine Below.alloc ?_ ?_ _) | (with_reducible refine Below.setCell ?_ ?_ _) | (with_reducible refine Below.drew ?_) | (with_reducible refine Below.trans ?_ (Below.mono (by assumption) ?_)) | (simp; done) | (simp; omega) | omega)
        clear hb
        clear ac0 ac1 bc0 bc1 cc0 cc1 dc0 dc1 zl
        have B3 := hid B3
        obtain ⟨ac0, ac1, bc0, bc1, cc0, cc1, dc0, dc1⟩ := K.out _ B3.out
        have zl : w.heap.size + 1 + 1 + 1 < u3.heap.size := by have h1 := ZV.out; have h2 := (B3.out).size; omega
        go_wp2_with fail
        go_ret
        have hB := B3.out
        have hz := hB.size
        have hV := BV.out.trans (hB.mono BV.out.size)
        exact Gives.mk (congrArg Value.bool (by have h := HR.out; simp at h; exact h)) (by first | exact hV | (repeat' (first | (with_reducible exact Below.refl _ _) | (with_reducible refine Below.alloc ?_ ?_ _) | (with_reducible refine Below.setCell ?_ ?_ _) | (with_reducible refine Below.drew ?_) | (with_reducible refine Below.trans ?_ (Below.mono (by assumption) ?_)) | (simp; done) | (simp; omega) | omega)))
    · go_wp2_with fail
      refine ((rv _)).mono ?_
      rintro _ u1 ⟨rfl, hb⟩
      have B1 : Below V.heap.size V u1 := by have hB := (Below.refl _ _ : Below V.heap.size V V); have hz := hB.size; repeat' (first | (with_reducible exact Below.refl _ _) | (with_reducible refine Below.alloc ?_ ?_ _) | (with_reducible refine Below.setCell ?_ ?_ _) | (with_reducible refine Below.drew ?_) | (with_reducible refine Below.trans ?_ (Below.mono (by assumption) ?_)) | (simp; done) | (simp; omega) | omega)
      clear hb
      clear ac0 ac1 bc0 bc1 cc0 cc1 dc0 dc1 zl
      have B1 := hid B1
      obtain ⟨ac0, ac1, bc0, bc1, cc0, cc1, dc0, dc1⟩ := K.out _ B1.out
      have zl : w.heap.size + 1 + 1 + 1 < u1.heap.size := by have h1 := ZV.out; have h2 := (B1.out).size; omega
      go_wp2_with fail
      refine ((n1 _)).mono ?_
      rintro _ u2 ⟨rfl, hb⟩
      have B2 : Below V.heap.size V u2 := by have hB := B1.out; have hz := hB.size; repeat' (first | (with_reducible exact Below.refl _ _) | (with_reducible refine Below.alloc ?_ ?_ _) | (with_reducible refine Below.setCell ?_ ?_ _) | (with_reducible refine Below.drew ?_) | (with_reducible refine Below.trans ?_ (Below.mono (by assumption) ?_)) | (simp; done) | (simp; omega) | omega)
      clear hb
      clear ac0 ac1 bc0 bc1 cc0 cc1 dc0 dc1 zl
      have B2 := hid B2
      obtain ⟨ac0, ac1, bc0, bc1, cc0, cc1, dc0, dc1⟩ := K.out _ B2.out
      have zl : w.heap.size + 1 + 1 + 1 < u2.heap.size := by have h1 := ZV.out; have h2 := (B2.out).size; omega
      go_wp2_with fail
      go_ret
      have hB := B2.out
      have hz := hB.size
      have hV := BV.out.trans (hB.mono BV.out.size)
      exact Gives.mk (congrArg Value.bool (by have h := HR.out; simp at h; exact h)) (by first | exact hV | (repeat' (first | (with_reducible exact Below.refl _ _) | (with_reducible refine Below.alloc ?_ ?_ _) | (with_reducible refine Below.setCell ?_ ?_ _) | (with_reducible refine Below.drew ?_) | (with_reducible refine Below.trans ?_ (Below.mono (by assumption) ?_)) | (simp; done) | (simp; omega) | omega)))
  · go_wp2_with fail
    refine ((rv _)).mono ?_
    rintro _ u1 ⟨rfl, hb⟩
    have B1 : Below V.heap.size V u1 := by have hB := (Below.refl _ _ : Below V.heap.size V V); have hz := hB.size; repeat' (first | (with_reducible exact Below.refl _ _) | (with_reducible refine Below.alloc ?_ ?_ _) | (with_reducible refine Below.setCell ?_ ?_ _) | (with_reducible refine Below.drew ?_) | (with_reducible refine Below.trans ?_ (Below.mono (by assumption) ?_)) | (simp; done) | (simp; omega) | omega)
    clear hb
    clear ac0 ac1 bc0 bc1 cc0 cc1 dc0 dc1 zl
    have B1 := hid B1
    obtain ⟨ac0, ac1, bc0, bc1, cc0, cc1, dc0, dc1⟩ := K.out _ B1.out
    have zl : w.heap.size + 1 + 1 + 1 < u1.heap.size := by have h1 := ZV.out; have h2 := (B1.out).size; omega
    go_wp2_with fail
    go_ret
    have hB := B1.out
    have hz := hB.size
    have hV := BV.out.trans (hB.mono BV.out.size)
    exact Gives.mk (congrArg Value.bool (by have h := HR.out; simp [y2] at h; exact h)) (by first | exact hV | (repeat' (first | (with_reducible exact Below.refl _ _) | (with_reducible refine Below.alloc ?_ ?_ _) | (with_reducible refine Below.setCell ?_ ?_ _) | (with_reducible refine Below.drew ?_) | (with_reducible refine Below.trans ?_ (Below.mono (by assumption) ?_)) | (simp; done) | (simp; omega) | omega)))

end Go.Proofs.Ytfdnmlggemonhaa
