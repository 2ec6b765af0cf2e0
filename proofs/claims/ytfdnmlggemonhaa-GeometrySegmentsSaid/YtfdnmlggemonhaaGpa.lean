/-
  Layer 7: Within, Both, Meet, Near, Close of the reference, by contract. Written by tools/gen_gp.py.
-/
import Derived.Test.YtfdnmlggemonhaaGp
namespace Go.Proofs.Ytfdnmlggemonhaa
open Go.RowKit
set_option linter.unusedVariables false
set_option linter.unusedSimpArgs false

set_option maxRecDepth 100000 in
set_option maxHeartbeats 4000000 in
theorem rMeet_any (a b c d : Sp.Pt) (w : World) :
    Calls Try.prog 26 #[.agg #[.int .i64 a.1, .int .i64 a.2], .agg #[.int .i64 b.1, .int .i64 b.2], .agg #[.int .i64 c.1, .int .i64 c.2], .agg #[.int .i64 d.1, .int .i64 d.2]] w (Gives (.tuple #[.int .i64 (Sp.meetS a b c d).1, .int .i64 (Sp.meetS a b c d).2]) w) := by
  have va := rvalid_any a
  have vb := rvalid_any b
  have vc := rvalid_any c
  have vd := rvalid_any d
  have dv := rrel_any a b c d
  obtain ⟨⟨rx, ry⟩, hR⟩ : ∃ r, Sp.meetS a b c d = r := ⟨_, rfl⟩
  rw [hR]
  have f0 : (Sp.okP a && Sp.okP b && Sp.okP c && Sp.okP d) = false → (0 : Int) = rx ∧ (2 : Int) = ry := fun h => by
    have e : Sp.segsS a b c d = 2 := by (unfold Sp.segsS; rw [h]; rfl)
    unfold Sp.meetS at hR; rw [e] at hR; exact Prod.mk.inj hR
  have f1 : Sp.okP a = true → Sp.okP b = true → Sp.okP c = true → Sp.okP d = true → a = b → (0 : Int) = rx ∧ (1 : Int) = ry := fun h1 h2 h3 h4 h5 => by
    have e : Sp.segsS a b c d = 1 := by (unfold Sp.segsS; rw [h1, h2, h3, h4, if_pos (show (true && true && true && true) = true from rfl), if_pos (.inl h5)])
    unfold Sp.meetS at hR; rw [e] at hR; exact Prod.mk.inj hR
  have f2 : Sp.okP a = true → Sp.okP b = true → Sp.okP c = true → Sp.okP d = true → ¬ a = b → c = d → (0 : Int) = rx ∧ (1 : Int) = ry := fun h1 h2 h3 h4 _ h5 => by
    have e : Sp.segsS a b c d = 1 := by (unfold Sp.segsS; rw [h1, h2, h3, h4, if_pos (show (true && true && true && true) = true from rfl), if_pos (.inr h5)])
    unfold Sp.meetS at hR; rw [e] at hR; exact Prod.mk.inj hR
  have f3 : Sp.okP a = true → Sp.okP b = true → Sp.okP c = true → Sp.okP d = true → ¬ a = b → ¬ c = d → Sp.relS a b c d = rx ∧ (0 : Int) = ry := fun h1 h2 h3 h4 h5 h6 => by
    have e : Sp.segsS a b c d = 0 := by (unfold Sp.segsS; rw [h1, h2, h3, h4, if_pos (show (true && true && true && true) = true from rfl), if_neg (fun h => h.elim h5 h6)])
    unfold Sp.meetS at hR; rw [e] at hR; exact Prod.mk.inj hR
  clear hR
  generalize Sp.relS a b c d = v at dv f3
  generalize Sp.okP a = ea at va dv f0 f1 f2 f3
  generalize Sp.okP b = eb at vb dv f0 f1 f2 f3
  generalize Sp.okP c = ec at vc dv f0 f1 f2 f3
  generalize Sp.okP d = ed at vd dv f0 f1 f2 f3
  have F0 := hid f0
  have F1 := hid f1
  have F2 := hid f2
  have F3 := hid f3
  have DW := hid dv
  clear dv f0 f1 f2 f3
  obtain ⟨a1, a2⟩ := a
  obtain ⟨b1, b2⟩ := b
  obtain ⟨c1, c2⟩ := c
  obtain ⟨d1, d2⟩ := d
  dsimp only at *
  obtain ⟨V, hV⟩ : ∃ V : World, ((((w.alloc (Obj.cells #[.int .i64 (a1), .int .i64 (a2)] 23)).alloc (Obj.cells #[.int .i64 (b1), .int .i64 (b2)] 23)).alloc (Obj.cells #[.int .i64 (c1), .int .i64 (c2)] 23)).alloc (Obj.cells #[.int .i64 (d1), .int .i64 (d2)] 23)) = V := ⟨_, rfl⟩
  have bV : Below w.heap.size w V := by rw [← hV]; (repeat' (first | (with_reducible exact Below.refl _ _) | (with_reducible refine Below.alloc ?_ ?_ _) | (with_reducible refine Below.setCell ?_ ?_ _) | (with_reducible refine Below.drew ?_) | (with_reducible refine Below.trans ?_ (Below.mono (by assumption) ?_)) | (simp; done) | (simp; omega) | omega))
  have zV : V.heap.size = w.heap.size + 1 + 1 + 1 + 1 := by rw [← hV]; simp
  have dV : V.drawn = w.drawn := by rw [← hV]; rfl
  have K : Hid (∀ W' : World, Below V.heap.size V W' → (W'.cell? ⟨w.heap.size, 0, none⟩ = some (.int .i64 a1) ∧ W'.cell? ⟨w.heap.size, 1, none⟩ = some (.int .i64 a2) ∧ W'.cell? ⟨w.heap.size + 1, 0, none⟩ = some (.int .i64 b1) ∧ W'.cell? ⟨w.heap.size + 1, 1, none⟩ = some (.int .i64 b2) ∧ W'.cell? ⟨w.heap.size + 1 + 1, 0, none⟩ = some (.int .i64 c1) ∧ W'.cell? ⟨w.heap.size + 1 + 1, 1, none⟩ = some (.int .i64 c2) ∧ W'.cell? ⟨w.heap.size + 1 + 1 + 1, 0, none⟩ = some (.int .i64 d1) ∧ W'.cell? ⟨w.heap.size + 1 + 1 + 1, 1, none⟩ = some (.int .i64 d2))) := hid fun W' B => ⟨(B.cell (p := ⟨w.heap.size, 0, none⟩) (by simp only; omega)).trans (by rw [← hV]; simp [go_sem]), (B.cell (p := ⟨w.heap.size, 1, none⟩) (by simp only; omega)).trans (by rw [← hV]; simp [go_sem]), (B.cell (p := ⟨w.heap.size + 1, 0, none⟩) (by simp only; omega)).trans (by rw [← hV]; simp [go_sem]), (B.cell (p := ⟨w.heap.size + 1, 1, none⟩) (by simp only; omega)).trans (by rw [← hV]; simp [go_sem]), (B.cell (p := ⟨w.heap.size + 1 + 1, 0, none⟩) (by simp only; omega)).trans (by rw [← hV]; simp [go_sem]), (B.cell (p := ⟨w.heap.size + 1 + 1, 1, none⟩) (by simp only; omega)).trans (by rw [← hV]; simp [go_sem]), (B.cell (p := ⟨w.heap.size + 1 + 1 + 1, 0, none⟩) (by simp only; omega)).trans (by rw [← hV]; simp [go_sem]), (B.cell (p := ⟨w.heap.size + 1 + 1 + 1, 1, none⟩) (by simp only; omega)).trans (by rw [← hV]; simp [go_sem])⟩
  have HV := hid hV
  have BV := hid bV
  have ZV := hid zV
  have DV := hid dV
  clear hV bV zV dV
  go_enter Try.func26, Try.ntmps26
  go_upto_region 1 with fail
  rw [HV.out]
  obtain ⟨ac0, ac1, bc0, bc1, cc0, cc1, dc0, dc1⟩ := K.out _ (Below.refl _ _ : Below V.heap.size V V)
  have zl : w.heap.size + 1 + 1 + 1 < V.heap.size := by have h1 := ZV.out; have h2 := ((Below.refl _ _ : Below V.heap.size V V)).size; omega
  cases ea
  · go_wp2_with fail
    refine ((va _)).mono ?_
    rintro _ u1 ⟨rfl, hb⟩
    have B1 : Below V.heap.size V u1 := by have hB := (Below.refl _ _ : Below V.heap.size V V); have hz := hB.size; repeat' (first | (with_reducible exact Below.refl _ _) | (with_reducible refine Below.alloc ?_ ?_ _) | (with_reducible refine Below.setCell ?_ ?_ _) | (with_reducible refine Below.drew ?_) | (with_reducible refine Below.trans ?_ (Below.mono (by assumption) ?_)) | (simp; done) | (simp; omega) | omega)
    clear hb
    clear ac0 ac1 bc0 bc1 cc0 cc1 dc0 dc1 zl
    have B1 := hid B1
    obtain ⟨ac0, ac1, bc0, bc1, cc0, cc1, dc0, dc1⟩ := K.out _ B1.out
    have zl : w.heap.size + 1 + 1 + 1 < u1.heap.size := by have h1 := ZV.out; have h2 := (B1.out).size; omega
    go_wp2_with fail
    refine bodyPost_ret (v := .tuple #[.int .i64 0, .int .i64 2]) (by simp [results, Try.results26, go_sem]) rfl ?_
    have hB := B1.out
    have hz := hB.size
    have hV := BV.out.trans (hB.mono BV.out.size)
    exact Gives.mk ((by have h := F0.out (by first | rfl | simp); obtain ⟨rfl, rfl⟩ := h; rfl)) (by first | exact hV | (repeat' (first | (with_reducible exact Below.refl _ _) | (with_reducible refine Below.alloc ?_ ?_ _) | (with_reducible refine Below.setCell ?_ ?_ _) | (with_reducible refine Below.drew ?_) | (with_reducible refine Below.trans ?_ (Below.mono (by assumption) ?_)) | (simp; done) | (simp; omega) | omega)))
  · go_wp2_with fail
    refine ((va _)).mono ?_
    rintro _ u1 ⟨rfl, hb⟩
    have B1 : Below V.heap.size V u1 := by have hB := (Below.refl _ _ : Below V.heap.size V V); have hz := hB.size; repeat' (first | (with_reducible exact Below.refl _ _) | (with_reducible refine Below.alloc ?_ ?_ _) | (with_reducible refine Below.setCell ?_ ?_ _) | (with_reducible refine Below.drew ?_) | (with_reducible refine Below.trans ?_ (Below.mono (by assumption) ?_)) | (simp; done) | (simp; omega) | omega)
    clear hb
    clear ac0 ac1 bc0 bc1 cc0 cc1 dc0 dc1 zl
    have B1 := hid B1
    obtain ⟨ac0, ac1, bc0, bc1, cc0, cc1, dc0, dc1⟩ := K.out _ B1.out
    have zl : w.heap.size + 1 + 1 + 1 < u1.heap.size := by have h1 := ZV.out; have h2 := (B1.out).size; omega
    cases eb
    · go_wp2_with fail
      refine ((vb _)).mono ?_
      rintro _ u2 ⟨rfl, hb⟩
      have B2 : Below V.heap.size V u2 := by have hB := B1.out; have hz := hB.size; repeat' (first | (with_reducible exact Below.refl _ _) | (with_reducible refine Below.alloc ?_ ?_ _) | (with_reducible refine Below.setCell ?_ ?_ _) | (with_reducible refine Below.drew ?_) | (with_reducible refine Below.trans ?_ (Below.mono (by assumption) ?_)) | (simp; done) | (simp; omega) | omega)
      clear hb
      clear ac0 ac1 bc0 bc1 cc0 cc1 dc0 dc1 zl
      have B2 := hid B2
      obtain ⟨ac0, ac1, bc0, bc1, cc0, cc1, dc0, dc1⟩ := K.out _ B2.out
      have zl : w.heap.size + 1 + 1 + 1 < u2.heap.size := by have h1 := ZV.out; have h2 := (B2.out).size; omega
      go_wp2_with fail
      refine bodyPost_ret (v := .tuple #[.int .i64 0, .int .i64 2]) (by simp [results, Try.results26, go_sem]) rfl ?_
      have hB := B2.out
      have hz := hB.size
      have hV := BV.out.trans (hB.mono BV.out.size)
      exact Gives.mk ((by have h := F0.out (by first | rfl | simp); obtain ⟨rfl, rfl⟩ := h; rfl)) (by first | exact hV | (repeat' (first | (with_reducible exact Below.refl _ _) | (with_reducible refine Below.alloc ?_ ?_ _) | (with_reducible refine Below.setCell ?_ ?_ _) | (with_reducible refine Below.drew ?_) | (with_reducible refine Below.trans ?_ (Below.mono (by assumption) ?_)) | (simp; done) | (simp; omega) | omega)))
    · go_wp2_with fail
      refine ((vb _)).mono ?_
      rintro _ u2 ⟨rfl, hb⟩
      have B2 : Below V.heap.size V u2 := by have hB := B1.out; have hz := hB.size; repeat' (first | (with_reducible exact Below.refl _ _) | (with_reducible refine Below.alloc ?_ ?_ _) | (with_reducible refine Below.setCell ?_ ?_ _) | (with_reducible refine Below.drew ?_) | (with_reducible refine Below.trans ?_ (Below.mono (by assumption) ?_)) | (simp; done) | (simp; omega) | omega)
      clear hb
      clear ac0 ac1 bc0 bc1 cc0 cc1 dc0 dc1 zl
      have B2 := hid B2
      obtain ⟨ac0, ac1, bc0, bc1, cc0, cc1, dc0, dc1⟩ := K.out _ B2.out
      have zl : w.heap.size + 1 + 1 + 1 < u2.heap.size := by have h1 := ZV.out; have h2 := (B2.out).size; omega
      cases ec
      · go_wp2_with fail
        refine ((vc _)).mono ?_
        rintro _ u3 ⟨rfl, hb⟩
        have B3 : Below V.heap.size V u3 := by have hB := B2.out; have hz := hB.size; repeat' (first | (with_reducible exact Below.refl _ _) | (with_reducible refine Below.alloc ?_ ?_ _) | (with_reducible refine Below.setCell ?_ ?_ _) | (with_reducible refine Below.drew ?_) | (with_reducible refine Below.trans ?_ (Below.mono (by assumption) ?_)) | (simp; done) | (simp; omega) | omega)
        clear hb
        clear ac0 ac1 bc0 bc1 cc0 cc1 dc0 dc1 zl
        have B3 := hid B3
        obtain ⟨ac0, ac1, bc0, bc1, cc0, cc1, dc0, dc1⟩ := K.out _ B3.out
        have zl : w.heap.size + 1 + 1 + 1 < u3.heap.size := by have h1 := ZV.out; have h2 := (B3.out).size; omega
        go_wp2_with fail
        refine bodyPost_ret (v := .tuple #[.int .i64 0, .int .i64 2]) (by simp [results, Try.results26, go_sem]) rfl ?_
        have hB := B3.out
        have hz := hB.size
        have hV := BV.out.trans (hB.mono BV.out.size)
        exact Gives.mk ((by have h := F0.out (by first | rfl | simp); obtain ⟨rfl, rfl⟩ := h; rfl)) (by first | exact hV | (repeat' (first | (with_reducible exact Below.refl _ _) | (with_reducible refine Below.alloc ?_ ?_ _) | (with_reducible refine Below.setCell ?_ ?_ _) | (with_reducible refine Below.drew ?_) | (with_reducible refine Below.trans ?_ (Below.mono (by assumption) ?_)) | (simp; done) | (simp; omega) | omega)))
      · go_wp2_with fail
        refine ((vc _)).mono ?_
        rintro _ u3 ⟨rfl, hb⟩
        have B3 : Below V.heap.size V u3 := by have hB := B2.out; have hz := hB.size; repeat' (first | (with_reducible exact Below.refl _ _) | (with_reducible refine Below.alloc ?_ ?_ _) | (with_reducible refine Below.setCell ?_ ?_ _) | (with_reducible refine Below.drew ?_) | (with_reducible refine Below.trans ?_ (Below.mono (by assumption) ?_)) | (simp; done) | (simp; omega) | omega)
        clear hb
        clear ac0 ac1 bc0 bc1 cc0 cc1 dc0 dc1 zl
        have B3 := hid B3
        obtain ⟨ac0, ac1, bc0, bc1, cc0, cc1, dc0, dc1⟩ := K.out _ B3.out
        have zl : w.heap.size + 1 + 1 + 1 < u3.heap.size := by have h1 := ZV.out; have h2 := (B3.out).size; omega
        cases ed
        · go_wp2_with fail
          refine ((vd _)).mono ?_
          rintro _ u4 ⟨rfl, hb⟩
          have B4 : Below V.heap.size V u4 := by have hB := B3.out; have hz := hB.size; repeat' (first | (with_reducible exact Below.refl _ _) | (with_reducible refine Below.alloc ?_ ?_ _) | (with_reducible refine Below.setCell ?_ ?_ _) | (with_reducible refine Below.drew ?_) | (with_reducible refine Below.trans ?_ (Below.mono (by assumption) ?_)) | (simp; done) | (simp; omega) | omega)
          clear hb
          clear ac0 ac1 bc0 bc1 cc0 cc1 dc0 dc1 zl
          have B4 := hid B4
          obtain ⟨ac0, ac1, bc0, bc1, cc0, cc1, dc0, dc1⟩ := K.out _ B4.out
          have zl : w.heap.size + 1 + 1 + 1 < u4.heap.size := by have h1 := ZV.out; have h2 := (B4.out).size; omega
          go_wp2_with fail
          refine bodyPost_ret (v := .tuple #[.int .i64 0, .int .i64 2]) (by simp [results, Try.results26, go_sem]) rfl ?_
          have hB := B4.out
          have hz := hB.size
          have hV := BV.out.trans (hB.mono BV.out.size)
          exact Gives.mk ((by have h := F0.out (by first | rfl | simp); obtain ⟨rfl, rfl⟩ := h; rfl)) (by first | exact hV | (repeat' (first | (with_reducible exact Below.refl _ _) | (with_reducible refine Below.alloc ?_ ?_ _) | (with_reducible refine Below.setCell ?_ ?_ _) | (with_reducible refine Below.drew ?_) | (with_reducible refine Below.trans ?_ (Below.mono (by assumption) ?_)) | (simp; done) | (simp; omega) | omega)))
        · go_wp2_with fail
          refine ((vd _)).mono ?_
          rintro _ u4 ⟨rfl, hb⟩
          have B4 : Below V.heap.size V u4 := by have hB := B3.out; have hz := hB.size; repeat' (first | (with_reducible exact Below.refl _ _) | (with_reducible refine Below.alloc ?_ ?_ _) | (with_reducible refine Below.setCell ?_ ?_ _) | (with_reducible refine Below.drew ?_) | (with_reducible refine Below.trans ?_ (Below.mono (by assumption) ?_)) | (simp; done) | (simp; omega) | omega)
          clear hb
          clear ac0 ac1 bc0 bc1 cc0 cc1 dc0 dc1 zl
          have B4 := hid B4
          obtain ⟨ac0, ac1, bc0, bc1, cc0, cc1, dc0, dc1⟩ := K.out _ B4.out
          have zl : w.heap.size + 1 + 1 + 1 < u4.heap.size := by have h1 := ZV.out; have h2 := (B4.out).size; omega
          rcases Classical.em (a1 = b1) with ha1 | ha1
          · subst ha1
            rcases Classical.em (a2 = b2) with ha2 | ha2
            · subst ha2
              go_wp2_with fail
              refine bodyPost_ret (v := .tuple #[.int .i64 0, .int .i64 1]) (by simp [results, Try.results26, go_sem]) rfl ?_
              have hB := B4.out
              have hz := hB.size
              have hV := BV.out.trans (hB.mono BV.out.size)
              exact Gives.mk ((by have h := F1.out (by first | trivial | rfl) (by first | trivial | rfl) (by first | trivial | rfl) (by first | trivial | rfl) (by first | trivial | rfl); obtain ⟨rfl, rfl⟩ := h; rfl)) (by first | exact hV | (repeat' (first | (with_reducible exact Below.refl _ _) | (with_reducible refine Below.alloc ?_ ?_ _) | (with_reducible refine Below.setCell ?_ ?_ _) | (with_reducible refine Below.drew ?_) | (with_reducible refine Below.trans ?_ (Below.mono (by assumption) ?_)) | (simp; done) | (simp; omega) | omega)))
            · rcases Classical.em (c1 = d1) with hc1 | hc1
              · subst hc1
                rcases Classical.em (c2 = d2) with hc2 | hc2
                · subst hc2
                  go_wp2_with fail
                  refine bodyPost_ret (v := .tuple #[.int .i64 0, .int .i64 1]) (by simp [results, Try.results26, go_sem]) rfl ?_
                  have hB := B4.out
                  have hz := hB.size
                  have hV := BV.out.trans (hB.mono BV.out.size)
                  exact Gives.mk ((by have h := F2.out (by first | trivial | rfl) (by first | trivial | rfl) (by first | trivial | rfl) (by first | trivial | rfl) (fun e => ha2 (Prod.mk.inj e).2) (by first | trivial | rfl); obtain ⟨rfl, rfl⟩ := h; rfl)) (by first | exact hV | (repeat' (first | (with_reducible exact Below.refl _ _) | (with_reducible refine Below.alloc ?_ ?_ _) | (with_reducible refine Below.setCell ?_ ?_ _) | (with_reducible refine Below.drew ?_) | (with_reducible refine Below.trans ?_ (Below.mono (by assumption) ?_)) | (simp; done) | (simp; omega) | omega)))
                · go_wp2_with fail
                  refine ((DW.out (by first | trivial | rfl) (by first | trivial | rfl) (by first | trivial | rfl) (by first | trivial | rfl) _)).mono ?_
                  rintro _ u5 ⟨rfl, hb⟩
                  have B5 : Below V.heap.size V u5 := by have hB := B4.out; have hz := hB.size; repeat' (first | (with_reducible exact Below.refl _ _) | (with_reducible refine Below.alloc ?_ ?_ _) | (with_reducible refine Below.setCell ?_ ?_ _) | (with_reducible refine Below.drew ?_) | (with_reducible refine Below.trans ?_ (Below.mono (by assumption) ?_)) | (simp; done) | (simp; omega) | omega)
                  clear hb
                  clear ac0 ac1 bc0 bc1 cc0 cc1 dc0 dc1 zl
                  have B5 := hid B5
                  obtain ⟨ac0, ac1, bc0, bc1, cc0, cc1, dc0, dc1⟩ := K.out _ B5.out
                  have zl : w.heap.size + 1 + 1 + 1 < u5.heap.size := by have h1 := ZV.out; have h2 := (B5.out).size; omega
                  go_wp2_with fail
                  refine bodyPost_ret (v := .tuple #[.int .i64 v, .int .i64 0]) (by simp [results, Try.results26, go_sem]) rfl ?_
                  have hB := B5.out
                  have hz := hB.size
                  have hV := BV.out.trans (hB.mono BV.out.size)
                  exact Gives.mk ((by have h := F3.out (by first | trivial | rfl) (by first | trivial | rfl) (by first | trivial | rfl) (by first | trivial | rfl) (fun e => ha2 (Prod.mk.inj e).2) (fun e => hc2 (Prod.mk.inj e).2); obtain ⟨rfl, rfl⟩ := h; rfl)) (by first | exact hV | (repeat' (first | (with_reducible exact Below.refl _ _) | (with_reducible refine Below.alloc ?_ ?_ _) | (with_reducible refine Below.setCell ?_ ?_ _) | (with_reducible refine Below.drew ?_) | (with_reducible refine Below.trans ?_ (Below.mono (by assumption) ?_)) | (simp; done) | (simp; omega) | omega)))
              · go_wp2_with fail
                refine ((DW.out (by first | trivial | rfl) (by first | trivial | rfl) (by first | trivial | rfl) (by first | trivial | rfl) _)).mono ?_
                rintro _ u5 ⟨rfl, hb⟩
                have B5 : Below V.heap.size V u5 := by have hB := B4.out; have hz := hB.size; repeat' (first | (with_reducible exact Below.refl _ _) | (with_reducible refine Below.alloc ?_ ?_ _) | (with_reducible refine Below.setCell ?_ ?_ _) | (with_reducible refine Below.drew ?_) | (with_reducible refine Below.trans ?_ (Below.mono (by assumption) ?_)) | (simp; done) | (simp; omega) | omega)
                clear hb
                clear ac0 ac1 bc0 bc1 cc0 cc1 dc0 dc1 zl
                have B5 := hid B5
                obtain ⟨ac0, ac1, bc0, bc1, cc0, cc1, dc0, dc1⟩ := K.out _ B5.out
                have zl : w.heap.size + 1 + 1 + 1 < u5.heap.size := by have h1 := ZV.out; have h2 := (B5.out).size; omega
                go_wp2_with fail
                refine bodyPost_ret (v := .tuple #[.int .i64 v, .int .i64 0]) (by simp [results, Try.results26, go_sem]) rfl ?_
                have hB := B5.out
                have hz := hB.size
                have hV := BV.out.trans (hB.mono BV.out.size)
                exact Gives.mk ((by have h := F3.out (by first | trivial | rfl) (by first | trivial | rfl) (by first | trivial | rfl) (by first | trivial | rfl) (fun e => ha2 (Prod.mk.inj e).2) (fun e => hc1 (Prod.mk.inj e).1); obtain ⟨rfl, rfl⟩ := h; rfl)) (by first | exact hV | (repeat' (first | (with_reducible exact Below.refl _ _) | (with_reducible refine Below.alloc ?_ ?_ _) | (with_reducible refine Below.setCell ?_ ?_ _) | (with_reducible refine Below.drew ?_) | (with_reducible refine Below.trans ?_ (Below.mono (by assumption) ?_)) | (simp; done) | (simp; omega) | omega)))
          · rcases Classical.em (c1 = d1) with hc1 | hc1
            · subst hc1
              rcases Classical.em (c2 = d2) with hc2 | hc2
              · subst hc2
                go_wp2_with fail
                refine bodyPost_ret (v := .tuple #[.int .i64 0, .int .i64 1]) (by simp [results, Try.results26, go_sem]) rfl ?_
                have hB := B4.out
                have hz := hB.size
                have hV := BV.out.trans (hB.mono BV.out.size)
                exact Gives.mk ((by have h := F2.out (by first | trivial | rfl) (by first | trivial | rfl) (by first | trivial | rfl) (by first | trivial | rfl) (fun e => ha1 (Prod.mk.inj e).1) (by first | trivial | rfl); obtain ⟨rfl, rfl⟩ := h; rfl)) (by first | exact hV | (repeat' (first | (with_reducible exact Below.refl _ _) | (with_reducible refine Below.alloc ?_ ?_ _) | (with_reducible refine Below.setCell ?_ ?_ _) | (with_reducible refine Below.drew ?_) | (with_reducible refine Below.trans ?_ (Below.mono (by assumption) ?_)) | (simp; done) | (simp; omega) | omega)))
              · go_wp2_with fail
                refine ((DW.out (by first | trivial | rfl) (by first | trivial | rfl) (by first | trivial | rfl) (by first | trivial | rfl) _)).mono ?_
                rintro _ u5 ⟨rfl, hb⟩
                have B5 : Below V.heap.size V u5 := by have hB := B4.out; have hz := hB.size; repeat' (first | (with_reducible exact Below.refl _ _) | (with_reducible refine Below.alloc ?_ ?_ _) | (with_reducible refine Below.setCell ?_ ?_ _) | (with_reducible refine Below.drew ?_) | (with_reducible refine Below.trans ?_ (Below.mono (by assumption) ?_)) | (simp; done) | (simp; omega) | omega)
                clear hb
                clear ac0 ac1 bc0 bc1 cc0 cc1 dc0 dc1 zl
                have B5 := hid B5
                obtain ⟨ac0, ac1, bc0, bc1, cc0, cc1, dc0, dc1⟩ := K.out _ B5.out
                have zl : w.heap.size + 1 + 1 + 1 < u5.heap.size := by have h1 := ZV.out; have h2 := (B5.out).size; omega
                go_wp2_with fail
                refine bodyPost_ret (v := .tuple #[.int .i64 v, .int .i64 0]) (by simp [results, Try.results26, go_sem]) rfl ?_
                have hB := B5.out
                have hz := hB.size
                have hV := BV.out.trans (hB.mono BV.out.size)
                exact Gives.mk ((by have h := F3.out (by first | trivial | rfl) (by first | trivial | rfl) (by first | trivial | rfl) (by first | trivial | rfl) (fun e => ha1 (Prod.mk.inj e).1) (fun e => hc2 (Prod.mk.inj e).2); obtain ⟨rfl, rfl⟩ := h; rfl)) (by first | exact hV | (repeat' (first | (with_reducible exact Below.refl _ _) | (with_reducible refine Below.alloc ?_ ?_ _) | (with_reducible refine Below.setCell ?_ ?_ _) | (with_reducible refine Below.drew ?_) | (with_reducible refine Below.trans ?_ (Below.mono (by assumption) ?_)) | (simp; done) | (simp; omega) | omega)))
            · go_wp2_with fail
              refine ((DW.out (by first | trivial | rfl) (by first | trivial | rfl) (by first | trivial | rfl) (by first | trivial | rfl) _)).mono ?_
              rintro _ u5 ⟨rfl, hb⟩
              have B5 : Below V.heap.size V u5 := by have hB := B4.out; have hz := hB.size; repeat' (first | (with_reducible exact Below.refl _ _) | (with_reducible refine Below.alloc ?_ ?_ _) | (with_reducible refine Below.setCell ?_ ?_ _) | (with_reducible refine Below.drew ?_) | (with_reducible refine Below.trans ?_ (Below.mono (by assumption) ?_)) | (simp; done) | (simp; omega) | omega)
              clear hb
              clear ac0 ac1 bc0 bc1 cc0 cc1 dc0 dc1 zl
              have B5 := hid B5
              obtain ⟨ac0, ac1, bc0, bc1, cc0, cc1, dc0, dc1⟩ := K.out _ B5.out
              have zl : w.heap.size + 1 + 1 + 1 < u5.heap.size := by have h1 := ZV.out; have h2 := (B5.out).size; omega
              go_wp2_with fail
              refine bodyPost_ret (v := .tuple #[.int .i64 v, .int .i64 0]) (by simp [results, Try.results26, go_sem]) rfl ?_
              have hB := B5.out
              have hz := hB.size
              have hV := BV.out.trans (hB.mono BV.out.size)
              exact Gives.mk ((by have h := F3.out (by first | trivial | rfl) (by first | trivial | rfl) (by first | trivial | rfl) (by first | trivial | rfl) (fun e => ha1 (Prod.mk.inj e).1) (fun e => hc1 (Prod.mk.inj e).1); obtain ⟨rfl, rfl⟩ := h; rfl)) (by first | exact hV | (repeat' (first | (with_reducible exact Below.refl _ _) | (with_reducible refine Below.alloc ?_ ?_ _) | (with_reducible refine Below.setCell ?_ ?_ _) | (with_reducible refine Below.drew ?_) | (with_reducible refine Below.trans ?_ (Below.mono (by assumption) ?_)) | (simp; done) | (simp; omega) | omega)))

set_option maxRecDepth 100000 in
set_option maxHeartbeats 4000000 in
theorem rNear_any (p a b : Sp.Pt) (r : Int) (w : World) :
    Calls Try.prog 28 #[.agg #[.int .i64 p.1, .int .i64 p.2], .agg #[.int .i64 a.1, .int .i64 a.2], .agg #[.int .i64 b.1, .int .i64 b.2], .int .i64 r] w (Gives (.tuple #[.bool (Sp.nearsS p a b r).1, .int .i64 (Sp.nearsS p a b r).2]) w) := by
  have vp := rvalid_any p
  have va := rvalid_any a
  have vb := rvalid_any b
  have dv := rwithin_any p a b r
  obtain ⟨⟨rx, ry⟩, hR⟩ : ∃ q, Sp.nearsS p a b r = q := ⟨_, rfl⟩
  rw [hR]
  unfold Sp.nearsS at hR
  have fi := Sp.farOk_iff r
  generalize Sp.nearS p a b r = v at dv hR
  generalize Sp.farOk r = fo at fi hR
  generalize Sp.okP p = ep at vp dv hR
  generalize Sp.okP a = ea at va dv hR
  generalize Sp.okP b = eb at vb dv hR
  have HR := hid hR
  have DW := hid dv
  have FI := hid fi
  clear hR dv fi
  obtain ⟨p1, p2⟩ := p
  obtain ⟨a1, a2⟩ := a
  obtain ⟨b1, b2⟩ := b
  dsimp only at *
  obtain ⟨V, hV⟩ : ∃ V : World, (((w.alloc (Obj.cells #[.int .i64 (p1), .int .i64 (p2)] 23)).alloc (Obj.cells #[.int .i64 (a1), .int .i64 (a2)] 23)).alloc (Obj.cells #[.int .i64 (b1), .int .i64 (b2)] 23)) = V := ⟨_, rfl⟩
  have bV : Below w.heap.size w V := by rw [← hV]; (repeat' (first | (with_reducible exact Below.refl _ _) | (with_reducible refine Below.alloc ?_ ?_ _) | (with_reducible refine Below.setCell ?_ ?_ _) | (with_reducible refine Below.drew ?_) | (with_reducible refine Below.trans ?_ (Below.mono (by assumption) ?_)) | (simp; done) | (simp; omega) | omega))
  have zV : V.heap.size = w.heap.size + 1 + 1 + 1 := by rw [← hV]; simp
  have dV : V.drawn = w.drawn := by rw [← hV]; rfl
  have K : Hid (∀ W' : World, Below V.heap.size V W' → (W'.cell? ⟨w.heap.size, 0, none⟩ = some (.int .i64 p1) ∧ W'.cell? ⟨w.heap.size, 1, none⟩ = some (.int .i64 p2) ∧ W'.cell? ⟨w.heap.size + 1, 0, none⟩ = some (.int .i64 a1) ∧ W'.cell? ⟨w.heap.size + 1, 1, none⟩ = some (.int .i64 a2) ∧ W'.cell? ⟨w.heap.size + 1 + 1, 0, none⟩ = some (.int .i64 b1) ∧ W'.cell? ⟨w.heap.size + 1 + 1, 1, none⟩ = some (.int .i64 b2))) := hid fun W' B => ⟨(B.cell (p := ⟨w.heap.size, 0, none⟩) (by simp only; omega)).trans (by rw [← hV]; simp [go_sem]), (B.cell (p := ⟨w.heap.size, 1, none⟩) (by simp only; omega)).trans (by rw [← hV]; simp [go_sem]), (B.cell (p := ⟨w.heap.size + 1, 0, none⟩) (by simp only; omega)).trans (by rw [← hV]; simp [go_sem]), (B.cell (p := ⟨w.heap.size + 1, 1, none⟩) (by simp only; omega)).trans (by rw [← hV]; simp [go_sem]), (B.cell (p := ⟨w.heap.size + 1 + 1, 0, none⟩) (by simp only; omega)).trans (by rw [← hV]; simp [go_sem]), (B.cell (p := ⟨w.heap.size + 1 + 1, 1, none⟩) (by simp only; omega)).trans (by rw [← hV]; simp [go_sem])⟩
  have HV := hid hV
  have BV := hid bV
  have ZV := hid zV
  have DV := hid dV
  clear hV bV zV dV
  go_enter Try.func28, Try.ntmps28
  go_upto_region 1 with fail
  rw [HV.out]
  obtain ⟨pc0, pc1, ac0, ac1, bc0, bc1⟩ := K.out _ (Below.refl _ _ : Below V.heap.size V V)
  have zl : w.heap.size + 1 + 1 < V.heap.size := by have h1 := ZV.out; have h2 := ((Below.refl _ _ : Below V.heap.size V V)).size; omega
  cases ep
  · go_wp2_with fail
    refine ((vp _)).mono ?_
    rintro _ u1 ⟨rfl, hb⟩
    have B1 : Below V.heap.size V u1 := by have hB := (Below.refl _ _ : Below V.heap.size V V); have hz := hB.size; repeat' (first | (with_reducible exact Below.refl _ _) | (with_reducible refine Below.alloc ?_ ?_ _) | (with_reducible refine Below.setCell ?_ ?_ _) | (with_reducible refine Below.drew ?_) | (with_reducible refine Below.trans ?_ (Below.mono (by assumption) ?_)) | (simp; done) | (simp; omega) | omega)
    clear hb
    clear pc0 pc1 ac0 ac1 bc0 bc1 zl
    have B1 := hid B1
    obtain ⟨pc0, pc1, ac0, ac1, bc0, bc1⟩ := K.out _ B1.out
    have zl : w.heap.size + 1 + 1 < u1.heap.size := by have h1 := ZV.out; have h2 := (B1.out).size; omega
    go_wp2_with fail
    refine bodyPost_ret (v := .tuple #[.bool false, .int .i64 2]) (by simp [results, Try.results28, go_sem]) rfl ?_
    have hB := B1.out
    have hz := hB.size
    have hV := BV.out.trans (hB.mono BV.out.size)
    exact Gives.mk ((by have h := HR.out; simp at h; obtain ⟨rfl, rfl⟩ := h; rfl)) (by first | exact hV | (repeat' (first | (with_reducible exact Below.refl _ _) | (with_reducible refine Below.alloc ?_ ?_ _) | (with_reducible refine Below.setCell ?_ ?_ _) | (with_reducible refine Below.drew ?_) | (with_reducible refine Below.trans ?_ (Below.mono (by assumption) ?_)) | (simp; done) | (simp; omega) | omega)))
  · go_wp2_with fail
    refine ((vp _)).mono ?_
    rintro _ u1 ⟨rfl, hb⟩
    have B1 : Below V.heap.size V u1 := by have hB := (Below.refl _ _ : Below V.heap.size V V); have hz := hB.size; repeat' (first | (with_reducible exact Below.refl _ _) | (with_reducible refine Below.alloc ?_ ?_ _) | (with_reducible refine Below.setCell ?_ ?_ _) | (with_reducible refine Below.drew ?_) | (with_reducible refine Below.trans ?_ (Below.mono (by assumption) ?_)) | (simp; done) | (simp; omega) | omega)
    clear hb
    clear pc0 pc1 ac0 ac1 bc0 bc1 zl
    have B1 := hid B1
    obtain ⟨pc0, pc1, ac0, ac1, bc0, bc1⟩ := K.out _ B1.out
    have zl : w.heap.size + 1 + 1 < u1.heap.size := by have h1 := ZV.out; have h2 := (B1.out).size; omega
    cases ea
    · go_wp2_with fail
      refine ((va _)).mono ?_
      rintro _ u2 ⟨rfl, hb⟩
      have B2 : Below V.heap.size V u2 := by have hB := B1.out; have hz := hB.size; repeat' (first | (with_reducible exact Below.refl _ _) | (with_reducible refine Below.alloc ?_ ?_ _) | (with_reducible refine Below.setCell ?_ ?_ _) | (with_reducible refine Below.drew ?_) | (with_reducible refine Below.trans ?_ (Below.mono (by assumption) ?_)) | (simp; done) | (simp; omega) | omega)
      clear hb
      clear pc0 pc1 ac0 ac1 bc0 bc1 zl
      have B2 := hid B2
      obtain ⟨pc0, pc1, ac0, ac1, bc0, bc1⟩ := K.out _ B2.out
      have zl : w.heap.size + 1 + 1 < u2.heap.size := by have h1 := ZV.out; have h2 := (B2.out).size; omega
      go_wp2_with fail
      refine bodyPost_ret (v := .tuple #[.bool false, .int .i64 2]) (by simp [results, Try.results28, go_sem]) rfl ?_
      have hB := B2.out
      have hz := hB.size
      have hV := BV.out.trans (hB.mono BV.out.size)
      exact Gives.mk ((by have h := HR.out; simp at h; obtain ⟨rfl, rfl⟩ := h; rfl)) (by first | exact hV | (repeat' (first | (with_reducible exact Below.refl _ _) | (with_reducible refine Below.alloc ?_ ?_ _) | (with_reducible refine Below.setCell ?_ ?_ _) | (with_reducible refine Below.drew ?_) | (with_reducible refine Below.trans ?_ (Below.mono (by assumption) ?_)) | (simp; done) | (simp; omega) | omega)))
    · go_wp2_with fail
      refine ((va _)).mono ?_
      rintro _ u2 ⟨rfl, hb⟩
      have B2 : Below V.heap.size V u2 := by have hB := B1.out; have hz := hB.size; repeat' (first | (with_reducible exact Below.refl _ _) | (with_reducible refine Below.alloc ?_ ?_ _) | (with_reducible refine Below.setCell ?_ ?_ _) | (with_reducible refine Below.drew ?_) | (with_reducible refine Below.trans ?_ (Below.mono (by assumption) ?_)) | (simp; done) | (simp; omega) | omega)
      clear hb
      clear pc0 pc1 ac0 ac1 bc0 bc1 zl
      have B2 := hid B2
      obtain ⟨pc0, pc1, ac0, ac1, bc0, bc1⟩ := K.out _ B2.out
      have zl : w.heap.size + 1 + 1 < u2.heap.size := by have h1 := ZV.out; have h2 := (B2.out).size; omega
      cases eb
      · go_wp2_with fail
        refine ((vb _)).mono ?_
        rintro _ u3 ⟨rfl, hb⟩
        have B3 : Below V.heap.size V u3 := by have hB := B2.out; have hz := hB.size; repeat' (first | (with_reducible exact Below.refl _ _) | (with_reducible refine Below.alloc ?_ ?_ _) | (with_reducible refine Below.setCell ?_ ?_ _) | (with_reducible refine Below.drew ?_) | (with_reducible refine Below.trans ?_ (Below.mono (by assumption) ?_)) | (simp; done) | (simp; omega) | omega)
        clear hb
        clear pc0 pc1 ac0 ac1 bc0 bc1 zl
        have B3 := hid B3
        obtain ⟨pc0, pc1, ac0, ac1, bc0, bc1⟩ := K.out _ B3.out
        have zl : w.heap.size + 1 + 1 < u3.heap.size := by have h1 := ZV.out; have h2 := (B3.out).size; omega
        go_wp2_with fail
        refine bodyPost_ret (v := .tuple #[.bool false, .int .i64 2]) (by simp [results, Try.results28, go_sem]) rfl ?_
        have hB := B3.out
        have hz := hB.size
        have hV := BV.out.trans (hB.mono BV.out.size)
        exact Gives.mk ((by have h := HR.out; simp at h; obtain ⟨rfl, rfl⟩ := h; rfl)) (by first | exact hV | (repeat' (first | (with_reducible exact Below.refl _ _) | (with_reducible refine Below.alloc ?_ ?_ _) | (with_reducible refine Below.setCell ?_ ?_ _) | (with_reducible refine Below.drew ?_) | (with_reducible refine Below.trans ?_ (Below.mono (by assumption) ?_)) | (simp; done) | (simp; omega) | omega)))
      · go_wp2_with fail
        refine ((vb _)).mono ?_
        rintro _ u3 ⟨rfl, hb⟩
        have B3 : Below V.heap.size V u3 := by have hB := B2.out; have hz := hB.size; repeat' (first | (with_reducible exact Below.refl _ _) | (with_reducible refine Below.alloc ?_ ?_ _) | (with_reducible refine Below.setCell ?_ ?_ _) | (with_reducible refine Below.drew ?_) | (with_reducible refine Below.trans ?_ (Below.mono (by assumption) ?_)) | (simp; done) | (simp; omega) | omega)
        clear hb
        clear pc0 pc1 ac0 ac1 bc0 bc1 zl
        have B3 := hid B3
        obtain ⟨pc0, pc1, ac0, ac1, bc0, bc1⟩ := K.out _ B3.out
        have zl : w.heap.size + 1 + 1 < u3.heap.size := by have h1 := ZV.out; have h2 := (B3.out).size; omega
        rcases Classical.em (r < 0) with y1 | y1
        · have fo0 : fo = false := by cases fo with | false => rfl | true => exact absurd (FI.out.1 rfl).1 (by omega)
          subst fo0
          go_wp2_with fail
          refine bodyPost_ret (v := .tuple #[.bool false, .int .i64 2]) (by simp [results, Try.results28, go_sem]) rfl ?_
          have hB := B3.out
          have hz := hB.size
          have hV := BV.out.trans (hB.mono BV.out.size)
          exact Gives.mk ((by have h := HR.out; simp at h; obtain ⟨rfl, rfl⟩ := h; rfl)) (by first | exact hV | (repeat' (first | (with_reducible exact Below.refl _ _) | (with_reducible refine Below.alloc ?_ ?_ _) | (with_reducible refine Below.setCell ?_ ?_ _) | (with_reducible refine Below.drew ?_) | (with_reducible refine Below.trans ?_ (Below.mono (by assumption) ?_)) | (simp; done) | (simp; omega) | omega)))
        · rcases Classical.em (200000 < r) with y2 | y2
          · have fo0 : fo = false := by cases fo with | false => rfl | true => exact absurd (FI.out.1 rfl).2 (by omega)
            subst fo0
            go_wp2_with fail
            refine bodyPost_ret (v := .tuple #[.bool false, .int .i64 2]) (by simp [results, Try.results28, go_sem]) rfl ?_
            have hB := B3.out
            have hz := hB.size
            have hV := BV.out.trans (hB.mono BV.out.size)
            exact Gives.mk ((by have h := HR.out; simp at h; obtain ⟨rfl, rfl⟩ := h; rfl)) (by first | exact hV | (repeat' (first | (with_reducible exact Below.refl _ _) | (with_reducible refine Below.alloc ?_ ?_ _) | (with_reducible refine Below.setCell ?_ ?_ _) | (with_reducible refine Below.drew ?_) | (with_reducible refine Below.trans ?_ (Below.mono (by assumption) ?_)) | (simp; done) | (simp; omega) | omega)))
          · have fo0 : fo = true := FI.out.2 ⟨by omega, by omega⟩
            subst fo0
            go_wp2_with fail
            refine ((DW.out (by first | trivial | rfl) (by first | trivial | rfl) (by first | trivial | rfl) (by omega) (by omega) _)).mono ?_
            rintro _ u4 ⟨rfl, hb⟩
            have B4 : Below V.heap.size V u4 := by have hB := B3.out; have hz := hB.size; repeat' (first | (with_reducible exact Below.refl _ _) | (with_reducible refine Below.alloc ?_ ?_ _) | (with_reducible refine Below.setCell ?_ ?_ _) | (with_reducible refine Below.drew ?_) | (with_reducible refine Below.trans ?_ (Below.mono (by assumption) ?_)) | (simp; done) | (simp; omega) | omega)
            clear hb
            clear pc0 pc1 ac0 ac1 bc0 bc1 zl
            have B4 := hid B4
            obtain ⟨pc0, pc1, ac0, ac1, bc0, bc1⟩ := K.out _ B4.out
            have zl : w.heap.size + 1 + 1 < u4.heap.size := by have h1 := ZV.out; have h2 := (B4.out).size; omega
            go_wp2_with fail
            refine bodyPost_ret (v := .tuple #[.bool v, .int .i64 0]) (by simp [results, Try.results28, go_sem]) rfl ?_
            have hB := B4.out
            have hz := hB.size
            have hV := BV.out.trans (hB.mono BV.out.size)
            exact Gives.mk ((by have h := HR.out; simp at h; obtain ⟨rfl, rfl⟩ := h; rfl)) (by first | exact hV | (repeat' (first | (with_reducible exact Below.refl _ _) | (with_reducible refine Below.alloc ?_ ?_ _) | (with_reducible refine Below.setCell ?_ ?_ _) | (with_reducible refine Below.drew ?_) | (with_reducible refine Below.trans ?_ (Below.mono (by assumption) ?_)) | (simp; done) | (simp; omega) | omega)))

end Go.Proofs.Ytfdnmlggemonhaa
