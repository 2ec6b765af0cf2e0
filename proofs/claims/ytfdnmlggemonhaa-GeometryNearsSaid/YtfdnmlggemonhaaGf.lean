/-
  Layer 7: checkSegments, near, Meet, Near, Close of package geometry, by contract. Written by tools/gen_gf.py.
-/
import Derived.Test.YtfdnmlggemonhaaGe
import Derived.Test.YtfdnmlggemonhaaWcmp
namespace Go.Proofs.Ytfdnmlggemonhaa
open Go.RowKit
set_option linter.unusedVariables false
set_option linter.unusedSimpArgs false

namespace Sp
def segsS (a b c d : Pt) : Int := if (okP a && okP b && okP c && okP d) = true then (if a = b ∨ c = d then 1 else 0) else 2
def meetS (a b c d : Pt) : Int × Int := if segsS a b c d = 0 then (relS a b c d, 0) else (0, segsS a b c d)
def farOk (r : Int) : Bool := btw r 0 200000
def nearsS (p a b : Pt) (r : Int) : Bool × Int := if (okP p && okP a && okP b && farOk r) = true then (nearS p a b r, 0) else (false, 2)
def closesS (a b c d : Pt) (r : Int) : Bool × Int := if segsS a b c d = 0 then (if farOk r = true then (closeS a b c d r, 0) else (false, 2)) else (false, segsS a b c d)
theorem segs0 {a b c d : Pt} (h : segsS a b c d = 0) : okP a = true ∧ okP b = true ∧ okP c = true ∧ okP d = true ∧ a ≠ b ∧ c ≠ d := by
  unfold segsS at h
  split at h
  · rename_i h1
    simp only [Bool.and_eq_true] at h1
    split at h
    · cases h
    · rename_i h2
      exact ⟨h1.1.1.1, h1.1.1.2, h1.1.2, h1.2, fun e => h2 (.inl e), fun e => h2 (.inr e)⟩
  · cases h
theorem farOk_iff (r : Int) : farOk r = true ↔ 0 ≤ r ∧ r ≤ 200000 := by unfold farOk; rw [btw_iff]; omega
end Sp
theorem bool_eq {a b : Bool} (h : a = b) : Value.bool a = .bool b := by rw [h]
theorem cmpI_le (x y : Int) : decide (Wd.cmpI x y ≤ 0) = decide (x ≤ y) := by
  rw [decide_eq_decide]; unfold Wd.cmpI; split <;> (first | omega | (split <;> omega))

set_option maxRecDepth 100000 in
set_option maxHeartbeats 4000000 in
theorem segs_any (a b c d : Sp.Pt) (w : World) :
    Calls Try.prog 50 #[.agg #[.int .i64 a.1, .int .i64 a.2], .agg #[.int .i64 b.1, .int .i64 b.2], .agg #[.int .i64 c.1, .int .i64 c.2], .agg #[.int .i64 d.1, .int .i64 d.2]] w (Gives (.int .i64 (Sp.segsS a b c d)) w) := by
  obtain ⟨R, hR⟩ : ∃ R, Sp.segsS a b c d = R := ⟨_, rfl⟩
  rw [hR]
  unfold Sp.segsS at hR
  rcases Classical.em ((Sp.okP a && Sp.okP b && Sp.okP c && Sp.okP d) = true) with ok | ok
  · rw [if_pos ok] at hR
    have ck := fun (W : World) T => chk_any (some ⟨w.heap.size + 1 + 1 + 1 + 1, 0, none⟩) 4 [a, b, c, d] (by simp) W T 0 (Sp.chkL_good (by simpa [and_assoc] using ok))
    have K6 := fun (W : World) => Pts.mk4 (g := w.heap.size + 1 + 1 + 1 + 1) (w := W) (a := a) (b := b) (c := c) (d := d)
    have HR := hid hR
    clear ok hR
    obtain ⟨a1, a2⟩ := a
    obtain ⟨b1, b2⟩ := b
    obtain ⟨c1, c2⟩ := c
    obtain ⟨d1, d2⟩ := d
    dsimp only at *
    obtain ⟨V, hV⟩ : ∃ V : World, ((((w.alloc (Obj.cells #[.int .i64 (a1), .int .i64 (a2)] 23)).alloc (Obj.cells #[.int .i64 (b1), .int .i64 (b2)] 23)).alloc (Obj.cells #[.int .i64 (c1), .int .i64 (c2)] 23)).alloc (Obj.cells #[.int .i64 (d1), .int .i64 (d2)] 23)) = V := ⟨_, rfl⟩
    have bV : Below w.heap.size w V := by rw [← hV]; (repeat' (first | (with_reducible exact Below.refl _ _) | (with_reducible refine Below.alloc ?_ ?_ _) | (with_reducible refine Below.setCell ?_ ?_ _) | (with_reducible refine Below.drew ?_) | (with_reducible refine Below.trans ?_ (Below.mono (by assumption) ?_)) | (simp; done) | (simp; omega) | omega))
    have zV : V.heap.size = w.heap.size + 1 + 1 + 1 + 1 := by rw [← hV]; simp
    have dV : V.drawn = w.drawn := by rw [← hV]; rfl
    have K : Hid (∀ W' : World, Below V.heap.size V W' → (W'.cell? ⟨w.heap.size, 0, none⟩ = some (.int .i64 a1) ∧ W'.cell? ⟨w.heap.size, 1, none⟩ = some (.int .i64 a2) ∧ W'.cell? ⟨w.heap.size + 1, 0, none⟩ = some (.int .i64 b1) ∧ W'.cell? ⟨w.heap.size + 1, 1, none⟩ = some (.int .i64 b2) ∧ W'.cell? ⟨w.heap.size + 1 + 1, 0, none⟩ = some (.int .i64 c1) ∧ W'.cell? ⟨w.heap.size + 1 + 1, 1, none⟩ = some (.int .i64 c2) ∧ W'.cell? ⟨w.heap.size + 1 + 1 + 1, 0, none⟩ = some (.int .i64 d1) ∧ W'.cell? ⟨w.heap.size + 1 + 1 + 1, 1, none⟩ = some (.int .i64 d2))) := hid fun W' B => ⟨(B.cell (p := ⟨w.heap.size, 0, none⟩) (by simp only; omega)).trans (by rw [← hV]; simp [go_sem]), (B.cell (p := ⟨w.heap.size, 1, none⟩) (by simp only; omega)).trans (by rw [← hV]; simp [go_sem]), (B.cell (p := ⟨w.heap.size + 1, 0, none⟩) (by simp only; omega)).trans (by rw [← hV]; simp [go_sem]), (B.cell (p := ⟨w.heap.size + 1, 1, none⟩) (by simp only; omega)).trans (by rw [← hV]; simp [go_sem]), (B.cell (p := ⟨w.heap.size + 1 + 1, 0, none⟩) (by simp only; omega)).trans (by rw [← hV]; simp [go_sem]), (B.cell (p := ⟨w.heap.size + 1 + 1, 1, none⟩) (by simp only; omega)).trans (by rw [← hV]; simp [go_sem]), (B.cell (p := ⟨w.heap.size + 1 + 1 + 1, 0, none⟩) (by simp only; omega)).trans (by rw [← hV]; simp [go_sem]), (B.cell (p := ⟨w.heap.size + 1 + 1 + 1, 1, none⟩) (by simp only; omega)).trans (by rw [← hV]; simp [go_sem])⟩
    have HV := hid hV
    have BV := hid bV
    have ZV := hid zV
    have DV := hid dV
    clear hV bV zV dV
    go_enter Try.func50, Try.ntmps50
    go_upto_region 1 with fail
    rw [HV.out]
    obtain ⟨ac0, ac1, bc0, bc1, cc0, cc1, dc0, dc1⟩ := K.out _ (Below.refl _ _ : Below V.heap.size V V)
    have zl : w.heap.size + 1 + 1 + 1 < V.heap.size := by have h1 := ZV.out; have h2 := ((Below.refl _ _ : Below V.heap.size V V)).size; omega
    have hz := ZV.out
    go_wp2_with fail
    refine (ck _ (K6 _ (by simp; omega) (by simp [go_sem, ← hz]) (by simp [go_sem, ← hz]) (by simp [go_sem, ← hz]) (by simp [go_sem, ← hz]) (by simp [go_sem, ← hz]) (by simp [go_sem, ← hz]) (by simp [go_sem, ← hz]) (by simp [go_sem, ← hz]))).mono ?_
    rintro _ u1 ⟨rfl, hb⟩
    have B1 : Below V.heap.size V u1 := by (repeat' (first | (with_reducible exact Below.refl _ _) | (with_reducible refine Below.alloc ?_ ?_ _) | (with_reducible refine Below.setCell ?_ ?_ _) | (with_reducible refine Below.drew ?_) | (with_reducible refine Below.trans ?_ (Below.mono (by assumption) ?_)) | (simp; done) | (simp; omega) | omega))
    clear hb ck K6 hz
    clear ac0 ac1 bc0 bc1 cc0 cc1 dc0 dc1 zl
    have B1 := hid B1
    obtain ⟨ac0, ac1, bc0, bc1, cc0, cc1, dc0, dc1⟩ := K.out _ B1.out
    have zl : w.heap.size + 1 + 1 + 1 < u1.heap.size := by have h1 := ZV.out; have h2 := (B1.out).size; omega
    rcases Classical.em (a1 = b1) with ha1 | ha1
    · rcases Classical.em (a2 = b2) with ha2 | ha2
      · go_wp2_with fail
        go_ret
        have hB := B1.out
        have hz := hB.size
        have hV := BV.out.trans (hB.mono BV.out.size)
        exact Gives.mk (i64_eq (by have h := HR.out; simp [*] at h; omega)) (by first | exact hV | (repeat' (first | (with_reducible exact Below.refl _ _) | (with_reducible refine Below.alloc ?_ ?_ _) | (with_reducible refine Below.setCell ?_ ?_ _) | (with_reducible refine Below.drew ?_) | (with_reducible refine Below.trans ?_ (Below.mono (by assumption) ?_)) | (simp; done) | (simp; omega) | omega)))
      · rcases Classical.em (c1 = d1) with hc1 | hc1
        · rcases Classical.em (c2 = d2) with hc2 | hc2
          · go_wp2_with fail
            go_ret
            have hB := B1.out
            have hz := hB.size
            have hV := BV.out.trans (hB.mono BV.out.size)
            exact Gives.mk (i64_eq (by have h := HR.out; simp [*] at h; omega)) (by first | exact hV | (repeat' (first | (with_reducible exact Below.refl _ _) | (with_reducible refine Below.alloc ?_ ?_ _) | (with_reducible refine Below.setCell ?_ ?_ _) | (with_reducible refine Below.drew ?_) | (with_reducible refine Below.trans ?_ (Below.mono (by assumption) ?_)) | (simp; done) | (simp; omega) | omega)))
          · go_wp2_with fail
            go_ret
            have hB := B1.out
            have hz := hB.size
            have hV := BV.out.trans (hB.mono BV.out.size)
            exact Gives.mk (i64_eq (by have h := HR.out; simp [*] at h; omega)) (by first | exact hV | (repeat' (first | (with_reducible exact Below.refl _ _) | (with_reducible refine Below.alloc ?_ ?_ _) | (with_reducible refine Below.setCell ?_ ?_ _) | (with_reducible refine Below.drew ?_) | (with_reducible refine Below.trans ?_ (Below.mono (by assumption) ?_)) | (simp; done) | (simp; omega) | omega)))
        · go_wp2_with fail
          go_ret
          have hB := B1.out
          have hz := hB.size
          have hV := BV.out.trans (hB.mono BV.out.size)
          exact Gives.mk (i64_eq (by have h := HR.out; simp [*] at h; omega)) (by first | exact hV | (repeat' (first | (with_reducible exact Below.refl _ _) | (with_reducible refine Below.alloc ?_ ?_ _) | (with_reducible refine Below.setCell ?_ ?_ _) | (with_reducible refine Below.drew ?_) | (with_reducible refine Below.trans ?_ (Below.mono (by assumption) ?_)) | (simp; done) | (simp; omega) | omega)))
    · rcases Classical.em (c1 = d1) with hc1 | hc1
      · rcases Classical.em (c2 = d2) with hc2 | hc2
        · go_wp2_with fail
          go_ret
          have hB := B1.out
          have hz := hB.size
          have hV := BV.out.trans (hB.mono BV.out.size)
          exact Gives.mk (i64_eq (by have h := HR.out; simp [*] at h; omega)) (by first | exact hV | (repeat' (first | (with_reducible exact Below.refl _ _) | (with_reducible refine Below.alloc ?_ ?_ _) | (with_reducible refine Below.setCell ?_ ?_ _) | (with_reducible refine Below.drew ?_) | (with_reducible refine Below.trans ?_ (Below.mono (by assumption) ?_)) | (simp; done) | (simp; omega) | omega)))
        · go_wp2_with fail
          go_ret
          have hB := B1.out
          have hz := hB.size
          have hV := BV.out.trans (hB.mono BV.out.size)
          exact Gives.mk (i64_eq (by have h := HR.out; simp [*] at h; omega)) (by first | exact hV | (repeat' (first | (with_reducible exact Below.refl _ _) | (with_reducible refine Below.alloc ?_ ?_ _) | (with_reducible refine Below.setCell ?_ ?_ _) | (with_reducible refine Below.drew ?_) | (with_reducible refine Below.trans ?_ (Below.mono (by assumption) ?_)) | (simp; done) | (simp; omega) | omega)))
      · go_wp2_with fail
        go_ret
        have hB := B1.out
        have hz := hB.size
        have hV := BV.out.trans (hB.mono BV.out.size)
        exact Gives.mk (i64_eq (by have h := HR.out; simp [*] at h; omega)) (by first | exact hV | (repeat' (first | (with_reducible exact Below.refl _ _) | (with_reducible refine Below.alloc ?_ ?_ _) | (with_reducible refine Below.setCell ?_ ?_ _) | (with_reducible refine Below.drew ?_) | (with_reducible refine Below.trans ?_ (Below.mono (by assumption) ?_)) | (simp; done) | (simp; omega) | omega)))
  · rw [if_neg ok] at hR
    subst hR
    have ck := fun (W : World) T => chk_any (some ⟨w.heap.size + 1 + 1 + 1 + 1, 0, none⟩) 4 [a, b, c, d] (by simp) W T 2 (Sp.chkL_bad (by simpa [and_assoc] using ok))
    have K6 := fun (W : World) => Pts.mk4 (g := w.heap.size + 1 + 1 + 1 + 1) (w := W) (a := a) (b := b) (c := c) (d := d)
    clear ok
    obtain ⟨a1, a2⟩ := a
    obtain ⟨b1, b2⟩ := b
    obtain ⟨c1, c2⟩ := c
    obtain ⟨d1, d2⟩ := d
    dsimp only at *
    obtain ⟨V, hV⟩ : ∃ V : World, ((((w.alloc (Obj.cells #[.int .i64 (a1), .int .i64 (a2)] 23)).alloc (Obj.cells #[.int .i64 (b1), .int .i64 (b2)] 23)).alloc (Obj.cells #[.int .i64 (c1), .int .i64 (c2)] 23)).alloc (Obj.cells #[.int .i64 (d1), .int .i64 (d2)] 23)) = V := ⟨_, rfl⟩
    have bV : Below w.heap.size w V := by rw [← hV]; (repeat' (first | (with_reducible exact Below.refl _ _) | (with_reducible refine Below.alloc ?_ ?_ _) | (with_reducible refine Below.setCell ?_ ?_ _) | (with_reducible refine Below.drew ?_) | (with_reducible refine Below.trans ?_ (Below.mono (by assumption) ?_)) | (simp; done) | (simp; omega) | omega))
    have zV : V.heap.size = w.heap.size + 1 + 1 + 1 + 1 := by rw [← hV]; simp
    have dV : V.drawn = w.drawn := by rw [← hV]; rfl
    have K : Hid (∀ W' : World, Below V.heap.size V W' → (W'.cell? ⟨w.heap.size, 0, none⟩ = some (.int .i64 a1) ∧ W'.cell? ⟨w.heap.size, 1, none⟩ = some (.int .i64 a2) ∧ W'.cell? ⟨w.heap.size + 1, 0, none⟩ = some (.int .i64 b1) ∧ W'.cell? ⟨w.heap.size + 1, 1, none⟩ = some (.int .i64 b2) ∧ W'.cell? ⟨w.heap.size + 1 + 1, 0, none⟩ = some (.int .i64 c1) ∧ W'.cell? ⟨w.heap.size + 1 + 1, 1, none⟩ = some (.int .i64 c2) ∧ W'.cell? ⟨w.heap.size + 1 + 1 + 1, 0, none⟩ = some (.int .i64 d1) ∧ W'.cell? ⟨w.heap.size + 1 + 1 + 1, 1, none⟩ = some (.int .i64 d2))) := hid fun W' B => ⟨(B.cell (p := ⟨w.heap.size, 0, none⟩) (by simp only; omega)).trans (by rw [← hV]; simp [go_sem]), (B.cell (p := ⟨w.heap.size, 1, none⟩) (by simp only; omega)).trans (by rw [← hV]; simp [go_sem]), (B.cell (p := ⟨w.heap.size + 1, 0, none⟩) (by simp only; omega)).trans (by rw [← hV]; simp [go_sem]), (B.cell (p := ⟨w.heap.size + 1, 1, none⟩) (by simp only; omega)).trans (by rw [← hV]; simp [go_sem]), (B.cell (p := ⟨w.heap.size + 1 + 1, 0, none⟩) (by simp only; omega)).trans (by rw [← hV]; simp [go_sem]), (B.cell (p := ⟨w.heap.size + 1 + 1, 1, none⟩) (by simp only; omega)).trans (by rw [← hV]; simp [go_sem]), (B.cell (p := ⟨w.heap.size + 1 + 1 + 1, 0, none⟩) (by simp only; omega)).trans (by rw [← hV]; simp [go_sem]), (B.cell (p := ⟨w.heap.size + 1 + 1 + 1, 1, none⟩) (by simp only; omega)).trans (by rw [← hV]; simp [go_sem])⟩
    have HV := hid hV
    have BV := hid bV
    have ZV := hid zV
    have DV := hid dV
    clear hV bV zV dV
    go_enter Try.func50, Try.ntmps50
    go_upto_region 1 with fail
    rw [HV.out]
    obtain ⟨ac0, ac1, bc0, bc1, cc0, cc1, dc0, dc1⟩ := K.out _ (Below.refl _ _ : Below V.heap.size V V)
    have zl : w.heap.size + 1 + 1 + 1 < V.heap.size := by have h1 := ZV.out; have h2 := ((Below.refl _ _ : Below V.heap.size V V)).size; omega
    have hz := ZV.out
    go_wp2_with fail
    refine (ck _ (K6 _ (by simp; omega) (by simp [go_sem, ← hz]) (by simp [go_sem, ← hz]) (by simp [go_sem, ← hz]) (by simp [go_sem, ← hz]) (by simp [go_sem, ← hz]) (by simp [go_sem, ← hz]) (by simp [go_sem, ← hz]) (by simp [go_sem, ← hz]))).mono ?_
    rintro _ u1 ⟨rfl, hb⟩
    have B1 : Below V.heap.size V u1 := by (repeat' (first | (with_reducible exact Below.refl _ _) | (with_reducible refine Below.alloc ?_ ?_ _) | (with_reducible refine Below.setCell ?_ ?_ _) | (with_reducible refine Below.drew ?_) | (with_reducible refine Below.trans ?_ (Below.mono (by assumption) ?_)) | (simp; done) | (simp; omega) | omega))
    clear hb ck K6 hz
    clear ac0 ac1 bc0 bc1 cc0 cc1 dc0 dc1 zl
    have B1 := hid B1
    obtain ⟨ac0, ac1, bc0, bc1, cc0, cc1, dc0, dc1⟩ := K.out _ B1.out
    have zl : w.heap.size + 1 + 1 + 1 < u1.heap.size := by have h1 := ZV.out; have h2 := (B1.out).size; omega
    go_wp2_with fail
    go_ret
    have hB := B1.out
    have hz := hB.size
    have hV := BV.out.trans (hB.mono BV.out.size)
    exact Gives.mk (rfl) (by first | exact hV | (repeat' (first | (with_reducible exact Below.refl _ _) | (with_reducible refine Below.alloc ?_ ?_ _) | (with_reducible refine Below.setCell ?_ ?_ _) | (with_reducible refine Below.drew ?_) | (with_reducible refine Below.trans ?_ (Below.mono (by assumption) ?_)) | (simp; done) | (simp; omega) | omega)))

set_option maxRecDepth 100000 in
set_option maxHeartbeats 4000000 in
theorem near_any (p a b : Sp.Pt) (r : Int) (hp : Sp.okP p = true) (ha : Sp.okP a = true) (hb : Sp.okP b = true) (r0 : 0 ≤ r) (r1 : r ≤ 200000) (w : World) :
    Calls Try.prog 54 #[.agg #[.int .i64 p.1, .int .i64 p.2], .agg #[.int .i64 a.1, .int .i64 a.2], .agg #[.int .i64 b.1, .int .i64 b.2], .int .i64 r] w (Gives (.bool (Sp.nearS p a b r)) w) := by
  have d1 := square_any a b ha hb
  have d2 := dot_any a b p ha hb hp
  have d3 := square_any a p ha hp
  have d4 := square_any b p hb hp
  have d5 := cross_any a b p ha hb hp
  have c5 := Sp.crs_b ha hb hp
  have lb := Sp.sq_b ha hb
  obtain ⟨rr, hrr⟩ : ∃ x, r * r = x := ⟨_, rfl⟩
  have q0 : 0 ≤ rr := by rw [← hrr]; exact Int.mul_nonneg r0 r0
  have q1 : rr ≤ 40000000000 := by rw [← hrr]; exact Int.mul_le_mul r1 r1 r0 (by omega)
  obtain ⟨R, hR⟩ : ∃ R, Sp.nearS p a b r = R := ⟨_, rfl⟩
  rw [hR]
  unfold Sp.nearS at hR
  rw [hrr] at hR
  have w1 : wrap64 (r * r) = rr := by rw [hrr]; exact w64 _ (by omega)
  have w2 : IntKind.i64.wrap (r * r) = rr := by rw [hrr]; exact IntWalk.i64_in _ (by omega)
  generalize Sp.sq a b = L at *
  generalize Sp.dt a b p = T at *
  generalize Sp.sq a p = X at *
  generalize Sp.sq b p = Y at *
  generalize Sp.crs a b p = A at *
  have d6 := products_any A A rr L (by omega) (by omega) (by omega) (by omega) (by omega) (by omega) (by omega) (by omega)
  have ce := cmpI_le (A * A) (rr * L)
  generalize Wd.cmpI (A * A) (rr * L) = C at d6 ce
  have HR := hid hR
  have CE := hid ce
  clear hp ha hb r0 r1 c5 lb q0 q1 hR ce hrr
  obtain ⟨p1, p2⟩ := p
  obtain ⟨a1, a2⟩ := a
  obtain ⟨b1, b2⟩ := b
  dsimp only at *
  obtain ⟨V, hV⟩ : ∃ V : World, (((w.alloc (Obj.cells #[.int .i64 (p1), .int .i64 (p2)] 23)).alloc (Obj.cells #[.int .i64 (a1), .int .i64 (a2)] 23)).alloc (Obj.cells #[.int .i64 (b1), .int .i64 (b2)] 23)) = V := ⟨_, rfl⟩
  have bV : Below w.heap.size w V := by rw [← hV]; (repeat' (first | (with_reducible exact Below.refl _ _) | (with_reducible refine Below.alloc ?_ ?_ _) | (with_reducible refine Below.setCell ?_ ?_ _) | (with_reducible refine Below.drew ?_) | (with_reducible refine Below.trans ?_ (Below.mono (by assumption) ?_)) | (simp; done) | (simp; omega) | omega))
  have zV : V.heap.size = w.heap.size + 1 + 1 + 1 := by rw [← hV]; simp
  have dV : V.drawn = w.drawn := by rw [← hV]; rfl
  have K : Hid (∀ W' : World, Below V.heap.size V W' → (W'.cell? ⟨w.heap.size, 0, none⟩ = some (.int .i64 p1) ∧ W'.cell? ⟨w.heap.size, 1, none⟩ = some (.int .i64 p2) ∧ W'.cell? ⟨w.heap.size + 1, 0, none⟩ = some (.int .i64 a1) ∧ W'.cell? ⟨w.heap.size + 1, 1, none⟩ = some (.int .i64 a2) ∧ W'.cell? ⟨w.heap.size + 1 + 1, 0, none⟩ = some (.int .i64 b1) ∧ W'.cell? ⟨w.heap.size + 1 + 1, 1, none⟩ = some (.int .i64 b2))) := hid fun W' B => ⟨(B.cell (p := ⟨w.heap.size, 0, none⟩) (by simp only; omega)).trans (by rw [← hV]; simp [go_sem]), (B.cell (p := ⟨w.heap.size, 1, none⟩) (by simp only; omega)).trans (by rw [← hV]; simp [go_sem]), (B.cell (p := ⟨w.heap.size + 1, 0, none⟩) (by simp only; omega)).trans (by rw [← hV]; simp [go_sem]), (B.cell (p := ⟨w.heap.size + 1, 1, none⟩) (by simp only; omega)).trans (by rw [← hV]; simp [go_sem]), (B.cell (p := ⟨w.heap.size + 1 + 1, 0, none⟩) (by simp only; omega)).trans (by rw [← hV]; simp [go_sem]), (B.cell (p := ⟨w.heap.size + 1 + 1, 1, none⟩) (by simp only; omega)).trans (by rw [← hV]; simp [go_sem])⟩
  have HV := hid hV
  have BV := hid bV
  have ZV := hid zV
  have DV := hid dV
  clear hV bV zV dV
  go_enter Try.func54, Try.ntmps54
  go_upto_region 1 with fail
  rw [HV.out]
  obtain ⟨pc0, pc1, ac0, ac1, bc0, bc1⟩ := K.out _ (Below.refl _ _ : Below V.heap.size V V)
  have zl : w.heap.size + 1 + 1 < V.heap.size := by have h1 := ZV.out; have h2 := ((Below.refl _ _ : Below V.heap.size V V)).size; omega
  have K2 : Hid (∀ W' : World, Below V.heap.size V W' → (Below V.heap.size V W' ∧ W'.cell? ⟨w.heap.size, 0, none⟩ = some (.int .i64 p1) ∧ W'.cell? ⟨w.heap.size, 1, none⟩ = some (.int .i64 p2) ∧ W'.cell? ⟨w.heap.size + 1, 0, none⟩ = some (.int .i64 a1) ∧ W'.cell? ⟨w.heap.size + 1, 1, none⟩ = some (.int .i64 a2) ∧ W'.cell? ⟨w.heap.size + 1 + 1, 0, none⟩ = some (.int .i64 b1) ∧ W'.cell? ⟨w.heap.size + 1 + 1, 1, none⟩ = some (.int .i64 b2))) := hid fun W' B => ⟨B, K.out _ B⟩
  go_region_held3 (fun W' => Below V.heap.size V W' ∧ W'.cell? ⟨w.heap.size, 0, none⟩ = some (.int .i64 p1) ∧ W'.cell? ⟨w.heap.size, 1, none⟩ = some (.int .i64 p2) ∧ W'.cell? ⟨w.heap.size + 1, 0, none⟩ = some (.int .i64 a1) ∧ W'.cell? ⟨w.heap.size + 1, 1, none⟩ = some (.int .i64 a2) ∧ W'.cell? ⟨w.heap.size + 1 + 1, 0, none⟩ = some (.int .i64 b1) ∧ W'.cell? ⟨w.heap.size + 1 + 1, 1, none⟩ = some (.int .i64 b2)) ((exact K2.out _ (by repeat' (first | (with_reducible exact Below.refl _ _) | (with_reducible refine Below.alloc ?_ ?_ _) | (with_reducible refine Below.setCell ?_ ?_ _) | (with_reducible refine Below.drew ?_) | (with_reducible refine below_dn ?_ _) | (with_reducible refine Below.trans ?_ (Below.mono (by assumption) ?_)) | (simp; done) | (simp; omega) | omega))))
    (first | (go_at_call 42; (with_reducible refine (d1 _).mono ?_); rintro _ w5 ⟨rfl, hb, hd⟩; have hb5 : Below V.heap.size V w5 := (by repeat' (first | (with_reducible exact Below.refl _ _) | (with_reducible refine Below.alloc ?_ ?_ _) | (with_reducible refine Below.setCell ?_ ?_ _) | (with_reducible refine Below.drew ?_) | (with_reducible refine below_dn ?_ _) | (with_reducible refine Below.trans ?_ (Below.mono (by assumption) ?_)) | (simp; done) | (simp; omega) | omega)); have hz5 : V.heap.size ≤ w5.heap.size := hb5.size; clear hb hd) | (go_at_call 62; (with_reducible refine (d2 _).mono ?_); rintro _ w5 ⟨rfl, hb, hd⟩; have hb5 : Below V.heap.size V w5 := (by repeat' (first | (with_reducible exact Below.refl _ _) | (with_reducible refine Below.alloc ?_ ?_ _) | (with_reducible refine Below.setCell ?_ ?_ _) | (with_reducible refine Below.drew ?_) | (with_reducible refine below_dn ?_ _) | (with_reducible refine Below.trans ?_ (Below.mono (by assumption) ?_)) | (simp; done) | (simp; omega) | omega)); have hz5 : V.heap.size ≤ w5.heap.size := hb5.size; clear hb hd))
  all_goals
    have B0 := hid hb5
    try clear zl
    try clear pc0 pc1 ac0 ac1 bc0 bc1
    clear hb5
    obtain ⟨pc0, pc1, ac0, ac1, bc0, bc1⟩ := K.out _ B0.out
    have zl : w.heap.size + 1 + 1 < w5.heap.size := by have h1 := ZV.out; have h2 := (B0.out).size; omega
    rcases Classical.em (T ≤ 0) with y1 | y1
    · go_wp2_with fail
      refine ((d3 _).mono (fun _ _ h => h.g)).mono ?_
      rintro _ u1 ⟨rfl, hb⟩
      have B1 : Below V.heap.size V u1 := by have hB := B0.out; have hz := hB.size; repeat' (first | (with_reducible exact Below.refl _ _) | (with_reducible refine Below.alloc ?_ ?_ _) | (with_reducible refine Below.setCell ?_ ?_ _) | (with_reducible refine Below.drew ?_) | (with_reducible refine Below.trans ?_ (Below.mono (by assumption) ?_)) | (simp; done) | (simp; omega) | omega)
      clear hb
      clear pc0 pc1 ac0 ac1 bc0 bc1 zl
      have B1 := hid B1
      obtain ⟨pc0, pc1, ac0, ac1, bc0, bc1⟩ := K.out _ B1.out
      have zl : w.heap.size + 1 + 1 < u1.heap.size := by have h1 := ZV.out; have h2 := (B1.out).size; omega
      go_wp2_with fail
      go_ret
      have hB := B1.out
      have hz := hB.size
      have hV := BV.out.trans (hB.mono BV.out.size)
      exact Gives.mk (bool_eq (by have h := HR.out; rw [if_pos (show T ≤ 0 by omega)] at h; exact h.symm)) (by first | exact hV | (repeat' (first | (with_reducible exact Below.refl _ _) | (with_reducible refine Below.alloc ?_ ?_ _) | (with_reducible refine Below.setCell ?_ ?_ _) | (with_reducible refine Below.drew ?_) | (with_reducible refine Below.trans ?_ (Below.mono (by assumption) ?_)) | (simp; done) | (simp; omega) | omega)))
    · rcases Classical.em (L ≤ T) with y2 | y2
      · go_wp2_with fail
        refine ((d4 _).mono (fun _ _ h => h.g)).mono ?_
        rintro _ u1 ⟨rfl, hb⟩
        have B1 : Below V.heap.size V u1 := by have hB := B0.out; have hz := hB.size; repeat' (first | (with_reducible exact Below.refl _ _) | (with_reducible refine Below.alloc ?_ ?_ _) | (with_reducible refine Below.setCell ?_ ?_ _) | (with_reducible refine Below.drew ?_) | (with_reducible refine Below.trans ?_ (Below.mono (by assumption) ?_)) | (simp; done) | (simp; omega) | omega)
        clear hb
        clear pc0 pc1 ac0 ac1 bc0 bc1 zl
        have B1 := hid B1
        obtain ⟨pc0, pc1, ac0, ac1, bc0, bc1⟩ := K.out _ B1.out
        have zl : w.heap.size + 1 + 1 < u1.heap.size := by have h1 := ZV.out; have h2 := (B1.out).size; omega
        go_wp2_with fail
        go_ret
        have hB := B1.out
        have hz := hB.size
        have hV := BV.out.trans (hB.mono BV.out.size)
        exact Gives.mk (bool_eq (by have h := HR.out; rw [if_neg (show ¬ T ≤ 0 by omega), if_pos (show L ≤ T by omega)] at h; exact h.symm)) (by first | exact hV | (repeat' (first | (with_reducible exact Below.refl _ _) | (with_reducible refine Below.alloc ?_ ?_ _) | (with_reducible refine Below.setCell ?_ ?_ _) | (with_reducible refine Below.drew ?_) | (with_reducible refine Below.trans ?_ (Below.mono (by assumption) ?_)) | (simp; done) | (simp; omega) | omega)))
      · go_wp2_with fail
        refine ((d5 _).mono (fun _ _ h => h.g)).mono ?_
        rintro _ u1 ⟨rfl, hb⟩
        have B1 : Below V.heap.size V u1 := by have hB := B0.out; have hz := hB.size; repeat' (first | (with_reducible exact Below.refl _ _) | (with_reducible refine Below.alloc ?_ ?_ _) | (with_reducible refine Below.setCell ?_ ?_ _) | (with_reducible refine Below.drew ?_) | (with_reducible refine Below.trans ?_ (Below.mono (by assumption) ?_)) | (simp; done) | (simp; omega) | omega)
        clear hb
        clear pc0 pc1 ac0 ac1 bc0 bc1 zl
        have B1 := hid B1
        obtain ⟨pc0, pc1, ac0, ac1, bc0, bc1⟩ := K.out _ B1.out
        have zl : w.heap.size + 1 + 1 < u1.heap.size := by have h1 := ZV.out; have h2 := (B1.out).size; omega
        go_wp2_with fail
        refine (d6 _).mono ?_
        rintro _ u2 ⟨rfl, hb⟩
        have B2 : Below V.heap.size V u2 := by have hB := B1.out; have hz := hB.size; repeat' (first | (with_reducible exact Below.refl _ _) | (with_reducible refine Below.alloc ?_ ?_ _) | (with_reducible refine Below.setCell ?_ ?_ _) | (with_reducible refine Below.drew ?_) | (with_reducible refine Below.trans ?_ (Below.mono (by assumption) ?_)) | (simp; done) | (simp; omega) | omega)
        clear hb
        clear pc0 pc1 ac0 ac1 bc0 bc1 zl
        have B2 := hid B2
        obtain ⟨pc0, pc1, ac0, ac1, bc0, bc1⟩ := K.out _ B2.out
        have zl : w.heap.size + 1 + 1 < u2.heap.size := by have h1 := ZV.out; have h2 := (B2.out).size; omega
        go_wp2_with fail
        go_ret
        have hB := B2.out
        have hz := hB.size
        have hV := BV.out.trans (hB.mono BV.out.size)
        exact Gives.mk (bool_eq (by have h := HR.out; rw [if_neg (show ¬ T ≤ 0 by omega), if_neg (show ¬ L ≤ T by omega)] at h; rw [CE.out]; exact h.symm)) (by first | exact hV | (repeat' (first | (with_reducible exact Below.refl _ _) | (with_reducible refine Below.alloc ?_ ?_ _) | (with_reducible refine Below.setCell ?_ ?_ _) | (with_reducible refine Below.drew ?_) | (with_reducible refine Below.trans ?_ (Below.mono (by assumption) ?_)) | (simp; done) | (simp; omega) | omega)))

set_option maxRecDepth 100000 in
set_option maxHeartbeats 4000000 in
theorem Meet_any (a b c d : Sp.Pt) (w : World) :
    Calls Try.prog 25 #[.agg #[.int .i64 a.1, .int .i64 a.2], .agg #[.int .i64 b.1, .int .i64 b.2], .agg #[.int .i64 c.1, .int .i64 c.2], .agg #[.int .i64 d.1, .int .i64 d.2]] w (Gives (.tuple #[.int .i64 (Sp.meetS a b c d).1, .int .i64 (Sp.meetS a b c d).2]) w) := by
  have sv := segs_any a b c d
  obtain ⟨⟨rx, ry⟩, hR⟩ : ∃ r, Sp.meetS a b c d = r := ⟨_, rfl⟩
  rw [hR]
  have rv := fun (h : Sp.segsS a b c d = 0) => rel_any a b c d (Sp.segs0 h).1 (Sp.segs0 h).2.1 (Sp.segs0 h).2.2.1 (Sp.segs0 h).2.2.2.1
  unfold Sp.meetS at hR
  generalize Sp.segsS a b c d = e at sv rv hR
  generalize Sp.relS a b c d = v at rv hR
  have RV := hid rv
  have HR := hid hR
  clear rv hR
  obtain ⟨a1, a2⟩ := a
  obtain ⟨b1, b2⟩ := b
  obtain ⟨c1, c2⟩ := c
  obtain ⟨d1, d2⟩ := d
  dsimp only at *
  obtain ⟨V, hV⟩ : ∃ V : World, ((((w.alloc (Obj.cells #[.int .i64 (a1), .int .i64 (a2)] 23)).alloc (Obj.cells #[.int .i64 (b1), .int .i64 (b2)] 23)).alloc (Obj.cells #[.int .i64 (c1), .int .i64 (c2)] 23)).alloc (Obj.cells #[.int .i64 (d1), .int .i64 (d2)] 23)) = V := ⟨_, rfl⟩
  have bV : Below w.heap.size w V := by rw [← hV]; (repeat' (first | (with_reducible exact Below.refl _ _) | (with_reducible refine Below.alloc ?_ ?_ _) | (with_reducible refine Below.setCell ?_ ?_ _) | (with_reducible refine Below.drew ?_) | (with_reducible refine Below.trans ?_ (Below.mono (by assumption) ?_)) | (simp; done) | (simp; omega) | omega))
  have zV : V.heap.size = w.heap.size + 1 + 1 + 1 + 1 := by rw [← hV]; simp
  have dV : V.drawn = w.drawn := by rw [← hV]; rfl
  have K : Hid (∀ W' : World, Below V.heap.size V W' → (W'.cell? ⟨w.heap.size, 0, none⟩ = some (.int .i64 a1) ∧ W'.cell? ⟨w.heap.size, 1, none⟩ = some (.int .i64 a2) ∧ W'.cell? ⟨w.heap.size + 1, 0, none⟩ = some (.int .i64 b1) ∧ W'.cell? ⟨w.heap.size + 1, 1, none⟩ = some (.int .i64 b2) ∧ W'.cell? ⟨w.heap.size + 1 + 1, 0, none⟩ = some (.int .i64 c1) ∧ W'.cell? ⟨w.heap.size + 1 + 1, 1, none⟩ = some (.int .i64 c2) ∧ W'.cell? ⟨w.heap.size + 1 + 1 + 1, 0, none⟩ = some (.int .i64 d1) ∧ W'.cell? ⟨w.heap.size + 1 + 1 + 1, 1, none⟩ = some (.int .i64 d2))) := hid fun W' B => ⟨(B.cell (p := ⟨w.heap.size, 0, none⟩) (by simp only; omega)).trans (by rw [← hV]; simp [go_sem]), (B.cell (p := ⟨w.heap.size, 1, none⟩) (by simp only; omega)).trans (by rw [← hV]; simp [go_sem]), (B.cell (p := ⟨w.heap.size + 1, 0, none⟩) (by simp only; omega)).trans (by rw [← hV]; simp [go_sem]), (B.cell (p := ⟨w.heap.size + 1, 1, none⟩) (by simp only; omega)).trans (by rw [← hV]; simp [go_sem]), (B.cell (p := ⟨w.heap.size + 1 + 1, 0, none⟩) (by simp only; omega)).trans (by rw [← hV]; simp [go_sem]), (B.cell (p := ⟨w.heap.size + 1 + 1, 1, none⟩) (by simp only; omega)).trans (by rw [← hV]; simp [go_sem]), (B.cell (p := ⟨w.heap.size + 1 + 1 + 1, 0, none⟩) (by simp only; omega)).trans (by rw [← hV]; simp [go_sem]), (B.cell (p := ⟨w.heap.size + 1 + 1 + 1, 1, none⟩) (by simp only; omega)).trans (by rw [← hV]; simp [go_sem])⟩
  have HV := hid hV
  have BV := hid bV
  have ZV := hid zV
  have DV := hid dV
  clear hV bV zV dV
  go_enter Try.func25, Try.ntmps25
  go_upto_region 1 with fail
  rw [HV.out]
  obtain ⟨ac0, ac1, bc0, bc1, cc0, cc1, dc0, dc1⟩ := K.out _ (Below.refl _ _ : Below V.heap.size V V)
  have zl : w.heap.size + 1 + 1 + 1 < V.heap.size := by have h1 := ZV.out; have h2 := ((Below.refl _ _ : Below V.heap.size V V)).size; omega
  rcases Classical.em (e = 0) with y1 | y1
  · subst y1
    go_wp2_with fail
    refine (sv _).mono ?_
    rintro _ u1 ⟨rfl, hb⟩
    have B1 : Below V.heap.size V u1 := by have hB := (Below.refl _ _ : Below V.heap.size V V); have hz := hB.size; repeat' (first | (with_reducible exact Below.refl _ _) | (with_reducible refine Below.alloc ?_ ?_ _) | (with_reducible refine Below.setCell ?_ ?_ _) | (with_reducible refine Below.drew ?_) | (with_reducible refine Below.trans ?_ (Below.mono (by assumption) ?_)) | (simp; done) | (simp; omega) | omega)
    clear hb
    clear ac0 ac1 bc0 bc1 cc0 cc1 dc0 dc1 zl
    have B1 := hid B1
    obtain ⟨ac0, ac1, bc0, bc1, cc0, cc1, dc0, dc1⟩ := K.out _ B1.out
    have zl : w.heap.size + 1 + 1 + 1 < u1.heap.size := by have h1 := ZV.out; have h2 := (B1.out).size; omega
    go_wp2_with fail
    refine ((RV.out (by first | trivial | rfl) _)).mono ?_
    rintro _ u2 ⟨rfl, hb⟩
    have B2 : Below V.heap.size V u2 := by have hB := B1.out; have hz := hB.size; repeat' (first | (with_reducible exact Below.refl _ _) | (with_reducible refine Below.alloc ?_ ?_ _) | (with_reducible refine Below.setCell ?_ ?_ _) | (with_reducible refine Below.drew ?_) | (with_reducible refine Below.trans ?_ (Below.mono (by assumption) ?_)) | (simp; done) | (simp; omega) | omega)
    clear hb
    clear ac0 ac1 bc0 bc1 cc0 cc1 dc0 dc1 zl
    have B2 := hid B2
    obtain ⟨ac0, ac1, bc0, bc1, cc0, cc1, dc0, dc1⟩ := K.out _ B2.out
    have zl : w.heap.size + 1 + 1 + 1 < u2.heap.size := by have h1 := ZV.out; have h2 := (B2.out).size; omega
    go_wp2_with fail
    refine bodyPost_ret (v := .tuple #[.int .i64 v, .int .i64 0]) (by simp [results, Try.results25, go_sem]) rfl ?_
    have hB := B2.out
    have hz := hB.size
    have hV := BV.out.trans (hB.mono BV.out.size)
    exact Gives.mk ((by have h := HR.out; simp at h; obtain ⟨rfl, rfl⟩ := h; rfl)) (by first | exact hV | (repeat' (first | (with_reducible exact Below.refl _ _) | (with_reducible refine Below.alloc ?_ ?_ _) | (with_reducible refine Below.setCell ?_ ?_ _) | (with_reducible refine Below.drew ?_) | (with_reducible refine Below.trans ?_ (Below.mono (by assumption) ?_)) | (simp; done) | (simp; omega) | omega)))
  · go_wp2_with fail
    refine (sv _).mono ?_
    rintro _ u1 ⟨rfl, hb⟩
    have B1 : Below V.heap.size V u1 := by have hB := (Below.refl _ _ : Below V.heap.size V V); have hz := hB.size; repeat' (first | (with_reducible exact Below.refl _ _) | (with_reducible refine Below.alloc ?_ ?_ _) | (with_reducible refine Below.setCell ?_ ?_ _) | (with_reducible refine Below.drew ?_) | (with_reducible refine Below.trans ?_ (Below.mono (by assumption) ?_)) | (simp; done) | (simp; omega) | omega)
    clear hb
    clear ac0 ac1 bc0 bc1 cc0 cc1 dc0 dc1 zl
    have B1 := hid B1
    obtain ⟨ac0, ac1, bc0, bc1, cc0, cc1, dc0, dc1⟩ := K.out _ B1.out
    have zl : w.heap.size + 1 + 1 + 1 < u1.heap.size := by have h1 := ZV.out; have h2 := (B1.out).size; omega
    go_wp2_with fail
    refine bodyPost_ret (v := .tuple #[.int .i64 0, .int .i64 e]) (by simp [results, Try.results25, go_sem]) rfl ?_
    have hB := B1.out
    have hz := hB.size
    have hV := BV.out.trans (hB.mono BV.out.size)
    exact Gives.mk ((by have h := HR.out; rw [if_neg y1] at h; simp at h; obtain ⟨rfl, rfl⟩ := h; rfl)) (by first | exact hV | (repeat' (first | (with_reducible exact Below.refl _ _) | (with_reducible refine Below.alloc ?_ ?_ _) | (with_reducible refine Below.setCell ?_ ?_ _) | (with_reducible refine Below.drew ?_) | (with_reducible refine Below.trans ?_ (Below.mono (by assumption) ?_)) | (simp; done) | (simp; omega) | omega)))

set_option maxRecDepth 100000 in
set_option maxHeartbeats 4000000 in
theorem Near_any (p a b : Sp.Pt) (r : Int) (w : World) :
    Calls Try.prog 27 #[.agg #[.int .i64 p.1, .int .i64 p.2], .agg #[.int .i64 a.1, .int .i64 a.2], .agg #[.int .i64 b.1, .int .i64 b.2], .int .i64 r] w (Gives (.tuple #[.bool (Sp.nearsS p a b r).1, .int .i64 (Sp.nearsS p a b r).2]) w) := by
  obtain ⟨⟨rx, ry⟩, hR⟩ : ∃ q, Sp.nearsS p a b r = q := ⟨_, rfl⟩
  rw [hR]
  have kv := btw_any r 0 200000
  have fo : Sp.farOk r = Sp.btw r 0 200000 := rfl
  have fi := Sp.farOk_iff r
  unfold Sp.nearsS at hR
  rcases Classical.em ((Sp.okP p && Sp.okP a && Sp.okP b) = true) with ok | ok
  · have ck := fun (W : World) T => chk_any (some ⟨w.heap.size + 1 + 1 + 1, 0, none⟩) 3 [p, a, b] (by simp) W T 0 (Sp.chkL_good (by simpa [and_assoc] using ok))
    have K6 := fun (W : World) => Pts.mk3 (g := w.heap.size + 1 + 1 + 1) (w := W) (a := p) (b := a) (c := b)
    have nv := fun (h : Sp.farOk r = true) => near_any p a b r (by simp at ok; exact ok.1.1) (by simp at ok; exact ok.1.2) (by simp at ok; exact ok.2) (fi.1 h).1 (fi.1 h).2
    rw [ok, Bool.true_and] at hR
    generalize Sp.nearS p a b r = v at nv hR
    rw [fo] at nv hR
    generalize Sp.btw r 0 200000 = x at kv nv hR
    have HR := hid hR
    have NV := hid nv
    clear hR nv fo fi ok
    obtain ⟨p1, p2⟩ := p
    obtain ⟨a1, a2⟩ := a
    obtain ⟨b1, b2⟩ := b
    dsimp only at *
    obtain ⟨V, hV⟩ : ∃ V : World, (((w.alloc (Obj.cells #[.int .i64 (p1), .int .i64 (p2)] 23)).alloc (Obj.cells #[.int .i64 (a1), .int .i64 (a2)] 23)).alloc (Obj.cells #[.int .i64 (b1), .int .i64 (b2)] 23)) = V := ⟨_, rfl⟩
    have bV : Below w.heap.size w V := by rw [← hV]; (repeat' (first | (with_reducible exact Below.refl _ _) | (with_reducible refine Below.alloc ?_ ?_ _) | (with_reducible refine Below.setCell ?_ ?_ _) | (with_reducible refine Below.drew ?_) | (with_reducible refine Below.trans ?_ (Below.mono (by assumption) ?_)) | (simp; done) | (simp; omega) | omega))
    have zV : V.heap.size = w.heap.size + 1 + 1 + 1 := by rw [← hV]; simp
    have dV : V.drawn = w.drawn := by rw [← hV]; rfl
    have K : Hid (∀ W' : World, Below V.heap.size V W' → (W'.cell? ⟨w.heap.size, 0, none⟩ = some (.int .i64 p1) ∧ W'.cell? ⟨w.heap.size, 1, none⟩ = some (.int .i64 p2) ∧ W'.cell? ⟨w.heap.size + 1, 0, none⟩ = some (.int .i64 a1) ∧ W'.cell? ⟨w.heap.size + 1, 1, none⟩ = some (.int .i64 a2) ∧ W'.cell? ⟨w.heap.size + 1 + 1, 0, none⟩ = some (.int .i64 b1) ∧ W'.cell? ⟨w.heap.size + 1 + 1, 1, none⟩ = some (.int .i64 b2))) := hid fun W' B => ⟨(B.cell (p := ⟨w.heap.size, 0, none⟩) (by simp only; omega)).trans (by rw [← hV]; simp [go_sem]), (B.cell (p := ⟨w.heap.size, 1, none⟩) (by simp only; omega)).trans (by rw [← hV]; simp [go_sem]), (B.cell (p := ⟨w.heap.size + 1, 0, none⟩) (by simp only; omega)).trans (by rw [← hV]; simp [go_sem]), (B.cell (p := ⟨w.heap.size + 1, 1, none⟩) (by simp only; omega)).trans (by rw [← hV]; simp [go_sem]), (B.cell (p := ⟨w.heap.size + 1 + 1, 0, none⟩) (by simp only; omega)).trans (by rw [← hV]; simp [go_sem]), (B.cell (p := ⟨w.heap.size + 1 + 1, 1, none⟩) (by simp only; omega)).trans (by rw [← hV]; simp [go_sem])⟩
    have HV := hid hV
    have BV := hid bV
    have ZV := hid zV
    have DV := hid dV
    clear hV bV zV dV
    go_enter Try.func27, Try.ntmps27
    go_upto_region 1 with fail
    rw [HV.out]
    obtain ⟨pc0, pc1, ac0, ac1, bc0, bc1⟩ := K.out _ (Below.refl _ _ : Below V.heap.size V V)
    have zl : w.heap.size + 1 + 1 < V.heap.size := by have h1 := ZV.out; have h2 := ((Below.refl _ _ : Below V.heap.size V V)).size; omega
    cases x
    · have hz := ZV.out
      go_wp2_with fail
      refine (ck _ (K6 _ (by simp; omega) (by simp [go_sem, ← hz]) (by simp [go_sem, ← hz]) (by simp [go_sem, ← hz]) (by simp [go_sem, ← hz]) (by simp [go_sem, ← hz]) (by simp [go_sem, ← hz]))).mono ?_
      rintro _ u1 ⟨rfl, hb⟩
      have B1 : Below V.heap.size V u1 := by (repeat' (first | (with_reducible exact Below.refl _ _) | (with_reducible refine Below.alloc ?_ ?_ _) | (with_reducible refine Below.setCell ?_ ?_ _) | (with_reducible refine Below.drew ?_) | (with_reducible refine Below.trans ?_ (Below.mono (by assumption) ?_)) | (simp; done) | (simp; omega) | omega))
      clear hb ck K6 hz
      clear pc0 pc1 ac0 ac1 bc0 bc1 zl
      have B1 := hid B1
      obtain ⟨pc0, pc1, ac0, ac1, bc0, bc1⟩ := K.out _ B1.out
      have zl : w.heap.size + 1 + 1 < u1.heap.size := by have h1 := ZV.out; have h2 := (B1.out).size; omega
      go_wp2_with fail
      refine (kv _).mono ?_
      rintro _ uq ⟨rfl, rfl⟩
      go_wp2_with fail
      refine bodyPost_ret (v := .tuple #[.bool false, .int .i64 2]) (by simp [results, Try.results27, go_sem]) rfl ?_
      have hB := B1.out
      have hz := hB.size
      have hV := BV.out.trans (hB.mono BV.out.size)
      exact Gives.mk ((by have h := HR.out; simp at h; obtain ⟨rfl, rfl⟩ := h; rfl)) (by first | exact hV | (repeat' (first | (with_reducible exact Below.refl _ _) | (with_reducible refine Below.alloc ?_ ?_ _) | (with_reducible refine Below.setCell ?_ ?_ _) | (with_reducible refine Below.drew ?_) | (with_reducible refine Below.trans ?_ (Below.mono (by assumption) ?_)) | (simp; done) | (simp; omega) | omega)))
    · have hz := ZV.out
      go_wp2_with fail
      refine (ck _ (K6 _ (by simp; omega) (by simp [go_sem, ← hz]) (by simp [go_sem, ← hz]) (by simp [go_sem, ← hz]) (by simp [go_sem, ← hz]) (by simp [go_sem, ← hz]) (by simp [go_sem, ← hz]))).mono ?_
      rintro _ u1 ⟨rfl, hb⟩
      have B1 : Below V.heap.size V u1 := by (repeat' (first | (with_reducible exact Below.refl _ _) | (with_reducible refine Below.alloc ?_ ?_ _) | (with_reducible refine Below.setCell ?_ ?_ _) | (with_reducible refine Below.drew ?_) | (with_reducible refine Below.trans ?_ (Below.mono (by assumption) ?_)) | (simp; done) | (simp; omega) | omega))
      clear hb ck K6 hz
      clear pc0 pc1 ac0 ac1 bc0 bc1 zl
      have B1 := hid B1
      obtain ⟨pc0, pc1, ac0, ac1, bc0, bc1⟩ := K.out _ B1.out
      have zl : w.heap.size + 1 + 1 < u1.heap.size := by have h1 := ZV.out; have h2 := (B1.out).size; omega
      go_wp2_with fail
      refine (kv _).mono ?_
      rintro _ uq ⟨rfl, rfl⟩
      go_wp2_with fail
      refine ((NV.out (by first | trivial | rfl) _)).mono ?_
      rintro _ u2 ⟨rfl, hb⟩
      have B2 : Below V.heap.size V u2 := by have hB := B1.out; have hz := hB.size; repeat' (first | (with_reducible exact Below.refl _ _) | (with_reducible refine Below.alloc ?_ ?_ _) | (with_reducible refine Below.setCell ?_ ?_ _) | (with_reducible refine Below.drew ?_) | (with_reducible refine Below.trans ?_ (Below.mono (by assumption) ?_)) | (simp; done) | (simp; omega) | omega)
      clear hb
      clear pc0 pc1 ac0 ac1 bc0 bc1 zl
      have B2 := hid B2
      obtain ⟨pc0, pc1, ac0, ac1, bc0, bc1⟩ := K.out _ B2.out
      have zl : w.heap.size + 1 + 1 < u2.heap.size := by have h1 := ZV.out; have h2 := (B2.out).size; omega
      go_wp2_with fail
      refine bodyPost_ret (v := .tuple #[.bool v, .int .i64 0]) (by simp [results, Try.results27, go_sem]) rfl ?_
      have hB := B2.out
      have hz := hB.size
      have hV := BV.out.trans (hB.mono BV.out.size)
      exact Gives.mk ((by have h := HR.out; simp at h; obtain ⟨rfl, rfl⟩ := h; rfl)) (by first | exact hV | (repeat' (first | (with_reducible exact Below.refl _ _) | (with_reducible refine Below.alloc ?_ ?_ _) | (with_reducible refine Below.setCell ?_ ?_ _) | (with_reducible refine Below.drew ?_) | (with_reducible refine Below.trans ?_ (Below.mono (by assumption) ?_)) | (simp; done) | (simp; omega) | omega)))
  · have ck := fun (W : World) T => chk_any (some ⟨w.heap.size + 1 + 1 + 1, 0, none⟩) 3 [p, a, b] (by simp) W T 2 (Sp.chkL_bad (by simpa [and_assoc] using ok))
    have K6 := fun (W : World) => Pts.mk3 (g := w.heap.size + 1 + 1 + 1) (w := W) (a := p) (b := a) (c := b)
    rw [Bool.not_eq_true] at ok
    rw [ok, Bool.false_and, if_neg (by simp)] at hR
    have HR := hid hR
    clear ok hR fo fi kv
    obtain ⟨p1, p2⟩ := p
    obtain ⟨a1, a2⟩ := a
    obtain ⟨b1, b2⟩ := b
    dsimp only at *
    obtain ⟨V, hV⟩ : ∃ V : World, (((w.alloc (Obj.cells #[.int .i64 (p1), .int .i64 (p2)] 23)).alloc (Obj.cells #[.int .i64 (a1), .int .i64 (a2)] 23)).alloc (Obj.cells #[.int .i64 (b1), .int .i64 (b2)] 23)) = V := ⟨_, rfl⟩
    have bV : Below w.heap.size w V := by rw [← hV]; (repeat' (first | (with_reducible exact Below.refl _ _) | (with_reducible refine Below.alloc ?_ ?_ _) | (with_reducible refine Below.setCell ?_ ?_ _) | (with_reducible refine Below.drew ?_) | (with_reducible refine Below.trans ?_ (Below.mono (by assumption) ?_)) | (simp; done) | (simp; omega) | omega))
    have zV : V.heap.size = w.heap.size + 1 + 1 + 1 := by rw [← hV]; simp
    have dV : V.drawn = w.drawn := by rw [← hV]; rfl
    have K : Hid (∀ W' : World, Below V.heap.size V W' → (W'.cell? ⟨w.heap.size, 0, none⟩ = some (.int .i64 p1) ∧ W'.cell? ⟨w.heap.size, 1, none⟩ = some (.int .i64 p2) ∧ W'.cell? ⟨w.heap.size + 1, 0, none⟩ = some (.int .i64 a1) ∧ W'.cell? ⟨w.heap.size + 1, 1, none⟩ = some (.int .i64 a2) ∧ W'.cell? ⟨w.heap.size + 1 + 1, 0, none⟩ = some (.int .i64 b1) ∧ W'.cell? ⟨w.heap.size + 1 + 1, 1, none⟩ = some (.int .i64 b2))) := hid fun W' B => ⟨(B.cell (p := ⟨w.heap.size, 0, none⟩) (by simp only; omega)).trans (by rw [← hV]; simp [go_sem]), (B.cell (p := ⟨w.heap.size, 1, none⟩) (by simp only; omega)).trans (by rw [← hV]; simp [go_sem]), (B.cell (p := ⟨w.heap.size + 1, 0, none⟩) (by simp only; omega)).trans (by rw [← hV]; simp [go_sem]), (B.cell (p := ⟨w.heap.size + 1, 1, none⟩) (by simp only; omega)).trans (by rw [← hV]; simp [go_sem]), (B.cell (p := ⟨w.heap.size + 1 + 1, 0, none⟩) (by simp only; omega)).trans (by rw [← hV]; simp [go_sem]), (B.cell (p := ⟨w.heap.size + 1 + 1, 1, none⟩) (by simp only; omega)).trans (by rw [← hV]; simp [go_sem])⟩
    have HV := hid hV
    have BV := hid bV
    have ZV := hid zV
    have DV := hid dV
    clear hV bV zV dV
    go_enter Try.func27, Try.ntmps27
    go_upto_region 1 with fail
    rw [HV.out]
    obtain ⟨pc0, pc1, ac0, ac1, bc0, bc1⟩ := K.out _ (Below.refl _ _ : Below V.heap.size V V)
    have zl : w.heap.size + 1 + 1 < V.heap.size := by have h1 := ZV.out; have h2 := ((Below.refl _ _ : Below V.heap.size V V)).size; omega
    have hz := ZV.out
    go_wp2_with fail
    refine (ck _ (K6 _ (by simp; omega) (by simp [go_sem, ← hz]) (by simp [go_sem, ← hz]) (by simp [go_sem, ← hz]) (by simp [go_sem, ← hz]) (by simp [go_sem, ← hz]) (by simp [go_sem, ← hz]))).mono ?_
    rintro _ u1 ⟨rfl, hb⟩
    have B1 : Below V.heap.size V u1 := by (repeat' (first | (with_reducible exact Below.refl _ _) | (with_reducible refine Below.alloc ?_ ?_ _) | (with_reducible refine Below.setCell ?_ ?_ _) | (with_reducible refine Below.drew ?_) | (with_reducible refine Below.trans ?_ (Below.mono (by assumption) ?_)) | (simp; done) | (simp; omega) | omega))
    clear hb ck K6 hz
    clear pc0 pc1 ac0 ac1 bc0 bc1 zl
    have B1 := hid B1
    obtain ⟨pc0, pc1, ac0, ac1, bc0, bc1⟩ := K.out _ B1.out
    have zl : w.heap.size + 1 + 1 < u1.heap.size := by have h1 := ZV.out; have h2 := (B1.out).size; omega
    go_wp2_with fail
    refine bodyPost_ret (v := .tuple #[.bool false, .int .i64 2]) (by simp [results, Try.results27, go_sem]) rfl ?_
    have hB := B1.out
    have hz := hB.size
    have hV := BV.out.trans (hB.mono BV.out.size)
    exact Gives.mk ((by have h := HR.out; simp at h; obtain ⟨rfl, rfl⟩ := h; rfl)) (by first | exact hV | (repeat' (first | (with_reducible exact Below.refl _ _) | (with_reducible refine Below.alloc ?_ ?_ _) | (with_reducible refine Below.setCell ?_ ?_ _) | (with_reducible refine Below.drew ?_) | (with_reducible refine Below.trans ?_ (Below.mono (by assumption) ?_)) | (simp; done) | (simp; omega) | omega)))

set_option maxRecDepth 100000 in
set_option maxHeartbeats 4000000 in
theorem Close_any (a b c d : Sp.Pt) (r : Int) (w : World) :
    Calls Try.prog 29 #[.agg #[.int .i64 a.1, .int .i64 a.2], .agg #[.int .i64 b.1, .int .i64 b.2], .agg #[.int .i64 c.1, .int .i64 c.2], .agg #[.int .i64 d.1, .int .i64 d.2], .int .i64 r] w (Gives (.tuple #[.bool (Sp.closesS a b c d r).1, .int .i64 (Sp.closesS a b c d r).2]) w) := by
  have sv := segs_any a b c d
  obtain ⟨⟨rx, ry⟩, hR⟩ : ∃ q, Sp.closesS a b c d r = q := ⟨_, rfl⟩
  rw [hR]
  have kv := btw_any r 0 200000
  have fi := Sp.farOk_iff r
  have rv := fun (h : Sp.segsS a b c d = 0) => rel_any a b c d (Sp.segs0 h).1 (Sp.segs0 h).2.1 (Sp.segs0 h).2.2.1 (Sp.segs0 h).2.2.2.1
  have n1 := fun (h : Sp.segsS a b c d = 0) (f : Sp.farOk r = true) => near_any a c d r (Sp.segs0 h).1 (Sp.segs0 h).2.2.1 (Sp.segs0 h).2.2.2.1 (fi.1 f).1 (fi.1 f).2
  have n2 := fun (h : Sp.segsS a b c d = 0) (f : Sp.farOk r = true) => near_any b c d r (Sp.segs0 h).2.1 (Sp.segs0 h).2.2.1 (Sp.segs0 h).2.2.2.1 (fi.1 f).1 (fi.1 f).2
  have n3 := fun (h : Sp.segsS a b c d = 0) (f : Sp.farOk r = true) => near_any c a b r (Sp.segs0 h).2.2.1 (Sp.segs0 h).1 (Sp.segs0 h).2.1 (fi.1 f).1 (fi.1 f).2
  have n4 := fun (h : Sp.segsS a b c d = 0) (f : Sp.farOk r = true) => near_any d a b r (Sp.segs0 h).2.2.2.1 (Sp.segs0 h).1 (Sp.segs0 h).2.1 (fi.1 f).1 (fi.1 f).2
  unfold Sp.closesS Sp.closeS at hR
  generalize Sp.segsS a b c d = e at sv rv n1 n2 n3 n4 hR
  generalize Sp.relS a b c d = v at rv hR
  generalize Sp.nearS a c d r = x1 at n1 hR
  generalize Sp.nearS b c d r = x2 at n2 hR
  generalize Sp.nearS c a b r = x3 at n3 hR
  generalize Sp.nearS d a b r = x4 at n4 hR
  change ∀ W, Calls _ _ _ W fun e w' => e = .returned (.bool (Sp.farOk r)) ∧ W = w' at kv
  generalize Sp.farOk r = f at kv n1 n2 n3 n4 hR fi
  have RV := hid rv
  have HR := hid hR
  have N1 := hid n1
  have N2 := hid n2
  have N3 := hid n3
  have N4 := hid n4
  clear rv hR n1 n2 n3 n4 fi
  obtain ⟨a1, a2⟩ := a
  obtain ⟨b1, b2⟩ := b
  obtain ⟨c1, c2⟩ := c
  obtain ⟨d1, d2⟩ := d
  dsimp only at *
  obtain ⟨V, hV⟩ : ∃ V : World, ((((w.alloc (Obj.cells #[.int .i64 (a1), .int .i64 (a2)] 23)).alloc (Obj.cells #[.int .i64 (b1), .int .i64 (b2)] 23)).alloc (Obj.cells #[.int .i64 (c1), .int .i64 (c2)] 23)).alloc (Obj.cells #[.int .i64 (d1), .int .i64 (d2)] 23)) = V := ⟨_, rfl⟩
  have bV : Below w.heap.size w V := by rw [← hV]; (repeat' (first | (with_reducible exact Below.refl _ _) | (with_reducible refine Below.alloc ?_ ?_ _) | (with_reducible refine Below.setCell ?_ ?_ _) | (with_reducible refine Below.drew ?_) | (with_reducible refine Below.trans ?_ (Below.mono (by assumption) ?_)) | (simp; done) | (simp; omega) | omega))
  have zV : V.heap.size = w.heap.size + 1 + 1 + 1 + 1 := by rw [← hV]; simp
  have dV : V.drawn = w.drawn := by rw [← hV]; rfl
  have K : Hid (∀ W' : World, Below V.heap.size V W' → (W'.cell? ⟨w.heap.size, 0, none⟩ = some (.int .i64 a1) ∧ W'.cell? ⟨w.heap.size, 1, none⟩ = some (.int .i64 a2) ∧ W'.cell? ⟨w.heap.size + 1, 0, none⟩ = some (.int .i64 b1) ∧ W'.cell? ⟨w.heap.size + 1, 1, none⟩ = some (.int .i64 b2) ∧ W'.cell? ⟨w.heap.size + 1 + 1, 0, none⟩ = some (.int .i64 c1) ∧ W'.cell? ⟨w.heap.size + 1 + 1, 1, none⟩ = some (.int .i64 c2) ∧ W'.cell? ⟨w.heap.size + 1 + 1 + 1, 0, none⟩ = some (.int .i64 d1) ∧ W'.cell? ⟨w.heap.size + 1 + 1 + 1, 1, none⟩ = some (.int .i64 d2))) := hid fun W' B => ⟨(B.cell (p := ⟨w.heap.size, 0, none⟩) (by simp only; omega)).trans (by rw [← hV]; simp [go_sem]), (B.cell (p := ⟨w.heap.size, 1, none⟩) (by simp only; omega)).trans (by rw [← hV]; simp [go_sem]), (B.cell (p := ⟨w.heap.size + 1, 0, none⟩) (by simp only; omega)).trans (by rw [← hV]; simp [go_sem]), (B.cell (p := ⟨w.heap.size + 1, 1, none⟩) (by simp only; omega)).trans (by rw [← hV]; simp [go_sem]), (B.cell (p := ⟨w.heap.size + 1 + 1, 0, none⟩) (by simp only; omega)).trans (by rw [← hV]; simp [go_sem]), (B.cell (p := ⟨w.heap.size + 1 + 1, 1, none⟩) (by simp only; omega)).trans (by rw [← hV]; simp [go_sem]), (B.cell (p := ⟨w.heap.size + 1 + 1 + 1, 0, none⟩) (by simp only; omega)).trans (by rw [← hV]; simp [go_sem]), (B.cell (p := ⟨w.heap.size + 1 + 1 + 1, 1, none⟩) (by simp only; omega)).trans (by rw [← hV]; simp [go_sem])⟩
  have HV := hid hV
  have BV := hid bV
  have ZV := hid zV
  have DV := hid dV
  clear hV bV zV dV
  go_enter Try.func29, Try.ntmps29
  go_upto_region 1 with fail
  rw [HV.out]
  obtain ⟨ac0, ac1, bc0, bc1, cc0, cc1, dc0, dc1⟩ := K.out _ (Below.refl _ _ : Below V.heap.size V V)
  have zl : w.heap.size + 1 + 1 + 1 < V.heap.size := by have h1 := ZV.out; have h2 := ((Below.refl _ _ : Below V.heap.size V V)).size; omega
  rcases Classical.em (e = 0) with y1 | y1
  · subst y1
    cases f
    · go_wp2_with fail
      refine (sv _).mono ?_
      rintro _ u1 ⟨rfl, hb⟩
      have B1 : Below V.heap.size V u1 := by have hB := (Below.refl _ _ : Below V.heap.size V V); have hz := hB.size; repeat' (first | (with_reducible exact Below.refl _ _) | (with_reducible refine Below.alloc ?_ ?_ _) | (with_reducible refine Below.setCell ?_ ?_ _) | (with_reducible refine Below.drew ?_) | (with_reducible refine Below.trans ?_ (Below.mono (by assumption) ?_)) | (simp; done) | (simp; omega) | omega)
      clear hb
      clear ac0 ac1 bc0 bc1 cc0 cc1 dc0 dc1 zl
      have B1 := hid B1
      obtain ⟨ac0, ac1, bc0, bc1, cc0, cc1, dc0, dc1⟩ := K.out _ B1.out
      have zl : w.heap.size + 1 + 1 + 1 < u1.heap.size := by have h1 := ZV.out; have h2 := (B1.out).size; omega
      go_wp2_with fail
      refine (kv _).mono ?_
      rintro _ uq ⟨rfl, rfl⟩
      go_wp2_with fail
      refine bodyPost_ret (v := .tuple #[.bool false, .int .i64 2]) (by simp [results, Try.results29, go_sem]) rfl ?_
      have hB := B1.out
      have hz := hB.size
      have hV := BV.out.trans (hB.mono BV.out.size)
      exact Gives.mk ((by have h := HR.out; simp at h; obtain ⟨rfl, rfl⟩ := h; rfl)) (by first | exact hV | (repeat' (first | (with_reducible exact Below.refl _ _) | (with_reducible refine Below.alloc ?_ ?_ _) | (with_reducible refine Below.setCell ?_ ?_ _) | (with_reducible refine Below.drew ?_) | (with_reducible refine Below.trans ?_ (Below.mono (by assumption) ?_)) | (simp; done) | (simp; omega) | omega)))
    · rcases Classical.em (v = 0) with y2 | y2
      · subst y2
        cases x1
        · cases x2
          · cases x3
            · cases x4
              · go_wp2_with fail
                refine (sv _).mono ?_
                rintro _ u1 ⟨rfl, hb⟩
                have B1 : Below V.heap.size V u1 := by have hB := (Below.refl _ _ : Below V.heap.size V V); have hz := hB.size; repeat' (first | (with_reducible exact Below.refl _ _) | (with_reducible refine Below.alloc ?_ ?_ _) | (with_reducible refine Below.setCell ?_ ?_ _) | (with_reducible refine Below.drew ?_) | (with_reducible refine Below.trans ?_ (Below.mono (by assumption) ?_)) | (simp; done) | (simp; omega) | omega)
                clear hb
                clear ac0 ac1 bc0 bc1 cc0 cc1 dc0 dc1 zl
                have B1 := hid B1
                obtain ⟨ac0, ac1, bc0, bc1, cc0, cc1, dc0, dc1⟩ := K.out _ B1.out
                have zl : w.heap.size + 1 + 1 + 1 < u1.heap.size := by have h1 := ZV.out; have h2 := (B1.out).size; omega
                go_wp2_with fail
                refine (kv _).mono ?_
                rintro _ uq ⟨rfl, rfl⟩
                go_wp2_with fail
                refine ((RV.out (by first | trivial | rfl) _)).mono ?_
                rintro _ u2 ⟨rfl, hb⟩
                have B2 : Below V.heap.size V u2 := by have hB := B1.out; have hz := hB.size; repeat' (first | (with_reducible exact Below.refl _ _) | (with_reducible refine Below.alloc ?_ ?_ _) | (with_reducible refine Below.setCell ?_ ?_ _) | (with_reducible refine Below.drew ?_) | (with_reducible refine Below.trans ?_ (Below.mono (by assumption) ?_)) | (simp; done) | (simp; omega) | omega)
                clear hb
                clear ac0 ac1 bc0 bc1 cc0 cc1 dc0 dc1 zl
                have B2 := hid B2
                obtain ⟨ac0, ac1, bc0, bc1, cc0, cc1, dc0, dc1⟩ := K.out _ B2.out
                have zl : w.heap.size + 1 + 1 + 1 < u2.heap.size := by have h1 := ZV.out; have h2 := (B2.out).size; omega
                go_wp2_with fail
                refine ((N1.out (by first | trivial | rfl) (by first | trivial | rfl) _)).mono ?_
                rintro _ u3 ⟨rfl, hb⟩
                have B3 : Below V.heap.size V u3 := by have hB := B2.out; have hz := hB.size; repeat' (first | (with_reducible exact Below.refl _ _) | (with_reducible refine Below.alloc ?_ ?_ _) | (with_reducible refine Below.setCell ?_ ?_ _) | (with_reducible refine Below.drew ?_) | (with_reducible refine Below.trans ?_ (Below.mono (by assumption) ?_)) | (simp; done) | (simp; omega) | omega)
                clear hb
                clear ac0 ac1 bc0 bc1 cc0 cc1 dc0 dc1 zl
                have B3 := hid B3
                obtain ⟨ac0, ac1, bc0, bc1, cc0, cc1, dc0, dc1⟩ := K.out _ B3.out
                have zl : w.heap.size + 1 + 1 + 1 < u3.heap.size := by have h1 := ZV.out; have h2 := (B3.out).size; omega
                go_wp2_with fail
                refine ((N2.out (by first | trivial | rfl) (by first | trivial | rfl) _)).mono ?_
                rintro _ u4 ⟨rfl, hb⟩
                have B4 : Below V.heap.size V u4 := by have hB := B3.out; have hz := hB.size; repeat' (first | (with_reducible exact Below.refl _ _) | (with_reducible refine Below.alloc ?_ ?_ _) | (with_reducible refine Below.setCell ?_ ?_ _) | (with_reducible refine Below.drew ?_) | (with_reducible refine Below.trans ?_ (Below.mono (by assumption) ?_)) | (simp; done) | (simp; omega) | omega)
                clear hb
                clear ac0 ac1 bc0 bc1 cc0 cc1 dc0 dc1 zl
                have B4 := hid B4
                obtain ⟨ac0, ac1, bc0, bc1, cc0, cc1, dc0, dc1⟩ := K.out _ B4.out
                have zl : w.heap.size + 1 + 1 + 1 < u4.heap.size := by have h1 := ZV.out; have h2 := (B4.out).size; omega
                go_wp2_with fail
                refine ((N3.out (by first | trivial | rfl) (by first | trivial | rfl) _)).mono ?_
                rintro _ u5 ⟨rfl, hb⟩
                have B5 : Below V.heap.size V u5 := by have hB := B4.out; have hz := hB.size; repeat' (first | (with_reducible exact Below.refl _ _) | (with_reducible refine Below.alloc ?_ ?_ _) | (with_reducible refine Below.setCell ?_ ?_ _) | (with_reducible refine Below.drew ?_) | (with_reducible refine Below.trans ?_ (Below.mono (by assumption) ?_)) | (simp; done) | (simp; omega) | omega)
                clear hb
                clear ac0 ac1 bc0 bc1 cc0 cc1 dc0 dc1 zl
                have B5 := hid B5
                obtain ⟨ac0, ac1, bc0, bc1, cc0, cc1, dc0, dc1⟩ := K.out _ B5.out
                have zl : w.heap.size + 1 + 1 + 1 < u5.heap.size := by have h1 := ZV.out; have h2 := (B5.out).size; omega
                go_wp2_with fail
                refine ((N4.out (by first | trivial | rfl) (by first | trivial | rfl) _)).mono ?_
                rintro _ u6 ⟨rfl, hb⟩
                have B6 : Below V.heap.size V u6 := by have hB := B5.out; have hz := hB.size; repeat' (first | (with_reducible exact Below.refl _ _) | (with_reducible refine Below.alloc ?_ ?_ _) | (with_reducible refine Below.setCell ?_ ?_ _) | (with_reducible refine Below.drew ?_) | (with_reducible refine Below.trans ?_ (Below.mono (by assumption) ?_)) | (simp; done) | (simp; omega) | omega)
                clear hb
                clear ac0 ac1 bc0 bc1 cc0 cc1 dc0 dc1 zl
                have B6 := hid B6
                obtain ⟨ac0, ac1, bc0, bc1, cc0, cc1, dc0, dc1⟩ := K.out _ B6.out
                have zl : w.heap.size + 1 + 1 + 1 < u6.heap.size := by have h1 := ZV.out; have h2 := (B6.out).size; omega
                go_wp2_with fail
                refine bodyPost_ret (v := .tuple #[.bool false, .int .i64 0]) (by simp [results, Try.results29, go_sem]) rfl ?_
                have hB := B6.out
                have hz := hB.size
                have hV := BV.out.trans (hB.mono BV.out.size)
                exact Gives.mk ((by have h := HR.out; simp at h; obtain ⟨rfl, rfl⟩ := h; rfl)) (by first | exact hV | (repeat' (first | (with_reducible exact Below.refl _ _) | (with_reducible refine Below.alloc ?_ ?_ _) | (with_reducible refine Below.setCell ?_ ?_ _) | (with_reducible refine Below.drew ?_) | (with_reducible refine Below.trans ?_ (Below.mono (by assumption) ?_)) | (simp; done) | (simp; omega) | omega)))
              · go_wp2_with fail
                refine (sv _).mono ?_
                rintro _ u1 ⟨rfl, hb⟩
                have B1 : Below V.heap.size V u1 := by have hB := (Below.refl _ _ : Below V.heap.size V V); have hz := hB.size; repeat' (first | (with_reducible exact Below.refl _ _) | (with_reducible refine Below.alloc ?_ ?_ _) | (with_reducible refine Below.setCell ?_ ?_ _) | (with_reducible refine Below.drew ?_) | (with_reducible refine Below.trans ?_ (Below.mono (by assumption) ?_)) | (simp; done) | (simp; omega) | omega)
                clear hb
                clear ac0 ac1 bc0 bc1 cc0 cc1 dc0 dc1 zl
                have B1 := hid B1
                obtain ⟨ac0, ac1, bc0, bc1, cc0, cc1, dc0, dc1⟩ := K.out _ B1.out
                have zl : w.heap.size + 1 + 1 + 1 < u1.heap.size := by have h1 := ZV.out; have h2 := (B1.out).size; omega
                go_wp2_with fail
                refine (kv _).mono ?_
                rintro _ uq ⟨rfl, rfl⟩
                go_wp2_with fail
                refine ((RV.out (by first | trivial | rfl) _)).mono ?_
                rintro _ u2 ⟨rfl, hb⟩
                have B2 : Below V.heap.size V u2 := by have hB := B1.out; have hz := hB.size; repeat' (first | (with_reducible exact Below.refl _ _) | (with_reducible refine Below.alloc ?_ ?_ _) | (with_reducible refine Below.setCell ?_ ?_ _) | (with_reducible refine Below.drew ?_) | (with_reducible refine Below.trans ?_ (Below.mono (by assumption) ?_)) | (simp; done) | (simp; omega) | omega)
                clear hb
                clear ac0 ac1 bc0 bc1 cc0 cc1 dc0 dc1 zl
                have B2 := hid B2
                obtain ⟨ac0, ac1, bc0, bc1, cc0, cc1, dc0, dc1⟩ := K.out _ B2.out
                have zl : w.heap.size + 1 + 1 + 1 < u2.heap.size := by have h1 := ZV.out; have h2 := (B2.out).size; omega
                go_wp2_with fail
                refine ((N1.out (by first | trivial | rfl) (by first | trivial | rfl) _)).mono ?_
                rintro _ u3 ⟨rfl, hb⟩
                have B3 : Below V.heap.size V u3 := by have hB := B2.out; have hz := hB.size; repeat' (first | (with_reducible exact Below.refl _ _) | (with_reducible refine Below.alloc ?_ ?_ _) | (with_reducible refine Below.setCell ?_ ?_ _) | (with_reducible refine Below.drew ?_) | (with_reducible refine Below.trans ?_ (Below.mono (by assumption) ?_)) | (simp; done) | (simp; omega) | omega)
                clear hb
                clear ac0 ac1 bc0 bc1 cc0 cc1 dc0 dc1 zl
                have B3 := hid B3
                obtain ⟨ac0, ac1, bc0, bc1, cc0, cc1, dc0, dc1⟩ := K.out _ B3.out
                have zl : w.heap.size + 1 + 1 + 1 < u3.heap.size := by have h1 := ZV.out; have h2 := (B3.out).size; omega
                go_wp2_with fail
                refine ((N2.out (by first | trivial | rfl) (by first | trivial | rfl) _)).mono ?_
                rintro _ u4 ⟨rfl, hb⟩
                have B4 : Below V.heap.size V u4 := by have hB := B3.out; have hz := hB.size; repeat' (first | (with_reducible exact Below.refl _ _) | (with_reducible refine Below.alloc ?_ ?_ _) | (with_reducible refine Below.setCell ?_ ?_ _) | (with_reducible refine Below.drew ?_) | (with_reducible refine Below.trans ?_ (Below.mono (by assumption) ?_)) | (simp; done) | (simp; omega) | omega)
                clear hb
                clear ac0 ac1 bc0 bc1 cc0 cc1 dc0 dc1 zl
                have B4 := hid B4
                obtain ⟨ac0, ac1, bc0, bc1, cc0, cc1, dc0, dc1⟩ := K.out _ B4.out
                have zl : w.heap.size + 1 + 1 + 1 < u4.heap.size := by have h1 := ZV.out; have h2 := (B4.out).size; omega
                go_wp2_with fail
                refine ((N3.out (by first | trivial | rfl) (by first | trivial | rfl) _)).mono ?_
                rintro _ u5 ⟨rfl, hb⟩
                have B5 : Below V.heap.size V u5 := by have hB := B4.out; have hz := hB.size; repeat' (first | (with_reducible exact Below.refl _ _) | (with_reducible refine Below.alloc ?_ ?_ _) | (with_reducible refine Below.setCell ?_ ?_ _) | (with_reducible refine Below.drew ?_) | (with_reducible refine Below.trans ?_ (Below.mono (by assumption) ?_)) | (simp; done) | (simp; omega) | omega)
                clear hb
                clear ac0 ac1 bc0 bc1 cc0 cc1 dc0 dc1 zl
                have B5 := hid B5
                obtain ⟨ac0, ac1, bc0, bc1, cc0, cc1, dc0, dc1⟩ := K.out _ B5.out
                have zl : w.heap.size + 1 + 1 + 1 < u5.heap.size := by have h1 := ZV.out; have h2 := (B5.out).size; omega
                go_wp2_with fail
                refine ((N4.out (by first | trivial | rfl) (by first | trivial | rfl) _)).mono ?_
                rintro _ u6 ⟨rfl, hb⟩
                have B6 : Below V.heap.size V u6 := by have hB := B5.out; have hz := hB.size; repeat' (first | (with_reducible exact Below.refl _ _) | (with_reducible refine Below.alloc ?_ ?_ _) | (with_reducible refine Below.setCell ?_ ?_ _) | (with_reducible refine Below.drew ?_) | (with_reducible refine Below.trans ?_ (Below.mono (by assumption) ?_)) | (simp; done) | (simp; omega) | omega)
                clear hb
                clear ac0 ac1 bc0 bc1 cc0 cc1 dc0 dc1 zl
                have B6 := hid B6
                obtain ⟨ac0, ac1, bc0, bc1, cc0, cc1, dc0, dc1⟩ := K.out _ B6.out
                have zl : w.heap.size + 1 + 1 + 1 < u6.heap.size := by have h1 := ZV.out; have h2 := (B6.out).size; omega
                go_wp2_with fail
                refine bodyPost_ret (v := .tuple #[.bool true, .int .i64 0]) (by simp [results, Try.results29, go_sem]) rfl ?_
                have hB := B6.out
                have hz := hB.size
                have hV := BV.out.trans (hB.mono BV.out.size)
                exact Gives.mk ((by have h := HR.out; simp at h; obtain ⟨rfl, rfl⟩ := h; rfl)) (by first | exact hV | (repeat' (first | (with_reducible exact Below.refl _ _) | (with_reducible refine Below.alloc ?_ ?_ _) | (with_reducible refine Below.setCell ?_ ?_ _) | (with_reducible refine Below.drew ?_) | (with_reducible refine Below.trans ?_ (Below.mono (by assumption) ?_)) | (simp; done) | (simp; omega) | omega)))
            · go_wp2_with fail
              refine (sv _).mono ?_
              rintro _ u1 ⟨rfl, hb⟩
              have B1 : Below V.heap.size V u1 := by have hB := (Below.refl _ _ : Below V.heap.size V V); have hz := hB.size; repeat' (first | (with_reducible exact Below.refl _ _) | (with_reducible refine Below.alloc ?_ ?_ _) | (with_reducible refine Below.setCell ?_ ?_ _) | (with_reducible refine Below.drew ?_) | (with_reducible refine Below.trans ?_ (Below.mono (by assumption) ?_)) | (simp; done) | (simp; omega) | omega)
              clear hb
              clear ac0 ac1 bc0 bc1 cc0 cc1 dc0 dc1 zl
              have B1 := hid B1
              obtain ⟨ac0, ac1, bc0, bc1, cc0, cc1, dc0, dc1⟩ := K.out _ B1.out
              have zl : w.heap.size + 1 + 1 + 1 < u1.heap.size := by have h1 := ZV.out; have h2 := (B1.out).size; omega
              go_wp2_with fail
              refine (kv _).mono ?_
              rintro _ uq ⟨rfl, rfl⟩
              go_wp2_with fail
              refine ((RV.out (by first | trivial | rfl) _)).mono ?_
              rintro _ u2 ⟨rfl, hb⟩
              have B2 : Below V.heap.size V u2 := by have hB := B1.out; have hz := hB.size; repeat' (first | (with_reducible exact Below.refl _ _) | (with_reducible refine Below.alloc ?_ ?_ _) | (with_reducible refine Below.setCell ?_ ?_ _) | (with_reducible refine Below.drew ?_) | (with_reducible refine Below.trans ?_ (Below.mono (by assumption) ?_)) | (simp; done) | (simp; omega) | omega)
              clear hb
              clear ac0 ac1 bc0 bc1 cc0 cc1 dc0 dc1 zl
              have B2 := hid B2
              obtain ⟨ac0, ac1, bc0, bc1, cc0, cc1, dc0, dc1⟩ := K.out _ B2.out
              have zl : w.heap.size + 1 + 1 + 1 < u2.heap.size := by have h1 := ZV.out; have h2 := (B2.out).size; omega
              go_wp2_with fail
              refine ((N1.out (by first | trivial | rfl) (by first | trivial | rfl) _)).mono ?_
              rintro _ u3 ⟨rfl, hb⟩
              have B3 : Below V.heap.size V u3 := by have hB := B2.out; have hz := hB.size; repeat' (first | (with_reducible exact Below.refl _ _) | (with_reducible refine Below.alloc ?_ ?_ _) | (with_reducible refine Below.setCell ?_ ?_ _) | (with_reducible refine Below.drew ?_) | (with_reducible refine Below.trans ?_ (Below.mono (by assumption) ?_)) | (simp; done) | (simp; omega) | omega)
              clear hb
              clear ac0 ac1 bc0 bc1 cc0 cc1 dc0 dc1 zl
              have B3 := hid B3
              obtain ⟨ac0, ac1, bc0, bc1, cc0, cc1, dc0, dc1⟩ := K.out _ B3.out
              have zl : w.heap.size + 1 + 1 + 1 < u3.heap.size := by have h1 := ZV.out; have h2 := (B3.out).size; omega
              go_wp2_with fail
              refine ((N2.out (by first | trivial | rfl) (by first | trivial | rfl) _)).mono ?_
              rintro _ u4 ⟨rfl, hb⟩
              have B4 : Below V.heap.size V u4 := by have hB := B3.out; have hz := hB.size; repeat' (first | (with_reducible exact Below.refl _ _) | (with_reducible refine Below.alloc ?_ ?_ _) | (with_reducible refine Below.setCell ?_ ?_ _) | (with_reducible refine Below.drew ?_) | (with_reducible refine Below.trans ?_ (Below.mono (by assumption) ?_)) | (simp; done) | (simp; omega) | omega)
              clear hb
              clear ac0 ac1 bc0 bc1 cc0 cc1 dc0 dc1 zl
              have B4 := hid B4
              obtain ⟨ac0, ac1, bc0, bc1, cc0, cc1, dc0, dc1⟩ := K.out _ B4.out
              have zl : w.heap.size + 1 + 1 + 1 < u4.heap.size := by have h1 := ZV.out; have h2 := (B4.out).size; omega
              go_wp2_with fail
              refine ((N3.out (by first | trivial | rfl) (by first | trivial | rfl) _)).mono ?_
              rintro _ u5 ⟨rfl, hb⟩
              have B5 : Below V.heap.size V u5 := by have hB := B4.out; have hz := hB.size; repeat' (first | (with_reducible exact Below.refl _ _) | (with_reducible refine Below.alloc ?_ ?_ _) | (with_reducible refine Below.setCell ?_ ?_ _) | (with_reducible refine Below.drew ?_) | (with_reducible refine Below.trans ?_ (Below.mono (by assumption) ?_)) | (simp; done) | (simp; omega) | omega)
              clear hb
              clear ac0 ac1 bc0 bc1 cc0 cc1 dc0 dc1 zl
              have B5 := hid B5
              obtain ⟨ac0, ac1, bc0, bc1, cc0, cc1, dc0, dc1⟩ := K.out _ B5.out
              have zl : w.heap.size + 1 + 1 + 1 < u5.heap.size := by have h1 := ZV.out; have h2 := (B5.out).size; omega
              go_wp2_with fail
              refine bodyPost_ret (v := .tuple #[.bool true, .int .i64 0]) (by simp [results, Try.results29, go_sem]) rfl ?_
              have hB := B5.out
              have hz := hB.size
              have hV := BV.out.trans (hB.mono BV.out.size)
              exact Gives.mk ((by have h := HR.out; simp at h; obtain ⟨rfl, rfl⟩ := h; rfl)) (by first | exact hV | (repeat' (first | (with_reducible exact Below.refl _ _) | (with_reducible refine Below.alloc ?_ ?_ _) | (with_reducible refine Below.setCell ?_ ?_ _) | (with_reducible refine Below.drew ?_) | (with_reducible refine Below.trans ?_ (Below.mono (by assumption) ?_)) | (simp; done) | (simp; omega) | omega)))
          · go_wp2_with fail
            refine (sv _).mono ?_
            rintro _ u1 ⟨rfl, hb⟩
            have B1 : Below V.heap.size V u1 := by have hB := (Below.refl _ _ : Below V.heap.size V V); have hz := hB.size; repeat' (first | (with_reducible exact Below.refl _ _) | (with_reducible refine Below.alloc ?_ ?_ _) | (with_reducible refine Below.setCell ?_ ?_ _) | (with_reducible refine Below.drew ?_) | (with_reducible refine Below.trans ?_ (Below.mono (by assumption) ?_)) | (simp; done) | (simp; omega) | omega)
            clear hb
            clear ac0 ac1 bc0 bc1 cc0 cc1 dc0 dc1 zl
            have B1 := hid B1
            obtain ⟨ac0, ac1, bc0, bc1, cc0, cc1, dc0, dc1⟩ := K.out _ B1.out
            have zl : w.heap.size + 1 + 1 + 1 < u1.heap.size := by have h1 := ZV.out; have h2 := (B1.out).size; omega
            go_wp2_with fail
            refine (kv _).mono ?_
            rintro _ uq ⟨rfl, rfl⟩
            go_wp2_with fail
            refine ((RV.out (by first | trivial | rfl) _)).mono ?_
            rintro _ u2 ⟨rfl, hb⟩
            have B2 : Below V.heap.size V u2 := by have hB := B1.out; have hz := hB.size; repeat' (first | (with_reducible exact Below.refl _ _) | (with_reducible refine Below.alloc ?_ ?_ _) | (with_reducible refine Below.setCell ?_ ?_ _) | (with_reducible refine Below.drew ?_) | (with_reducible refine Below.trans ?_ (Below.mono (by assumption) ?_)) | (simp; done) | (simp; omega) | omega)
            clear hb
            clear ac0 ac1 bc0 bc1 cc0 cc1 dc0 dc1 zl
            have B2 := hid B2
            obtain ⟨ac0, ac1, bc0, bc1, cc0, cc1, dc0, dc1⟩ := K.out _ B2.out
            have zl : w.heap.size + 1 + 1 + 1 < u2.heap.size := by have h1 := ZV.out; have h2 := (B2.out).size; omega
            go_wp2_with fail
            refine ((N1.out (by first | trivial | rfl) (by first | trivial | rfl) _)).mono ?_
            rintro _ u3 ⟨rfl, hb⟩
            have B3 : Below V.heap.size V u3 := by have hB := B2.out; have hz := hB.size; repeat' (first | (with_reducible exact Below.refl _ _) | (with_reducible refine Below.alloc ?_ ?_ _) | (with_reducible refine Below.setCell ?_ ?_ _) | (with_reducible refine Below.drew ?_) | (with_reducible refine Below.trans ?_ (Below.mono (by assumption) ?_)) | (simp; done) | (simp; omega) | omega)
            clear hb
            clear ac0 ac1 bc0 bc1 cc0 cc1 dc0 dc1 zl
            have B3 := hid B3
            obtain ⟨ac0, ac1, bc0, bc1, cc0, cc1, dc0, dc1⟩ := K.out _ B3.out
            have zl : w.heap.size + 1 + 1 + 1 < u3.heap.size := by have h1 := ZV.out; have h2 := (B3.out).size; omega
            go_wp2_with fail
            refine ((N2.out (by first | trivial | rfl) (by first | trivial | rfl) _)).mono ?_
            rintro _ u4 ⟨rfl, hb⟩
            have B4 : Below V.heap.size V u4 := by have hB := B3.out; have hz := hB.size; repeat' (first | (with_reducible exact Below.refl _ _) | (with_reducible refine Below.alloc ?_ ?_ _) | (with_reducible refine Below.setCell ?_ ?_ _) | (with_reducible refine Below.drew ?_) | (with_reducible refine Below.trans ?_ (Below.mono (by assumption) ?_)) | (simp; done) | (simp; omega) | omega)
            clear hb
            clear ac0 ac1 bc0 bc1 cc0 cc1 dc0 dc1 zl
            have B4 := hid B4
            obtain ⟨ac0, ac1, bc0, bc1, cc0, cc1, dc0, dc1⟩ := K.out _ B4.out
            have zl : w.heap.size + 1 + 1 + 1 < u4.heap.size := by have h1 := ZV.out; have h2 := (B4.out).size; omega
            go_wp2_with fail
            refine bodyPost_ret (v := .tuple #[.bool true, .int .i64 0]) (by simp [results, Try.results29, go_sem]) rfl ?_
            have hB := B4.out
            have hz := hB.size
            have hV := BV.out.trans (hB.mono BV.out.size)
            exact Gives.mk ((by have h := HR.out; simp at h; obtain ⟨rfl, rfl⟩ := h; rfl)) (by first | exact hV | (repeat' (first | (with_reducible exact Below.refl _ _) | (with_reducible refine Below.alloc ?_ ?_ _) | (with_reducible refine Below.setCell ?_ ?_ _) | (with_reducible refine Below.drew ?_) | (with_reducible refine Below.trans ?_ (Below.mono (by assumption) ?_)) | (simp; done) | (simp; omega) | omega)))
        · go_wp2_with fail
          refine (sv _).mono ?_
          rintro _ u1 ⟨rfl, hb⟩
          have B1 : Below V.heap.size V u1 := by have hB := (Below.refl _ _ : Below V.heap.size V V); have hz := hB.size; repeat' (first | (with_reducible exact Below.refl _ _) | (with_reducible refine Below.alloc ?_ ?_ _) | (with_reducible refine Below.setCell ?_ ?_ _) | (with_reducible refine Below.drew ?_) | (with_reducible refine Below.trans ?_ (Below.mono (by assumption) ?_)) | (simp; done) | (simp; omega) | omega)
          clear hb
          clear ac0 ac1 bc0 bc1 cc0 cc1 dc0 dc1 zl
          have B1 := hid B1
          obtain ⟨ac0, ac1, bc0, bc1, cc0, cc1, dc0, dc1⟩ := K.out _ B1.out
          have zl : w.heap.size + 1 + 1 + 1 < u1.heap.size := by have h1 := ZV.out; have h2 := (B1.out).size; omega
          go_wp2_with fail
          refine (kv _).mono ?_
          rintro _ uq ⟨rfl, rfl⟩
          go_wp2_with fail
          refine ((RV.out (by first | trivial | rfl) _)).mono ?_
          rintro _ u2 ⟨rfl, hb⟩
          have B2 : Below V.heap.size V u2 := by have hB := B1.out; have hz := hB.size; repeat' (first | (with_reducible exact Below.refl _ _) | (with_reducible refine Below.alloc ?_ ?_ _) | (with_reducible refine Below.setCell ?_ ?_ _) | (with_reducible refine Below.drew ?_) | (with_reducible refine Below.trans ?_ (Below.mono (by assumption) ?_)) | (simp; done) | (simp; omega) | omega)
          clear hb
          clear ac0 ac1 bc0 bc1 cc0 cc1 dc0 dc1 zl
          have B2 := hid B2
          obtain ⟨ac0, ac1, bc0, bc1, cc0, cc1, dc0, dc1⟩ := K.out _ B2.out
          have zl : w.heap.size + 1 + 1 + 1 < u2.heap.size := by have h1 := ZV.out; have h2 := (B2.out).size; omega
          go_wp2_with fail
          refine ((N1.out (by first | trivial | rfl) (by first | trivial | rfl) _)).mono ?_
          rintro _ u3 ⟨rfl, hb⟩
          have B3 : Below V.heap.size V u3 := by have hB := B2.out; have hz := hB.size; repeat' (first | (with_reducible exact Below.refl _ _) | (with_reducible refine Below.alloc ?_ ?_ _) | (with_reducible refine Below.setCell ?_ ?_ _) | (with_reducible refine Below.drew ?_) | (with_reducible refine Below.trans ?_ (Below.mono (by assumption) ?_)) | (simp; done) | (simp; omega) | omega)
          clear hb
          clear ac0 ac1 bc0 bc1 cc0 cc1 dc0 dc1 zl
          have B3 := hid B3
          obtain ⟨ac0, ac1, bc0, bc1, cc0, cc1, dc0, dc1⟩ := K.out _ B3.out
          have zl : w.heap.size + 1 + 1 + 1 < u3.heap.size := by have h1 := ZV.out; have h2 := (B3.out).size; omega
          go_wp2_with fail
          refine bodyPost_ret (v := .tuple #[.bool true, .int .i64 0]) (by simp [results, Try.results29, go_sem]) rfl ?_
          have hB := B3.out
          have hz := hB.size
          have hV := BV.out.trans (hB.mono BV.out.size)
          exact Gives.mk ((by have h := HR.out; simp at h; obtain ⟨rfl, rfl⟩ := h; rfl)) (by first | exact hV | (repeat' (first | (with_reducible exact Below.refl _ _) | (with_reducible refine Below.alloc ?_ ?_ _) | (with_reducible refine Below.setCell ?_ ?_ _) | (with_reducible refine Below.drew ?_) | (with_reducible refine Below.trans ?_ (Below.mono (by assumption) ?_)) | (simp; done) | (simp; omega) | omega)))
      · go_wp2_with fail
        refine (sv _).mono ?_
        rintro _ u1 ⟨rfl, hb⟩
        have B1 : Below V.heap.size V u1 := by have hB := (Below.refl _ _ : Below V.heap.size V V); have hz := hB.size; repeat' (first | (with_reducible exact Below.refl _ _) | (with_reducible refine Below.alloc ?_ ?_ _) | (with_reducible refine Below.setCell ?_ ?_ _) | (with_reducible refine Below.drew ?_) | (with_reducible refine Below.trans ?_ (Below.mono (by assumption) ?_)) | (simp; done) | (simp; omega) | omega)
        clear hb
        clear ac0 ac1 bc0 bc1 cc0 cc1 dc0 dc1 zl
        have B1 := hid B1
        obtain ⟨ac0, ac1, bc0, bc1, cc0, cc1, dc0, dc1⟩ := K.out _ B1.out
        have zl : w.heap.size + 1 + 1 + 1 < u1.heap.size := by have h1 := ZV.out; have h2 := (B1.out).size; omega
        go_wp2_with fail
        refine (kv _).mono ?_
        rintro _ uq ⟨rfl, rfl⟩
        go_wp2_with fail
        refine ((RV.out (by first | trivial | rfl) _)).mono ?_
        rintro _ u2 ⟨rfl, hb⟩
        have B2 : Below V.heap.size V u2 := by have hB := B1.out; have hz := hB.size; repeat' (first | (with_reducible exact Below.refl _ _) | (with_reducible refine Below.alloc ?_ ?_ _) | (with_reducible refine Below.setCell ?_ ?_ _) | (with_reducible refine Below.drew ?_) | (with_reducible refine Below.trans ?_ (Below.mono (by assumption) ?_)) | (simp; done) | (simp; omega) | omega)
        clear hb
        clear ac0 ac1 bc0 bc1 cc0 cc1 dc0 dc1 zl
        have B2 := hid B2
        obtain ⟨ac0, ac1, bc0, bc1, cc0, cc1, dc0, dc1⟩ := K.out _ B2.out
        have zl : w.heap.size + 1 + 1 + 1 < u2.heap.size := by have h1 := ZV.out; have h2 := (B2.out).size; omega
        go_wp2_with fail
        refine bodyPost_ret (v := .tuple #[.bool true, .int .i64 0]) (by simp [results, Try.results29, go_sem]) rfl ?_
        have hB := B2.out
        have hz := hB.size
        have hV := BV.out.trans (hB.mono BV.out.size)
        exact Gives.mk ((by have h := HR.out; simp [y2] at h; obtain ⟨rfl, rfl⟩ := h; rfl)) (by first | exact hV | (repeat' (first | (with_reducible exact Below.refl _ _) | (with_reducible refine Below.alloc ?_ ?_ _) | (with_reducible refine Below.setCell ?_ ?_ _) | (with_reducible refine Below.drew ?_) | (with_reducible refine Below.trans ?_ (Below.mono (by assumption) ?_)) | (simp; done) | (simp; omega) | omega)))
  · go_wp2_with fail
    refine (sv _).mono ?_
    rintro _ u1 ⟨rfl, hb⟩
    have B1 : Below V.heap.size V u1 := by have hB := (Below.refl _ _ : Below V.heap.size V V); have hz := hB.size; repeat' (first | (with_reducible exact Below.refl _ _) | (with_reducible refine Below.alloc ?_ ?_ _) | (with_reducible refine Below.setCell ?_ ?_ _) | (with_reducible refine Below.drew ?_) | (with_reducible refine Below.trans ?_ (Below.mono (by assumption) ?_)) | (simp; done) | (simp; omega) | omega)
    clear hb
    clear ac0 ac1 bc0 bc1 cc0 cc1 dc0 dc1 zl
    have B1 := hid B1
    obtain ⟨ac0, ac1, bc0, bc1, cc0, cc1, dc0, dc1⟩ := K.out _ B1.out
    have zl : w.heap.size + 1 + 1 + 1 < u1.heap.size := by have h1 := ZV.out; have h2 := (B1.out).size; omega
    go_wp2_with fail
    refine bodyPost_ret (v := .tuple #[.bool false, .int .i64 e]) (by simp [results, Try.results29, go_sem]) rfl ?_
    have hB := B1.out
    have hz := hB.size
    have hV := BV.out.trans (hB.mono BV.out.size)
    exact Gives.mk ((by have h := HR.out; rw [if_neg y1] at h; simp at h; obtain ⟨rfl, rfl⟩ := h; rfl)) (by first | exact hV | (repeat' (first | (with_reducible exact Below.refl _ _) | (with_reducible refine Below.alloc ?_ ?_ _) | (with_reducible refine Below.setCell ?_ ?_ _) | (with_reducible refine Below.drew ?_) | (with_reducible refine Below.trans ?_ (Below.mono (by assumption) ?_)) | (simp; done) | (simp; omega) | omega)))

end Go.Proofs.Ytfdnmlggemonhaa
