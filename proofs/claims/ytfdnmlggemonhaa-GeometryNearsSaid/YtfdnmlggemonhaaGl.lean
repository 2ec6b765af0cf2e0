/-
  Layer 7: the examples of the chapter hold. Written by tools/gen_gl.py.
-/
import Derived.Test.YtfdnmlggemonhaaGk
import Derived.Test.YtfdnmlggemonhaaGh
import Derived.Test.YtfdnmlggemonhaaGf
namespace Go.Proofs.Ytfdnmlggemonhaa
open Go.RowKit
set_option linter.unusedVariables false
set_option linter.unusedSimpArgs false

def SameRel (w : World) (n : Nat) (t : Value) (wr : World) : Prop := ∃ j : Nat, t = .int .i64 (j : Int) ∧ j ≤ n ∧ Below w.heap.size w wr
set_option maxRecDepth 100000 in
set_option maxHeartbeats 2000000 in
theorem same_true (b g n c1 c2 : Nat) (d : Nat → Int) (hn : n ≤ 1000) (w : World) (hb : b < w.heap.size) (hg : g < w.heap.size) (h1 : ∀ k, k < n → w.cell? ⟨b, k, none⟩ = some (.int .i64 (d k))) (h2 : ∀ k, k < n → w.cell? ⟨g, k, none⟩ = some (.int .i64 (d k))) :
    Calls Try.prog 33 #[.slice (some ⟨b, 0, none⟩) n c1, .slice (some ⟨g, 0, none⟩) n c2] w (Gives (.bool true) w) := by
  have H1 := hid h1
  have H2 := hid h2
  have n2 : (n : Int) ≤ 1000 := by omega
  clear h1 h2
  go_enter Try.func33, Try.ntmps33
  go_wp2_with fail
  go_loopw [5] (fun t wr => SameRel w n t wr) (fun t _ => n - (intOf t).toNat)
  case atStart => exact ⟨0, rfl, Nat.zero_le _, Below.refl _ _⟩
  case round =>
    obtain ⟨j, rfl, hj, hB⟩ := hrel
    have HB := hid hB
    clear hB
    by_cases hlt : j < n
    · have x0 := (HB.out.cell (p := ⟨b, j, none⟩) hb).trans (H1.out j hlt)
      have y0 := (HB.out.cell (p := ⟨g, j, none⟩) hg).trans (H2.out j hlt)
      have i0 : (0 : Int) ≤ (j : Int) := by omega
      have i1 : (j : Int) < (n : Int) := by omega
      have HL := hid hlt
      generalize d j = x at x0 y0
      clear hlt
      go_wp2_with fail
      go_region
      all_goals
        simp only [Exit.then]
        go_at_K
        go_wp2_with fail
        go_roundw
        case rel => exact ⟨j + 1, by go_num, HL.out, HB.out.drew⟩
        case measure => exact smeas _ _ HL.out
    · have i1 : ¬ (j : Int) < (n : Int) := by omega
      go_wp2_with fail
      go_ret
      exact Gives.mk rfl HB.out
/-- What compare answers about the points of a list. -/
def cfL (o : Sp.Pt) (l : List Sp.Pt) (i j : Nat) : Int := Sp.cmpS o (l.getD i (0, 0)) (l.getD j (0, 0)) (i : Int) (j : Int)
theorem cmp_list (o : Sp.Pt) (ho : Sp.okP o = true) (l : List Sp.Pt) (hl : l.length ≤ 64) (hall : ∀ p ∈ l, Sp.okP p = true) (A : Option Addr) (c : Nat) (w : World) (T : Pts w A l) :
    ∀ W, Below w.heap.size w W → ∀ i j : Nat, i < l.length → j < l.length → Calls Try.prog 59 #[.agg #[.int .i64 o.1, .int .i64 o.2, .slice A l.length c], .int .i64 (i : Int), .int .i64 (j : Int)] W (GivesD (.int .i64 (cfL o l i j)) W) := by
  intro W hW i j hi hj
  obtain ⟨b, off, hA, bl, x0, x1⟩ := T.at_ hW hi
  obtain ⟨b', off', hA', bl', y0, y1⟩ := T.at_ hW hj
  subst hA
  injection hA' with hA'
  injection hA' with e1 e2
  subst e1 e2
  have ei : l.getD i (0, 0) = l[i]'hi := by simp [List.getD, List.getElem?_eq_getElem hi]
  have ej : l.getD j (0, 0) = l[j]'hj := by simp [List.getD, List.getElem?_eq_getElem hj]
  unfold cfL
  rw [ei, ej]
  exact vcompare_any o _ _ ho (hall _ (List.getElem_mem hi)) (hall _ (List.getElem_mem hj)) i j b off l.length c hi hj hl W (Nat.lt_of_lt_of_le bl hW.size) x0 x1 y0 y1
/-- Order, of at most 12 points. -/
theorem order_small (o : Sp.Pt) (ho : Sp.okP o = true) (l : List Sp.Pt) (A : Option Addr) (c : Nat) (hl : l.length ≤ 12) (h1 : 1 ≤ l.length) (hall : ∀ p ∈ l, Sp.okP p = true) (hno : l.any (fun p => decide (p = o)) = false) (w : World) (T : Pts w A l) :
    Calls Try.prog 31 #[.agg #[.int .i64 o.1, .int .i64 o.2], .slice A l.length c] w fun e w' => ∃ b, e = .returned (.tuple #[.slice (some ⟨b, 0, none⟩) l.length l.length, .int .i64 0]) ∧ w.heap.size ≤ b ∧ Row w' b l.length (Sp.insF (cfL o l) (l.length - 1) 1 (fillF l.length)) ∧ Below w.heap.size w w' := by
  refine order_good o ho l A c (by omega) (Sp.chkL_good hall) hno _ w T (fun W b hb hB hR => ?_)
  refine sortf_small _ l.length l.length b W _ h1 hl ?_
  exact ins_any _ (cfL o l) l.length b l.length l.length _ (fun k => by unfold fillF; split <;> omega) h1 (by omega) (by omega) w W hB hb (cmp_list o ho l (by omega) hall A c w T) hR

set_option maxRecDepth 100000 in
set_option maxHeartbeats 4000000 in
theorem meets_any (a b c d : Sp.Pt) (n : Int) (h : Sp.meetS a b c d = (n, 0)) (w : World) :
    Calls Try.prog 46 #[.agg #[.int .i64 a.1, .int .i64 a.2], .agg #[.int .i64 b.1, .int .i64 b.2], .agg #[.int .i64 c.1, .int .i64 c.2], .agg #[.int .i64 d.1, .int .i64 d.2], .int .i64 n] w (Gives (.bool true) w) := by
  have mv := Meet_any a b c d
  rw [h] at mv
  clear h
  obtain ⟨a1, a2⟩ := a
  obtain ⟨b1, b2⟩ := b
  obtain ⟨c1, c2⟩ := c
  obtain ⟨d1, d2⟩ := d
  dsimp only at *
  obtain ⟨V, hV⟩ : ∃ V : World, ((((w.alloc (Obj.cells #[.int .i64 (a1), .int .i64 (a2)] 23)).alloc (Obj.cells #[.int .i64 (b1), .int .i64 (b2)] 23)).alloc (Obj.cells #[.int .i64 (c1), .int .i64 (c2)] 23)).alloc (Obj.cells #[.int .i64 (d1), .int .i64 (d2)] 23)) = V := ⟨_, rfl⟩
  have bV : Below w.heap.size w V := by rw [← hV]; (repeat' (first | (with_reducible exact Below.refl _ _) | (with_reducible refine Below.alloc ?_ ?_ _) | (with_reducible refine Below.setCell ?_ ?_ _) | (with_reducible refine Below.drew ?_) | (with_reducible refine Below.trans ?_ (Below.mono (by assumption) ?_)) | (simp; done) | (simp; omega) | omega))
  have zV : V.heap.size = w.heap.size + 1 + 1 + 1 + 1 := by rw [← hV]; simp
  have dV : V.drawn = w.drawn := by rw [← hV]; rfl
  have K : Hid (∀ W' : World, Below V.heap.size V W' → (W'.cell? ⟨w.heap.size, 0, none⟩ = some (.int .i64 a1) ∧ W'.cell? ⟨w.heap.size, 1, none⟩ = some (.int .i64 a2) ∧ W'.cell? ⟨w.heap.size + 1, 0, none⟩ = some (.int .i64 b1) ∧ W'.cell? ⟨w.heap.size + 1, 1, none⟩ = some (.int .i64 b2) ∧ W'.cell? ⟨w.heap.size + 1 + 1, 0, none⟩ = some (.int .i64 c1) ∧ W'.cell? ⟨w.heap.size + 1 + 1, 1, none⟩ = some (.int .i64 c2) ∧ W'.cell? ⟨w.heap.size + 1 + 1 + 1, 0, none⟩ = some (.int .i64 d1) ∧ W'.cell? ⟨w.heap.size + 1 + 1 + 1, 1, none⟩ = some (.int .i64 d2))) := hid fun W' B => ⟨(B.cell (p := ⟨w.heap.size, 0, none⟩) (by simp only; omega)).trans (by rw [← hV]; simp [go_sem]), (B.cell (p := ⟨w.heap.size, 1, none⟩) (by simp only; omega)).trans (by rw [← hV]; simp [go_sem]), (B.cell (p := ⟨w.heap.size + 1, 0, none⟩) (by simp only; omega)).trans (by rw [← hV]; simp [go_sem]), (B.cell (p := ⟨w.heap.size + 1, 1, none⟩) (by simp only; omega)).trans (by rw [← hV]; simp [go_sem]), (B.cell (p := ⟨w.heap.size + 1 + 1, 0, none⟩) (by simp only; omega)).trans (by rw [← hV]; simp [go_sem]), (B.cell (p := ⟨w.heap.size + 1 + 1, 1, none⟩) (by simp only; omega)).trans (by rw [← hV]; simp [go_sem]), (B.cell (p := ⟨w.heap.size + 1 + 1 + 1, 0, none⟩) (by simp only; omega)).trans (by rw [← hV]; simp [go_sem]), (B.cell (p := ⟨w.heap.size + 1 + 1 + 1, 1, none⟩) (by simp only; omega)).trans (by rw [← hV]; simp [go_sem])⟩
  have HV := hid hV
  have BV := hid bV
  have ZV := hid zV
  have DV := hid dV
  clear hV bV zV dV
  go_enter Try.func46, Try.ntmps46
  go_upto_region 1 with fail
  rw [HV.out]
  obtain ⟨ac0, ac1, bc0, bc1, cc0, cc1, dc0, dc1⟩ := K.out _ (Below.refl _ _ : Below V.heap.size V V)
  have zl : w.heap.size + 1 + 1 + 1 < V.heap.size := by have h1 := ZV.out; have h2 := ((Below.refl _ _ : Below V.heap.size V V)).size; omega
  go_wp2_with fail
  refine ((mv _)).mono ?_
  rintro _ u1 ⟨rfl, hb⟩
  have B1 : Below V.heap.size V u1 := by have hB := (Below.refl _ _ : Below V.heap.size V V); have hz := hB.size; repeat' (first | (with_reducible exact Below.refl _ _) | (with_reducible refine Below.alloc ?_ ?_ _) | (with_reducible refine Below.setCell ?_ ?_ _) | (with_reducible refine Below.drew ?_) | (with_reducible refine Below.trans ?_ (Below.mono (by assumption) ?_)) | (simp; done) | (simp; omega) | omega)
  clear hb
  clear ac0 ac1 bc0 bc1 cc0 cc1 dc0 dc1 zl
  have B1 := hid B1
  obtain ⟨ac0, ac1, bc0, bc1, cc0, cc1, dc0, dc1⟩ := K.out _ B1.out
  have zl : w.heap.size + 1 + 1 + 1 < u1.heap.size := by have h1 := ZV.out; have h2 := (B1.out).size; omega
  go_wp2_with fail
  go_ret
  have hB := B1.out
  have hz := hB.size
  have hV := BV.out.trans (hB.mono BV.out.size)
  exact Gives.mk (rfl) (by first | exact hV | (repeat' (first | (with_reducible exact Below.refl _ _) | (with_reducible refine Below.alloc ?_ ?_ _) | (with_reducible refine Below.setCell ?_ ?_ _) | (with_reducible refine Below.drew ?_) | (with_reducible refine Below.trans ?_ (Below.mono (by assumption) ?_)) | (simp; done) | (simp; omega) | omega)))

set_option maxRecDepth 100000 in
set_option maxHeartbeats 4000000 in
theorem lnear_any (p : Sp.Pt) (r : Int) (v : Bool) (h : Sp.nearsS p (0, 0) (4, 0) r = (v, 0)) (w : World) :
    Calls Try.prog 47 #[.agg #[.int .i64 p.1, .int .i64 p.2], .int .i64 r, .bool v] w (Gives (.bool true) w) := by
  have nv := Near_any p (0, 0) (4, 0) r
  rw [h] at nv
  have a1 := at_any 0 0
  have a2 := at_any 4 0
  clear h
  obtain ⟨p1, p2⟩ := p
  dsimp only at *
  obtain ⟨V, hV⟩ : ∃ V : World, (w.alloc (Obj.cells #[.int .i64 (p1), .int .i64 (p2)] 23)) = V := ⟨_, rfl⟩
  have bV : Below w.heap.size w V := by rw [← hV]; (repeat' (first | (with_reducible exact Below.refl _ _) | (with_reducible refine Below.alloc ?_ ?_ _) | (with_reducible refine Below.setCell ?_ ?_ _) | (with_reducible refine Below.drew ?_) | (with_reducible refine Below.trans ?_ (Below.mono (by assumption) ?_)) | (simp; done) | (simp; omega) | omega))
  have zV : V.heap.size = w.heap.size + 1 := by rw [← hV]; simp
  have dV : V.drawn = w.drawn := by rw [← hV]; rfl
  have K : Hid (∀ W' : World, Below V.heap.size V W' → (W'.cell? ⟨w.heap.size, 0, none⟩ = some (.int .i64 p1) ∧ W'.cell? ⟨w.heap.size, 1, none⟩ = some (.int .i64 p2))) := hid fun W' B => ⟨(B.cell (p := ⟨w.heap.size, 0, none⟩) (by simp only; omega)).trans (by rw [← hV]; simp [go_sem]), (B.cell (p := ⟨w.heap.size, 1, none⟩) (by simp only; omega)).trans (by rw [← hV]; simp [go_sem])⟩
  have HV := hid hV
  have BV := hid bV
  have ZV := hid zV
  have DV := hid dV
  clear hV bV zV dV
  go_enter Try.func47, Try.ntmps47
  go_upto_region 1 with fail
  rw [HV.out]
  obtain ⟨pc0, pc1⟩ := K.out _ (Below.refl _ _ : Below V.heap.size V V)
  have zl : w.heap.size < V.heap.size := by have h1 := ZV.out; have h2 := ((Below.refl _ _ : Below V.heap.size V V)).size; omega
  have K2 : Hid (∀ W' : World, Below V.heap.size V W' → (Below V.heap.size V W' ∧ W'.cell? ⟨w.heap.size, 0, none⟩ = some (.int .i64 p1) ∧ W'.cell? ⟨w.heap.size, 1, none⟩ = some (.int .i64 p2))) := hid fun W' B => ⟨B, K.out _ B⟩
  go_region_held3 (fun W' => Below V.heap.size V W' ∧ W'.cell? ⟨w.heap.size, 0, none⟩ = some (.int .i64 p1) ∧ W'.cell? ⟨w.heap.size, 1, none⟩ = some (.int .i64 p2)) ((exact K2.out _ (by repeat' (first | (with_reducible exact Below.refl _ _) | (with_reducible refine Below.alloc ?_ ?_ _) | (with_reducible refine Below.setCell ?_ ?_ _) | (with_reducible refine Below.drew ?_) | (with_reducible refine below_dn ?_ _) | (with_reducible refine Below.trans ?_ (Below.mono (by assumption) ?_)) | (simp; done) | (simp; omega) | omega))))
    (first | (go_at_call 34; (with_reducible refine (a1 _).mono ?_); rintro _ w5 ⟨rfl, hb⟩; have hb5 : Below V.heap.size V w5 := (by repeat' (first | (with_reducible exact Below.refl _ _) | (with_reducible refine Below.alloc ?_ ?_ _) | (with_reducible refine Below.setCell ?_ ?_ _) | (with_reducible refine Below.drew ?_) | (with_reducible refine below_dn ?_ _) | (with_reducible refine Below.trans ?_ (Below.mono (by assumption) ?_)) | (simp; done) | (simp; omega) | omega)); have hz5 : V.heap.size ≤ w5.heap.size := hb5.size; clear hb) | (go_at_call 34; (with_reducible refine (a2 _).mono ?_); rintro _ w5 ⟨rfl, hb⟩; have hb5 : Below V.heap.size V w5 := (by repeat' (first | (with_reducible exact Below.refl _ _) | (with_reducible refine Below.alloc ?_ ?_ _) | (with_reducible refine Below.setCell ?_ ?_ _) | (with_reducible refine Below.drew ?_) | (with_reducible refine below_dn ?_ _) | (with_reducible refine Below.trans ?_ (Below.mono (by assumption) ?_)) | (simp; done) | (simp; omega) | omega)); have hz5 : V.heap.size ≤ w5.heap.size := hb5.size; clear hb) | (go_at_call 27; (with_reducible refine (nv _).mono ?_); rintro _ w5 ⟨rfl, hb⟩; have hb5 : Below V.heap.size V w5 := (by repeat' (first | (with_reducible exact Below.refl _ _) | (with_reducible refine Below.alloc ?_ ?_ _) | (with_reducible refine Below.setCell ?_ ?_ _) | (with_reducible refine Below.drew ?_) | (with_reducible refine below_dn ?_ _) | (with_reducible refine Below.trans ?_ (Below.mono (by assumption) ?_)) | (simp; done) | (simp; omega) | omega)); have hz5 : V.heap.size ≤ w5.heap.size := hb5.size; clear hb))
  all_goals
    have B0 := hid hb5
    clear hb5
    go_wp2_with fail
    cases v
    all_goals
      try go_wp2_with fail
      go_ret
      exact Gives.mk rfl (BV.out.trans (B0.out.mono BV.out.size))

theorem ex_sort : (List.range 4).map (Sp.insF (cfL (5, 5) [(5, 9), (9, 5), (1, 5), (7, 5)]) 3 1 (fillF 4)) = [3, 1, 0, 2] := by decide
theorem ex_meet1 : Sp.meetS (0, 0) (4, 4) (0, 4) (4, 0) = (2, 0) := by decide
theorem ex_meet2 : Sp.meetS (0, 0) (4, 4) (2, 2) (5, 0) = (1, 0) := by decide
theorem ex_meet3 : Sp.meetS (0, 0) (4, 0) (2, 0) (6, 0) = (3, 0) := by decide
theorem ex_meet4 : Sp.meetS (0, 0) (4, 0) (4, 0) (6, 0) = (1, 0) := by decide
theorem ex_meet5 : Sp.meetS (0, 0) (4, 0) (5, 0) (6, 0) = (0, 0) := by decide
theorem ex_near1 : Sp.nearsS (2, 3) (0, 0) (4, 0) 3 = (true, 0) := by decide
theorem ex_near2 : Sp.nearsS (2, 3) (0, 0) (4, 0) 2 = (false, 0) := by decide
theorem ex_near3 : Sp.nearsS (6, 2) (0, 0) (4, 0) 3 = (true, 0) := by decide
theorem ex_near4 : Sp.nearsS (6, 2) (0, 0) (4, 0) 2 = (false, 0) := by decide
set_option maxRecDepth 100000 in
set_option maxHeartbeats 8000000 in
theorem gawake_any (w : World) : Calls Try.prog 22 #[] w (Gives (.bool true) w) := by
  have c1 := Cross_any (0, 0) (4, 0) (0, 3)
  rw [show Sp.crossS (0, 0) (4, 0) (0, 3) = (12, 0) by decide] at c1
  have c2 := Dist2_any (0, 0) (3, 4)
  rw [show Sp.dist2S (0, 0) (3, 4) = (25, 0) by decide] at c2
  have c3 := len_good (0, 0) (1, 1) (by decide) 1 (by unfold Sp.IsRoot; decide)
  rw [show Sp.hiS (Sp.sq (0, 0) (1, 1)) 1 = 2 by decide] at c3
  have c4 := OnSegment_any (2, 1) (0, 0) (4, 2)
  rw [show Sp.onsegS (2, 1) (0, 0) (4, 2) = (true, 0) by decide] at c4
  have c5 := fun (W : World) (g : Nat) (T : Pts W (some ⟨g, 0, none⟩) [(5, 9), (9, 5), (1, 5), (7, 5)]) => order_small (5, 5) (by decide) [(5, 9), (9, 5), (1, 5), (7, 5)] (some ⟨g, 0, none⟩) 4 (by decide) (by decide) (by decide) (by decide) W T
  obtain ⟨D, hD⟩ : ∃ D, Sp.insF (cfL (5, 5) [(5, 9), (9, 5), (1, 5), (7, 5)]) 3 1 (fillF 4) = D := ⟨_, rfl⟩
  change ∀ (W : World) (g : Nat), Pts W (some ⟨g, 0, none⟩) [(5, 9), (9, 5), (1, 5), (7, 5)] → Calls _ _ _ W fun e w' => ∃ b, e = .returned (.tuple #[.slice (some ⟨b, 0, none⟩) 4 4, .int .i64 0]) ∧ W.heap.size ≤ b ∧ Row w' b 4 (Sp.insF (cfL (5, 5) [(5, 9), (9, 5), (1, 5), (7, 5)]) 3 1 (fillF 4)) ∧ Below W.heap.size W w' at c5
  have ex := ex_sort
  rw [hD] at c5 ex
  have D4 : D 0 = 3 ∧ D 1 = 1 ∧ D 2 = 0 ∧ D 3 = 2 := by simpa [List.range_succ] using ex
  clear hD ex
  have m1 := meets_any _ _ _ _ _ ex_meet1
  have m2 := meets_any _ _ _ _ _ ex_meet2
  have m3 := meets_any _ _ _ _ _ ex_meet3
  have m4 := meets_any _ _ _ _ _ ex_meet4
  have m5 := meets_any _ _ _ _ _ ex_meet5
  have n1 := lnear_any _ _ _ ex_near1
  have n2 := lnear_any _ _ _ ex_near2
  have n3 := lnear_any _ _ _ ex_near3
  have n4 := lnear_any _ _ _ ex_near4
  dsimp only at *
  have HB : Hid (Below w.heap.size w w) := hid (Below.refl _ _)
  go_enter Try.func22, Try.ntmps22
  go_upto_region 4 with (first | (go_at_call 34; refine (at_any _ _ _).mono ?_; rintro _ ux ⟨rfl, hx⟩; have HB : Hid (Below w.heap.size w ux) := hid (by have hB := HB.out; have hz := hB.size; repeat' (first | (with_reducible exact Below.refl _ _) | (with_reducible refine Below.alloc ?_ ?_ _) | (with_reducible refine Below.setCell ?_ ?_ _) | (with_reducible refine Below.drew ?_) | (with_reducible refine Below.trans ?_ (Below.mono (by assumption) ?_)) | (simp; done) | (simp; omega) | omega)); clear hx) | (go_at_call 12; (with_reducible refine (c1 _).mono ?_); rintro _ ux ⟨rfl, hx⟩; have HB : Hid (Below w.heap.size w ux) := hid (by have hB := HB.out; have hz := hB.size; repeat' (first | (with_reducible exact Below.refl _ _) | (with_reducible refine Below.alloc ?_ ?_ _) | (with_reducible refine Below.setCell ?_ ?_ _) | (with_reducible refine Below.drew ?_) | (with_reducible refine Below.trans ?_ (Below.mono (by assumption) ?_)) | (simp; done) | (simp; omega) | omega)); clear hx) | (go_at_call 18; (with_reducible refine (c2 _).mono ?_); rintro _ ux ⟨rfl, hx⟩; have HB : Hid (Below w.heap.size w ux) := hid (by have hB := HB.out; have hz := hB.size; repeat' (first | (with_reducible exact Below.refl _ _) | (with_reducible refine Below.alloc ?_ ?_ _) | (with_reducible refine Below.setCell ?_ ?_ _) | (with_reducible refine Below.drew ?_) | (with_reducible refine Below.trans ?_ (Below.mono (by assumption) ?_)) | (simp; done) | (simp; omega) | omega)); clear hx) | (go_at_call 20; (with_reducible refine (c3 _).mono ?_); rintro _ u3 ⟨rfl, hx⟩; have HB : Hid (Below w.heap.size w u3) := hid (by have hB := HB.out; have hz := hB.size; repeat' (first | (with_reducible exact Below.refl _ _) | (with_reducible refine Below.alloc ?_ ?_ _) | (with_reducible refine Below.setCell ?_ ?_ _) | (with_reducible refine Below.drew ?_) | (with_reducible refine Below.trans ?_ (Below.mono (by assumption) ?_)) | (simp; done) | (simp; omega) | omega)); clear hx))
  obtain ⟨V, hV⟩ : ∃ V : World, u3.alloc (Obj.cells #[.int .i64 1, .int .i64 2] 30) = V := ⟨_, rfl⟩
  have bV : Below w.heap.size w V := by rw [← hV]; exact HB.out.trans (((Below.refl _ _).alloc (Nat.le_refl _) _).mono HB.out.size)
  have zV : u3.heap.size < V.heap.size := by rw [← hV]; simp
  have K : Hid (∀ W' : World, Below V.heap.size V W' → W'.cell? ⟨u3.heap.size, 0, none⟩ = some (.int .i64 1) ∧ W'.cell? ⟨u3.heap.size, 1, none⟩ = some (.int .i64 2)) := hid fun W' B =>
    ⟨(B.cell (p := ⟨u3.heap.size, 0, none⟩) zV).trans (by rw [← hV]; simp [go_sem]), (B.cell (p := ⟨u3.heap.size, 1, none⟩) zV).trans (by rw [← hV]; simp [go_sem])⟩
  rw [hV]
  have BV := hid bV
  have ZV := hid zV
  clear hV bV zV HB c1 c2 c3
  have HB : Hid (Below V.heap.size V V) := hid (Below.refl _ _)
  go_wp2_with (first | (go_at_call 34; refine (at_any _ _ _).mono ?_; rintro _ ux ⟨rfl, hx⟩; have HB : Hid (Below V.heap.size V ux) := hid (by have hB := HB.out; have hz := hB.size; repeat' (first | (with_reducible exact Below.refl _ _) | (with_reducible refine Below.alloc ?_ ?_ _) | (with_reducible refine Below.setCell ?_ ?_ _) | (with_reducible refine Below.drew ?_) | (with_reducible refine Below.trans ?_ (Below.mono (by assumption) ?_)) | (simp; done) | (simp; omega) | omega)); clear hx) | (go_at_call 23; (with_reducible refine (c4 _).mono ?_); rintro _ ux ⟨rfl, hx⟩; have HB : Hid (Below V.heap.size V ux) := hid (by have hB := HB.out; have hz := hB.size; repeat' (first | (with_reducible exact Below.refl _ _) | (with_reducible refine Below.alloc ?_ ?_ _) | (with_reducible refine Below.setCell ?_ ?_ _) | (with_reducible refine Below.drew ?_) | (with_reducible refine Below.trans ?_ (Below.mono (by assumption) ?_)) | (simp; done) | (simp; omega) | omega)); clear hx))
  refine (c5 _ ux.heap.size (Pts.mk4 (by simp) (by simp [go_sem]) (by simp [go_sem]) (by simp [go_sem]) (by simp [go_sem]) (by simp [go_sem]) (by simp [go_sem]) (by simp [go_sem]) (by simp [go_sem]))).mono ?_
  rintro _ u5 ⟨b, rfl, hb, hR, hx⟩
  have B5 : Below V.heap.size V u5 := by have hB := HB.out; have hz := hB.size; repeat' (first | (with_reducible exact Below.refl _ _) | (with_reducible refine Below.alloc ?_ ?_ _) | (with_reducible refine Below.setCell ?_ ?_ _) | (with_reducible refine Below.drew ?_) | (with_reducible refine Below.trans ?_ (Below.mono (by assumption) ?_)) | (simp; done) | (simp; omega) | omega)
  have HR := hid hR
  obtain ⟨k0, k1⟩ := K.out _ B5
  have zl : u3.heap.size < u5.heap.size := Nat.lt_of_lt_of_le ZV.out B5.size
  have BB5 := hid B5
  clear hx hb hR B5 HB c4 c5
  go_wp2_with fail
  have sm := same_true b u5.heap.size 4 4 4 (fun k => ((D k : Nat) : Int)) (by omega)
  refine (sm _ (by have := HR.out.lt; simp; omega) (by simp) (fun k hk => ?_) (fun k hk => ?_)).mono ?_
  · exact (((Below.refl u5.heap.size u5).alloc (Nat.le_refl _) _).cell (p := ⟨b, k, none⟩) HR.out.lt).trans (HR.out.c k hk)
  · obtain ⟨d0, d1, d2, d3⟩ := D4
    match k, hk with
    | 0, _ => simp [go_sem, d0]
    | 1, _ => simp [go_sem, d1]
    | 2, _ => simp [go_sem, d2]
    | 3, _ => simp [go_sem, d3]
  rintro _ ux ⟨rfl, hx⟩
  have HB : Hid (Below V.heap.size V ux) := hid (by have hB := BB5.out; have hz := hB.size; repeat' (first | (with_reducible exact Below.refl _ _) | (with_reducible refine Below.alloc ?_ ?_ _) | (with_reducible refine Below.setCell ?_ ?_ _) | (with_reducible refine Below.drew ?_) | (with_reducible refine Below.trans ?_ (Below.mono (by assumption) ?_)) | (simp; done) | (simp; omega) | omega))
  clear hx k0 k1 zl sm HR
  go_wp2_with (first | (go_at_call 34; refine (at_any _ _ _).mono ?_; rintro _ ux ⟨rfl, hx⟩; have HB : Hid (Below V.heap.size V ux) := hid (by have hB := HB.out; have hz := hB.size; repeat' (first | (with_reducible exact Below.refl _ _) | (with_reducible refine Below.alloc ?_ ?_ _) | (with_reducible refine Below.setCell ?_ ?_ _) | (with_reducible refine Below.drew ?_) | (with_reducible refine Below.trans ?_ (Below.mono (by assumption) ?_)) | (simp; done) | (simp; omega) | omega)); clear hx) | (go_at_call 46; (with_reducible refine (m1 _).mono ?_); rintro _ ux ⟨rfl, hx⟩; have HB : Hid (Below V.heap.size V ux) := hid (by have hB := HB.out; have hz := hB.size; repeat' (first | (with_reducible exact Below.refl _ _) | (with_reducible refine Below.alloc ?_ ?_ _) | (with_reducible refine Below.setCell ?_ ?_ _) | (with_reducible refine Below.drew ?_) | (with_reducible refine Below.trans ?_ (Below.mono (by assumption) ?_)) | (simp; done) | (simp; omega) | omega)); clear hx) | (go_at_call 46; (with_reducible refine (m2 _).mono ?_); rintro _ ux ⟨rfl, hx⟩; have HB : Hid (Below V.heap.size V ux) := hid (by have hB := HB.out; have hz := hB.size; repeat' (first | (with_reducible exact Below.refl _ _) | (with_reducible refine Below.alloc ?_ ?_ _) | (with_reducible refine Below.setCell ?_ ?_ _) | (with_reducible refine Below.drew ?_) | (with_reducible refine Below.trans ?_ (Below.mono (by assumption) ?_)) | (simp; done) | (simp; omega) | omega)); clear hx) | (go_at_call 46; (with_reducible refine (m3 _).mono ?_); rintro _ ux ⟨rfl, hx⟩; have HB : Hid (Below V.heap.size V ux) := hid (by have hB := HB.out; have hz := hB.size; repeat' (first | (with_reducible exact Below.refl _ _) | (with_reducible refine Below.alloc ?_ ?_ _) | (with_reducible refine Below.setCell ?_ ?_ _) | (with_reducible refine Below.drew ?_) | (with_reducible refine Below.trans ?_ (Below.mono (by assumption) ?_)) | (simp; done) | (simp; omega) | omega)); clear hx) | (go_at_call 46; (with_reducible refine (m4 _).mono ?_); rintro _ ux ⟨rfl, hx⟩; have HB : Hid (Below V.heap.size V ux) := hid (by have hB := HB.out; have hz := hB.size; repeat' (first | (with_reducible exact Below.refl _ _) | (with_reducible refine Below.alloc ?_ ?_ _) | (with_reducible refine Below.setCell ?_ ?_ _) | (with_reducible refine Below.drew ?_) | (with_reducible refine Below.trans ?_ (Below.mono (by assumption) ?_)) | (simp; done) | (simp; omega) | omega)); clear hx) | (go_at_call 46; (with_reducible refine (m5 _).mono ?_); rintro _ ux ⟨rfl, hx⟩; have HB : Hid (Below V.heap.size V ux) := hid (by have hB := HB.out; have hz := hB.size; repeat' (first | (with_reducible exact Below.refl _ _) | (with_reducible refine Below.alloc ?_ ?_ _) | (with_reducible refine Below.setCell ?_ ?_ _) | (with_reducible refine Below.drew ?_) | (with_reducible refine Below.trans ?_ (Below.mono (by assumption) ?_)) | (simp; done) | (simp; omega) | omega)); clear hx) | (go_at_call 47; (with_reducible refine (n1 _).mono ?_); rintro _ ux ⟨rfl, hx⟩; have HB : Hid (Below V.heap.size V ux) := hid (by have hB := HB.out; have hz := hB.size; repeat' (first | (with_reducible exact Below.refl _ _) | (with_reducible refine Below.alloc ?_ ?_ _) | (with_reducible refine Below.setCell ?_ ?_ _) | (with_reducible refine Below.drew ?_) | (with_reducible refine Below.trans ?_ (Below.mono (by assumption) ?_)) | (simp; done) | (simp; omega) | omega)); clear hx) | (go_at_call 47; (with_reducible refine (n2 _).mono ?_); rintro _ ux ⟨rfl, hx⟩; have HB : Hid (Below V.heap.size V ux) := hid (by have hB := HB.out; have hz := hB.size; repeat' (first | (with_reducible exact Below.refl _ _) | (with_reducible refine Below.alloc ?_ ?_ _) | (with_reducible refine Below.setCell ?_ ?_ _) | (with_reducible refine Below.drew ?_) | (with_reducible refine Below.trans ?_ (Below.mono (by assumption) ?_)) | (simp; done) | (simp; omega) | omega)); clear hx) | (go_at_call 47; (with_reducible refine (n3 _).mono ?_); rintro _ ux ⟨rfl, hx⟩; have HB : Hid (Below V.heap.size V ux) := hid (by have hB := HB.out; have hz := hB.size; repeat' (first | (with_reducible exact Below.refl _ _) | (with_reducible refine Below.alloc ?_ ?_ _) | (with_reducible refine Below.setCell ?_ ?_ _) | (with_reducible refine Below.drew ?_) | (with_reducible refine Below.trans ?_ (Below.mono (by assumption) ?_)) | (simp; done) | (simp; omega) | omega)); clear hx) | (go_at_call 47; (with_reducible refine (n4 _).mono ?_); rintro _ ux ⟨rfl, hx⟩; have HB : Hid (Below V.heap.size V ux) := hid (by have hB := HB.out; have hz := hB.size; repeat' (first | (with_reducible exact Below.refl _ _) | (with_reducible refine Below.alloc ?_ ?_ _) | (with_reducible refine Below.setCell ?_ ?_ _) | (with_reducible refine Below.drew ?_) | (with_reducible refine Below.trans ?_ (Below.mono (by assumption) ?_)) | (simp; done) | (simp; omega) | omega)); clear hx))
  go_ret
  exact Gives.mk rfl (BV.out.trans (HB.out.mono BV.out.size))

end Go.Proofs.Ytfdnmlggemonhaa
