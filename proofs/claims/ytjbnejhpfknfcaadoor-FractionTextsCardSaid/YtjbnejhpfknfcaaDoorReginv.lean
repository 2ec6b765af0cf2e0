/-
  A region that draws its order of evaluation, by an invariant of what has come up so far; and the invariant of 'a, b, c := f(), f(), f()' with three new boxes.
-/
import Derived.Test.YtjbnejhpfknfcaaDoorFsmall
import Derived.Deep.RegionHeld3
namespace Go.Proofs.YtjbnejhpfknfcaaDoor
open Go.RowKit
set_option linter.unusedVariables false
set_option linter.unusedSimpArgs false

section
variable {P : Program} {ops : Array Oper} {Q : Exit → Act → World → Prop} {md : Region.Mode}
theorem ready_false {listed : Array Bool} {i : Nat} (h : i ∈ Region.ready md ops listed) : ∃ hi : i < listed.size, listed[i] = false := by
  have h1 := (mem_ready.1 h).1
  by_cases hi : i < listed.size
  · refine ⟨hi, ?_⟩
    simpa [Array.getD, hi] using h1
  · simp [Array.getD, hi] at h1
theorem count_down {listed : Array Bool} {i : Nat} (hi : i < listed.size) (h : listed[i] = false) : (listed.setIfInBounds i true).toList.count false + 1 = listed.toList.count false := by
  have hl : i < listed.toList.length := by simpa using hi
  have hg : listed.toList[i] = false := by simpa using h
  have hp : 0 < listed.toList.count false := List.count_pos_iff.2 (hg ▸ List.getElem_mem hl)
  rw [Array.toList_setIfInBounds, List.count_set hl, hg]
  have e1 : (if (false == false) = true then 1 else 0) = 1 := rfl
  have e2 : (if (true == false) = true then 1 else 0) = 0 := rfl
  rw [e1, e2]
  omega
theorem wpAny_inv (Inv : Array Bool → Act → World → Prop)
    (step : ∀ listed a w i, Inv listed a w → i ∈ Region.ready md ops listed → wpOp P ops Q i (Inv (listed.setIfInBounds i true)) a w)
    (fin : ∀ listed a w, Inv listed a w → Region.ready md ops listed = [] → Q .normal a w) :
    ∀ (fuel : Nat) (listed : Array Bool) (a : Act) (w : World), listed.toList.count false ≤ fuel → Inv listed a w → wpAny P md ops Q fuel listed a w
  | 0, listed, a, w, hc, hI => by
    have hr : Region.ready md ops listed = [] := by
      cases hr : Region.ready md ops listed with
      | nil => rfl
      | cons i l =>
        obtain ⟨hi, h⟩ := ready_false (hr ▸ List.mem_cons_self : i ∈ Region.ready md ops listed)
        have := count_down hi h
        omega
    exact ⟨hr, fin _ _ _ hI hr⟩
  | fuel + 1, listed, a, w, hc, hI => ⟨fun hr => fin _ _ _ hI hr, fun i hi => wpOp_mono (fun a' w' h' => wpAny_inv Inv step fin fuel _ a' w' (by
      obtain ⟨h1, h2⟩ := ready_false hi
      have := count_down h1 h2
      omega) h') (step _ _ _ _ hI hi)⟩
theorem all_listed {listed : Array Bool} {i : Nat} {o : Oper} (hr : Region.ready md ops listed = []) (ho : ops[i]? = some o) (hs : i < listed.size) (hall : ∀ e ∈ o.after, Region.binds md e = true → listed.getD e.on false = true) : listed.getD i false = true := by
  cases h : listed[i] with
  | true => simp [Array.getD, hs, h]
  | false =>
    have : i ∈ Region.ready md ops listed := mem_ready.2 ⟨by simp [Array.getD, hs, h], o, ho, hall⟩
    rw [hr] at this
    cases this
end
/-- A box of the call's own, with its contents. -/
def BoxOk (lo : Nat) (st : Bool) (x y : Int) (w : World) (k : Nat) : Prop :=
  lo ≤ k ∧ k < w.heap.size ∧ w.cell? ⟨k, 0, none⟩ = some (.int .i64 (if st = true then x else 0)) ∧ w.cell? ⟨k, 1, none⟩ = some (.int .i64 (if st = true then y else 0)) ∧ ∀ o, w.frozen? ⟨k, o, none⟩ = false
theorem BoxOk.below {lo : Nat} {st : Bool} {x y : Int} {w w' : World} {k : Nat} (h : BoxOk lo st x y w k) (b : Below w.heap.size w w') : BoxOk lo st x y w' k :=
  ⟨h.1, Nat.lt_of_lt_of_le h.2.1 b.size, (b.cell (p := ⟨k, 0, none⟩) h.2.1).trans h.2.2.1, (b.cell (p := ⟨k, 1, none⟩) h.2.1).trans h.2.2.2.1, fun o => (b.frozen (p := ⟨k, o, none⟩) h.2.1).trans (h.2.2.2.2 o)⟩
/-- Three boxes at the slots s0, s0 + 1, s0 + 2, made by the operations 15, 16, 17, filled by 18, 19, 20; fifteen operations of fixed values. -/
structure LInv (s0 : Nat) (a0 : Act) (u : World) (F : List (Nat × Nat × Value)) (X Y : Nat → Int) (listed : Array Bool) (a : Act) (w : World) : Prop where
  sz : listed.size = 21
  df : a.defers = a0.defers
  az : a.tmps.size = a0.tmps.size
  ot : ∀ k, (∀ t ∈ F, t.2.1 ≠ k) → (∀ j, j < 3 → k ≠ s0 + j) → a.tmps[k]? = a0.tmps[k]?
  fx : ∀ t ∈ F, listed.getD t.1 false = true → a.tmps[t.2.1]? = some t.2.2
  so : ∀ j, j < 3 → listed.getD (18 + j) false = true → listed.getD (15 + j) false = true
  bx : ∃ k : Nat → Nat, (∀ j, j < 3 → listed.getD (15 + j) false = true → a.tmps[s0 + j]? = some (.pointer (some ⟨k j, 0, none⟩)) ∧ BoxOk u.heap.size (listed.getD (18 + j) false) (X j) (Y j) w (k j)) ∧
    (∀ i j, i < 3 → j < 3 → i ≠ j → listed.getD (15 + i) false = true → listed.getD (15 + j) false = true → k i ≠ k j)
  bw : Below u.heap.size u w
theorem getD_put {listed : Array Bool} {i j : Nat} (hi : i < listed.size) : (listed.setIfInBounds i true).getD j false = if i = j then true else listed.getD j false := by
  by_cases h : i = j
  · subst h; simp [Array.getD, hi]
  · by_cases hj : j < listed.size
    · simp [Array.getD, hj, h, Array.getElem_setIfInBounds_ne]
    · simp [Array.getD, hj, h]
/-- An operation of a fixed value has come up; what lay in memory stays. -/
theorem LInv.fix {s0 : Nat} {a0 : Act} {u : World} {F : List (Nat × Nat × Value)} {X Y : Nat → Int} {listed : Array Bool} {a : Act} {w w' : World} (I : LInv s0 a0 u F X Y listed a w) {i d : Nat} {v : Value} (hi : i < 15) (hF : (i, d, v) ∈ F) (hd : ∀ t ∈ F, t.1 ≠ i → t.2.1 ≠ d) (hv : ∀ t ∈ F, t.1 = i → t = (i, d, v)) (hs : ∀ j, j < 3 → s0 + j ≠ d) (hz : d < a0.tmps.size) (hb : Below w.heap.size w w') :
    LInv s0 a0 u F X Y (listed.setIfInBounds i true) (a.put (some d) v) w' := by
  have hin : i < listed.size := by rw [I.sz]; omega
  obtain ⟨k, hk, hne⟩ := I.bx
  refine ⟨by simpa using I.sz, I.df, by simpa [Act.put] using I.az, fun q h1 h2 => ?_, fun t ht hl => ?_, fun j hj => ?_, ⟨k, fun j hj => ?_, fun p q hp hq hpq => ?_⟩, ?_⟩
  · have : d ≠ q := h1 _ hF
    simp only [Act.put, Array.getElem?_setIfInBounds_ne this]
    exact I.ot q h1 h2
  · by_cases c : t.1 = i
    · rw [hv t ht c]
      simp [Act.put, I.az, hz]
    · have : d ≠ t.2.1 := fun h => hd t ht c h.symm
      simp only [Act.put, Array.getElem?_setIfInBounds_ne this]
      rw [getD_put hin, if_neg (fun h => c h.symm)] at hl
      exact I.fx t ht hl
  · rw [getD_put hin, getD_put hin, if_neg (by omega), if_neg (by omega)]
    exact I.so j hj
  · rw [getD_put hin, getD_put hin, if_neg (by omega), if_neg (by omega)]
    intro hl
    obtain ⟨h1, h2⟩ := hk j hj hl
    have : d ≠ s0 + j := fun h => hs j hj h.symm
    exact ⟨by simp only [Act.put, Array.getElem?_setIfInBounds_ne this]; exact h1, h2.below hb⟩
  · rw [getD_put hin, getD_put hin, if_neg (by omega), if_neg (by omega)]
    exact hne p q hp hq hpq
  · exact I.bw.trans (hb.mono I.bw.size)
/-- A box has been made. -/
theorem LInv.made {s0 : Nat} {a0 : Act} {u : World} {F : List (Nat × Nat × Value)} {X Y : Nat → Int} {listed : Array Bool} {a : Act} {w : World} (I : LInv s0 a0 u F X Y listed a w) {j : Nat} {T : TypeId} (hj : j < 3) (hn : listed.getD (15 + j) true = false) (hF : ∀ t ∈ F, t.1 < 15 ∧ ∀ i, i < 3 → t.2.1 ≠ s0 + i) (hz : s0 + j < a0.tmps.size) :
    LInv s0 a0 u F X Y (listed.setIfInBounds (15 + j) true) (a.put (some (s0 + j)) (.pointer (some ⟨w.heap.size, 0, none⟩))) (w.alloc (Obj.cells #[.int .i64 0, .int .i64 0] T)) := by
  have hin : 15 + j < listed.size := by rw [I.sz]; omega
  have hf : listed.getD (15 + j) false = false := by simpa [Array.getD, hin] using hn
  have hst : listed.getD (18 + j) false = false := by
    cases h : listed.getD (18 + j) false with
    | false => rfl
    | true => rw [I.so j hj h] at hf; cases hf
  obtain ⟨k, hk, hne⟩ := I.bx
  have bA : Below w.heap.size w (w.alloc (Obj.cells #[.int .i64 0, .int .i64 0] T)) := Below.alloc (Below.refl _ _) (Nat.le_refl _) _
  refine ⟨by simpa using I.sz, I.df, by simpa [Act.put] using I.az, fun q h1 h2 => ?_, fun t ht hl => ?_, fun i hi => ?_, ⟨fun i => if i = j then w.heap.size else k i, fun i hi => ?_, fun p q hp hq hpq => ?_⟩, ?_⟩
  · have : s0 + j ≠ q := fun h => h2 j hj h.symm
    simp only [Act.put, Array.getElem?_setIfInBounds_ne this]
    exact I.ot q h1 h2
  · have : s0 + j ≠ t.2.1 := fun h => (hF t ht).2 j hj h.symm
    have h15 := (hF t ht).1
    simp only [Act.put, Array.getElem?_setIfInBounds_ne this]
    rw [getD_put hin, if_neg (by omega)] at hl
    exact I.fx t ht hl
  · rw [getD_put hin, getD_put hin, if_neg (by omega)]
    by_cases c : 15 + j = 15 + i
    · rw [if_pos c]; exact fun _ => rfl
    · rw [if_neg c]; exact I.so i hi
  · dsimp only
    rw [getD_put hin, getD_put hin, if_neg (show ¬ 15 + j = 18 + i by omega)]
    by_cases c : i = j
    · subst c
      rw [if_pos rfl, if_pos rfl]
      intro _
      refine ⟨by simp [Act.put, I.az, hz], I.bw.size, by simp, ?_, ?_, fun o => by simp [go_sem]⟩
      · rw [hst]; simp
      · rw [hst]; simp
    · rw [if_neg (show ¬ 15 + j = 15 + i by omega), if_neg c]
      intro hl
      obtain ⟨h1, h2⟩ := hk i hi hl
      have : s0 + j ≠ s0 + i := by omega
      exact ⟨by simp only [Act.put, Array.getElem?_setIfInBounds_ne this]; exact h1, h2.below bA⟩
  · dsimp only
    rw [getD_put hin, getD_put hin]
    by_cases cp : p = j
    · subst cp
      rw [if_pos rfl, if_neg (show ¬ 15 + p = 15 + q by omega), if_pos rfl, if_neg (fun h => hpq h.symm)]
      intro _ hl
      have := (hk q hq hl).2.2.1
      omega
    · rw [if_neg (show ¬ 15 + j = 15 + p by omega), if_neg cp]
      by_cases cq : q = j
      · subst cq
        rw [if_pos rfl, if_pos rfl]
        intro hl _
        have := (hk p hp hl).2.2.1
        omega
      · rw [if_neg (show ¬ 15 + j = 15 + q by omega), if_neg cq]
        exact hne p q hp hq hpq
  · exact I.bw.trans (bA.mono I.bw.size)
/-- A box has been filled. -/
theorem LInv.filled {s0 : Nat} {a0 : Act} {u : World} {F : List (Nat × Nat × Value)} {X Y : Nat → Int} {listed : Array Bool} {a : Act} {w : World} (I : LInv s0 a0 u F X Y listed a w) {j : Nat} (hj : j < 3) (hm : listed.getD (15 + j) false = true) (hF : ∀ t ∈ F, t.1 < 15) (b : Nat) (hb : a.tmps[s0 + j]? = some (.pointer (some ⟨b, 0, none⟩))) :
    LInv s0 a0 u F X Y (listed.setIfInBounds (18 + j) true) a ((w.setCell ⟨b, 0, none⟩ (.int .i64 (X j))).setCell ⟨b, 1, none⟩ (.int .i64 (Y j))) := by
  have hin : 18 + j < listed.size := by rw [I.sz]; omega
  obtain ⟨k, hk, hne⟩ := I.bx
  have hkb : k j = b := by
    have h := (hk j hj hm).1
    rw [hb] at h
    simp at h
    exact h.symm
  subst hkb
  have hlo := (hk j hj hm).2.1
  refine ⟨by simpa using I.sz, I.df, I.az, I.ot, fun t ht hl => ?_, fun i hi => ?_, ⟨k, fun i hi => ?_, fun p q hp hq hpq => ?_⟩, ?_⟩
  · have h15 := hF t ht
    rw [getD_put hin, if_neg (by omega)] at hl
    exact I.fx t ht hl
  · rw [getD_put hin, getD_put hin, if_neg (show ¬ 18 + j = 15 + i by omega)]
    by_cases c : 18 + j = 18 + i
    · rw [if_pos c]
      intro _
      have : j = i := by omega
      rw [← this]; exact hm
    · rw [if_neg c]; exact I.so i hi
  · rw [getD_put hin, getD_put hin, if_neg (show ¬ 18 + j = 15 + i by omega)]
    intro hl
    obtain ⟨h1, h2⟩ := hk i hi hl
    refine ⟨h1, h2.1, by simpa using h2.2.1, ?_, ?_, fun o => by simp [h2.2.2.2.2 o]⟩
    · by_cases c : i = j
      · subst c
        rw [if_pos rfl, if_pos rfl, World.cell?_setCell_other (h := fun h' => by have := (Addr.mk.inj h').2.1; omega)]
        exact World.cell?_setCell_same _ _ _ h2.2.2.1
      · rw [if_neg (show ¬ 18 + j = 18 + i by omega)]
        have hkk : k j ≠ k i := hne j i hj hi (fun h => c h.symm) hm hl
        rw [World.cell?_setCell_other (h := fun h' => hkk (Addr.mk.inj h').1), World.cell?_setCell_other (h := fun h' => hkk (Addr.mk.inj h').1)]
        exact h2.2.2.1
    · by_cases c : i = j
      · subst c
        rw [if_pos rfl, if_pos rfl]
        exact World.cell?_setCell_same _ _ _ (by
          rw [World.cell?_setCell_other (h := fun h' => by have := (Addr.mk.inj h').2.1; omega)]
          exact h2.2.2.2.1)
      · rw [if_neg (show ¬ 18 + j = 18 + i by omega)]
        have hkk : k j ≠ k i := hne j i hj hi (fun h => c h.symm) hm hl
        rw [World.cell?_setCell_other (h := fun h' => hkk (Addr.mk.inj h').1), World.cell?_setCell_other (h := fun h' => hkk (Addr.mk.inj h').1)]
        exact h2.2.2.2.1
  · rw [getD_put hin, getD_put hin, if_neg (by omega), if_neg (by omega)]
    exact hne p q hp hq hpq
  · exact Below.setCell (Below.setCell I.bw hlo _) hlo _
/-- At the beginning nothing has come up. -/
theorem LInv.start {s0 : Nat} {a0 : Act} {u : World} {F : List (Nat × Nat × Value)} {X Y : Nat → Int} {w : World} (hF : ∀ t ∈ F, t.1 < 21) (hb : Below u.heap.size u w) : LInv s0 a0 u F X Y (Array.replicate 21 false) a0 w := by
  have h0 : ∀ i, (Array.replicate 21 false).getD i false = false := fun i => by
    by_cases h : i < 21 <;> simp [Array.getD, h]
  refine ⟨by simp, rfl, rfl, fun _ _ _ => rfl, fun t ht hl => ?_, fun j hj hl => ?_, ⟨fun _ => 0, fun j hj hl => ?_, fun i j _ _ _ hl => ?_⟩, hb⟩
  · rw [h0] at hl; cases hl
  · rw [h0] at hl; cases hl
  · rw [h0] at hl; cases hl
  · rw [h0] at hl; cases hl
end Go.Proofs.YtjbnejhpfknfcaaDoor
