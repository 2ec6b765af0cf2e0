/-
  FractionLaws and FractionOrders: what both begin with.
-/
import Derived.Test.YtjbnejhpfknfcaaDoorReginv
import Derived.Test.YtjbnejhpfknfcaaDoorFcnt4
import Derived.Deep.DeepCutAuto
namespace Go.Proofs.YtjbnejhpfknfcaaDoor
open Go.RowKit
set_option linter.unusedVariables false
set_option linter.unusedSimpArgs false
/-- A box of a fraction of its own. -/
def FB (k : Nat) (x y : Int) (w : World) : Prop := k < w.heap.size ∧ w.cell? ⟨k, 0, none⟩ = some (.int .i64 x) ∧ w.cell? ⟨k, 1, none⟩ = some (.int .i64 y)
theorem FB.below {k : Nat} {x y : Int} {w w' : World} (h : FB k x y w) (b : Below w.heap.size w w') : FB k x y w' :=
  ⟨Nat.lt_of_lt_of_le h.1 b.size, (b.cell (p := ⟨k, 0, none⟩) h.1).trans h.2.1, (b.cell (p := ⟨k, 1, none⟩) h.1).trans h.2.2⟩
/-- Behind the three small fractions: their boxes. -/
def Sm3 (u : World) (a1 a2 b1 b2 c1 c2 : Int) (va vb vc : Value) (wx : World) : Prop :=
  ∃ ka kb kc : Nat, va = .pointer (some ⟨ka, 0, none⟩) ∧ vb = .pointer (some ⟨kb, 0, none⟩) ∧ vc = .pointer (some ⟨kc, 0, none⟩) ∧ u.heap.size ≤ ka ∧ u.heap.size ≤ kb ∧ u.heap.size ≤ kc ∧
    FB ka a1 a2 wx ∧ FB kb b1 b2 wx ∧ FB kc c1 c2 wx ∧ Below u.heap.size u wx
/-- The fifteen operations of fixed values, by number, slot and value. -/
def F15 (t0 p q : Nat) (m0 m1 m2 d0 d1 d2 a1 a2 b1 b2 c1 c2 : Int) : List (Nat × Nat × Value) :=
  [(0, t0 + 0, .pointer (some ⟨p, 0, none⟩)), (1, t0 + 1, .int .i16 m0), (2, t0 + 2, .pointer (some ⟨q, 0, none⟩)), (3, t0 + 3, .int .u8 d0), (4, t0 + 4, .agg #[.int .i64 a1, .int .i64 a2]),
   (5, t0 + 5, .pointer (some ⟨p, 1, none⟩)), (6, t0 + 6, .int .i16 m1), (7, t0 + 7, .pointer (some ⟨q, 1, none⟩)), (8, t0 + 8, .int .u8 d1), (9, t0 + 9, .agg #[.int .i64 b1, .int .i64 b2]),
   (10, t0 + 10, .pointer (some ⟨p, 2, none⟩)), (11, t0 + 11, .int .i16 m2), (12, t0 + 12, .pointer (some ⟨q, 2, none⟩)), (13, t0 + 13, .int .u8 d2), (14, t0 + 14, .agg #[.int .i64 c1, .int .i64 c2])]
theorem F15_slot {t0 p q : Nat} {m0 m1 m2 d0 d1 d2 a1 a2 b1 b2 c1 c2 : Int} : ∀ t ∈ F15 t0 p q m0 m1 m2 d0 d1 d2 a1 a2 b1 b2 c1 c2, t.2.1 = t0 + t.1 ∧ t.1 < 15 := by
  intro t ht
  simp only [F15, List.mem_cons, List.not_mem_nil, or_false] at ht
  rcases ht with rfl | rfl | rfl | rfl | rfl | rfl | rfl | rfl | rfl | rfl | rfl | rfl | rfl | rfl | rfl <;> simp
theorem F15_one {t0 p q : Nat} {m0 m1 m2 d0 d1 d2 a1 a2 b1 b2 c1 c2 : Int} {i d : Nat} {v : Value} (h : (i, d, v) ∈ F15 t0 p q m0 m1 m2 d0 d1 d2 a1 a2 b1 b2 c1 c2) : ∀ t ∈ F15 t0 p q m0 m1 m2 d0 d1 d2 a1 a2 b1 b2 c1 c2, t.1 = i → t = (i, d, v) := by
  intro t ht e
  simp only [F15, List.mem_cons, List.not_mem_nil, or_false, Prod.mk.injEq] at h ht
  rcases ht with rfl | rfl | rfl | rfl | rfl | rfl | rfl | rfl | rfl | rfl | rfl | rfl | rfl | rfl | rfl <;> (simp only at e; subst e; simp at h; obtain ⟨rfl, rfl⟩ := h; rfl)
theorem LInv.fix15 {t0 p q : Nat} {m0 m1 m2 d0 d1 d2 a1 a2 b1 b2 c1 c2 : Int} {s0 : Nat} {a0 : Act} {u : World} {X Y : Nat → Int} {listed : Array Bool} {a : Act} {w w' : World} (I : LInv s0 a0 u (F15 t0 p q m0 m1 m2 d0 d1 d2 a1 a2 b1 b2 c1 c2) X Y listed a w) {i d : Nat} {v : Value} (hF : (i, d, v) ∈ F15 t0 p q m0 m1 m2 d0 d1 d2 a1 a2 b1 b2 c1 c2) (hs : s0 + 3 ≤ t0) (hz : d < a0.tmps.size) (hb : Below w.heap.size w w') :
    LInv s0 a0 u (F15 t0 p q m0 m1 m2 d0 d1 d2 a1 a2 b1 b2 c1 c2) X Y (listed.setIfInBounds i true) (a.put (some d) v) w' := by
  have h0 := F15_slot _ hF
  simp only at h0
  exact I.fix h0.2 hF (fun t ht hn => by have := (F15_slot t ht).1; omega) (F15_one hF) (fun j hj => by omega) hz hb
/-- An array with some places set. -/
def putL (arr : Array Value) (l : List (Nat × Value)) : Array Value := l.foldl (fun a t => a.setIfInBounds t.1 t.2) arr
theorem putL_is : ∀ (l : List (Nat × Value)) (arr tm : Array Value), tm.size = arr.size → (∀ t ∈ l, t.1 < arr.size) → (∀ t ∈ l, tm[t.1]? = some t.2) → (∀ r, (∀ t ∈ l, t.1 ≠ r) → tm[r]? = arr[r]?) → tm = putL arr l
  | [], arr, tm, hz, _, _, ho => Array.ext_getElem? (fun r => ho r (fun t ht => by cases ht))
  | (d, v) :: l, arr, tm, hz, hs, hg, ho => by
    have e : putL arr ((d, v) :: l) = putL (arr.setIfInBounds d v) l := rfl
    rw [e]
    refine putL_is l _ tm (by simpa using hz) (fun t ht => by simpa using hs t (List.mem_cons_of_mem _ ht)) (fun t ht => hg t (List.mem_cons_of_mem _ ht)) (fun r hr => ?_)
    by_cases c : d = r
    · subst c
      have h1 : d < arr.size := hs (d, v) List.mem_cons_self
      have h2 : tm[d]? = some v := hg (d, v) List.mem_cons_self
      rw [h2]
      simp [h1]
    · rw [Array.getElem?_setIfInBounds_ne c]
      refine ho r (fun t ht => ?_)
      rcases List.mem_cons.1 ht with rfl | h
      · exact c
      · exact hr t h
theorem LInv.final {t0 p q : Nat} {m0 m1 m2 d0 d1 d2 a1 a2 b1 b2 c1 c2 : Int} {s0 : Nat} {a0 : Act} {u : World} {X Y : Nat → Int} {listed : Array Bool} {a : Act} {w : World} (I : LInv s0 a0 u (F15 t0 p q m0 m1 m2 d0 d1 d2 a1 a2 b1 b2 c1 c2) X Y listed a w) (hall : ∀ i, i < 21 → listed.getD i false = true) (hs : s0 + 3 ≤ t0) (hz : t0 + 15 ≤ a0.tmps.size) :
    ∃ ka kb kc : Nat, a = ⟨putL a0.tmps ((F15 t0 p q m0 m1 m2 d0 d1 d2 a1 a2 b1 b2 c1 c2).map (fun t => (t.2.1, t.2.2)) ++ [(s0 + 0, .pointer (some ⟨ka, 0, none⟩)), (s0 + 1, .pointer (some ⟨kb, 0, none⟩)), (s0 + 2, .pointer (some ⟨kc, 0, none⟩))]), a0.defers⟩ ∧ ka ≠ kb ∧ ka ≠ kc ∧ kb ≠ kc ∧ BoxOk u.heap.size true (X 0) (Y 0) w ka ∧ BoxOk u.heap.size true (X 1) (Y 1) w kb ∧ BoxOk u.heap.size true (X 2) (Y 2) w kc ∧ Below u.heap.size u w := by
  obtain ⟨k, hk, hne⟩ := I.bx
  have k0 := hk 0 (by omega) (hall 15 (by omega))
  have k1 := hk 1 (by omega) (hall 16 (by omega))
  have k2 := hk 2 (by omega) (hall 17 (by omega))
  rw [show listed.getD (18 + 0) false = true from hall 18 (by omega)] at k0
  rw [show listed.getD (18 + 1) false = true from hall 19 (by omega)] at k1
  rw [show listed.getD (18 + 2) false = true from hall 20 (by omega)] at k2
  refine ⟨k 0, k 1, k 2, ?_, hne 0 1 (by omega) (by omega) (by omega) (hall 15 (by omega)) (hall 16 (by omega)), hne 0 2 (by omega) (by omega) (by omega) (hall 15 (by omega)) (hall 17 (by omega)), hne 1 2 (by omega) (by omega) (by omega) (hall 16 (by omega)) (hall 17 (by omega)), k0.2, k1.2, k2.2, I.bw⟩
  have hd := I.df
  have hz' := I.az
  have fx := fun t ht => I.fx t ht (hall t.1 (by have := (F15_slot t ht).2; omega))
  have ot := I.ot
  obtain ⟨tm, df⟩ := a
  simp only at hd hz' k0 k1 k2 fx ot
  subst hd
  have key : tm = putL a0.tmps ((F15 t0 p q m0 m1 m2 d0 d1 d2 a1 a2 b1 b2 c1 c2).map (fun t => (t.2.1, t.2.2)) ++ [(s0 + 0, .pointer (some ⟨k 0, 0, none⟩)), (s0 + 1, .pointer (some ⟨k 1, 0, none⟩)), (s0 + 2, .pointer (some ⟨k 2, 0, none⟩))]) := by
    refine putL_is _ _ _ hz' (fun t ht => ?_) (fun t ht => ?_) (fun r hr => ?_)
    · rcases List.mem_append.1 ht with h | h
      · obtain ⟨t', ht', rfl⟩ := List.mem_map.1 h
        have := F15_slot t' ht'
        simp only; omega
      · simp only [List.mem_cons, List.not_mem_nil, or_false] at h
        rcases h with rfl | rfl | rfl <;> (simp only; omega)
    · rcases List.mem_append.1 ht with h | h
      · obtain ⟨t', ht', rfl⟩ := List.mem_map.1 h
        exact fx t' ht'
      · simp only [List.mem_cons, List.not_mem_nil, or_false] at h
        rcases h with rfl | rfl | rfl
        · exact k0.1
        · exact k1.1
        · exact k2.1
    · refine ot r (fun t ht => hr (t.2.1, t.2.2) (List.mem_append_left _ (List.mem_map.2 ⟨t, ht, rfl⟩))) (fun j hj h => ?_)
      have hc : j = 0 ∨ j = 1 ∨ j = 2 := by omega
      rcases hc with rfl | rfl | rfl
      · exact hr (s0 + 0, .pointer (some ⟨k 0, 0, none⟩)) (List.mem_append_right _ (by simp)) h.symm
      · exact hr (s0 + 1, .pointer (some ⟨k 1, 0, none⟩)) (List.mem_append_right _ (by simp)) h.symm
      · exact hr (s0 + 2, .pointer (some ⟨k 2, 0, none⟩)) (List.mem_append_right _ (by simp)) h.symm
  rw [key]
theorem after_of {md : Region.Mode} {ops : Array Oper} {listed : Array Bool} {i : Nat} {o : Oper} (hr : i ∈ Region.ready md ops listed) (ho : ops[i]? = some o) : ∀ e ∈ o.after, Region.binds md e = true → listed.getD e.on false = true := by
  obtain ⟨_, o', ho', h⟩ := mem_ready.1 hr
  rw [ho] at ho'
  obtain rfl := Option.some.inj ho'
  exact h
end Go.Proofs.YtjbnejhpfknfcaaDoor
