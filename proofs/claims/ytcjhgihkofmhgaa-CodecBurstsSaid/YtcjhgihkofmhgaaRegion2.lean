/-
  A region whose last operation is a store.
-/
import Derived.Test.YtcjhgihkofmhgaaRegion
namespace Go.Proofs.Ytcjhgihkofmhgaa
open Go.RowKit
set_option linter.unusedVariables false
set_option linter.unusedSimpArgs false
section
variable {P : Program} {ops : Array Oper} {Q : Exit → Act → World → Prop}
/-- The same, where the last operation waits for all the others and needs no slot (a store). -/
def regionOkL (ops : Array Oper) (n m : Nat) : Bool := decide (ops.size = m + 1) && ((List.range m).all fun i => match ops[i]? with
  | none => false
  | some o => (match o.dst with
    | none => false
    | some d => decide (d < n) && (List.range ops.size).all fun j => i == j || dstOf ops j != some d) && o.after.all fun e => !Region.binds .any e || decide (e.on < i)) &&
  (List.range m).all (fun j => depOf ops m j) && (match ops[m]? with
  | none => false
  | some o => o.after.all fun e => !Region.binds .any e || decide (e.on < m))
theorem regionOkL_at {n m : Nat} (h : regionOkL ops n m = true) {i : Nat} (him : i < m) {o : Oper} (ho : ops[i]? = some o) :
    (∃ d, o.dst = some d ∧ d < n ∧ ∀ j, i ≠ j → dstOf ops j ≠ some d) ∧ ∀ e ∈ o.after, Region.binds .any e = true → e.on < i := by
  unfold regionOkL at h
  simp only [Bool.and_eq_true] at h
  have h1 := List.all_eq_true.1 h.1.1.2 i (List.mem_range.2 him)
  rw [ho] at h1
  simp only [Bool.and_eq_true] at h1
  obtain ⟨h2, h3⟩ := h1
  constructor
  · cases hd : o.dst with
    | none => rw [hd] at h2; cases h2
    | some d =>
      rw [hd] at h2
      simp only [Bool.and_eq_true, decide_eq_true_eq] at h2
      refine ⟨d, rfl, h2.1, fun j hj hc => ?_⟩
      have hjs : j < ops.size := by
        unfold dstOf at hc
        cases h4 : ops[j]? with
        | none => rw [h4] at hc; cases hc
        | some o' => exact (Array.getElem?_eq_some_iff.1 h4).1
      have h5 := List.all_eq_true.1 h2.2 j (List.mem_range.2 hjs)
      simp only [Bool.or_eq_true, beq_iff_eq, bne_iff_ne, ne_eq] at h5
      rcases h5 with h5 | h5
      · exact hj h5
      · exact h5 hc
  · intro e he hb
    have h4 := (Array.all_eq_true_iff_forall_mem.1 h3) e he
    rw [hb] at h4
    simpa using h4
theorem regionOkL_last {n m : Nat} (h : regionOkL ops n m = true) : ops.size = m + 1 ∧ (∀ j, j < m → depOf ops m j = true) ∧ ∀ o, ops[m]? = some o → ∀ e ∈ o.after, Region.binds .any e = true → e.on < m := by
  unfold regionOkL at h
  simp only [Bool.and_eq_true, decide_eq_true_eq] at h
  refine ⟨h.1.1.1, fun j hj => List.all_eq_true.1 h.1.2 j (List.mem_range.2 hj), fun o ho e he hb => ?_⟩
  have h2 := h.2
  rw [ho] at h2
  have h4 := (Array.all_eq_true_iff_forall_mem.1 h2) e he
  rw [hb] at h4
  simpa using h4
theorem region_inv_last {id m : Nat} {a0 : Act} {u : World} (hm : P.follows .mixedOrders = true) (sps : List SP) (hok : regionOkL ops a0.tmps.size m = true)
    (step : ∀ i, i < m → ∀ (a : Act) (w : World), (∀ k, notDst ops k = true → a.tmps[k]? = a0.tmps[k]?) → (∀ j d, depOf ops i j = true → dstOf ops j = some d → ∃ v, a.tmps[d]? = some v ∧ (sps.getD j SP.any).p v w) → Below u.heap.size u w →
      wpOp P ops Q i (fun a' w' => ∃ v d, dstOf ops i = some d ∧ a' = a.put (some d) v ∧ KR u.heap.size w w' ∧ (sps.getD i SP.any).p v w') a w)
    (last : ∀ (a : Act) (w : World), (∀ k, notDst ops k = true → a.tmps[k]? = a0.tmps[k]?) → (∀ j d, j < m → dstOf ops j = some d → ∃ v, a.tmps[d]? = some v ∧ (sps.getD j SP.any).p v w) → Below u.heap.size u w → a.defers = a0.defers → a.tmps.size = a0.tmps.size →
      wpOp P ops Q m (fun a' w' => Q .normal a' w') a w) :
    (Code.region id ops true).wp P Q a0 u := by
  obtain ⟨hsz, hdep, hlo⟩ := regionOkL_last hok
  refine wp_region_any hm ?_
  refine rwpAny_inv (fun listed a w => (listed.getD m false = false ∧ RInv ops u a0 sps listed a w) ∨ (listed.size = ops.size ∧ (∀ i, i < ops.size → listed.getD i false = true) ∧ Q .normal a w)) ?_ ?_ ops.size _ _ _ (Nat.le_trans List.count_le_length (by simp)) (.inl ⟨?_, by simp, rfl, rfl, fun _ _ => rfl, fun i d hl _ => ?_, ⟨rfl, rfl, rfl, Nat.le_refl _, fun _ _ => rfl⟩⟩)
  · intro listed a w i I hr
    obtain ⟨hnl, o, ho, hall⟩ := mem_ready.1 hr
    have hi : i < ops.size := (Array.getElem?_eq_some_iff.1 ho).1
    rcases I with ⟨hml, I⟩ | ⟨_, hal, _⟩
    · have hin : i < listed.size := by rw [I.sz]; exact hi
      by_cases him : i < m
      · obtain ⟨⟨d0, hd0, hd1, hd2⟩, _⟩ := regionOkL_at hok him ho
        have hds : dstOf ops i = some d0 := by unfold dstOf; rw [ho]; exact hd0
        refine wpOp_mono ?_ (step i him a w I.ot (fun j d hj hd => ?_) I.bw)
        · rintro a' w' ⟨v, d, hd, rfl, hb, hp⟩
          rw [hds] at hd
          injection hd with hd
          subst hd
          refine .inl ⟨by rw [rgetD_put hin, if_neg (by omega)]; exact hml, by simpa using I.sz, I.df, by simpa [Act.put] using I.az, fun k hk => ?_, fun j d hl hd => ?_, I.bw.trans hb.b⟩
          · have hne : d0 ≠ k := fun e => by
              have := List.all_eq_true.1 hk i (List.mem_range.2 hi)
              simp [hds, e] at this
            simp only [Act.put, Array.getElem?_setIfInBounds_ne hne]
            exact I.ot k hk
          · by_cases c : i = j
            · subst c
              rw [hds] at hd
              injection hd with hd
              subst hd
              exact ⟨v, by simp [Act.put, I.az, hd1], hp⟩
            · have hne : d0 ≠ d := fun e => hd2 j c (by rw [hd, e])
              rw [rgetD_put hin, if_neg c] at hl
              obtain ⟨v', h1, h2⟩ := I.fx j d hl hd
              exact ⟨v', by simp only [Act.put, Array.getElem?_setIfInBounds_ne hne]; exact h1, (sps.getD j SP.any).st _ _ _ h2 hb.k⟩
        · have hl : listed.getD j false = true := by
            unfold depOf at hj
            rw [ho] at hj
            obtain ⟨q, hq, h2⟩ := Array.any_eq_true.1 hj
            simp only [Bool.and_eq_true, beq_iff_eq] at h2
            rw [← h2.2]
            exact hall _ (Array.getElem_mem hq) h2.1
          exact I.fx j d hl hd
      · have e : i = m := by omega
        subst e
        have hlj : ∀ j, j < i → listed.getD j false = true := fun j hj => by
          have hj2 := hdep j hj
          unfold depOf at hj2
          rw [ho] at hj2
          obtain ⟨q, hq, h2⟩ := Array.any_eq_true.1 hj2
          simp only [Bool.and_eq_true, beq_iff_eq] at h2
          rw [← h2.2]
          exact hall _ (Array.getElem_mem hq) h2.1
        refine wpOp_mono ?_ (last a w I.ot (fun j d hj hd => I.fx j d (hlj j hj) hd) I.bw I.df I.az)
        intro a' w' hQ
        refine .inr ⟨by simpa using I.sz, fun j hj => ?_, hQ⟩
        rw [rgetD_put hin]
        by_cases c : i = j
        · rw [if_pos c]
        · rw [if_neg c]; exact hlj j (by omega)
    · have h := hal i hi
      have hin2 : i < listed.size := by
        rcases Nat.lt_or_ge i listed.size with h' | h'
        · exact h'
        · simp [Array.getD, Nat.not_lt.2 h'] at h
      simp only [Array.getD, hin2, dite_true] at h hnl
      rw [h] at hnl
      cases hnl
  · intro listed a w I hr
    rcases I with ⟨hml, I⟩ | ⟨_, _, hQ⟩
    · exfalso
      have all : ∀ n i, i < n → i < m → listed.getD i false = true := by
        intro n
        induction n with
        | zero => intro i h; omega
        | succ n ih =>
          intro i hin him
          have hs : i < listed.size := by rw [I.sz, hsz]; omega
          have ho : ops[i]? = some ops[i] := Array.getElem?_eq_getElem (by omega)
          cases h : listed[i] with
          | true => simp [Array.getD, hs, h]
          | false =>
            have : i ∈ Region.ready .any ops listed := mem_ready.2 ⟨by simp [Array.getD, hs, h], _, ho, fun e he hb => by
              have hlt := (regionOkL_at hok him ho).2 e he hb
              exact ih e.on (by omega) (by omega)⟩
            rw [hr] at this
            cases this
      have ho : ops[m]? = some ops[m] := Array.getElem?_eq_getElem (by omega)
      have : m ∈ Region.ready .any ops listed := mem_ready.2 ⟨by have hms : m < listed.size := (by rw [I.sz, hsz]; omega); simpa [Array.getD, hms] using hml, _, ho, fun e he hb => by
        have hlt := hlo _ ho e he hb
        exact all (e.on + 1) e.on (by omega) hlt⟩
      rw [hr] at this
      cases this
    · exact hQ
  · by_cases h : m < ops.size <;> simp [Array.getD, h]
  · have h0 : (Array.replicate ops.size false).getD i false = false := by
      by_cases h : i < ops.size <;> simp [Array.getD, h]
    rw [h0] at hl
    cases hl
theorem fold_get (xs : Nat → Value) : ∀ (D : List Nat) (T : Array Value) (k : Nat), (D.foldl (fun T k => T.setIfInBounds k (xs k)) T)[k]? = if k ∈ D then (if k < T.size then some (xs k) else none) else T[k]?
  | [], T, k => by simp
  | d :: D, T, k => by
    rw [List.foldl_cons, fold_get xs D]
    by_cases h : k ∈ D
    · simp [h]
    · rw [if_neg h]
      by_cases e : d = k
      · subst e
        simp [Array.getElem?_setIfInBounds]
      · rw [Array.getElem?_setIfInBounds_ne e, if_neg]
        simp only [List.mem_cons, not_or]
        exact ⟨fun h' => e h'.symm, h⟩
/-- Behind a region: the act, but for the slots that it fills. -/
theorem frame_ex {a a0 : Act} (D : List Nat) (hD : (List.range a0.tmps.size).all (fun k => D.contains k || notDst ops k) = true)
    (FR : ∀ k, notDst ops k = true → a.tmps[k]? = a0.tmps[k]?) (AZ : a.tmps.size = a0.tmps.size) :
    a.tmps = D.foldl (fun T k => T.setIfInBounds k ((a.tmps[k]?).getD undef)) a0.tmps := by
  apply Array.ext_getElem?
  intro k
  rw [fold_get (fun k => (a.tmps[k]?).getD undef)]
  by_cases hk : k < a0.tmps.size
  · by_cases hm : k ∈ D
    · rw [if_pos hm, if_pos hk, Array.getElem?_eq_getElem (by omega)]
      rfl
    · rw [if_neg hm]
      have h := List.all_eq_true.1 hD k (List.mem_range.2 hk)
      simp only [Bool.or_eq_true, List.contains_iff_mem] at h
      exact FR k (h.resolve_left hm)
  · have h1 : a.tmps[k]? = none := Array.getElem?_eq_none (by omega)
    rw [h1, if_neg hk]
    by_cases hm : k ∈ D
    · rw [if_pos hm]
    · rw [if_neg hm, Array.getElem?_eq_none (by omega)]
theorem frame_xs {a a0 : Act} (D : List Nat) (hD : (List.range a0.tmps.size).all (fun k => D.contains k || notDst ops k) = true)
    (FR : ∀ k, notDst ops k = true → a.tmps[k]? = a0.tmps[k]?) (AZ : a.tmps.size = a0.tmps.size) (DF : a.defers = a0.defers) :
    ∃ xs : Nat → Value, a = ⟨D.foldl (fun T k => T.setIfInBounds k (xs k)) a0.tmps, a0.defers⟩ :=
  ⟨fun k => (a.tmps[k]?).getD undef, by
    have h := frame_ex D hD FR AZ
    obtain ⟨tm, df⟩ := a
    simp only [Act.mk.injEq]
    exact ⟨h, DF⟩⟩
end
end Go.Proofs.Ytcjhgihkofmhgaa
