/-
  A region that draws its order of evaluation, each operation once: what each operation's slot holds once it has come up.
-/
import Derived.Test.YtfdnmlggemonhaaWcode
import Derived.RegionTactic
namespace Go.Proofs.Ytfdnmlggemonhaa
open Go.RowKit
set_option linter.unusedVariables false
set_option linter.unusedSimpArgs false

def dstOf (ops : Array Oper) (i : Nat) : Option Nat := (ops[i]?).bind (·.dst)
def notDst (ops : Array Oper) (k : Nat) : Bool := (List.range ops.size).all fun j => dstOf ops j != some k
def depOf (ops : Array Oper) (i j : Nat) : Bool := match ops[i]? with
  | some o => o.after.any fun e => Region.binds .any e && e.on == j
  | none => false
def regionOk (ops : Array Oper) (n : Nat) : Bool := (List.range ops.size).all fun i => match ops[i]? with
  | none => false
  | some o => (match o.dst with
    | none => false
    | some d => decide (d < n) && (List.range ops.size).all fun j => i == j || dstOf ops j != some d) && o.after.all fun e => !Region.binds .any e || decide (e.on < i)
/-- What could be read can be read, and says the same. -/
structure KC (w w' : World) : Prop where
  size : w.heap.size ≤ w'.heap.size
  cell : ∀ a v, w.cell? a = some v → w'.cell? a = some v
  shape : ∀ b s, w.shape? b = some s → w'.shape? b = some s
structure KR (B : Nat) (w w' : World) : Prop where
  b : Below B w w'
  k : KC w w'
  d : w.drawn ≤ w'.drawn
theorem KR.refl (B : Nat) (w : World) : KR B w w := ⟨Below.refl _ _, ⟨Nat.le_refl _, fun _ _ h => h, fun _ _ h => h⟩, Nat.le_refl _⟩
theorem KR.of {B : Nat} {w w' : World} (hB : B ≤ w.heap.size) (h : Below w.heap.size w w') (hd : w.drawn ≤ w'.drawn) : KR B w w' :=
  ⟨h.mono hB, ⟨h.size, fun a v hc => (h.cell (World.block_lt_of_cell? w a hc)).trans hc, fun b s hs => by
    have hb : b < w.heap.size := by
      rcases Nat.lt_or_ge b w.heap.size with h' | h'
      · exact h'
      · simp [World.shape?, Array.getElem?_eq_none h'] at hs
    have := h.block b hb
    unfold World.shape? at hs ⊢
    rw [this]
    exact hs⟩, hd⟩
/-- What a slot holds, in whatever world comes later. -/
structure SP where
  p : Value → World → Prop
  st : ∀ v w w', p v w → KC w w' → p v w'
def SP.eq (c : Value) : SP := ⟨fun v _ => v = c, fun _ _ _ h _ => h⟩
def SP.any : SP := ⟨fun _ _ => True, fun _ _ _ _ _ => trivial⟩
section
variable {P : Program} {ops : Array Oper} {Q : Exit → Act → World → Prop}
theorem rready_false {md : Region.Mode} {listed : Array Bool} {i : Nat} (h : i ∈ Region.ready md ops listed) : ∃ hi : i < listed.size, listed[i] = false := by
  have h1 := (mem_ready.1 h).1
  by_cases hi : i < listed.size
  · refine ⟨hi, ?_⟩
    simpa [Array.getD, hi] using h1
  · simp [Array.getD, hi] at h1
theorem rcount_down {listed : Array Bool} {i : Nat} (hi : i < listed.size) (h : listed[i] = false) : (listed.setIfInBounds i true).toList.count false + 1 = listed.toList.count false := by
  have hl : i < listed.toList.length := by simpa using hi
  have hg : listed.toList[i] = false := by simpa using h
  have hp : 0 < listed.toList.count false := List.count_pos_iff.2 (hg ▸ List.getElem_mem hl)
  rw [Array.toList_setIfInBounds, List.count_set hl, hg]
  have e1 : (if (false == false) = true then 1 else 0) = 1 := rfl
  have e2 : (if (true == false) = true then 1 else 0) = 0 := rfl
  rw [e1, e2]
  omega
theorem rwpAny_inv {md : Region.Mode} (Inv : Array Bool → Act → World → Prop)
    (step : ∀ listed a w i, Inv listed a w → i ∈ Region.ready md ops listed → wpOp P ops Q i (Inv (listed.setIfInBounds i true)) a w)
    (fin : ∀ listed a w, Inv listed a w → Region.ready md ops listed = [] → Q .normal a w) :
    ∀ (fuel : Nat) (listed : Array Bool) (a : Act) (w : World), listed.toList.count false ≤ fuel → Inv listed a w → wpAny P md ops Q fuel listed a w
  | 0, listed, a, w, hc, hI => by
    have hr : Region.ready md ops listed = [] := by
      cases hr : Region.ready md ops listed with
      | nil => rfl
      | cons i l =>
        obtain ⟨hi, h⟩ := rready_false (hr ▸ List.mem_cons_self : i ∈ Region.ready md ops listed)
        have := rcount_down hi h
        omega
    exact ⟨hr, fin _ _ _ hI hr⟩
  | fuel + 1, listed, a, w, hc, hI => ⟨fun hr => fin _ _ _ hI hr, fun i hi => wpOp_mono (fun a' w' h' => rwpAny_inv Inv step fin fuel _ a' w' (by
      obtain ⟨h1, h2⟩ := rready_false hi
      have := rcount_down h1 h2
      omega) h') (step _ _ _ _ hI hi)⟩
theorem rgetD_put {listed : Array Bool} {i j : Nat} (hi : i < listed.size) : (listed.setIfInBounds i true).getD j false = if i = j then true else listed.getD j false := by
  by_cases h : i = j
  · subst h; simp [Array.getD, hi]
  · by_cases hj : j < listed.size
    · simp [Array.getD, hj, h, Array.getElem_setIfInBounds_ne]
    · simp [Array.getD, hj, h]
structure RInv (ops : Array Oper) (u : World) (a0 : Act) (sps : List SP) (listed : Array Bool) (a : Act) (w : World) : Prop where
  sz : listed.size = ops.size
  df : a.defers = a0.defers
  az : a.tmps.size = a0.tmps.size
  ot : ∀ k, notDst ops k = true → a.tmps[k]? = a0.tmps[k]?
  fx : ∀ i d, listed.getD i false = true → dstOf ops i = some d → ∃ v, a.tmps[d]? = some v ∧ (sps.getD i SP.any).p v w
  bw : Below u.heap.size u w
  dw : u.drawn ≤ w.drawn
theorem regionOk_at {n : Nat} (h : regionOk ops n = true) {i : Nat} {o : Oper} (ho : ops[i]? = some o) :
    (∃ d, o.dst = some d ∧ d < n ∧ ∀ j, i ≠ j → dstOf ops j ≠ some d) ∧ ∀ e ∈ o.after, Region.binds .any e = true → e.on < i := by
  have hi : i < ops.size := (Array.getElem?_eq_some_iff.1 ho).1
  have h1 := List.all_eq_true.1 h i (List.mem_range.2 hi)
  rw [ho] at h1
  simp only [Bool.and_eq_true] at h1
  obtain ⟨h2, h3⟩ := h1
  constructor
  · cases hd : o.dst with
    | none => rw [hd] at h2; cases h2
    | some d =>
      rw [hd] at h2
      simp only [Bool.and_eq_true, decide_eq_true_eq] at h2
      refine ⟨d, rfl, h2.1, fun j hj hc => ?_⟩
      have hjs : j < ops.size := by
        unfold dstOf at hc
        cases h4 : ops[j]? with
        | none => rw [h4] at hc; cases hc
        | some o' => exact (Array.getElem?_eq_some_iff.1 h4).1
      have h5 := List.all_eq_true.1 h2.2 j (List.mem_range.2 hjs)
      simp only [Bool.or_eq_true, beq_iff_eq, bne_iff_ne, ne_eq] at h5
      rcases h5 with h5 | h5
      · exact hj h5
      · exact h5 hc
  · intro e he hb
    have h4 := (Array.all_eq_true_iff_forall_mem.1 h3) e he
    rw [hb] at h4
    simpa using h4
theorem wanted_none {o : Oper} {y : Nat → Option Bool} (h : o.guard = none) : Region.wanted o y = true := by unfold Region.wanted; rw [h]
theorem yielded_at {tmps : Array Value} {g d : Nat} {b : Bool} (hd : dstOf ops g = some d) (ht : tmps[d]? = some (.bool b)) : yielded ops tmps g = some b := by
  unfold yielded
  unfold dstOf at hd
  rw [hd]
  simp [ht]
theorem wanted_true {o : Oper} {tmps : Array Value} {g d : Nat} {b : Bool} (hg : o.guard = some (g, b)) (hd : dstOf ops g = some d) (ht : tmps[d]? = some (.bool b)) : Region.wanted o (yielded ops tmps) = true := by
  have h := yielded_at (ops := ops) hd ht
  unfold Region.wanted
  rw [hg]
  simp [h]
theorem wanted_false {o : Oper} {tmps : Array Value} {g d : Nat} {b : Bool} (hg : o.guard = some (g, !b)) (hd : dstOf ops g = some d) (ht : tmps[d]? = some (.bool b)) : ¬ Region.wanted o (yielded ops tmps) = true := by
  have h := yielded_at (ops := ops) hd ht
  unfold Region.wanted
  rw [hg]
  simp [h]
theorem wpOp_run {i : Nat} {o : Oper} {K : Act → World → Prop} {a : Act} {w : World} (ho : ops[i]? = some o) (hw : Region.wanted o (yielded ops a.tmps) = true)
    (h : ∀ K' : Act → World → Prop, (∀ a w, K a w → K' a w) → Oper.wp P o a w K' Q) : wpOp P ops Q i K a w :=
  wpOp_step ho fun K' hK => by rw [if_pos hw]; exact h K' hK
theorem wpOp_skip {i : Nat} {o : Oper} {K : Act → World → Prop} {a : Act} {w : World} (ho : ops[i]? = some o) (hw : ¬ Region.wanted o (yielded ops a.tmps) = true)
    (h : ∀ K' : Act → World → Prop, (∀ a w, K a w → K' a w) → K' (a.put o.dst undef) w) : wpOp P ops Q i K a w :=
  wpOp_step ho fun K' hK => by rw [if_neg hw]; exact h K' hK
theorem region_inv {id : Nat} {a0 : Act} {u : World} (hm : P.follows .mixedOrders = true) (sps : List SP) (hok : regionOk ops a0.tmps.size = true)
    (step : ∀ i, i < ops.size → ∀ (a : Act) (w : World), (∀ k, notDst ops k = true → a.tmps[k]? = a0.tmps[k]?) → (∀ j d, depOf ops i j = true → dstOf ops j = some d → ∃ v, a.tmps[d]? = some v ∧ (sps.getD j SP.any).p v w) → Below u.heap.size u w → u.drawn ≤ w.drawn →
      wpOp P ops Q i (fun a' w' => ∃ v d, dstOf ops i = some d ∧ a' = a.put (some d) v ∧ KR u.heap.size w w' ∧ (sps.getD i SP.any).p v w') a w)
    (fin : ∀ (a : Act) (w : World), (∀ k, notDst ops k = true → a.tmps[k]? = a0.tmps[k]?) → (∀ j d, dstOf ops j = some d → ∃ v, a.tmps[d]? = some v ∧ (sps.getD j SP.any).p v w) → Below u.heap.size u w → u.drawn ≤ w.drawn → a.defers = a0.defers → a.tmps.size = a0.tmps.size → Q .normal a w) :
    (Code.region id ops true).wp P Q a0 u := by
  refine wp_region_any hm ?_
  refine rwpAny_inv (RInv ops u a0 sps) ?_ ?_ ops.size _ _ _ (Nat.le_trans List.count_le_length (by simp)) ⟨by simp, rfl, rfl, fun _ _ => rfl, fun i d hl _ => ?_, ⟨rfl, rfl, rfl, Nat.le_refl _, fun _ _ => rfl⟩, Nat.le_succ _⟩
  · intro listed a w i I hr
    obtain ⟨_, o, ho, hall⟩ := mem_ready.1 hr
    have hi : i < ops.size := (Array.getElem?_eq_some_iff.1 ho).1
    have hin : i < listed.size := by rw [I.sz]; exact hi
    obtain ⟨⟨d0, hd0, hd1, hd2⟩, _⟩ := regionOk_at hok ho
    have hds : dstOf ops i = some d0 := by unfold dstOf; rw [ho]; exact hd0
    refine wpOp_mono ?_ (step i hi a w I.ot (fun j d hj hd => ?_) I.bw I.dw)
    · rintro a' w' ⟨v, d, hd, rfl, hb, hp⟩
      rw [hds] at hd
      injection hd with hd
      subst hd
      refine ⟨by simpa using I.sz, I.df, by simpa [Act.put] using I.az, fun k hk => ?_, fun j d hl hd => ?_, I.bw.trans hb.b, Nat.le_trans I.dw hb.d⟩
      · have hne : d0 ≠ k := fun e => by
          have := List.all_eq_true.1 hk i (List.mem_range.2 hi)
          simp [hds, e] at this
        simp only [Act.put, Array.getElem?_setIfInBounds_ne hne]
        exact I.ot k hk
      · by_cases c : i = j
        · subst c
          rw [hds] at hd
          injection hd with hd
          subst hd
          exact ⟨v, by simp [Act.put, I.az, hd1], hp⟩
        · have hne : d0 ≠ d := fun e => hd2 j c (by rw [hd, e])
          rw [rgetD_put hin, if_neg c] at hl
          obtain ⟨v', h1, h2⟩ := I.fx j d hl hd
          exact ⟨v', by simp only [Act.put, Array.getElem?_setIfInBounds_ne hne]; exact h1, (sps.getD j SP.any).st _ _ _ h2 hb.k⟩
    · have hl : listed.getD j false = true := by
        unfold depOf at hj
        rw [ho] at hj
        obtain ⟨q, hq, h2⟩ := Array.any_eq_true.1 hj
        simp only [Bool.and_eq_true, beq_iff_eq] at h2
        rw [← h2.2]
        exact hall _ (Array.getElem_mem hq) h2.1
      exact I.fx j d hl hd
  · intro listed a w I hr
    have all : ∀ n i, i < n → i < ops.size → listed.getD i false = true := by
      intro n
      induction n with
      | zero => intro i h; omega
      | succ n ih =>
        intro i hin hi
        have hs : i < listed.size := by rw [I.sz]; exact hi
        have ho : ops[i]? = some ops[i] := Array.getElem?_eq_getElem hi
        cases h : listed[i] with
        | true => simp [Array.getD, hs, h]
        | false =>
          have : i ∈ Region.ready .any ops listed := mem_ready.2 ⟨by simp [Array.getD, hs, h], _, ho, fun e he hb => by
            have hlt := (regionOk_at hok ho).2 e he hb
            exact ih e.on (by omega) (by omega)⟩
          rw [hr] at this
          cases this
    refine fin a w I.ot (fun j d hd => I.fx j d (all (j + 1) j (by omega) ?_) hd) I.bw I.dw I.df I.az
    unfold dstOf at hd
    cases h4 : ops[j]? with
    | none => rw [h4] at hd; cases hd
    | some o' => exact (Array.getElem?_eq_some_iff.1 h4).1
  · have h0 : (Array.replicate ops.size false).getD i false = false := by
      by_cases h : i < ops.size <;> simp [Array.getD, h]
    rw [h0] at hl
    cases hl
theorem fold_get (xs : Nat → Value) : ∀ (D : List Nat) (T : Array Value) (k : Nat), (D.foldl (fun T k => T.setIfInBounds k (xs k)) T)[k]? = if k ∈ D then (if k < T.size then some (xs k) else none) else T[k]?
  | [], T, k => by simp
  | d :: D, T, k => by
    rw [List.foldl_cons, fold_get xs D]
    by_cases h : k ∈ D
    · simp [h]
    · rw [if_neg h]
      by_cases e : d = k
      · subst e
        simp [Array.getElem?_setIfInBounds]
      · rw [Array.getElem?_setIfInBounds_ne e, if_neg]
        simp only [List.mem_cons, not_or]
        exact ⟨fun h' => e h'.symm, h⟩
/-- Behind a region: the act, but for the slots that it fills. -/
theorem frame_ex {a a0 : Act} (D : List Nat) (hD : (List.range a0.tmps.size).all (fun k => D.contains k || notDst ops k) = true)
    (FR : ∀ k, notDst ops k = true → a.tmps[k]? = a0.tmps[k]?) (AZ : a.tmps.size = a0.tmps.size) :
    a.tmps = D.foldl (fun T k => T.setIfInBounds k ((a.tmps[k]?).getD undef)) a0.tmps := by
  apply Array.ext_getElem?
  intro k
  rw [fold_get (fun k => (a.tmps[k]?).getD undef)]
  by_cases hk : k < a0.tmps.size
  · by_cases hm : k ∈ D
    · rw [if_pos hm, if_pos hk, Array.getElem?_eq_getElem (by omega)]
      rfl
    · rw [if_neg hm]
      have h := List.all_eq_true.1 hD k (List.mem_range.2 hk)
      simp only [Bool.or_eq_true, List.contains_iff_mem] at h
      exact FR k (h.resolve_left hm)
  · have h1 : a.tmps[k]? = none := Array.getElem?_eq_none (by omega)
    rw [h1, if_neg hk]
    by_cases hm : k ∈ D
    · rw [if_pos hm]
    · rw [if_neg hm, Array.getElem?_eq_none (by omega)]
theorem frame_xs {a a0 : Act} (D : List Nat) (hD : (List.range a0.tmps.size).all (fun k => D.contains k || notDst ops k) = true)
    (FR : ∀ k, notDst ops k = true → a.tmps[k]? = a0.tmps[k]?) (AZ : a.tmps.size = a0.tmps.size) (DF : a.defers = a0.defers) :
    ∃ xs : Nat → Value, a = ⟨D.foldl (fun T k => T.setIfInBounds k (xs k)) a0.tmps, a0.defers⟩ :=
  ⟨fun k => (a.tmps[k]?).getD undef, by
    have h := frame_ex D hD FR AZ
    obtain ⟨tm, df⟩ := a
    simp only [Act.mk.injEq]
    exact ⟨h, DF⟩⟩
end
end Go.Proofs.Ytfdnmlggemonhaa
