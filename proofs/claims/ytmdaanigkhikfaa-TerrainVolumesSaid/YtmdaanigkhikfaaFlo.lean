/-
  A region that draws, whose first operation is a plain move that may come up anywhere: it is taken first; then all operations but the last few only read.
-/
import Derived.StillTailTactics
import Derived.Orders
import Derived.Tactics
namespace Go.Proofs.Ytmdaanigkhikfaa
set_option linter.unusedVariables false
set_option linter.unusedSimpArgs false
section
open Go
variable {P : Program} {md : Region.Mode}
/-- The n-th operation waits for the first one, too. -/
def addE : List Oper → Nat → List Oper
  | [], _ => []
  | o :: l, 0 => { o with after := o.after.push { on := 0, ground := Ground.data } } :: l
  | o :: l, n + 1 => o :: addE l n
theorem addE_len : ∀ (l : List Oper) (n : Nat), (addE l n).length = l.length
  | [], _ => by simp [addE]
  | o :: l, 0 => by simp [addE]
  | o :: l, n + 1 => by simp [addE, addE_len l n]
theorem addE_get : ∀ (l : List Oper) (n i : Nat), (addE l n)[i]? = if i = n then (l[i]?).map (fun o => { o with after := o.after.push { on := 0, ground := Ground.data } }) else l[i]?
  | [], n, i => by simp [addE]
  | o :: l, 0, 0 => by simp [addE]
  | o :: l, 0, i + 1 => by simp [addE]
  | o :: l, n + 1, 0 => by simp [addE]
  | o :: l, n + 1, i + 1 => by
    have := addE_get l n i
    simp [addE, this]
theorem addE_arr (l : List Oper) (n i : Nat) : (addE l n).toArray[i]? = if i = n then (l.toArray[i]?).map (fun o => { o with after := o.after.push { on := 0, ground := Ground.data } }) else l.toArray[i]? := by
  simpa using addE_get l n i
theorem addE_yielded (l : List Oper) (n : Nat) (t : Array Value) : yielded (addE l n).toArray t = yielded l.toArray t := by
  funext j
  unfold yielded
  have e : ((addE l n).toArray[j]?).bind (·.dst) = (l.toArray[j]?).bind (·.dst) := by
    rw [addE_arr]
    by_cases c : j = n
    · rw [if_pos c]; cases l.toArray[j]? <;> rfl
    · rw [if_neg c]
  rw [e]
theorem addE_ready (l : List Oper) (n : Nat) (listed : Array Bool) (h0 : listed.getD 0 false = true) (j : Nat) : j ∈ Region.ready md (addE l n).toArray listed ↔ j ∈ Region.ready md l.toArray listed := by
  rw [mem_ready, mem_ready, addE_arr]
  by_cases e : j = n
  · rw [if_pos e]
    cases ho : l.toArray[j]? with
    | none => simp
    | some o =>
      simp only [Option.map_some, Option.some.injEq, exists_eq_left']
      refine and_congr_right fun _ => ⟨fun h e he hb => h e (Array.mem_push.2 (.inl he)) hb, fun h e he hb => ?_⟩
      rcases Array.mem_push.1 he with h1 | rfl
      · exact h e h1 hb
      · exact h0
  · rw [if_neg e]
theorem addE_wpOp {Q : Exit → Act → World → Prop} (l : List Oper) (n i : Nat) {K : Act → World → Prop} {a : Act} {w : World} (h : wpOp P (addE l n).toArray Q i K a w) : wpOp P l.toArray Q i K a w := by
  unfold wpOp at *
  rw [addE_yielded, addE_arr] at h
  by_cases e : i = n
  · rw [if_pos e] at h
    cases ho : l.toArray[i]? with
    | none => rw [ho] at h; exact h
    | some o => rw [ho] at h; exact h
  · rw [if_neg e] at h; exact h
theorem addE_wpAny {Q : Exit → Act → World → Prop} (l : List Oper) (n : Nat) : ∀ (f : Nat) (listed : Array Bool) (a : Act) (w : World), listed.getD 0 false = true →
    wpAny P md (addE l n).toArray Q f listed a w → wpAny P md l.toArray Q f listed a w
  | 0, listed, a, w, h0, h => by
    refine ⟨?_, h.2⟩
    refine List.eq_nil_iff_forall_not_mem.2 fun j hj => ?_
    have := (addE_ready l n listed h0 j).2 hj
    rw [h.1] at this
    cases this
  | f + 1, listed, a, w, h0, h => by
    refine ⟨fun h1 => h.1 (List.eq_nil_iff_forall_not_mem.2 fun j hj => ?_), fun i hi => ?_⟩
    · have := (addE_ready l n listed h0 j).1 hj
      rw [h1] at this
      cases this
    · exact wpOp_mono (fun a' w' h' => addE_wpAny l n f _ a' w' (getD_set_true h0) h') (addE_wpOp l n i (h.2 i ((addE_ready l n listed h0 i).2 hi)))
/-- What is to be checked of the region. -/
def floatB (l : List Oper) (n : Nat) : Bool :=
  Region.noSelect l.toArray && Region.free .any l.toArray (Array.replicate l.length false) 0 && (Region.ready .any l.toArray (Array.replicate l.length false)).contains 0 &&
  Region.noSelect (addE l n).toArray && decide (n < l.length) && decide (0 < n) && Region.sinkB .any (addE l n).toArray n && Region.chainB .any (addE l n).toArray n &&
  Region.lexHead .any (addE l n).toArray (l.length - n) (n - 1) 1 ((Array.replicate l.length false).setIfInBounds 0 true) && (l.head?.all fun o => o.after.isEmpty)
theorem wp_region_float_tail {id : Nat} {Q : Exit → Act → World → Prop} {a : Act} {w : World} {o0 : Oper} {l0 : List Oper} (n : Nat) (v : Value) (hm : P.follows .mixedOrders = true) (hB : floatB (o0 :: l0) n = true)
    (hQ : ∀ c a w, Q (.panic c) (a.put o0.dst v) w → Q (.panic c) a w) (hy : Yields P (o0 :: l0).toArray o0 v a)
    (h : wpStill P (addE (o0 :: l0) n).toArray w.drew (fun a' => wpList P (addE (o0 :: l0) n).toArray Q ((addE (o0 :: l0) n).drop n) a' w.drew) (((addE (o0 :: l0) n).take n).drop 1) (a.put o0.dst v)) : (Code.region id (o0 :: l0).toArray true).wp P Q a w := by
  obtain ⟨l, hl⟩ : ∃ l, o0 :: l0 = l := ⟨_, rfl⟩
  have hi : l.toArray[0]? = some o0 := by rw [← hl]; simp
  have hz : l.head? = some o0 := by rw [← hl]; rfl
  have hp : 0 < l.length := by rw [← hl]; simp
  rw [hl] at hB hy h ⊢
  simp only [floatB, Bool.and_eq_true, decide_eq_true_eq] at hB
  obtain ⟨⟨⟨⟨⟨⟨⟨⟨⟨s1, s2⟩, s3⟩, s4⟩, s5⟩, s6⟩, s7⟩, s8⟩, s9⟩, s10⟩ := hB
  have hc : o0.after = #[] := by rw [hz] at s10; simpa using s10
  refine wp_region_any hm ?_
  have hsz : l.toArray.size = (l.length - 1) + 1 := by simp; omega
  rw [hsz]
  refine wpAny_take hi s1 ?_ ?_ hQ hy ?_
  · rw [← hsz]; simpa using s2
  · rw [← hsz]; simpa using s3
  have hr : Array.replicate (l.length - 1 + 1) false = Array.replicate l.length false := by congr 1; omega
  rw [hr]
  have h00 : ((Array.replicate l.length false).setIfInBounds 0 true).getD 0 false = true := by simp [hp]
  refine addE_wpAny l n _ _ _ _ h00 ?_
  have hal : (addE l n).length = l.length := addE_len l n
  have has : (addE l n).toArray.size = l.length := by simpa using hal
  have htl : (((addE l n).take n).drop 1).length = n - 1 := by simp [hal]; omega
  have hdl : ((addE l n).drop n).length = l.length - n := by simp [hal]
  have g0 : (addE l n).toArray[0]? = some o0 := by rw [addE_arr, if_neg (by omega), hi]
  have inv0 : HeadInv .any (addE l n).toArray n ((Array.replicate l.length false).setIfInBounds 0 true) := by
    refine ⟨by simp [has], fun j oj hj hl1 e he hb => ?_, fun t ht ht' => ?_⟩
    · by_cases hj0 : 0 = j
      · subst hj0
        have : oj = o0 := Option.some.inj (hj.symm.trans g0)
        subst this
        rw [hc] at he
        simp at he
      · rw [getD_set_ne false hj0, getD_replicate_false] at hl1
        cases hl1
    · rw [getD_set_ne true (by omega)]
      exact getD_in (by rw [has] at ht'; simpa using ht') (getD_replicate_false _ _)
  have H := wpAnyL_lex (md := .any) (g := l.length - n) s4 s7 s8 (by rw [has]; exact s5) (((addE l n).take n).drop 1) 1 _ _ (fun j hj => by
    rw [htl] at hj
    have e1 : 1 + j < n := by omega
    rw [List.getElem?_drop, List.getElem?_take_of_lt e1]
    simp) (by rw [htl]; omega) inv0 (by rw [htl]; exact s9) h
  have := wpAny_of_head (Q' := Q) (g := l.length - n) (fun listed a' hL => by
    have := wpAny_of_seq (md := .any) (Q' := Q) ((addE l n).drop n) n listed a' w.drew (fun j => by simp [List.getElem?_drop]) (by rw [hdl]; exact hL.1) hL.2
    rwa [hdl] at this) _ _ _ H
  rw [htl, show n - 1 + (l.length - n) = l.length - 1 by omega] at this
  exact this
end
end Go.Proofs.Ytmdaanigkhikfaa
