/-
  Layer 14: slicesOf, Section, and the examples of the law, by contract.
-/
import Derived.StillTailTactics
import Derived.OrdersIn
import Derived.OwnWalkIn
import Derived.TacticsIn
import Derived.RegionIn
import Derived.Test.YtdimncchejbaaaaQva
import Derived.Maps.AppendAt
namespace Go.Proofs.Ytdimncchejbaaaa
open Go.RowKit
set_option linter.unusedVariables false
set_option linter.unusedSimpArgs false
section
open Go
variable {P : Program} {ops : Array Oper} {md : Region.Mode} {w : World} {n : Nat}
theorem wpIn_of_still {o : Oper} {a : Act} {K : Act → Prop} {K' : Act → World → Prop} {Q' : Exit → Act → World → Prop} (h : ∀ a, K a → K' a w) (hh : o.still P a w K) : o.wpIn Fence.wide n P a w K' Q' := by
  refine ⟨fun _ _ => trivial, ?_⟩
  have e : o.semAt Fence.wide.round a.eval = execOp a.eval o := by simp [Oper.semAt]
  rw [e]
  unfold Oper.still at hh
  generalize (execOp a.eval o).run P w = r at *
  cases r with
  | ok x w' =>
    cases x <;> simp only [Oper.stillUpon] at hh <;> simp only [Oper.uponIn]
    case enter f args =>
      obtain ⟨rfl, v, hc, hn⟩ := hh
      exact ⟨fun h => by simp [Fence.wide] at h, callsIn_wide.2 (hc.mono fun e w'' ⟨he, hw⟩ => by subst he; subst hw; exact h _ hn)⟩
    all_goals (obtain ⟨rfl, h2⟩ := hh; exact h _ h2)
  | halt x w' => simp only [Oper.stillUpon] at hh
theorem wpOpIn_of_stOp {i : Nat} {a : Act} {K : Act → Prop} {K' : Act → World → Prop} {Q' : Exit → Act → World → Prop} (h : ∀ a, K a → K' a w) (hh : stOp P ops w i K a) : wpOpIn Fence.wide n P ops Q' i K' a w := by
  unfold stOp at hh
  unfold wpOpIn
  split
  · rename_i ho; simp only [ho] at hh; exact h _ hh
  · rename_i o ho
    simp only [ho] at hh
    split
    · rename_i hw; simp only [hw, if_true] at hh; exact wpIn_of_still h hh
    · rename_i hw; simp only [hw] at hh; exact ⟨fun _ _ => trivial, h _ hh⟩
theorem wpAnyIn_of_head {m g : Nat} {L : Array Bool → Act → Prop} {Q' : Exit → Act → World → Prop} (hL : ∀ listed a, L listed a → wpAnyIn Fence.wide n P md ops Q' g listed a w) :
    ∀ (f : Nat) (listed : Array Bool) (a : Act), wpAnyL P md ops w m L f listed a → wpAnyIn Fence.wide n P md ops Q' (f + g) listed a w
  | 0, listed, a, h => by rw [Nat.zero_add]; exact hL _ _ h
  | f + 1, listed, a, h => by
    rw [show f + 1 + g = (f + g) + 1 by omega]
    exact ⟨fun h0 => absurd h0 h.1, fun i hi => wpOpIn_of_stOp (fun a' h' => wpAnyIn_of_head hL f _ a' h') (h.2 i hi).2⟩
theorem wpAnyIn_of_seq {Q' : Exit → Act → World → Prop} : ∀ (l : List Oper) (k : Nat) (listed : Array Bool) (a : Act) (w : World), (∀ j, l[j]? = ops[k + j]?) →
    Region.seqB md ops l.length k listed = true → wpListIn Fence.wide n P ops Q' l a w → wpAnyIn Fence.wide n P md ops Q' l.length listed a w
  | [], _, _, _, _, _, hB, h => ⟨by simpa [Region.seqB] using hB, h⟩
  | o :: l, k, listed, a, w, hl, hB, h => by
    have h0 : ops[k]? = some o := by simpa using (hl 0).symm
    simp only [List.length_cons, Region.seqB, Bool.and_eq_true, decide_eq_true_eq] at hB
    refine ⟨fun h1 => (by rw [hB.1] at h1; cases h1), fun i hi => ?_⟩
    rw [hB.1] at hi
    have hik : i = k := by simpa using hi
    subst hik
    have hw : wpOpIn Fence.wide n P ops Q' i (wpListIn Fence.wide n P ops Q' l) a w := by unfold wpOpIn; simp only [h0]; exact h
    exact wpOpIn_mono (fun a' w' h' => wpAnyIn_of_seq l (i + 1) _ a' w' (fun j => by have := hl (j + 1); simpa [Nat.add_assoc, Nat.add_comm 1 j] using this) hB.2 h') hw
theorem wpIn_region_still_tail {id : Nat} {Q : Exit → Act → World → Prop} {a : Act} {w : World} {l : List Oper} (m : Nat) (hm : P.follows .mixedOrders = true) (hB : Region.lexTailB .any l.toArray m = true)
    (h : wpStill P l.toArray w.drew (fun a' => wpListIn Fence.wide n P l.toArray Q (l.drop m) a' w.drew) (l.take m) a) : (Code.region id l.toArray true).wpIn Fence.wide n P Q a w := by
  simp only [Region.lexTailB, Bool.and_eq_true, decide_eq_true_eq] at hB
  obtain ⟨⟨⟨⟨hsel, hn⟩, hs⟩, hc⟩, hlex⟩ := hB
  have hn' : m < l.length := by simpa using hn
  have htl : (l.take m).length = m := by simp; omega
  have hdl : (l.drop m).length = l.toArray.size - m := by simp
  have inv0 : HeadInv .any l.toArray m (Array.replicate l.toArray.size false) :=
    ⟨by simp, fun j oj _ hl => (by rw [getD_replicate_false] at hl; cases hl), fun t _ ht => getD_in (by simpa using ht) (getD_replicate_false _ _)⟩
  have H := wpAnyL_lex (md := .any) (g := l.toArray.size - m) hsel hs hc hn (l.take m) 0 _ a (fun j hj => by
    have hj' : j < m := by rw [htl] at hj; exact hj
    simp [hj']) (by simpa using htl) inv0 (by rw [htl]; exact hlex) h
  refine wpIn_region_any hm ?_
  have := wpAnyIn_of_head (n := n) (Q' := Q) (g := l.toArray.size - m) (fun listed a' hL => by
    have := wpAnyIn_of_seq (n := n) (md := .any) (Q' := Q) (l.drop m) m listed a' w.drew (fun j => by simp [List.getElem?_drop]) (by rw [hdl]; exact hL.1) hL.2
    rwa [hdl] at this) _ _ _ H
  rw [htl, show m + (l.toArray.size - m) = l.toArray.size by omega] at this
  exact this
end
/-- The first k pairs of neighbours of a list. -/
def prU (l : List Int) (k : Nat) : List (Int × Int) := (List.range k).map (fun i => (l[i]?.getD 0, l[i + 1]?.getD 0))
theorem prU_length (l : List Int) (k : Nat) : (prU l k).length = k := by simp [prU]
theorem prU_succ (l : List Int) (k : Nat) : prU l (k + 1) = prU l k ++ [(l[k]?.getD 0, l[k + 1]?.getD 0)] := by simp [prU, List.range_succ]
theorem pwk {K : Int} (h0 : 0 ≤ K) (h1 : K ≤ 5000) : wrap64 K = K := pw64 _ (by omega)
theorem pwk2 {K : Int} (h0 : 0 ≤ K) (h1 : K ≤ 5000) : IntKind.i64.wrap K = K := IntWalk.i64_in (by omega) (by omega)
theorem slf (k n : Nat) (h : k + 1 < n) (hn : n ≤ 2000) : (0 : Int) ≤ (k : Int) ∧ (k : Int) + 1 < (n : Int) ∧ (k : Int) < (n : Int) ∧ (0 : Int) ≤ (k : Int) + 1 ∧ wrap64 (k : Int) = (k : Int) ∧ wrap64 ((k : Int) + 1 - 1) = (k : Int) ∧ IntKind.i64.wrap (k : Int) = (k : Int) ∧ wrap64 ((k : Int) + 1 + 1) = (k : Int) + 1 + 1 := by
  have k0 : (0 : Int) ≤ (k : Int) := Int.natCast_nonneg k
  have k1 : (k : Int) + 1 < (n : Int) := by omega
  have k2 : (n : Int) ≤ 2000 := by omega
  generalize (k : Int) = K at k0 k1
  generalize (n : Int) = M at k1 k2
  have e : K + 1 - 1 = K := by omega
  rw [e]
  exact ⟨k0, k1, by omega, by omega, pwk k0 (by omega), pwk k0 (by omega), pwk2 k0 (by omega), pwk (by omega) (by omega)⟩
theorem grown_drew (W : World) : W.grownBy W.drew none := fgrown_of_below (Below.refl _ _).drew none
set_option maxHeartbeats 1000000 in
set_option maxRecDepth 100000 in
theorem slices1_in (n : Nat) (hn : 1 ≤ n) (m Bs n0 cap : Nat) (A : Option Addr) (l : List Int) (hl : l.length ≤ 2000) (J Jx : List (Int × Int) → World → Prop)
    (hJ : ∀ s W, J s W → J s W.drew)
    (hY : ∀ pre x W, J pre W → pre.length < l.length → x = (l[pre.length]?.getD 0, l[pre.length + 1]?.getD 0) → YieldAt Fence.wide (n - 1) Try.prog m #[.int .i64 x.1, .int .i64 x.2] W fun e W' =>
      (e = .returned (.bool true) ∧ J (pre ++ [x]) W' ∧ KV n0 Bs W W') ∨ (e = .returned (.bool false) ∧ Jx (pre ++ [x]) W'))
    (W : World) (hBs : W.cell? ⟨Bs, 0, none⟩ = some (.slice A l.length cap)) (hT : Ints W A l) (hT0 : ∀ b off, A = some ⟨b, off, none⟩ → 0 < l.length → b < n0) (h0 : J [] W) :
    CallsIn Fence.wide n Try.prog 68 #[.func (.yield m) #[] #[], .pointer (some ⟨Bs, 0, none⟩)] W fun e W' => (∃ v, e = .returned v) ∧
      ((∃ ys, ys = prU l (l.length - 1) ∧ J ys W') ∨ (∃ pre, (∃ k, k ≤ l.length - 1 ∧ pre = prU l k) ∧ Jx pre W')) := by
  have HT := hid hT
  have HT0 := hid hT0
  have LE := hid hl
  have HBS := hid hBs
  clear hT hT0
  refine callsIn_of_wp Try.func68 rfl trivial ?_ rfl
  simp only [Try.ntmps68, List.size_toArray, List.length_cons, List.length_nil, Nat.reduceAdd, Nat.reduceSub, Array.replicate_succ, Array.replicate_zero, List.push_toArray, List.append_toArray, List.nil_append, List.cons_append]
  gi_wp2
  gi_loopw [3] (fun i wr => ∃ k : Nat, k ≤ l.length - 1 ∧ i = .int .i64 ((k : Int) + 1) ∧ J (prU l k) wr ∧ KV n0 Bs W wr)
    (fun i _ => ((l.length : Int) - intOf i).toNat)
  case atStart => exact ⟨0, Nat.zero_le _, by simp, h0, ⟨Below.refl _ _, rfl⟩⟩
  case round =>
    obtain ⟨k, hk, rfl, hJs, hnx⟩ := hrel
    have hbx := (hnx.cell 0).trans hBs
    by_cases hlt : k + 1 < l.length
    · have hT := HT.out
      obtain ⟨b, off, hA, bl, q⟩ := hT (by omega)
      have hb0 := HT0.out b off hA (by omega)
      have q0 := q k (by omega)
      have q1 := q (k + 1) hlt
      obtain ⟨u, hu⟩ : ∃ u, l[k] = u := ⟨_, rfl⟩
      obtain ⟨v, hv⟩ : ∃ v, l[k + 1] = v := ⟨_, rfl⟩
      rw [hu] at q0
      rw [hv] at q1
      have hs := prU_succ l k
      rw [List.getElem?_eq_getElem (show k < l.length by omega), List.getElem?_eq_getElem hlt, hu, hv] at hs
      simp only [Option.getD_some] at hs
      have c0 := (hnx.below.cell (p := ⟨b, off + k, none⟩) hb0).trans q0
      have c1 := (hnx.below.cell (p := ⟨b, off + (k + 1), none⟩) hb0).trans q1
      subst hA
      have HLT := hid hlt
      have XE := hid (show (u, v) = (l[(prU l k).length]?.getD 0, l[(prU l k).length + 1]?.getD 0) by rw [prU_length, List.getElem?_eq_getElem (show k < l.length by omega), List.getElem?_eq_getElem hlt, hu, hv]; rfl)
      have K1 := hid (show k < l.length by omega)
      have HM := hid (show ((l.length : Int) - intOf (.int .i64 ((k : Int) + 1 + 1))).toNat < ((l.length : Int) - intOf (.int .i64 ((k : Int) + 1))).toNat by simp [intOf]; omega)
      have K2 := hid (show k + 1 ≤ l.length - 1 by omega)
      obtain ⟨i0, i1, i2, i3, wk, wk1, wk2, e2⟩ := slf k l.length hlt LE.out
      have EQ := hid (show (k : Int) + 1 + 1 = ((k + 1 : Nat) : Int) + 1 by rw [Int.natCast_add]; rfl)
      obtain ⟨fn, tmps, assign, body, hy, hR⟩ := hY _ (u, v) wr.drew (hJ _ _ hJs) (by rw [prU_length]; exact K1.out) XE.out
      dsimp only at hy
      have hR2 := hR.mono (R' := fun e W' => ∃ B, e = .returned (.bool B) ∧ (B = true → J (prU l k ++ [(u, v)]) W' ∧ KV n0 Bs wr.drew W') ∧ (B = false → Jx (prU l k ++ [(u, v)]) W')) (by
        rintro e W3 (⟨rfl, hJ3, hk3⟩ | ⟨rfl, hJx3⟩)
        · exact ⟨true, rfl, fun _ => ⟨hJ3, hk3⟩, fun h => (by cases h)⟩
        · exact ⟨false, rfl, fun h => (by cases h), fun _ => hJx3⟩)
      rw [← hs] at hR2
      clear q0 q1 q hR hs hu hv
      gi_wp2
      refine wpIn_region_still_tail 10 (by rfl) (by kernel_rfl) ?_
      simp only [List.take_succ_cons, List.take_zero, List.drop_succ_cons, List.drop_zero]
      repeat still_step
      try refine wpStill_nil ?_
      gi_wp2
      refine hR2.mono ?_
      rintro _ W3 ⟨B, rfl, hB1, hB2⟩
      · cases B
        · have hx := hB2 rfl
          gi_wp2
          refine bodyPost_ret (results_none rfl _ _ _) rfl ?_
          exact ⟨⟨_, rfl⟩, .inr ⟨_, ⟨k + 1, K2.out, rfl⟩, hx⟩⟩
        · obtain ⟨hx, hk3⟩ := hB1 rfl
          gi_wp2
          go_roundw
          case rel => exact ⟨k + 1, K2.out, i64_eq (by first | exact EQ.out | (rw [e2]; exact EQ.out)), hx, hnx.trans (KV.trans ⟨(Below.refl _ _).drew, rfl⟩ hk3)⟩
          case measure => first | exact HM.out | (rw [e2]; exact HM.out)
    · obtain rfl : k = l.length - 1 := by omega
      have z : ¬ ((l.length - 1 : Nat) : Int) + 1 < (l.length : Int) := by omega
      gi_wp2
      go_end0
      first | exact ⟨⟨_, rfl⟩, .inl ⟨_, rfl, hJs⟩⟩ | exact ⟨⟨_, rfl⟩, .inl hJs⟩
theorem slices_in (n : Nat) (a : Option Addr) (len cap : Nat) (w : World) :
    CallsIn Fence.wide n Try.prog 49 #[.slice a len cap] w fun e w' => e = .returned (.func (.func 68) #[] #[.pointer (some ⟨w.heap.size, 0, none⟩)]) ∧ w' = w.alloc (.cells #[.slice a len cap] 73) := by
  refine callsIn_of_wp Try.func49 rfl trivial ?_ rfl
  simp only [Try.ntmps49, List.size_toArray, List.length_cons, List.length_nil, Nat.reduceAdd, Nat.reduceSub, Array.replicate_succ, Array.replicate_zero, List.push_toArray, List.append_toArray, List.nil_append, List.cons_append]
  gi_wp2
  go_ret
  exact ⟨rfl, rfl⟩
theorem abides_drew {β : Type} {B : Nat} {J : β → World → Prop} (h : AbidesFrom B J) : ∀ s W, J s W → J s W.drew := fun s W hs => h s W W.drew none hs (grown_drew W) (fun r e => by cases e)
/-- Two diameters. -/
def okB (q : Int × Int) : Prop := (0 ≤ q.1 ∧ q.1 ≤ 3000) ∧ (0 ≤ q.2 ∧ q.2 ≤ 3000)
abbrev BQ := { q : Int × Int // okB q }
def vB (l : List BQ) : List (Int × Int) := l.map (fun q => q.1)
theorem vB_snoc (l : List BQ) (x : BQ) : vB (l ++ [x]) = vB l ++ [x.1] := by simp [vB]
theorem vB_len (l : List BQ) : (vB l).length = l.length := by simp [vB]
theorem vB_ok (l : List BQ) : ∀ p ∈ vB l, okB p := by
  intro p hp
  simp only [vB, List.mem_map] at hp
  obtain ⟨q, -, rfl⟩ := hp
  exact q.2
theorem getD_in {l : List Int} (h : ∀ v ∈ l, 0 ≤ v ∧ v ≤ 3000) (j : Nat) : 0 ≤ l[j]?.getD 0 ∧ l[j]?.getD 0 ≤ 3000 := by
  by_cases c : j < l.length
  · rw [List.getElem?_eq_getElem c]; exact h _ (List.getElem_mem c)
  · rw [List.getElem?_eq_none (by omega)]; simp
theorem slices_stops (n : Nat) (hn : 1 ≤ n) (Bs n0 cap : Nat) (A : Option Addr) (l : List Int) (hl : l.length ≤ 2000) (hb3 : ∀ v ∈ l, 0 ≤ v ∧ v ≤ 3000) (w : World) (hB : Bs < w.heap.size)
    (hc : w.cell? ⟨Bs, 0, none⟩ = some (.slice A l.length cap)) (hT : Ints w A l) (hT0 : ∀ b off, A = some ⟨b, off, none⟩ → 0 < l.length → b < n0) :
    SeqStopsK Fence.wide n Try.prog 68 #[.pointer (some ⟨Bs, 0, none⟩)] (fun x : BQ => #[Value.int .i64 x.1.1, Value.int .i64 x.1.2]) (KV n0 Bs) (fun ys => vB ys = prU l (l.length - 1))
      (fun pre => ∃ k, k ≤ l.length - 1 ∧ vB pre = prU l k) l.length w := fun m J Jx W hW hA hAx hY h0 => by
  refine (slices1_in n hn m Bs n0 cap A l hl (fun s W => ∃ s' : List BQ, vB s' = s ∧ J s' W) (fun s W => ∃ s' : List BQ, vB s' = s ∧ Jx s' W) (fun s W ⟨s', e, h⟩ => ⟨s', e, abides_drew hA _ _ h⟩) ?_ W ((hW.cell (p := ⟨Bs, 0, none⟩) hB).trans hc) (hT.below hW) hT0 ⟨[], rfl, h0⟩).mono ?_
  · rintro pre x W1 ⟨s', e, h⟩ hlt hx
    have ok : okB x := by rw [hx]; exact ⟨getD_in hb3 _, getD_in hb3 _⟩
    obtain ⟨fn, tmps, assign, body, hy, hR⟩ := hY s' ⟨x, ok⟩ W1 h (by rw [← e, vB_len] at hlt; exact hlt)
    refine ⟨fn, tmps, assign, body, hy, hR.mono ?_⟩
    rintro e2 W2 (⟨h1, h2, h3⟩ | ⟨h1, h2⟩)
    · exact .inl ⟨h1, ⟨s' ++ [⟨x, ok⟩], by rw [vB_snoc, e], h2⟩, h3⟩
    · exact .inr ⟨h1, ⟨s' ++ [⟨x, ok⟩], by rw [vB_snoc, e], h2⟩⟩
  · rintro e W' ⟨hv, ⟨ys, rfl, s', e', h⟩ | ⟨pre, ⟨k, hk, rfl⟩, s', e', h⟩⟩
    · exact ⟨hv, .inl ⟨s', e', h⟩⟩
    · exact ⟨hv, .inr ⟨s', ⟨k, hk, e'⟩, h⟩⟩
/-! ### Lists of ints that grow -/
theorem info_int : (Try.prog.info? 3).map (fun i => (i.zero, i.size, i.bytes)) = some (some (.int .i64 0), 1, 8) := by kernel_rfl
def intc (l : List Int) : List Value := l.map (fun x => Value.int .i64 x)
/-- A row of ints that the call owns. -/
def OwnI (w : World) (base : Nat) (v : Value) (l : List Int) : Prop := w.ownsRow base 3 1 v l.length (intc l)
theorem OwnI.nil (w : World) (base : Nat) : OwnI w base (.slice none 0 0) [] := w.ownsRow_nil base 3 1
theorem OwnI.form {w : World} {base : Nat} {v : Value} {l : List Int} (h : OwnI w base v l) : ∃ A cap, v = .slice A l.length cap ∧ l.length ≤ cap ∧ Ints w A l ∧ (∀ b off, A = some ⟨b, off, none⟩ → base ≤ b ∧ b < w.heap.size) := by
  rcases h.2 with ⟨rfl, h0⟩ | ⟨g, cap, cur, rfl, hb, hg, hn, hm, hs, ht⟩
  · have e : l = [] := List.eq_nil_of_length_eq_zero h0
    subst e
    exact ⟨none, 0, rfl, Nat.le_refl _, fun h => absurd h (by simp), fun b off h => by cases h⟩
  · have gl : g < w.heap.size := (Array.getElem?_eq_some_iff.1 hg).1
    refine ⟨some ⟨g, 0, none⟩, cap, rfl, hn, fun _ => ⟨g, 0, rfl, gl, fun j hj => ?_⟩, fun b off e => by
      simp only [Option.some.injEq, Addr.mk.injEq] at e
      obtain ⟨rfl, -⟩ := e
      exact ⟨hb, gl⟩⟩
    have g0 : (intc l)[j]? = some (.int .i64 (l[j])) := by simp [intc, hj]
    have c0 := World.ownsRow.cells h (g := g) rfl _ _ g0
    have e : ∀ k, (⟨g, 0, none⟩ : Addr).add k = ⟨g, 0 + k, none⟩ := fun k => by by_cases k0 : k = 0 <;> simp [Addr.add, k0]
    rw [e] at c0
    exact c0
theorem OwnI.below {w w' : World} {base : Nat} {v : Value} {l : List Int} (h : OwnI w base v l) (hb : Below w.heap.size w w') : OwnI w' base v l :=
  World.ownsRow.kept h (fgrown_of_below hb none) (by cases v.ownBlock <;> simp)
theorem appI_in {n : Nat} {ops : Array Oper} {rest : List Oper} {o : Oper} {a : Act} {Q : Exit → Act → World → Prop} {w : World} (hgd : o.guard = none) (s x : Operand)
    (ho : o.op = .call { callee := .builtin .append, args := #[s, x], argTypes := #[73, 73] })
    (base : Nat) (v : Value) (l : List Int) (hs : a.eval s = v) (hown : OwnI w base v l) (g : Nat) (hx : a.eval x = .slice (some ⟨g, 0, none⟩) 1 1) (p : Int)
    (c0 : w.cell? ⟨g, 0, none⟩ = some (.int .i64 p)) (hlen : Hid (l.length ≤ 4000)) (hbase : base ≤ w.heap.size)
    (h : ∀ v' w', OwnI w' base v' (l ++ [p]) → w.grownBy w' v.ownBlock → wpListIn Fence.wide n Try.prog ops Q rest (a.put o.dst v') w') :
    wpListIn Fence.wide n Try.prog ops Q (o :: rest) a w := by
  obtain ⟨i0, hi, hz0, hz1, hz2⟩ := info_parts info_int
  have hl := hlen.out
  refine wpListIn_append_own w hgd s x 73 ho base 3 i0 (.int .i64 0) 1 8 Try.underlying73 hi hz0 hz1 hz2 rfl (by decide) v l.length (intc l) hs hown ⟨g, 0, none⟩ 1 1 (intc [p]) hx (by simp [intc]) ?_ (fun u hu => by simp [intc] at hu; subst hu; rfl) (by unfold maxLen; omega) (by omega) hbase ?_
  · intro j u hu
    match j with
    | 0 => simp [intc] at hu; subst hu; simpa [Addr.add] using c0
    | j + 1 => simp [intc] at hu
  · intro v' w' h1 h2 _
    refine h v' w' ?_ h2
    unfold OwnI
    have e : intc (l ++ [p]) = intc l ++ intc [p] := by simp [intc]
    rw [e, List.length_append]
    exact h1
theorem ownI_lt {w : World} {base : Nat} {v : Value} {l : List Int} (h : OwnI w base v l) {g : Nat} (hg : v.ownBlock = some g) : base ≤ g ∧ g < w.heap.size := World.ownsRow.lt h g hg
/-! ### The specification of Section -/
namespace Sp
/-- The first error among n values from a on. -/
def fe (g : Int → Int × Int) : Nat → Int → Int
  | 0, _ => 0
  | n + 1, a => if (g a).2 ≠ 0 then (g a).2 else fe g n (a + 1)
/-- n values from a on. -/
def fl (g : Int → Int × Int) (n : Nat) (a : Int) : List Int := (List.range n).map (fun k : Nat => (g (a + (k : Int))).1)
theorem fl_len (g : Int → Int × Int) (n : Nat) (a : Int) : (fl g n a).length = n := by simp [fl]
theorem fl_snoc (g : Int → Int × Int) (n : Nat) (a : Int) : fl g (n + 1) a = fl g n a ++ [(g (a + n)).1] := by simp [fl, List.range_succ]
def loS (l : List (Int × Int)) : Int := (l.map (fun p => min p.1 p.2 * min p.1 p.2)).sum
def hiS (l : List (Int × Int)) : Int := (l.map (fun p => max p.1 p.2 * max p.1 p.2)).sum
theorem loS_snoc (l : List (Int × Int)) (p : Int × Int) : loS (l ++ [p]) = loS l + min p.1 p.2 * min p.1 p.2 := by simp [loS]
theorem hiS_snoc (l : List (Int × Int)) (p : Int × Int) : hiS (l ++ [p]) = hiS l + max p.1 p.2 * max p.1 p.2 := by simp [hiS]
theorem sq_bound {x : Int} (h0 : 0 ≤ x) (h1 : x ≤ 3000) : 0 ≤ x * x ∧ x * x ≤ 9000000 := by
  have a := Int.mul_nonneg h0 h0
  have b : x * x ≤ 3000 * 3000 := Int.mul_le_mul h1 h1 h0 (by omega)
  omega
theorem lohi_bound : ∀ (l : List (Int × Int)), (∀ p ∈ l, (0 ≤ p.1 ∧ p.1 ≤ 3000) ∧ (0 ≤ p.2 ∧ p.2 ≤ 3000)) → (0 ≤ loS l ∧ loS l ≤ 9000000 * l.length) ∧ (0 ≤ hiS l ∧ hiS l ≤ 9000000 * l.length)
  | [], _ => by simp [loS, hiS]
  | p :: l, h => by
    obtain ⟨h1, h2⟩ := lohi_bound l (fun q hq => h q (List.mem_cons_of_mem _ hq))
    obtain ⟨⟨a0, a1⟩, b0, b1⟩ := h p List.mem_cons_self
    have m := sq_bound (x := min p.1 p.2) (by omega) (by omega)
    have M := sq_bound (x := max p.1 p.2) (by omega) (by omega)
    have e1 : loS (p :: l) = min p.1 p.2 * min p.1 p.2 + loS l := by simp [loS]
    have e2 : hiS (p :: l) = max p.1 p.2 * max p.1 p.2 + hiS l := by simp [hiS]
    rw [e1, e2, List.length_cons]
    push_cast
    generalize min p.1 p.2 * min p.1 p.2 = x at m
    generalize max p.1 p.2 * max p.1 p.2 = y at M
    omega
theorem diaM_in (z : Int × Int × Int) : 0 ≤ (diaM z).1 ∧ (diaM z).1 ≤ 3000 := by
  unfold diaM
  split
  · simp
  · simp only; omega
theorem diaS_in (t : List Pd) (d x a : Int) : 0 ≤ (diaS t d x a).1 ∧ (diaS t d x a).1 ≤ 3000 := by
  unfold diaS diaQ
  split
  · simp
  · exact diaM_in _
/-- What Section answers. -/
def secS (h : List Pd) (f : Int) (t : List Pd) (d x a b : Int) : Int × Int × Int :=
  if stemP h f t d x [a, b] ≠ 0 then (0, 0, stemP h f t d x [a, b])
  else if b < a then (0, 0, 9)
  else if fe (diaS t d x) (b - a + 1).toNat a ≠ 0 then (0, 0, fe (diaS t d x) (b - a + 1).toNat a)
  else ((785398 * loS (prU (fl (diaS t d x) (b - a + 1).toNat a) ((b - a + 1).toNat - 1))).tdiv 10000000000, (785399 * hiS (prU (fl (diaS t d x) (b - a + 1).toNat a) ((b - a + 1).toNat - 1)) + 10000000000 - 1).tdiv 10000000000, 0)
end Sp
section
open Go.Shelf
attribute [local go_sem] Oper.semAt_some
theorem VBox.grown {w W W' : World} {A A' : Option Addr} {n cap n' cap' : Nat} {f : Int} (h : VBox w W A n cap f A' n' cap') {r : Option Nat} (hg : W.grownBy W' r) (hr : ∀ k, r = some k → w.heap.size + 2 ≤ k) : VBox w W' A n cap f A' n' cap' := by
  have hz := h.zz
  have bk : ∀ k, k < w.heap.size + 2 → W'.heap[k]? = W.heap[k]? := fun k hk => hg.block k (by omega) (fun e => by have := hr k e.symm; omega)
  have ce : ∀ k o, k < w.heap.size + 2 → W'.cell? ⟨k, o, none⟩ = W.cell? ⟨k, o, none⟩ := fun k o hk => World.cell?_of_block (a := ⟨k, o, none⟩) (bk k hk)
  exact ⟨h.bl.grown hg h.bl.size (fun k e => by have := hr k e; omega), ⟨Nat.lt_of_lt_of_le h.cu.lt hg.size, (ce _ _ (by omega)).trans h.cu.c0, (ce _ _ (by omega)).trans h.cu.c1, (ce _ _ (by omega)).trans h.cu.c2⟩,
    (ce _ _ (by omega)).trans h.z0, (ce _ _ (by omega)).trans h.z1, fun o => (World.frozen?_of_block (a := ⟨w.heap.size + 1, o, none⟩) (bk _ (by simp only; omega))).trans (h.zf o), Nat.lt_of_lt_of_le hz hg.size⟩
/-- What holds at the head of the loop over the places. -/
def SRel (w : World) (B : Nat) (A : Option Addr) (n0 cap : Nat) (f : Int) (A' : Option Addr) (n' cap' : Nat) (g : Int → Int × Int) (a : Int) (n : Nat) (E : Int) (t u : Value) (wr : World) : Prop :=
  ∃ j : Nat, t = .int .i64 (a + j) ∧ j ≤ n ∧ Sp.fe g (n - j) (a + j) = E ∧ OwnI wr B u (Sp.fl g j a) ∧ VBox w wr A n0 cap f A' n' cap' ∧ B ≤ wr.heap.size
/-- The boxes of Section behind its first loop: the curve's, the span's, both sums. -/
structure SI (w : World) (P : Nat) (A : Option Addr) (n cap : Nat) (f : Int) (A' : Option Addr) (n' cap' : Nat) (l h : Int) (W : World) : Prop where
  vb : VBox w W A n cap f A' n' cap'
  l0 : W.cell? ⟨P, 0, none⟩ = some (.int .i64 l)
  lf : ∀ o, W.frozen? ⟨P, o, none⟩ = false
  h0 : W.cell? ⟨P + 1, 0, none⟩ = some (.int .i64 h)
  hf : ∀ o, W.frozen? ⟨P + 1, o, none⟩ = false
  sz : P + 1 < W.heap.size
  lt : w.heap.size + 2 ≤ P
theorem SI.grown {w W W' : World} {P : Nat} {A A' : Option Addr} {n cap n' cap' : Nat} {f l h : Int} (s : SI w P A n cap f A' n' cap' l h W) {row : Option Nat} {B : Nat} (hB : P + 1 < B) (hg : W.grownBy W' row) (hr : ∀ r, row = some r → B ≤ r ∧ ∃ o : Obj, W.heap[r]? = some o ∧ o.isCells = false) : SI w P A n cap f A' n' cap' l h W' := by
  have hr' := fun r e => (hr r e).2
  have h2 := s.lt
  exact ⟨s.vb.grown hg (fun k e => by have := (hr k e).1; omega), cell_kept s.l0 hg hr', frozen_at s.l0 s.lf hg hr', cell_kept s.h0 hg hr', frozen_at s.h0 s.hf hg hr', Nat.lt_of_lt_of_le s.sz hg.size, s.lt⟩
theorem SI.below {w W W' : World} {P : Nat} {A A' : Option Addr} {n cap n' cap' : Nat} {f l h : Int} (s : SI w P A n cap f A' n' cap' l h W) (hb : Below W.heap.size W W') : SI w P A n cap f A' n' cap' l h W' := by
  have z := s.sz
  exact ⟨s.vb.below hb, (hb.cell (p := ⟨P, 0, none⟩) (by simp only; omega)).trans s.l0, fun o => (hb.frozen (p := ⟨P, o, none⟩) (by simp only; omega)).trans (s.lf o), (hb.cell (p := ⟨P + 1, 0, none⟩) (by simp only; omega)).trans s.h0, fun o => (hb.frozen (p := ⟨P + 1, o, none⟩) (by simp only; omega)).trans (s.hf o), Nat.lt_of_lt_of_le z hb.size, s.lt⟩
theorem SI.set {w W : World} {P : Nat} {A A' : Option Addr} {n cap n' cap' : Nat} {f l h : Int} (s : SI w P A n cap f A' n' cap' l h W) (l' h' : Int) : SI w P A n cap f A' n' cap' l' h' ((W.setCell ⟨P, 0, none⟩ (.int .i64 l')).setCell ⟨P + 1, 0, none⟩ (.int .i64 h')) := by
  have z := s.sz
  have h2 := s.lt
  have g1 := s.vb.grown (grownBy_setCell' W P (.int .i64 l')) (fun k e => by cases e; omega)
  have g2 := g1.grown (grownBy_setCell' (W.setCell ⟨P, 0, none⟩ (.int .i64 l')) (P + 1) (.int .i64 h')) (fun k e => by cases e; omega)
  exact ⟨g2, by simp [go_sem, s.l0], fun o => by simp [go_sem, s.lf], by simp [go_sem, s.h0], fun o => by simp [go_sem, s.hf], by simpa using z, h2⟩
/-- The result of Section lies in its box. -/
structure SX (w : World) (lo hi : Int) (W : World) : Prop where
  r0 : W.cell? ⟨w.heap.size + 1, 0, none⟩ = some (.int .i64 lo)
  r1 : W.cell? ⟨w.heap.size + 1, 1, none⟩ = some (.int .i64 hi)
  bw : Below w.heap.size w W
theorem SX.put {w W : World} {lo hi : Int} (h : SX w lo hi W) {D : Nat} {o o' : Obj} (hD : w.heap.size ≤ D) (hK : W.heap[D]? = some o) (hc : o.isCells = false) : SX w lo hi (W.putObj D o') := by
  have hg := grownBy_putObj' W D o'
  have hr : ∀ r, some D = some r → ∃ o : Obj, W.heap[r]? = some o ∧ o.isCells = false := fun r e => by cases e; exact ⟨_, hK, hc⟩
  exact ⟨cell_kept h.r0 hg hr, cell_kept h.r1 hg hr, h.bw.grown hg h.bw.size (fun k e => by cases e; exact hD)⟩
set_option maxRecDepth 100000 in
set_option maxHeartbeats 4000000 in
theorem vsec_main (A A' : Option Addr) (cap cap' : Nat) (h t : List Sp.Pd) (f : Int) (d x a b lo hi e E : Int) (n : Nat) (g : Int → Int × Int) (w : World) (hz : PcSized h) (tz : PcSized t) (hT : Pcs w A h) (tT : Pcs w A' t) (hS : Sp.stemP h f t d x [a, b] = 0) (hab : ¬ b < a) (hn : (b - a + 1).toNat = n) (a0 : 0 ≤ a) (b1 : b ≤ 1000)
    (hE : Sp.fe g n a = E)
    (gi0 : ∀ z, 0 ≤ (g z).1 ∧ (g z).1 ≤ 3000)
    (DA : ∀ z W, 0 ≤ z → z ≤ b → Below w.heap.size w W → ∀ r e, g z = (r, e) → Calls Try.prog 47 #[.agg #[.slice A h.length cap, .int .i64 f, .slice A' t.length cap'], .int .i64 d, .int .i64 x, .int .i64 z] W (Gives (.tuple #[.int .i64 r, .int .i64 e]) W))
    (hv : (if E ≠ 0 then (0, 0, E) else ((785398 * Sp.loS (prU (Sp.fl g n a) (n - 1))).tdiv 10000000000, (785399 * Sp.hiS (prU (Sp.fl g n a) (n - 1)) + 10000000000 - 1).tdiv 10000000000, 0)) = (lo, hi, e)) :
    Calls Try.prog 23 #[.agg #[.slice A h.length cap, .int .i64 f, .slice A' t.length cap'], .int .i64 d, .int .i64 x, .int .i64 a, .int .i64 b] w (Gives (.tuple #[.agg #[.int .i64 lo, .int .i64 hi], .int .i64 e]) w) := by
  have VB : VBox w (((w.alloc (Obj.cells #[.slice A h.length cap, .int .i64 f, .slice A' t.length cap'] 24)).alloc (Obj.cells #[.int .i64 0, .int .i64 0] 32)).alloc (.cells #[.int .i64 a, .int .i64 b] 3)) A h.length cap f A' t.length cap' := (VBox.new w A h.length cap f A' t.length cap').below (balloc _ _)
  have hI : Ints (((w.alloc (Obj.cells #[.slice A h.length cap, .int .i64 f, .slice A' t.length cap'] 24)).alloc (Obj.cells #[.int .i64 0, .int .i64 0] 32)).alloc (.cells #[.int .i64 a, .int .i64 b] 3)) (some ⟨w.heap.size + 1 + 1, 0, none⟩) [a, b] := fun _ => ⟨w.heap.size + 1 + 1, 0, rfl, by simp, fun j hj => by
    match j, hj with
    | 0, _ => simp [go_sem]
    | 1, _ => simp [go_sem]⟩
  have uz : w.heap.size + 2 ≤ (((w.alloc (Obj.cells #[.slice A h.length cap, .int .i64 f, .slice A' t.length cap'] 24)).alloc (Obj.cells #[.int .i64 0, .int .i64 0] 32)).alloc (.cells #[.int .i64 a, .int .i64 b] 3)).heap.size := by simp
  generalize hU : ((w.alloc (Obj.cells #[.slice A h.length cap, .int .i64 f, .slice A' t.length cap'] 24)).alloc (Obj.cells #[.int .i64 0, .int .i64 0] 32)).alloc (.cells #[.int .i64 a, .int .i64 b] 3) = U at VB hI uz
  have CK := hid (callsIn_wide (n := 2).2 (vstemp_any A A' cap cap' h t f d x (some ⟨w.heap.size + 1 + 1, 0, none⟩) 2 [a, b] U hz tz (hT.below VB.bl) (tT.below VB.bl) (by simp) hI))
  rw [hS] at CK
  simp only [List.length_cons, List.length_nil, Nat.zero_add, Nat.reduceAdd] at CK
  have HU := hid hU
  have HV := hid VB
  have HD := hid DA
  have HG := hid gi0
  have HE := hid hE
  have HF := hid hv
  have HN := hid hn
  have A0 := hid a0
  have B1 := hid b1
  have AB := hid hab
  have UZ := hid uz
  have ba : decide (b < a) = false := decide_eq_false hab
  clear hz tz hT tT hU VB hI DA gi0 hE hv hn hS uz
  refine (callsIn_wide (n := 3)).1 ?_
  refine callsIn_of_wp_marks Try.func23 rfl trivial ?_ rfl
  simp only [Try.ntmps23, List.size_toArray, List.length_cons, List.length_nil, Nat.reduceAdd, Nat.reduceSub, Array.replicate_succ, Array.replicate_zero, List.push_toArray, List.append_toArray, List.nil_append, List.cons_append]
  gi_wp2
  rw [HU.out]
  refine ⟨trivial, ?_⟩
  refine CK.out.mono ?_
  rintro _ w5 ⟨rfl, hb⟩
  have V5 := hid (HV.out.below hb)
  have Z5 := hid (Nat.le_trans UZ.out hb.size)
  clear hb
  gi_wp2
  gi_loopw [14, 13] (fun v u wr => SRel w w5.heap.size A h.length cap f A' t.length cap' g a n E v u wr) (fun v u _ => (a + n - intOf v).toNat)
  case atStart => exact ⟨0, by simp, Nat.zero_le _, by simpa using HE.out, OwnI.nil _ _, V5.out, Nat.le_refl _⟩
  case round =>
    obtain ⟨j, rfl, hj, hd, hO, hV, hZ⟩ := hrel
    have HDD := hid hd
    have HVR := hid hV
    have HO := hid hO
    have HZR := hid hZ
    obtain ⟨A1, q1, e1, -, -, -⟩ := hO.form
    subst e1
    have r0 := hV.cu.c0
    have r1 := hV.cu.c1
    have r2 := hV.cu.c2
    have rl := hV.cu.lt
    clear hd hV hO hZ
    by_cases hlt : j < n
    · have hle : a + (j : Int) ≤ b := by have := HN.out; have := AB.out; omega
      obtain ⟨m, hm⟩ : ∃ m, n - j = m + 1 := ⟨n - j - 1, by omega⟩
      have hd := HDD.out
      rw [hm] at hd
      unfold Sp.fe at hd
      have x0 : 0 ≤ a + (j : Int) := by have := A0.out; omega
      obtain ⟨z, hz⟩ : ∃ z, a + (j : Int) = z := ⟨_, rfl⟩
      have sn := Sp.fl_snoc g j a
      rw [hz] at hd x0 hle sn
      obtain ⟨⟨r, y⟩, hr⟩ : ∃ q, g z = q := ⟨_, rfl⟩
      have DZ := hid (fun (W : World) (hb : Below w.heap.size w W) => callsIn_wide (n := 2).2 (HD.out z W x0 hle hb r y hr))
      rw [hr] at hd sn
      simp only at hd sn
      have SN := hid sn
      have zb : z ≤ 1000 := by have := B1.out; omega
      have ej : wrap64 (z + 1) = z + 1 := pwk (by omega) (by omega)
      have HX := hid hz
      have HM := hid hm
      have ll : Hid ((Sp.fl g j a).length ≤ 4000) := hid (by rw [Sp.fl_len]; have := HN.out; have := B1.out; have := A0.out; omega)
      have JN := hid hlt
      have hle2 : decide (z ≤ b) = true := decide_eq_true hle
      clear hr hm hz sn hlt
      rw [HX.out]
      by_cases c : y = 0
      · subst c
        have hd2 : Sp.fe g m (z + 1) = E := by simpa using hd
        have HFE := hid hd2
        clear hd hd2
        gi_wp2_with (first
          | (refine ⟨trivial, ?_⟩; gi_at_call 47; refine (DZ.out _ HVR.out.bl).mono ?_; rintro _ w6 ⟨rfl, hb⟩; have HV6 := hid (HVR.out.below hb); have HB6 := hid hb; have gb6 : w5.heap.size ≤ (w6.alloc (.cells #[.int .i64 r] 3)).heap.size := (by have h1 := HZR.out; have h2 := hb.size; simp; omega); clear hb)
          | (gi_at_builtin; refine appI_in rfl _ _ rfl w5.heap.size _ (Sp.fl g j a) rfl ((HO.out.below HB6.out).below (balloc _ _)) w6.heap.size rfl r (by simp [go_sem]) ll gb6 ?_; intro v8 w8 how hgr))
        have HOW := hid how
        have GR := hid hgr
        have OL := hid (fun g h => ownI_lt HO.out (g := g) h)
        clear how hgr
        go_roundw
        case rel =>
          have gz := GR.out.size
          refine ⟨j + 1, i64_eq (by have := HX.out; push_cast; omega), by have := JN.out; omega, ?_, ?_, ?_, Nat.le_trans gb6 gz⟩
          · have h1 := HFE.out
            have e1 : n - (j + 1) = m := by have := HM.out; omega
            have e2 : a + ((j + 1 : Nat) : Int) = z + 1 := by have := HX.out; omega
            rw [e1, e2]; exact h1
          · rw [SN.out]; exact HOW.out
          · exact (HV6.out.below (balloc _ _)).grown GR.out (fun k e => by
              have h1 := OL.out k e
              have := Z5.out
              omega)
        case measure =>
          have h1 := vmeas n j a A0.out JN.out
          rw [HX.out] at h1
          first | exact h1 | (rw [ej]; exact h1)
      · rw [if_pos c] at hd
        subst hd
        have hn : (y == 0) = false := by simpa using c
        have hf := HF.out
        rw [if_pos c] at hf
        obtain ⟨rfl, hf2⟩ := Prod.mk.inj hf
        obtain ⟨rfl, rfl⟩ := Prod.mk.inj hf2
        clear hf hf2 HF HE HDD
        gi_wp2_with (refine ⟨trivial, ?_⟩; gi_at_call 47; refine (DZ.out _ HVR.out.bl).mono ?_; rintro _ w6 ⟨rfl, hb⟩; have HV6 := hid (HVR.out.below hb); have s0 := HV6.out.z0; have s1 := HV6.out.z1; have sf := HV6.out.zf; have sz := HV6.out.zz; clear hb)
        refine ⟨.tuple #[.agg #[.int .i64 0, .int .i64 0], .int .i64 y], by simp [results, Try.results23, go_sem, s0, s1, sf, sz], Gives.mk rfl (by have hB := HV6.out.bl; repeat' (first | (with_reducible exact Below.refl _ _) | (with_reducible refine Below.alloc ?_ ?_ _) | (with_reducible refine Below.setCell ?_ ?_ _) | (with_reducible refine Below.drew ?_) | (with_reducible refine Below.trans ?_ (Below.mono (by assumption) ?_)) | (simp; done) | (simp; omega) | omega))⟩
    · have i1 : ¬ a + (j : Int) ≤ b := by have := HN.out; have := AB.out; omega
      obtain rfl : j = n := by omega
      have hd := HDD.out
      have e0 : j - j = 0 := Nat.sub_self j
      rw [e0] at hd
      have z0 : 0 = E := hd
      have hle2 : decide (a + (j : Int) ≤ b) = false := decide_eq_false i1
      subst z0
      clear hd
      gi_wp2_with (refine ⟨trivial, ?_⟩; gi_at_call 49; refine (slices_in _ _ _ _ _).mono ?_; rintro e w' ⟨rfl, rfl⟩)
      obtain ⟨A3, q3, e3, -, F3, G3⟩ := HO.out.form
      injection e3 with g1 g2 g3
      subst g1 g3
      have F4 := hid F3
      have G4 := hid G3
      clear g2 F3 G3
      obtain ⟨W0, hW0⟩ : ∃ W0, (((wr.alloc (.cells #[.int .i64 0] 3)).alloc (.cells #[.int .i64 0] 3)).alloc (.cells #[.slice A1 (Sp.fl g j a).length q1] 73)) = W0 := ⟨_, rfl⟩
      have zW : W0.heap.size = wr.heap.size + 3 := by rw [← hW0]; simp
      have kW : Below wr.heap.size wr W0 := by rw [← hW0]; exact (((Below.refl _ _).alloc (Nat.le_refl _) _).alloc (by simp) _).alloc (by simp; omega) _
      have bs : W0.cell? ⟨wr.heap.size + 2, 0, none⟩ = some (.slice A1 (Sp.fl g j a).length q1) := by rw [← hW0]; simp [go_sem]
      have I0 : SI w wr.heap.size A h.length cap f A' t.length cap' 0 0 W0 :=
        ⟨HVR.out.below kW, by rw [← hW0]; simp [go_sem], fun o => by rw [← hW0]; simp [go_sem], by rw [← hW0]; simp [go_sem], fun o => by rw [← hW0]; simp [go_sem], by omega, Nat.le_trans Z5.out HZR.out⟩
      have bl3 : ∀ v ∈ Sp.fl g j a, 0 ≤ v ∧ v ≤ 3000 := by
        intro v hv
        simp only [Sp.fl, List.mem_map] at hv
        obtain ⟨k, -, rfl⟩ := hv
        exact HG.out _
      have ll : (Sp.fl g j a).length ≤ 1001 := by rw [Sp.fl_len]; have := HN.out; have := B1.out; have := A0.out; omega
      have I3 := F4.out.below kW
      have HF3 := hid HF.out
      rw [hW0]
      clear hW0 kW r0 r1 r2 rl
      refine wpIn_rangeFunc_ownH rfl (by omega) (gf := 68) (lb := #[.pointer (some ⟨wr.heap.size + 2, 0, none⟩)]) rfl trivial (enters_of Try.func68 (by kernel_rfl) rfl)
        (slices_stops _ (by omega) (wr.heap.size + 2) wr.heap.size q1 A1 (Sp.fl g j a) (by omega) bl3 W0 (by omega) bs I3 (fun b off hA h0 => (G4.out b off hA).2))
        (fun h k => KV.trans h k) (KV.put (by omega) (by omega)) (Below.refl _ _) (fun _ => rfl)
        (fun (pre : List BQ) W => SI w wr.heap.size A h.length cap f A' t.length cap' (Sp.loS (vB pre)) (Sp.hiS (vB pre)) W)
        (fun cd pre W => False)
        (fun s X Y row hs hg hr => hs.grown (by omega) hg hr)
        (fun cd s X Y row hs hg hr => hs.elim)
        I0
        (fun z a' W => a' = { tmps := #[Value.agg #[Value.slice A h.length cap, Value.int IntKind.i64 f, Value.slice A' t.length cap'], Value.int IntKind.i64 d, Value.int IntKind.i64 x, Value.int IntKind.i64 a, Value.int IntKind.i64 b, Value.pointer (some { block := w.heap.size, off := 0 }), undef, undef, undef, undef, Value.pointer (some { block := w.heap.size + 1, off := 0 }), u11, Value.int IntKind.i64 0, Value.slice A1 (Sp.fl g j a).length q1, Value.int IntKind.i64 (a + ↑j), u15, u16, Value.pointer (some { block := wr.heap.size, off := 0 }), Value.pointer (some { block := wr.heap.size + 1, off := 0 }), Value.int IntKind.i64 z.1.1, Value.int IntKind.i64 z.1.2, undef, undef, Value.agg #[Value.slice A h.length cap, Value.int IntKind.i64 f, Value.slice A' t.length cap'], Value.int IntKind.i64 d, Value.int IntKind.i64 x, Value.int IntKind.i64 a, Value.int IntKind.i64 b, Value.slice (some { block := w.heap.size + 1 + 1, off := 0 }) 2 2, Value.int IntKind.i64 0, Value.int IntKind.i64 0, Value.bool false, undef, undef, Value.int IntKind.i64 a, Value.int IntKind.i64 b, Value.bool false, undef, Value.int IntKind.i64 a, Value.int IntKind.i64 (a + ↑j), Value.int IntKind.i64 b, Value.bool false, u42, u43, u44, u45, u46, u47, u48, u49, u50, u51, u52, u53, u54, u55, u56, u57, u58, u59, Value.slice A1 (Sp.fl g j a).length q1, Value.func (Fn.func 68) #[] #[Value.pointer (some { block := wr.heap.size + 1 + 1, off := 0 })], Value.int IntKind.i64 z.1.1, Value.int IntKind.i64 z.1.2, undef, undef, undef, undef, undef, undef, undef, undef, undef, undef, undef, undef, undef, undef, undef, undef, undef, undef, undef], defers := [] })
        (fun z a' _ X Y row hs hg hr => hs) ?assign ?body ?done ?stop
      case assign =>
        rintro l pre z W K hI hK
        gi_wp2
        exact hK _ _ (keeps_below (Below.refl _ _)) ⟨Below.refl _ _, rfl⟩ hI rfl
      case body =>
        rintro l pre ⟨⟨z1, z2⟩, hz⟩ a' W hl0 ⟨r, hr⟩ hI rfl hlt
        clear hr
        have hz2 : (0 ≤ z1 ∧ z1 ≤ 3000) ∧ (0 ≤ z2 ∧ z2 ≤ 3000) := hz
        obtain ⟨⟨y0, y1⟩, x0, x1⟩ := hz2
        have HI := hid hI
        obtain ⟨⟨p0, p1⟩, q0, q1'⟩ := Sp.lohi_bound (vB pre) (vB_ok pre)
        rw [vB_len] at p1 q1'
        have HB1 := hid (show vB (pre ++ [⟨(z1, z2), hz⟩]) = vB pre ++ [(z1, z2)] from vB_snoc _ _)
        have pl : (pre.length : Int) ≤ 1000 := by omega
        obtain ⟨L, hL⟩ : ∃ L, Sp.loS (vB pre) = L := ⟨_, rfl⟩
        obtain ⟨H, hH⟩ : ∃ H, Sp.hiS (vB pre) = H := ⟨_, rfl⟩
        obtain ⟨mn, hm⟩ : ∃ m, min z1 z2 = m := ⟨_, rfl⟩
        obtain ⟨mx, hx⟩ : ∃ m, max z1 z2 = m := ⟨_, rfl⟩
        obtain ⟨S, hS⟩ : ∃ S, mn * mn = S := ⟨_, rfl⟩
        obtain ⟨T, hT⟩ : ∃ T, mx * mx = T := ⟨_, rfl⟩
        have sb := Sp.sq_bound (x := mn) (by omega) (by omega)
        have tb := Sp.sq_bound (x := mx) (by omega) (by omega)
        rw [hS] at sb
        rw [hT] at tb
        have HLO := hid (show Sp.loS (vB (pre ++ [⟨(z1, z2), hz⟩])) = L + S by rw [HB1.out, Sp.loS_snoc, hL]; simp only [hm, hS])
        have HHI := hid (show Sp.hiS (vB (pre ++ [⟨(z1, z2), hz⟩])) = H + T by rw [HB1.out, Sp.hiS_snoc, hH]; simp only [hx, hT])
        rw [hL] at p0 p1 hI
        rw [hH] at q0 q1' hI
        have wS : wrap64 S = S := pw64 _ (by omega)
        have wT : wrap64 T = T := pw64 _ (by omega)
        have wL : wrap64 (L + S) = L + S := pw64 _ (by omega)
        have wH : wrap64 (H + T) = H + T := pw64 _ (by omega)
        have c0 := hI.l0
        have c1 := hI.lf
        have c2 := hI.h0
        have c3 := hI.hf
        have c4 := hI.sz
        have HI2 := hid hI
        have ZW := hid zW
        clear hI HI p0 p1 q0 q1' sb tb hL hH pl HB1 zW
        gi_wp2
        refine ⟨((KeepsOthers.setCell _ _ _).trans (KeepsOthers.setCell _ _ _)).from _, KV.set (KV.set ⟨Below.refl _ _, rfl⟩ (by omega) (by omega) _) (by omega) (by omega) _, ?_⟩
        show SI w wr.heap.size A h.length cap f A' t.length cap' (Sp.loS (vB (pre ++ [⟨(z1, z2), hz⟩]))) (Sp.hiS (vB (pre ++ [⟨(z1, z2), hz⟩]))) _
        rw [HLO.out, HHI.out]
        exact HI2.out.set _ _
      case done =>
        rintro D xs W hD hxs hI hK
        have HI := hid hI
        obtain ⟨⟨p0, p1⟩, q0, q1'⟩ := Sp.lohi_bound (vB xs) (vB_ok xs)
        rw [vB_len] at p1 q1'
        have xl : (xs.length : Int) ≤ 1001 := by
          have e1 := congrArg List.length hxs
          rw [vB_len, prU_length] at e1
          omega
        have hF := HF3.out
        rw [if_neg (fun z => z rfl), ← Sp.fl_len g j a] at hF
        rw [Sp.fl_len g j a] at hF hxs
        rw [← hxs] at hF
        generalize Sp.loS (vB xs) = L at hI p0 p1 hF HI
        generalize Sp.hiS (vB xs) = H at hI q0 q1' hF HI
        obtain ⟨hF1, hF4⟩ := Prod.mk.inj hF
        obtain ⟨hF2, hF5⟩ := Prod.mk.inj hF4
        subst hF5
        clear hF4
        have EN := hid (fun W => callsIn_wide (n := 2).2 (venc_any L H 10000000000 p0 (by omega) q0 (by omega) (by omega) (by omega) W))
        rw [hF1, hF2] at EN
        have c0 := hI.l0
        have c2 := hI.h0
        have HD := hid (show w.heap.size ≤ D by have := hI.lt; omega)
        have HKK := hid hK
        clear hI hD hF hF1 hF2 HF3 HF p0 p1 q0 q1' xl hxs hK zW bs bl3
        gi_wp2_with (refine ⟨trivial, ?_⟩; gi_at_call 40; refine (EN.out _).mono ?_; rintro _ w9 ⟨rfl, hb⟩; have HB9 := hid hb; have V9 := HI.out.vb.below hb; have s0 := V9.z0; have s1 := V9.z1; have sf := V9.zf; have sz := V9.zz; have bl9 := hid V9.bl; clear hb V9)
        have hK2 := ((keeps_below (B := 0) HB9.out).trans (((KeepsOthers.setCell w9 ⟨w.heap.size + 1, 0, none⟩ (.int .i64 lo)).trans (KeepsOthers.setCell _ ⟨w.heap.size + 1, 1, none⟩ (.int .i64 hi))).from _)).same D _ (Nat.zero_le _) HKK.out rfl
        have X1 : SX w lo hi ((w9.setCell ⟨w.heap.size + 1, 0, none⟩ (.int .i64 lo)).setCell ⟨w.heap.size + 1, 1, none⟩ (.int .i64 hi)) :=
          ⟨by simp [go_sem, s0, s1], by simp [go_sem, s0, s1], (bl9.out.setCell (p := ⟨w.heap.size + 1, 0, none⟩) (by simp only; omega) _).setCell (p := ⟨w.heap.size + 1, 1, none⟩) (by simp only; omega) _⟩
        have X2 := X1.put (o' := .deferred none) HD.out hK2 rfl
        refine ⟨by simp, .inl ⟨_, _, rfl, run_takeDeferred hK2, ?_⟩⟩
        have r0 := X2.r0
        have r1 := X2.r1
        exact ⟨.tuple #[.agg #[.int .i64 lo, .int .i64 hi], .int .i64 0], by simp [results, Try.results23, go_sem, r0, r1], Gives.mk rfl X2.bw⟩
      case stop =>
        rintro D cd pre W hD hk h hK
        exact h.elim
end
theorem vsec_bad (A A' : Option Addr) (cap cap' : Nat) (h t : List Sp.Pd) (f : Int) (d x a b e : Int) (w : World) (hz : PcSized h) (tz : PcSized t) (hT : Pcs w A h) (tT : Pcs w A' t) (he : (Sp.stemP h f t d x [a, b] ≠ 0 ∧ e = Sp.stemP h f t d x [a, b]) ∨ (Sp.stemP h f t d x [a, b] = 0 ∧ b < a ∧ e = 9)) :
    Calls Try.prog 23 #[.agg #[.slice A h.length cap, .int .i64 f, .slice A' t.length cap'], .int .i64 d, .int .i64 x, .int .i64 a, .int .i64 b] w (Gives (.tuple #[.agg #[.int .i64 0, .int .i64 0], .int .i64 e]) w) := by
  have VB : VBox w (((w.alloc (Obj.cells #[.slice A h.length cap, .int .i64 f, .slice A' t.length cap'] 24)).alloc (Obj.cells #[.int .i64 0, .int .i64 0] 32)).alloc (.cells #[.int .i64 a, .int .i64 b] 3)) A h.length cap f A' t.length cap' := (VBox.new w A h.length cap f A' t.length cap').below (balloc _ _)
  have hI : Ints (((w.alloc (Obj.cells #[.slice A h.length cap, .int .i64 f, .slice A' t.length cap'] 24)).alloc (Obj.cells #[.int .i64 0, .int .i64 0] 32)).alloc (.cells #[.int .i64 a, .int .i64 b] 3)) (some ⟨w.heap.size + 1 + 1, 0, none⟩) [a, b] := fun _ => ⟨w.heap.size + 1 + 1, 0, rfl, by simp, fun j hj => by
    match j, hj with
    | 0, _ => simp [go_sem]
    | 1, _ => simp [go_sem]⟩
  generalize hU : ((w.alloc (Obj.cells #[.slice A h.length cap, .int .i64 f, .slice A' t.length cap'] 24)).alloc (Obj.cells #[.int .i64 0, .int .i64 0] 32)).alloc (.cells #[.int .i64 a, .int .i64 b] 3) = U at VB hI
  have CK := hid (vstemp_any A A' cap cap' h t f d x (some ⟨w.heap.size + 1 + 1, 0, none⟩) 2 [a, b] U hz tz (hT.below VB.bl) (tT.below VB.bl) (by simp) hI)
  simp only [List.length_cons, List.length_nil, Nat.zero_add, Nat.reduceAdd] at CK
  generalize Sp.stemP h f t d x [a, b] = E at CK he
  have HU := hid hU
  have HV := hid VB
  clear hz tz hT tT hU VB hI
  go_enter Try.func23, Try.ntmps23
  go_upto_region 1 with fail
  go_wp2_with fail
  rw [HU.out]
  refine CK.out.mono ?_
  rintro _ w5 ⟨rfl, hb⟩
  have V5 := hid (HV.out.below hb)
  have z0 := V5.out.z0
  have z1 := V5.out.z1
  have zf := V5.out.zf
  have zz := V5.out.zz
  clear hb
  rcases he with ⟨h1, rfl⟩ | ⟨rfl, h2, rfl⟩
  · have hn : (e == 0) = false := by simpa using h1
    go_wp2_with fail
    refine bodyPost_ret (v := .tuple #[.agg #[.int .i64 0, .int .i64 0], .int .i64 e]) (by simp [results, Try.results23, go_sem, z0, z1, zf, zz]) rfl ?_
    exact Gives.mk rfl (by have hB := V5.out.bl; repeat' (first | (with_reducible exact Below.refl _ _) | (with_reducible refine Below.alloc ?_ ?_ _) | (with_reducible refine Below.setCell ?_ ?_ _) | (with_reducible refine Below.drew ?_) | (with_reducible refine Below.trans ?_ (Below.mono (by assumption) ?_)) | (simp; done) | (simp; omega) | omega))
  · have hd : decide (b < a) = true := decide_eq_true h2
    go_wp2_with fail
    refine bodyPost_ret (v := .tuple #[.agg #[.int .i64 0, .int .i64 0], .int .i64 9]) (by simp [results, Try.results23, go_sem, z0, z1, zf, zz]) rfl ?_
    exact Gives.mk rfl (by have hB := V5.out.bl; repeat' (first | (with_reducible exact Below.refl _ _) | (with_reducible refine Below.alloc ?_ ?_ _) | (with_reducible refine Below.setCell ?_ ?_ _) | (with_reducible refine Below.drew ?_) | (with_reducible refine Below.trans ?_ (Below.mono (by assumption) ?_)) | (simp; done) | (simp; omega) | omega))
theorem vsec_any (A A' : Option Addr) (cap cap' : Nat) (h t : List Sp.Pd) (f : Int) (d x a b lo hi e : Int) (w : World) (hz : PcSized h) (tz : PcSized t) (hT : Pcs w A h) (tT : Pcs w A' t) (hv : Sp.secS h f t d x a b = (lo, hi, e)) :
    Calls Try.prog 23 #[.agg #[.slice A h.length cap, .int .i64 f, .slice A' t.length cap'], .int .i64 d, .int .i64 x, .int .i64 a, .int .i64 b] w (Gives (.tuple #[.agg #[.int .i64 lo, .int .i64 hi], .int .i64 e]) w) := by
  unfold Sp.secS at hv
  by_cases c1 : Sp.stemP h f t d x [a, b] = 0
  · rw [if_neg (fun k => k c1)] at hv
    by_cases c2 : b < a
    · rw [if_pos c2] at hv
      obtain ⟨rfl, hv2⟩ := Prod.mk.inj hv
      obtain ⟨rfl, rfl⟩ := Prod.mk.inj hv2
      exact vsec_bad A A' cap cap' h t f d x a b _ w hz tz hT tT (.inr ⟨c1, c2, rfl⟩)
    · rw [if_neg c2] at hv
      obtain ⟨k1, k2⟩ := Sp.stemP_zero c1
      obtain ⟨-, z1, z2, z3, z4⟩ := Sp.stemE_zero k1
      obtain ⟨z5, z6, k3⟩ := Sp.plE_cons k2
      obtain ⟨z7, z8, -⟩ := Sp.plE_cons k3
      exact vsec_main A A' cap cap' h t f d x a b lo hi e _ _ (Sp.diaS t d x) w hz tz hT tT c1 c2 rfl z5 (by omega) rfl (Sp.diaS_in t d x)
        (fun z W h0 h1 hb r e he => vdia_any A A' cap cap' h t f d x z r e W tz (tT.below hb) z1 z2 z3 z4 h0 (by omega) he) hv
  · rw [if_pos c1] at hv
    obtain ⟨rfl, hv2⟩ := Prod.mk.inj hv
    obtain ⟨rfl, rfl⟩ := Prod.mk.inj hv2
    exact vsec_bad A A' cap cap' h t f d x a b _ w hz tz hT tT (.inl ⟨c1, rfl⟩)
/-- The law's line. -/
def lnL (A : Option Addr) (up a n d : Int) : List Sp.Pd := [⟨0, up, A, 2, [(a, 1), (n, d)]⟩]
/-- The law's line in memory: one piece at g, its two coefficients at k. -/
structure LnAt (w : World) (g k : Nat) (up a n d : Int) : Prop where
  g0 : w.cell? ⟨g, 0, none⟩ = some (.int .i64 0)
  g1 : w.cell? ⟨g, 1, none⟩ = some (.int .i64 up)
  g2 : w.cell? ⟨g, 2, none⟩ = some (.slice (some ⟨k, 0, none⟩) 2 2)
  gl : g < w.heap.size
  k0 : w.cell? ⟨k, 0, none⟩ = some (.int .i64 a)
  k1 : w.cell? ⟨k, 1, none⟩ = some (.int .i64 1)
  k2 : w.cell? ⟨k, 2, none⟩ = some (.int .i64 n)
  k3 : w.cell? ⟨k, 3, none⟩ = some (.int .i64 d)
  kl : k < w.heap.size
theorem LnAt.same {w w' : World} {g k : Nat} {up a n d : Int} (h : LnAt w g k up a n d) (hs : w.heap.size ≤ w'.heap.size) (hg : w'.heap[g]? = w.heap[g]?) (hk : w'.heap[k]? = w.heap[k]?) : LnAt w' g k up a n d := by
  have cg : ∀ o, w'.cell? ⟨g, o, none⟩ = w.cell? ⟨g, o, none⟩ := fun o => World.cell?_of_block (a := ⟨g, o, none⟩) hg
  have ck : ∀ o, w'.cell? ⟨k, o, none⟩ = w.cell? ⟨k, o, none⟩ := fun o => World.cell?_of_block (a := ⟨k, o, none⟩) hk
  exact ⟨(cg _).trans h.g0, (cg _).trans h.g1, (cg _).trans h.g2, Nat.lt_of_lt_of_le h.gl hs, (ck _).trans h.k0, (ck _).trans h.k1, (ck _).trans h.k2, (ck _).trans h.k3, Nat.lt_of_lt_of_le h.kl hs⟩
theorem LnAt.below {w w' : World} {g k : Nat} {up a n d : Int} (h : LnAt w g k up a n d) (hb : Below w.heap.size w w') : LnAt w' g k up a n d := h.same hb.size (hb.block g h.gl) (hb.block k h.kl)
theorem LnAt.pcs {w : World} {g k : Nat} {up a n d : Int} (h : LnAt w g k up a n d) : Pcs w (some ⟨g, 0, none⟩) (lnL (some ⟨k, 0, none⟩) up a n d) := by
  refine ⟨fun _ => ⟨_, 0, rfl, h.gl, fun j hj => ?_⟩, fun p hp => ?_⟩
  · match j, hj with
    | 0, _ => exact ⟨h.g0, h.g1, h.g2⟩
    | j + 1, hj => simp [lnL] at hj
  · simp [lnL] at hp
    subst hp
    exact frs_two h.kl h.k0 h.k1 h.k2 h.k3
def LnPost (w : World) (up a n d : Int) (e : Ending) (w' : World) : Prop :=
  Below w.heap.size w w' ∧ ∃ g k : Nat, w.heap.size ≤ g ∧ w.heap.size ≤ k ∧ e = .returned (.slice (some ⟨g, 0, none⟩) 1 1) ∧ LnAt w' g k up a n d
set_option maxRecDepth 100000 in
theorem vline_any (up a n d : Int) (w : World) : Calls Try.prog 28 #[.int .i64 up, .int .i64 a, .int .i64 n, .int .i64 d] w (LnPost w up a n d) := by
  go_enter Try.func28, Try.ntmps28
  go_wp2_with fail
  go_ret
  exact ⟨by repeat' (first | (with_reducible exact Below.refl _ _) | (with_reducible refine Below.alloc ?_ ?_ _) | (with_reducible refine Below.setCell ?_ ?_ _) | (with_reducible refine Below.drew ?_) | (with_reducible refine Below.trans ?_ (Below.mono (by assumption) ?_)) | (simp; done) | (simp; omega) | omega), w.heap.size + 1, w.heap.size, by omega, by omega, rfl, ⟨by simp [go_sem], by simp [go_sem], by simp [go_sem], by simp, by simp [go_sem], by simp [go_sem], by simp [go_sem], by simp [go_sem], (by simp; omega)⟩⟩
theorem ln_sized (A : Option Addr) (up a n d : Int) (t0 : -1000000 ≤ up ∧ up ≤ 1000000) (a0 : -1000000 ≤ a ∧ a ≤ 1000000) (n0 : -1000000 ≤ n ∧ n ≤ 1000000) (d0 : -1000000 ≤ d ∧ d ≤ 1000000) : PcSized (lnL A up a n d) := by
  refine ⟨by simp [lnL], fun p hp => ?_⟩
  simp [lnL] at hp
  subst hp
  refine ⟨by simp only; omega, by simp only; omega, by simp, fun q hq => ?_⟩
  simp at hq
  rcases hq with rfl | rfl <;> (simp only; omega)
def VxPost (w : World) (e : Ending) (w' : World) : Prop :=
  Below w.heap.size w w' ∧ ∃ g1 k1 g2 k2 : Nat, e = .returned (.agg #[.slice (some ⟨g1, 0, none⟩) 1 1, .int .i64 500, .slice (some ⟨g2, 0, none⟩) 1 1]) ∧ LnAt w' g1 k1 1000 13 1 2 ∧ LnAt w' g2 k2 1000 1000 (-1) 1
set_option maxRecDepth 100000 in
theorem vexample_any (w : World) : Calls Try.prog 30 #[] w (VxPost w) := by
  have z : Below w.heap.size w (w.alloc (.cells #[.slice none 0 0, .int .i64 0, .slice none 0 0] 24)) := balloc _ _
  have VB := curAt_new w none none 0 0 0 0 0
  have zf : ∀ o, (w.alloc (.cells #[.slice none 0 0, .int .i64 0, .slice none 0 0] 24)).frozen? ⟨w.heap.size, o, none⟩ = false := fun o => by simp [go_sem]
  generalize hU : w.alloc (.cells #[.slice none 0 0, .int .i64 0, .slice none 0 0] 24) = U at z VB zf
  have HU := hid hU
  have HZ := hid z
  have HV := hid VB
  have HF := hid zf
  clear hU z VB zf
  go_enter Try.func30, Try.ntmps30
  go_upto_region 1 with fail
  rw [HU.out]
  go_wp2_with (first
    | (go_at_call 28; (with_reducible refine (vline_any 1000 13 1 2 _).mono ?_); rintro _ w5 ⟨hb5, g1, l1, G1, L1, rfl, F1⟩; have B5 := hid hb5; have H1 := hid F1; clear hb5 F1)
    | (go_at_call 28; (with_reducible refine (vline_any 1000 1000 (-1) 1 _).mono ?_); rintro _ w6 ⟨hb6, g2, l2, G2, L2, rfl, F2⟩; have B6 := hid hb6; have H2 := hid F2; have V6 := HV.out.below (bthen B5.out hb6); have v0 := V6.c0; have v1 := V6.c1; have v2 := V6.c2; have vl := V6.lt; have vf : ∀ o, w6.frozen? ⟨w.heap.size, o, none⟩ = false := fun o => ((bthen B5.out hb6).frozen (p := ⟨w.heap.size, o, none⟩) HV.out.lt).trans (HF.out o); clear hb6 F2 V6))
  refine bodyPost_ret (v := .agg #[.slice (some ⟨g1, 0, none⟩) 1 1, .int .i64 500, .slice (some ⟨g2, 0, none⟩) 1 1]) (by simp [results, Try.results30, go_sem, v0, v1, v2, vf, vl]) rfl ?_
  have b6 := bthen HZ.out (bthen B5.out B6.out)
  have us := HV.out.lt
  have s5 := B5.out.size
  have ge : ∀ (X : World) (k o : Nat) (v : Value), k ≠ w.heap.size → (X.setCell ⟨w.heap.size, o, none⟩ v).heap[k]? = X.heap[k]? := fun X k o v hk => Below.heap_setCell _ _ _ k hk
  refine ⟨((b6.setCell (p := ⟨w.heap.size, 0, none⟩) (Nat.le_refl _) _).setCell (p := ⟨w.heap.size, 1, none⟩) (Nat.le_refl _) _).setCell (p := ⟨w.heap.size, 2, none⟩) (Nat.le_refl _) _, g1, l1, g2, l2, rfl, ?_, ?_⟩
  · exact (H1.out.below B6.out).same (by simp) (by rw [ge _ _ _ _ (by omega), ge _ _ _ _ (by omega), ge _ _ _ _ (by omega)]) (by rw [ge _ _ _ _ (by omega), ge _ _ _ _ (by omega), ge _ _ _ _ (by omega)])
  · exact H2.out.same (by simp) (by rw [ge _ _ _ _ (by omega), ge _ _ _ _ (by omega), ge _ _ _ _ (by omega)]) (by rw [ge _ _ _ _ (by omega), ge _ _ _ _ (by omega), ge _ _ _ _ (by omega)])
theorem ln_one (A : Option Addr) (up a n d : Int) : (lnL A up a n d).length = 1 := rfl
theorem vx_h (A1 A2 : Option Addr) : Sp.heiS (lnL A1 1000 13 1 2) 500 (lnL A2 1000 1000 (-1) 1) 200 = (113, 0) := by kernel_rfl
theorem vx_v (A1 A2 : Option Addr) : Sp.volE (lnL A1 1000 13 1 2) 500 (lnL A2 1000 1000 (-1) 1) 200 100 = (157, 158, 0) := by kernel_rfl
theorem vx_d (A1 A2 : Option Addr) : Sp.diamS (lnL A1 1000 13 1 2) 500 (lnL A2 1000 1000 (-1) 1) 200 100 25 = (150, 0) := by kernel_rfl
theorem vx_s (A1 A2 : Option Addr) : Sp.secS (lnL A1 1000 13 1 2) 500 (lnL A2 1000 1000 (-1) 1) 200 100 99 100 = (0, 1, 0) := by kernel_rfl
theorem vx_c (A1 A2 : Option Addr) : Sp.curE (lnL A1 1000 13 1 2) 500 (lnL A2 1000 1000 (-1) 1) = 0 := by kernel_rfl
set_option maxRecDepth 100000 in
theorem vawake_any (w : World) : Calls Try.prog 12 #[] w (Gives (.bool true) w) := by
  go_enter Try.func12, Try.ntmps12
  go_wp2_with fail
  refine (vexample_any _).mono ?_
  rintro _ w5 ⟨hb5, g1, l1, g2, l2, rfl, L1, L2⟩
  have B5 := hid hb5
  have P1 := hid L1.pcs
  have P2 := hid L2.pcs
  have S1 := hid (ln_sized (some ⟨l1, 0, none⟩) 1000 13 1 2 (by omega) (by omega) (by omega) (by omega))
  have S2 := hid (ln_sized (some ⟨l2, 0, none⟩) 1000 1000 (-1) 1 (by omega) (by omega) (by omega) (by omega))
  have H := hid (fun (W : World) (hb : Below w5.heap.size w5 W) => vhei_any (some ⟨g1, 0, none⟩) (some ⟨g2, 0, none⟩) 1 1 _ _ 500 200 113 0 W S1.out S2.out (P1.out.below hb) (P2.out.below hb) (vx_h _ _))
  have V := hid (fun (W : World) (hb : Below w5.heap.size w5 W) => vvol_any (some ⟨g1, 0, none⟩) (some ⟨g2, 0, none⟩) 1 1 _ _ 500 200 100 157 158 0 W S1.out S2.out (P1.out.below hb) (P2.out.below hb) (vx_v _ _))
  have D := hid (fun (W : World) (hb : Below w5.heap.size w5 W) => vdiam2_any (some ⟨g1, 0, none⟩) (some ⟨g2, 0, none⟩) 1 1 _ _ 500 200 100 25 150 0 W S1.out S2.out (P1.out.below hb) (P2.out.below hb) (vx_d _ _))
  have S := hid (fun (W : World) (hb : Below w5.heap.size w5 W) => vsec_any (some ⟨g1, 0, none⟩) (some ⟨g2, 0, none⟩) 1 1 _ _ 500 200 100 99 100 0 1 0 W S1.out S2.out (P1.out.below hb) (P2.out.below hb) (vx_s _ _))
  have C := hid (fun (W : World) (hb : Below w5.heap.size w5 W) => vcheck_any (some ⟨g1, 0, none⟩) (some ⟨g2, 0, none⟩) 1 1 _ _ 500 W S1.out S2.out (P1.out.below hb) (P2.out.below hb))
  rw [vx_c] at C
  simp only [ln_one] at H V D S C
  have VB := curAt_new w5 (some ⟨g1, 0, none⟩) (some ⟨g2, 0, none⟩) 1 1 1 1 500
  have b0 : Below w5.heap.size w5 (w5.alloc (.cells #[.slice (some ⟨g1, 0, none⟩) 1 1, .int .i64 500, .slice (some ⟨g2, 0, none⟩) 1 1] 24)) := balloc _ _
  generalize hU : w5.alloc (.cells #[.slice (some ⟨g1, 0, none⟩) 1 1, .int .i64 500, .slice (some ⟨g2, 0, none⟩) 1 1] 24) = U at VB b0
  have HU := hid hU
  have B0 := hid b0
  have VC := hid VB
  clear hb5 L1 L2 P1 P2 S1 S2 hU b0
  go_upto_region 2 with fail
  rw [HU.out]
  have q0 := VB.c0
  have q1 := VB.c1
  have q2 := VB.c2
  have ql := VB.lt
  clear VB
  go_wp2_with fail
  refine (H.out _ B0.out).mono ?_
  rintro _ w6 ⟨rfl, hb6⟩
  have B6 := hid hb6
  have T6 := hid (bthen B0.out hb6)
  have Q6 := hid (VC.out.below hb6)
  have q0 := Q6.out.c0
  have q1 := Q6.out.c1
  have q2 := Q6.out.c2
  have ql := Q6.out.lt
  clear hb6
  go_wp2_with fail
  refine (V.out _ T6.out).mono ?_
  rintro _ w7 ⟨rfl, hb7⟩
  have B7 := hid hb7
  have T7 := hid (bthen T6.out hb7)
  have Q7 := hid (Q6.out.below hb7)
  have q0 := Q7.out.c0
  have q1 := Q7.out.c1
  have q2 := Q7.out.c2
  have ql := Q7.out.lt
  clear hb7
  go_wp2_with fail
  refine (D.out _ (bthen T7.out (balloc _ _))).mono ?_
  rintro _ w8 ⟨rfl, hb8⟩
  have B8 := hid (bthen (balloc w7 (Obj.cells #[.int .i64 157, .int .i64 158] 32)) hb8)
  have T8 := hid (bthen T7.out B8.out)
  have Q8 := hid (Q7.out.below B8.out)
  have q0 := Q8.out.c0
  have q1 := Q8.out.c1
  have q2 := Q8.out.c2
  have ql := Q8.out.lt
  have a0 : w8.cell? ⟨w7.heap.size, 0, none⟩ = some (.int .i64 157) := (hb8.cell (p := ⟨w7.heap.size, 0, none⟩) (by simp)).trans (by simp [go_sem])
  have a1 : w8.cell? ⟨w7.heap.size, 1, none⟩ = some (.int .i64 158) := (hb8.cell (p := ⟨w7.heap.size, 1, none⟩) (by simp)).trans (by simp [go_sem])
  have al : w7.heap.size < w8.heap.size := by have := hb8.size; simp at this; omega
  clear hb8
  go_wp2_with fail
  refine (S.out _ T8.out).mono ?_
  rintro _ w9 ⟨rfl, hb9⟩
  have B9 := hid hb9
  have T9 := hid (bthen T8.out hb9)
  have Q9 := hid (Q8.out.below hb9)
  have q0 := Q9.out.c0
  have q1 := Q9.out.c1
  have q2 := Q9.out.c2
  have ql := Q9.out.lt
  have a0 := (hb9.cell (p := ⟨w7.heap.size, 0, none⟩) al).trans a0
  have a1 := (hb9.cell (p := ⟨w7.heap.size, 1, none⟩) al).trans a1
  have al2 : w7.heap.size < w9.heap.size := Nat.lt_of_lt_of_le al hb9.size
  have an : ¬ w7.heap.size = w9.heap.size := by omega
  have qn : ¬ w5.heap.size = w9.heap.size := by omega
  clear hb9
  go_wp2_with fail
  refine (C.out _ (bthen T9.out (balloc _ _))).mono ?_
  rintro _ w10 ⟨rfl, hb10⟩
  have B10 := hid hb10
  clear hb10
  go_wp2_with fail
  go_ret
  exact Gives.mk rfl (bthen B5.out (bthen (bthen T9.out (balloc _ _)) B10.out))
end Go.Proofs.Ytdimncchejbaaaa
