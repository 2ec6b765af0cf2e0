/-
  Layer 7: relation of package geometry, by contract: a set of points kept in a map.
-/
import Derived.Test.YtfdnmlggemonhaaGc
import Derived.Maps.OwnSet
import Derived.Maps.OwnOps
import Derived.DeepKeys4
import Derived.WideKeyArgs
import Derived.Lib.SmallJoins
import Derived.WalkArith
import Derived.Deep.RegionHeld3
namespace Go.Proofs.Ytfdnmlggemonhaa
open Go.RowKit Go.Maps Go.WideMaps Go.ChangeShapes Go.WideShapes
set_option linter.unusedVariables false
set_option linter.unusedSimpArgs false

theorem glaid : laidOutB Try.prog = true := by kernel_rfl
theorem gdeep : Try.prog.keyTypeAt (Try.prog.types.size + 1) 23 = true := by kernel_rfl
theorem gwide : (match Try.prog.underlying 23 with | some (.array _ _) | some (.struct _) => true | _ => false) = true := by rw [Try.underlying23]
theorem gcells : Try.prog.cellsOf 23 = 2 := by kernel_rfl
theorem gformed {c0 c1 : Value} : (Value.agg #[c0, c1]).formed Try.prog 23 = true := by simp [Value.formed, Try.underlying23, gcells]
theorem grow23 : (23 : TypeId) < Try.prog.types.size := of_decide_eq_true (by kernel_rfl)
set_option maxRecDepth 100000 in
theorem glaw : KeyLaw Try.prog 23 := deep_law_laid glaid (m := 2) (by omega) grow23 (by kernel_rfl) gwide
theorem gkeyed : Keyed Try.prog 23 := Keyed.of_law glaw
def klOf (p : Sp.Pt) : Lit := (DataW.agg [.lit (.int .i64 p.1), .lit (.int .i64 p.2)] : DataW Unit).asKey
set_option maxRecDepth 100000 in
theorem kl_some {p : Sp.Pt} (h : Sp.okP p = true) : keyOf Try.prog 23 (.agg #[.int .i64 p.1, .int .i64 p.2]) = some (klOf p) := by
  rw [Sp.okP_iff] at h
  have w1 : (Lit.int .i64 p.1).wf = true := WalkArith.wf_i64 (by omega)
  have w2 : (Lit.int .i64 p.2).wf = true := WalkArith.wf_i64 (by omega)
  have st : DataW.Trod (fun _ : TypeId × Value => ()) Try.prog (default : World) 0 (fun _ => true) true 23 (.agg #[.int .i64 p.1, .int .i64 p.2]) (.agg [.lit (.int .i64 p.1), .lit (.int .i64 p.2)]) [] :=
    Joins.shut_agg2 (y0 := (.lit (.int .i64 p.1), [])) (y1 := (.lit (.int .i64 p.2), [])) Try.underlying23 (by kernel_rfl) (by kernel_rfl) ⟨1, by simp [DataW.trod, Try.underlying3, w1]⟩ ⟨1, by simp [DataW.trod, Try.underlying3, w2]⟩
  exact (keyOf_asKey gdeep gwide gformed st).1
theorem kl_key {p : Sp.Pt} (h : Sp.okP p = true) : WideAt.IsKeyLit (klOf p) := gkeyed.key (kl_some h)
theorem kl_inj {p q : Sp.Pt} (hp : Sp.okP p = true) (hq : Sp.okP q = true) (e : klOf p = klOf q) : p = q := by
  have h := gkeyed.inj (kl_some hp) (e ▸ kl_some hq)
  simp only [Value.agg.injEq, Array.mk.injEq, List.cons.injEq, Value.int.injEq, true_and, and_true] at h
  exact Prod.ext h.1 h.2
/-- The set of the keys of a list of points. -/
def gset (l : List Sp.Pt) : DataW Unit := setOf (.lit (.bool true)) (l.map klOf)
theorem gset_snoc (l : List Sp.Pt) (p : Sp.Pt) : gset (l ++ [p]) = (gset l).put (klOf p) (.lit (.bool true)) := by
  unfold gset
  rw [List.map_append, List.map_cons, List.map_nil, setOf_snoc]
theorem add_mem (x : Lit) : ∀ (xs acc : List Lit), (∀ y ∈ acc, WideAt.IsKeyLit y) → (∀ y ∈ xs, WideAt.IsKeyLit y) → (x ∈ xs.foldl addKey acc ↔ x ∈ acc ∨ x ∈ xs)
  | [], acc, _, _ => by simp
  | y :: xs, acc, ha, h => by
    have hy := h y (by simp)
    have ha' : ∀ z ∈ addKey acc y, WideAt.IsKeyLit z := by
      intro z hz
      unfold addKey at hz
      split at hz
      · exact ha z hz
      · rcases List.mem_append.1 hz with h1 | h1
        · exact ha z h1
        · simp at h1; rw [h1]; exact hy
    rw [List.foldl_cons, add_mem x xs (addKey acc y) ha' (fun z hz => h z (by simp [hz]))]
    have hadd : x ∈ addKey acc y ↔ x ∈ acc ∨ x = y := by
      unfold addKey
      split
      · rename_i hany
        obtain ⟨z, hz, hzy⟩ := List.any_eq_true.1 hany
        have e := WideAt.sameKey_eq hzy
        subst e
        constructor
        · exact Or.inl
        · rintro (h1 | h1)
          · exact h1
          · rw [h1]; exact hz
      · simp
    rw [hadd]
    simp [or_assoc]
theorem add_same {p : Lit} : ∀ (xs : List Lit), (∀ y ∈ xs, y = p) → WideAt.IsKeyLit p → xs.foldl addKey [p] = [p]
  | [], _, _ => rfl
  | y :: xs, h, hp => by
    have e := h y (by simp)
    subst e
    rw [List.foldl_cons]
    have : addKey [y] y = [y] := by unfold addKey; simp [WideAt.sameKey_self hp]
    rw [this]
    exact add_same xs (fun z hz => h z (by simp [hz])) hp
theorem gset_size {l : List Sp.Pt} (hl : ∀ p ∈ l, Sp.okP p = true) (x y z : Int) :
    (Maps.size (gset l) = 0 ∧ Sp.pk x y z l = x) ∨ (Maps.size (gset l) = 1 ∧ Sp.pk x y z l = y) ∨ (2 ≤ Maps.size (gset l) ∧ Sp.pk x y z l = z) := by
  have hk : ∀ k ∈ l.map klOf, WideAt.IsKeyLit k := by
    intro k hk
    obtain ⟨p, hp, rfl⟩ := List.mem_map.1 hk
    exact kl_key (hl p hp)
  unfold gset
  rw [size_setOf _ _ hk]
  cases l with
  | nil => exact .inl ⟨rfl, rfl⟩
  | cons p r =>
    have hp := hl p (by simp)
    by_cases c : r.all (fun q => decide (q = p)) = true
    · refine .inr (.inl ⟨?_, by show (if _ then y else z) = y; rw [if_pos c]⟩)
      rw [List.map_cons, List.foldl_cons]
      have : addKey [] (klOf p) = [klOf p] := rfl
      rw [this, add_same _ (fun y hy => by
        obtain ⟨q, hq, rfl⟩ := List.mem_map.1 hy
        have := List.all_eq_true.1 c q hq
        simp at this
        rw [this]) (kl_key hp)]
      rfl
    · refine .inr (.inr ⟨?_, by show (if _ then y else z) = z; rw [if_neg c]⟩)
      have : ∃ q ∈ r, q ≠ p := by
        false_or_by_contra
        rename_i hn
        exact c (List.all_eq_true.2 fun q hq => by
          false_or_by_contra
          rename_i h2
          exact hn ⟨q, hq, by simpa using h2⟩)
      obtain ⟨q, hq, hne⟩ := this
      have m1 := (add_mem (klOf p) ((p :: r).map klOf) [] (by simp) hk).2 (.inr (by simp))
      have m2 := (add_mem (klOf q) ((p :: r).map klOf) [] (by simp) hk).2 (.inr (List.mem_map.2 ⟨q, by simp [hq], rfl⟩))
      have hne' : klOf q ≠ klOf p := fun e => hne (kl_inj (hl q (by simp [hq])) hp e)
      generalize ((p :: r).map klOf).foldl addKey [] = xs at m1 m2
      match xs, m1, m2 with
      | [a], m1, m2 =>
        simp at m1 m2
        exact absurd (m2.trans m1.symm) hne'
      | _ :: _ :: _, _, _ => simp
/-- A map that the call made stays what it is while other blocks come. -/
theorem owns_below {w w' : World} {b n : Nat} {D : DataW Unit} {R : Value → Option (DataW Unit × List MemPlace)} {k : TypeId} (h : w.ownsMap Try.prog k R b n D) (hb : Below w.heap.size w w') : w'.ownsMap Try.prog k R b n D := by
  have lt := h.lt
  obtain ⟨es, clock, h1, h2⟩ := h
  exact ⟨es, clock, (hb.block _ lt).trans h1, h2⟩
end Go.Proofs.Ytfdnmlggemonhaa
