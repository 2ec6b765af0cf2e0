/-
  Layer 14: lists of ints that grow inside a fence; slicesOf as an iterator; the specification of Section.
-/
import Derived.Test.YtdimncchejbaaaaVvi
import Derived.Maps.AppendAt
namespace Go.Proofs.Ytdimncchejbaaaa
open Go.RowKit
set_option linter.unusedVariables false
set_option linter.unusedSimpArgs false
theorem slices_in (n : Nat) (a : Option Addr) (len cap : Nat) (w : World) :
    CallsIn Fence.wide n Try.prog 49 #[.slice a len cap] w fun e w' => e = .returned (.func (.func 68) #[] #[.pointer (some ⟨w.heap.size, 0, none⟩)]) ∧ w' = w.alloc (.cells #[.slice a len cap] 73) := by
  refine callsIn_of_wp Try.func49 rfl trivial ?_ rfl
  simp only [Try.ntmps49, List.size_toArray, List.length_cons, List.length_nil, Nat.reduceAdd, Nat.reduceSub, Array.replicate_succ, Array.replicate_zero, List.push_toArray, List.append_toArray, List.nil_append, List.cons_append]
  gi_wp2
  go_ret
  exact ⟨rfl, rfl⟩
theorem abides_drew {β : Type} {B : Nat} {J : β → World → Prop} (h : AbidesFrom B J) : ∀ s W, J s W → J s W.drew := fun s W hs => h s W W.drew none hs (grown_drew W) (fun r e => by cases e)
/-- Two diameters. -/
def okB (q : Int × Int) : Prop := (0 ≤ q.1 ∧ q.1 ≤ 3000) ∧ (0 ≤ q.2 ∧ q.2 ≤ 3000)
abbrev BQ := { q : Int × Int // okB q }
def vB (l : List BQ) : List (Int × Int) := l.map (fun q => q.1)
theorem vB_snoc (l : List BQ) (x : BQ) : vB (l ++ [x]) = vB l ++ [x.1] := by simp [vB]
theorem vB_len (l : List BQ) : (vB l).length = l.length := by simp [vB]
theorem vB_ok (l : List BQ) : ∀ p ∈ vB l, okB p := by
  intro p hp
  simp only [vB, List.mem_map] at hp
  obtain ⟨q, -, rfl⟩ := hp
  exact q.2
theorem getD_in {l : List Int} (h : ∀ v ∈ l, 0 ≤ v ∧ v ≤ 3000) (j : Nat) : 0 ≤ l[j]?.getD 0 ∧ l[j]?.getD 0 ≤ 3000 := by
  by_cases c : j < l.length
  · rw [List.getElem?_eq_getElem c]; exact h _ (List.getElem_mem c)
  · rw [List.getElem?_eq_none (by omega)]; simp
theorem slices_stops (n : Nat) (hn : 1 ≤ n) (Bs n0 cap : Nat) (A : Option Addr) (l : List Int) (hl : l.length ≤ 2000) (hb3 : ∀ v ∈ l, 0 ≤ v ∧ v ≤ 3000) (w : World) (hB : Bs < w.heap.size)
    (hc : w.cell? ⟨Bs, 0, none⟩ = some (.slice A l.length cap)) (hT : Ints w A l) (hT0 : ∀ b off, A = some ⟨b, off, none⟩ → 0 < l.length → b < n0) :
    SeqStopsK Fence.wide n Try.prog 68 #[.pointer (some ⟨Bs, 0, none⟩)] (fun x : BQ => #[Value.int .i64 x.1.1, Value.int .i64 x.1.2]) (KV n0 Bs) (fun ys => vB ys = prU l (l.length - 1))
      (fun pre => ∃ k, k ≤ l.length - 1 ∧ vB pre = prU l k) l.length w := fun m J Jx W hW hA hAx hY h0 => by
  refine (slices1_in n hn m Bs n0 cap A l hl (fun s W => ∃ s' : List BQ, vB s' = s ∧ J s' W) (fun s W => ∃ s' : List BQ, vB s' = s ∧ Jx s' W) (fun s W ⟨s', e, h⟩ => ⟨s', e, abides_drew hA _ _ h⟩) ?_ W ((hW.cell (p := ⟨Bs, 0, none⟩) hB).trans hc) (hT.below hW) hT0 ⟨[], rfl, h0⟩).mono ?_
  · rintro pre x W1 ⟨s', e, h⟩ hlt hx
    have ok : okB x := by rw [hx]; exact ⟨getD_in hb3 _, getD_in hb3 _⟩
    obtain ⟨fn, tmps, assign, body, hy, hR⟩ := hY s' ⟨x, ok⟩ W1 h (by rw [← e, vB_len] at hlt; exact hlt)
    refine ⟨fn, tmps, assign, body, hy, hR.mono ?_⟩
    rintro e2 W2 (⟨h1, h2, h3⟩ | ⟨h1, h2⟩)
    · exact .inl ⟨h1, ⟨s' ++ [⟨x, ok⟩], by rw [vB_snoc, e], h2⟩, h3⟩
    · exact .inr ⟨h1, ⟨s' ++ [⟨x, ok⟩], by rw [vB_snoc, e], h2⟩⟩
  · rintro e W' ⟨hv, ⟨ys, rfl, s', e', h⟩ | ⟨pre, ⟨k, hk, rfl⟩, s', e', h⟩⟩
    · exact ⟨hv, .inl ⟨s', e', h⟩⟩
    · exact ⟨hv, .inr ⟨s', ⟨k, hk, e'⟩, h⟩⟩
/-! ### Lists of ints that grow -/
theorem info_int : (Try.prog.info? 3).map (fun i => (i.zero, i.size, i.bytes)) = some (some (.int .i64 0), 1, 8) := by kernel_rfl
def intc (l : List Int) : List Value := l.map (fun x => Value.int .i64 x)
/-- A row of ints that the call owns. -/
def OwnI (w : World) (base : Nat) (v : Value) (l : List Int) : Prop := w.ownsRow base 3 1 v l.length (intc l)
theorem OwnI.nil (w : World) (base : Nat) : OwnI w base (.slice none 0 0) [] := w.ownsRow_nil base 3 1
theorem OwnI.form {w : World} {base : Nat} {v : Value} {l : List Int} (h : OwnI w base v l) : ∃ A cap, v = .slice A l.length cap ∧ l.length ≤ cap ∧ Ints w A l ∧ (∀ b off, A = some ⟨b, off, none⟩ → base ≤ b ∧ b < w.heap.size) := by
  rcases h.2 with ⟨rfl, h0⟩ | ⟨g, cap, cur, rfl, hb, hg, hn, hm, hs, ht⟩
  · have e : l = [] := List.eq_nil_of_length_eq_zero h0
    subst e
    exact ⟨none, 0, rfl, Nat.le_refl _, fun h => absurd h (by simp), fun b off h => by cases h⟩
  · have gl : g < w.heap.size := (Array.getElem?_eq_some_iff.1 hg).1
    refine ⟨some ⟨g, 0, none⟩, cap, rfl, hn, fun _ => ⟨g, 0, rfl, gl, fun j hj => ?_⟩, fun b off e => by
      simp only [Option.some.injEq, Addr.mk.injEq] at e
      obtain ⟨rfl, -⟩ := e
      exact ⟨hb, gl⟩⟩
    have g0 : (intc l)[j]? = some (.int .i64 (l[j])) := by simp [intc, hj]
    have c0 := World.ownsRow.cells h (g := g) rfl _ _ g0
    have e : ∀ k, (⟨g, 0, none⟩ : Addr).add k = ⟨g, 0 + k, none⟩ := fun k => by by_cases k0 : k = 0 <;> simp [Addr.add, k0]
    rw [e] at c0
    exact c0
theorem OwnI.below {w w' : World} {base : Nat} {v : Value} {l : List Int} (h : OwnI w base v l) (hb : Below w.heap.size w w') : OwnI w' base v l :=
  World.ownsRow.kept h (fgrown_of_below hb none) (by cases v.ownBlock <;> simp)
theorem appI_in {n : Nat} {ops : Array Oper} {rest : List Oper} {o : Oper} {a : Act} {Q : Exit → Act → World → Prop} {w : World} (hgd : o.guard = none) (s x : Operand)
    (ho : o.op = .call { callee := .builtin .append, args := #[s, x], argTypes := #[73, 73] })
    (base : Nat) (v : Value) (l : List Int) (hs : a.eval s = v) (hown : OwnI w base v l) (g : Nat) (hx : a.eval x = .slice (some ⟨g, 0, none⟩) 1 1) (p : Int)
    (c0 : w.cell? ⟨g, 0, none⟩ = some (.int .i64 p)) (hlen : Hid (l.length ≤ 4000)) (hbase : base ≤ w.heap.size)
    (h : ∀ v' w', OwnI w' base v' (l ++ [p]) → w.grownBy w' v.ownBlock → wpListIn Fence.wide n Try.prog ops Q rest (a.put o.dst v') w') :
    wpListIn Fence.wide n Try.prog ops Q (o :: rest) a w := by
  obtain ⟨i0, hi, hz0, hz1, hz2⟩ := info_parts info_int
  have hl := hlen.out
  refine wpListIn_append_own w hgd s x 73 ho base 3 i0 (.int .i64 0) 1 8 Try.underlying73 hi hz0 hz1 hz2 rfl (by decide) v l.length (intc l) hs hown ⟨g, 0, none⟩ 1 1 (intc [p]) hx (by simp [intc]) ?_ (fun u hu => by simp [intc] at hu; subst hu; rfl) (by unfold maxLen; omega) (by omega) hbase ?_
  · intro j u hu
    match j with
    | 0 => simp [intc] at hu; subst hu; simpa [Addr.add] using c0
    | j + 1 => simp [intc] at hu
  · intro v' w' h1 h2 _
    refine h v' w' ?_ h2
    unfold OwnI
    have e : intc (l ++ [p]) = intc l ++ intc [p] := by simp [intc]
    rw [e, List.length_append]
    exact h1
theorem ownI_lt {w : World} {base : Nat} {v : Value} {l : List Int} (h : OwnI w base v l) {g : Nat} (hg : v.ownBlock = some g) : base ≤ g ∧ g < w.heap.size := World.ownsRow.lt h g hg
/-! ### The specification of Section -/
namespace Sp
/-- The first error among n values from a on. -/
def fe (g : Int → Int × Int) : Nat → Int → Int
  | 0, _ => 0
  | n + 1, a => if (g a).2 ≠ 0 then (g a).2 else fe g n (a + 1)
/-- n values from a on. -/
def fl (g : Int → Int × Int) (n : Nat) (a : Int) : List Int := (List.range n).map (fun k : Nat => (g (a + (k : Int))).1)
theorem fl_len (g : Int → Int × Int) (n : Nat) (a : Int) : (fl g n a).length = n := by simp [fl]
theorem fl_snoc (g : Int → Int × Int) (n : Nat) (a : Int) : fl g (n + 1) a = fl g n a ++ [(g (a + n)).1] := by simp [fl, List.range_succ]
def loS (l : List (Int × Int)) : Int := (l.map (fun p => min p.1 p.2 * min p.1 p.2)).sum
def hiS (l : List (Int × Int)) : Int := (l.map (fun p => max p.1 p.2 * max p.1 p.2)).sum
theorem loS_snoc (l : List (Int × Int)) (p : Int × Int) : loS (l ++ [p]) = loS l + min p.1 p.2 * min p.1 p.2 := by simp [loS]
theorem hiS_snoc (l : List (Int × Int)) (p : Int × Int) : hiS (l ++ [p]) = hiS l + max p.1 p.2 * max p.1 p.2 := by simp [hiS]
theorem sq_bound {x : Int} (h0 : 0 ≤ x) (h1 : x ≤ 3000) : 0 ≤ x * x ∧ x * x ≤ 9000000 := by
  have a := Int.mul_nonneg h0 h0
  have b : x * x ≤ 3000 * 3000 := Int.mul_le_mul h1 h1 h0 (by omega)
  omega
theorem lohi_bound : ∀ (l : List (Int × Int)), (∀ p ∈ l, (0 ≤ p.1 ∧ p.1 ≤ 3000) ∧ (0 ≤ p.2 ∧ p.2 ≤ 3000)) → (0 ≤ loS l ∧ loS l ≤ 9000000 * l.length) ∧ (0 ≤ hiS l ∧ hiS l ≤ 9000000 * l.length)
  | [], _ => by simp [loS, hiS]
  | p :: l, h => by
    obtain ⟨h1, h2⟩ := lohi_bound l (fun q hq => h q (List.mem_cons_of_mem _ hq))
    obtain ⟨⟨a0, a1⟩, b0, b1⟩ := h p List.mem_cons_self
    have m := sq_bound (x := min p.1 p.2) (by omega) (by omega)
    have M := sq_bound (x := max p.1 p.2) (by omega) (by omega)
    have e1 : loS (p :: l) = min p.1 p.2 * min p.1 p.2 + loS l := by simp [loS]
    have e2 : hiS (p :: l) = max p.1 p.2 * max p.1 p.2 + hiS l := by simp [hiS]
    rw [e1, e2, List.length_cons]
    push_cast
    generalize min p.1 p.2 * min p.1 p.2 = x at m
    generalize max p.1 p.2 * max p.1 p.2 = y at M
    omega
theorem diaM_in (z : Int × Int × Int) : 0 ≤ (diaM z).1 ∧ (diaM z).1 ≤ 3000 := by
  unfold diaM
  split
  · simp
  · simp only; omega
theorem diaS_in (t : List Pd) (d x a : Int) : 0 ≤ (diaS t d x a).1 ∧ (diaS t d x a).1 ≤ 3000 := by
  unfold diaS diaQ
  split
  · simp
  · exact diaM_in _
/-- What Section answers. -/
def secS (h : List Pd) (f : Int) (t : List Pd) (d x a b : Int) : Int × Int × Int :=
  if stemP h f t d x [a, b] ≠ 0 then (0, 0, stemP h f t d x [a, b])
  else if b < a then (0, 0, 9)
  else if fe (diaS t d x) (b - a + 1).toNat a ≠ 0 then (0, 0, fe (diaS t d x) (b - a + 1).toNat a)
  else ((785398 * loS (prU (fl (diaS t d x) (b - a + 1).toNat a) ((b - a + 1).toNat - 1))).tdiv 10000000000, (785399 * hiS (prU (fl (diaS t d x) (b - a + 1).toNat a) ((b - a + 1).toNat - 1)) + 10000000000 - 1).tdiv 10000000000, 0)
end Sp
end Go.Proofs.Ytdimncchejbaaaa
