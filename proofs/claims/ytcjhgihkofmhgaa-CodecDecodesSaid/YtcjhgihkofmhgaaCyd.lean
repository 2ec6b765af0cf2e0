/-
  Layer 6: a row of data of the call's own; how many data are read.
-/
import Derived.Test.YtcjhgihkofmhgaaCyb
namespace Go.Proofs.Ytcjhgihkofmhgaa
open Go.RowKit
set_option linter.unusedVariables false
set_option linter.unusedSimpArgs false

namespace Sp
theorem loopD_count {α : Type} {f : List UInt8 → Nat → Sum Int (α × List UInt8 × Nat)} (hf : ∀ L c t r c', f L c = .inr (t, r, c') → c < c' ∧ c' ≤ 500) :
    ∀ (n : Nat) (L : List UInt8) (c : Nat) (l : List α) (r : List UInt8) (c' : Nat), c ≤ 500 → loopD f n L c = .inr (l, r, c') → c + n ≤ c' ∧ c' ≤ 500
  | 0, L, c, l, r, c', hc, h => by
    simp only [loopD, Sum.inr.injEq, Prod.mk.injEq] at h
    obtain ⟨_, _, rfl⟩ := h
    exact ⟨by omega, hc⟩
  | n + 1, L, c, l, r, c', hc, h => by
    unfold loopD at h
    rcases h1 : f L c with e | ⟨t, L1, c1⟩
    · rw [h1] at h; cases h
    · rw [h1] at h
      simp only at h
      rcases h2 : loopD f n L1 c1 with e | ⟨ts, L2, c2⟩
      · rw [h2] at h; cases h
      · rw [h2] at h
        simp only [Sum.inr.injEq, Prod.mk.injEq] at h
        obtain ⟨_, _, rfl⟩ := h
        obtain ⟨a1, a2⟩ := hf _ _ _ _ _ h1
        obtain ⟨b1, b2⟩ := loopD_count hf n L1 c1 ts L2 c2 a2 h2
        exact ⟨by omega, b2⟩
theorem dec_count : ∀ (D : Nat) (L : List UInt8) (c : Nat) (t : Tr D) (r : List UInt8) (c' : Nat), decT D L c = .inr (t, r, c') → c < c' ∧ c' ≤ 500
  | 0, [], c, t, r, c', h => by simp [decT] at h
  | 0, x :: L, c, t, r, c', h => by
    unfold decT at h
    split at h <;> cases h
  | D + 1, [], c, t, r, c', h => by simp [decT] at h
  | D + 1, x :: L, c, t, r, c', h => by
    unfold decT at h
    by_cases k : 1 ≤ x.toNat ∧ x.toNat ≤ 3
    · rw [if_neg (by simpa using k)] at h
      by_cases c5 : 500 < c + 1
      · rw [if_pos c5] at h; cases h
      · rw [if_neg c5] at h
        unfold bodyL at h
        by_cases k1 : (x.toNat : Int) = 1
        · rw [if_pos k1] at h
          rcases h1 : intL L with e | ⟨n, L1⟩
          · rw [h1] at h; cases h
          · rw [h1] at h
            simp only [Sum.inr.injEq, Prod.mk.injEq] at h
            obtain ⟨_, _, rfl⟩ := h
            omega
        · rw [if_neg k1] at h
          by_cases k2 : (x.toNat : Int) = 2
          · rw [if_pos k2] at h
            rcases h1 : textL L with e | ⟨s, L1⟩
            · rw [h1] at h; cases h
            · rw [h1] at h
              simp only [Sum.inr.injEq, Prod.mk.injEq] at h
              obtain ⟨_, _, rfl⟩ := h
              omega
          · rw [if_neg k2] at h
            unfold listL at h
            rcases h1 : intL L with e | ⟨n, L1⟩
            · rw [h1] at h; cases h
            · rw [h1] at h
              simp only at h
              by_cases n0 : n < 0
              · rw [if_pos n0] at h; cases h
              · rw [if_neg n0] at h
                rcases h2 : loopD (decT D) n.toNat L1 (c + 1) with e | ⟨ts, L2, c2⟩
                · rw [h2] at h; cases h
                · rw [h2] at h
                  simp only [Sum.inr.injEq, Prod.mk.injEq] at h
                  obtain ⟨_, _, rfl⟩ := h
                  have := loopD_count (fun L c t r c' h => dec_count D L c t r c' h) _ _ _ _ _ _ (by omega) h2
                  omega
    · rw [if_pos k] at h
      cases h
end Sp
theorem info_d : (Try.prog.info? 34).map (fun i => (i.zero, i.size, i.bytes)) = some (some (.agg #[.int .i64 0, .int .i64 0, .string ⟨#[]⟩, .slice none 0 0]), 4, 56) := by kernel_rfl
/-- A row of data that the call owns. -/
structure OwnD (w : World) (base : Nat) (v : Value) {D : Nat} (ts : List (Sp.Tr D)) (xs : List Value) : Prop where
  row : w.ownsRow base 34 4 v ts.length xs
  els : ∀ j, (hj : j < ts.length) → ∃ c0 c1 c2 c3 : Value, xs[j * 4]? = some c0 ∧ xs[j * 4 + 1]? = some c1 ∧ xs[j * 4 + 2]? = some c2 ∧ xs[j * 4 + 3]? = some c3 ∧
    Lies w (fun b => base ≤ b ∧ some b ≠ v.ownBlock) D (ts[j]) (.agg #[c0, c1, c2, c3])
theorem OwnD.nil (w : World) (base : Nat) {D : Nat} : OwnD w base (.slice none 0 0) ([] : List (Sp.Tr D)) [] := ⟨w.ownsRow_nil base 34 4, fun j hj => absurd hj (by simp)⟩
/-- Nothing of it is turned by what turns older blocks alone, or makes new ones. -/
theorem OwnD.kept {w w' : World} {base : Nat} {v : Value} {D : Nat} {ts : List (Sp.Tr D)} {xs : List Value} {r : Option Nat} (h : OwnD w base v ts xs) (hg : w.grownBy w' r) (hr : ∀ g, r = some g → g < base) : OwnD w' base v ts xs := by
  have hne : ∀ b, base ≤ b → some b ≠ r := fun b hb e => by have := hr b e.symm; omega
  refine ⟨h.row.kept hg ?_, fun j hj => ?_⟩
  · rcases hv : v.ownBlock with _ | g
    · exact .inl rfl
    · exact .inr (hne g (h.row.lt g hv).1)
  · obtain ⟨c0, c1, c2, c3, h0, h1, h2, h3, hL⟩ := h.els j hj
    exact ⟨c0, c1, c2, c3, h0, h1, h2, h3, hL.keep fun b hb hl => ⟨hb, hg.block b hl (hne b hb.1)⟩⟩
theorem OwnD.below {w w' : World} {base : Nat} {v : Value} {D : Nat} {ts : List (Sp.Tr D)} {xs : List Value} (h : OwnD w base v ts xs) (hb : Below w.heap.size w w') : OwnD w' base v ts xs :=
  h.kept (grown_of_below hb none) (fun g hg => by cases hg)
theorem OwnD.form {w : World} {base : Nat} {v : Value} {D : Nat} {ts : List (Sp.Tr D)} {xs : List Value} (h : OwnD w base v ts xs) : ∃ A cap, v = .slice A ts.length cap ∧ ts.length ≤ cap ∧ Els w (fun b => base ≤ b) ts A := by
  rcases h.row.2 with ⟨hv, h0⟩ | ⟨g, cap, cur, hv, hb, hg, hn, hm, hs, ht⟩
  · exact ⟨none, 0, by rw [hv, h0], by omega, fun hp => by omega⟩
  · refine ⟨some ⟨g, 0, none⟩, cap, hv, hn, fun _ => ⟨g, 0, rfl, hb, fun j hj => ?_⟩⟩
    obtain ⟨c0, c1, c2, c3, h0, h1, h2, h3, hL⟩ := h.els j hj
    have hc : ∀ i u, xs[i]? = some u → w.cell? ⟨g, i, none⟩ = some u := fun i u hu => by
      have := h.row.cells (g := g) (by rw [hv]; rfl) i u hu
      have e : (⟨g, 0, none⟩ : Addr).add i = ⟨g, i, none⟩ := by by_cases i0 : i = 0 <;> simp [Addr.add, i0]
      rw [e] at this
      exact this
    rw [Nat.zero_add]
    exact ⟨c0, c1, c2, c3, hc _ _ h0, hc _ _ h1, hc _ _ h2, hc _ _ h3, hL.weak fun b hb _ => hb.1⟩
/-- append of one datum. -/
theorem appD {ops : Array Oper} {rest : List Oper} {o : Oper} {a : Act} {Q : Exit → Act → World → Prop} {w : World} (hgd : o.guard = none) (s x : Operand)
    (ho : o.op = .call { callee := .builtin .append, args := #[s, x], argTypes := #[32, 32] })
    (base : Nat) (v : Value) {D : Nat} (ts : List (Sp.Tr D)) (xs : List Value) (hs : a.eval s = v) (hown : OwnD w base v ts xs) (g : Nat) (hx : a.eval x = .slice (some ⟨g, 0, none⟩) 1 1)
    (k n : Int) (z : ByteArray) (A : Option Addr) (m cap : Nat) (t : Sp.Tr D)
    (q0 : w.cell? ⟨g, 0, none⟩ = some (.int .i64 k)) (q1 : w.cell? ⟨g, 1, none⟩ = some (.int .i64 n)) (q2 : w.cell? ⟨g, 2, none⟩ = some (.string z)) (q3 : w.cell? ⟨g, 3, none⟩ = some (.slice A m cap))
    (hL : Lies w (fun b => base ≤ b ∧ some b ≠ v.ownBlock) D t (.agg #[.int .i64 k, .int .i64 n, .string z, .slice A m cap])) (hlen : ts.length ≤ 600) (hbase : base ≤ w.heap.size)
    (h : ∀ v' w' xs', OwnD w' base v' (ts ++ [t]) xs' → Ow w w' v.ownBlock v'.ownBlock → wpList Try.prog ops Q rest (a.put o.dst v') w') :
    wpList Try.prog ops Q (o :: rest) a w := by
  obtain ⟨i0, hi, hz0, hz1, hz2⟩ := info_parts info_d
  refine wpList_append_own_at _ hgd s x 32 ho base 34 i0 (.agg #[.int .i64 0, .int .i64 0, .string ⟨#[]⟩, .slice none 0 0]) 4 56 Try.underlying32 hi hz0 hz1 hz2 (by kernel_rfl) (by decide) v ts.length xs hs hown.row ⟨g, 0, none⟩ 1 1 [.int .i64 k, .int .i64 n, .string z, .slice A m cap] hx rfl ?_ (by simp [Value.oneCell']) (by unfold maxLen; omega) (by omega) hbase ?_
  · intro j u hu
    rcases j with _ | _ | _ | _ | j
    · simp at hu; subst hu; simpa [Addr.add] using q0
    · simp at hu; subst hu; simpa [Addr.add] using q1
    · simp at hu; subst hu; simpa [Addr.add] using q2
    · simp at hu; subst hu; simpa [Addr.add] using q3
    · simp at hu
  · intro v' w' h1 h2 _ h4
    have hO := Ow.of_append h2 h4
    have hlx : xs.length = ts.length * 4 := hown.row.1
    have key : ∀ {t : Sp.Tr D} {u : Value}, Lies w (fun b => base ≤ b ∧ some b ≠ v.ownBlock) D t u → Lies w' (fun b => base ≤ b ∧ some b ≠ v'.ownBlock) D t u := fun hl => hl.keep fun b hb hlt =>
      ⟨⟨hb.1, by rcases h4 with e | e; rw [e]; exact hb.2; rw [e]; intro c; injection c with c; omega⟩, hO.block hlt hb.2⟩
    refine h v' w' _ ⟨by rw [List.length_append]; exact h1, fun j hj => ?_⟩ hO
    rw [List.length_append, List.length_singleton] at hj
    by_cases hj2 : j < ts.length
    · obtain ⟨c0, c1, c2, c3, e0, e1, e2, e3, hL2⟩ := hown.els j hj2
      refine ⟨c0, c1, c2, c3, ?_, ?_, ?_, ?_, ?_⟩
      · rw [List.getElem?_append_left (by omega)]; exact e0
      · rw [List.getElem?_append_left (by omega)]; exact e1
      · rw [List.getElem?_append_left (by omega)]; exact e2
      · rw [List.getElem?_append_left (by omega)]; exact e3
      · rw [List.getElem_append_left hj2]; exact key hL2
    · obtain rfl : j = ts.length := by omega
      refine ⟨.int .i64 k, .int .i64 n, .string z, .slice A m cap, ?_, ?_, ?_, ?_, ?_⟩
      · rw [List.getElem?_append_right (by omega), show ts.length * 4 - xs.length = 0 by omega]; rfl
      · rw [List.getElem?_append_right (by omega), show ts.length * 4 + 1 - xs.length = 1 by omega]; rfl
      · rw [List.getElem?_append_right (by omega), show ts.length * 4 + 2 - xs.length = 2 by omega]; rfl
      · rw [List.getElem?_append_right (by omega), show ts.length * 4 + 3 - xs.length = 3 by omega]; rfl
      · rw [List.getElem_append_right (by omega)]
        simpa using key hL
end Go.Proofs.Ytcjhgihkofmhgaa
