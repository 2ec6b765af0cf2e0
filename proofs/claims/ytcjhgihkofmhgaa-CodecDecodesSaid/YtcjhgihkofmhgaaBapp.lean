/-
  append onto a row of bytes of the call's own: one byte, or a slice.
-/
import Derived.Test.YtcjhgihkofmhgaaBase
import Derived.Maps.AppendAt
import Derived.Lib.AppendStr
import Derived.Laws.BytesArg
import Derived.Laws.IdiomStrings
namespace Go.Proofs.Ytcjhgihkofmhgaa
open Go.RowKit
set_option linter.unusedVariables false
theorem info_u8 : (Try.prog.info? 5).map (fun i => (i.zero, i.size, i.bytes)) = some (some (.int .u8 0), 1, 1) := by kernel_rfl
/-- One byte, that stands in a block of its own. -/
theorem app1 {ops : Array Oper} {rest : List Oper} {o : Oper} {a : Act} {Q : Exit → Act → World → Prop} {w : World} (hgd : o.guard = none) (s x : Operand)
    (ho : o.op = .call { callee := .builtin .append, args := #[s, x], argTypes := #[22, 22] })
    (base : Nat) (v : Value) (L : List UInt8) (hs : a.eval s = v) (hown : OwnB w base v L) (g : Nat) (hx : a.eval x = .slice (some ⟨g, 0, none⟩) 1 1) (c : UInt8)
    (hcell : w.cell? ⟨g, 0, none⟩ = some (.int .u8 (c.toNat : Int))) (hlen : Hid (L.length + 1 ≤ 140737488355328)) (hbase : base ≤ w.heap.size)
    (h : ∀ v' w', OwnB w' base v' (L ++ [c]) → Ow w w' v.ownBlock v'.ownBlock → wpList Try.prog ops Q rest (a.put o.dst v') w') :
    wpList Try.prog ops Q (o :: rest) a w := by
  obtain ⟨i0, hi, hz0, hz1, hz2⟩ := info_parts info_u8
  have hl := hlen.out
  refine wpList_append_own_at _ hgd s x 22 ho base 5 i0 (.int .u8 0) 1 1 Try.underlying22 hi hz0 hz1 hz2 rfl (by decide) v L.length (byt L) hs hown ⟨g, 0, none⟩ 1 1 (byt [c]) hx (by simp [byt]) ?_ (by simp [byt, Value.oneCell']) (by unfold maxLen; omega) (by omega) hbase ?_
  · intro j u hu
    cases j with
    | zero =>
      simp [byt] at hu
      subst hu
      simpa [Addr.add] using hcell
    | succ j => simp [byt] at hu
  · intro v' w' h1 h2 _ h4
    refine h v' w' ?_ (Ow.of_append h2 h4)
    unfold OwnB
    rw [byt_append, List.length_append]
    exact h1
/-- A slice of bytes, nil or not. -/
theorem appL {ops : Array Oper} {rest : List Oper} {o : Oper} {a : Act} {Q : Exit → Act → World → Prop} {w : World} (hgd : o.guard = none) (s x : Operand)
    (ho : o.op = .call { callee := .builtin .append, args := #[s, x], argTypes := #[22, 22] })
    (base : Nat) (v : Value) (L : List UInt8) (hs : a.eval s = v) (hown : OwnB w base v L) (A : Option Addr) (cap B : Nat) (M : List UInt8) (hx : a.eval x = .slice A M.length cap)
    (hM : Bs w B A M) (hlen : Hid (L.length + M.length ≤ 140737488355328)) (hbase : base ≤ w.heap.size)
    (h : ∀ v' w', OwnB w' base v' (L ++ M) → Ow w w' v.ownBlock v'.ownBlock → wpList Try.prog ops Q rest (a.put o.dst v') w') :
    wpList Try.prog ops Q (o :: rest) a w := by
  obtain ⟨i0, hi, hz0, hz1, hz2⟩ := info_parts info_u8
  have hl := hlen.out
  have fin : ∀ v' w', w'.ownsRow base 5 1 v' (L.length + M.length) (byt L ++ byt M) → Ow w w' v.ownBlock v'.ownBlock → wpList Try.prog ops Q rest (a.put o.dst v') w' := fun v' w' h1 h2 => by
    refine h v' w' ?_ h2
    unfold OwnB
    rw [byt_append, List.length_append]
    exact h1
  rcases A with _ | ad
  · have e : M = [] := by
      rcases Nat.eq_zero_or_pos M.length with h0 | h0
      · exact List.eq_nil_of_length_eq_zero h0
      · obtain ⟨b, off, e, _⟩ := hM.at_ h0
        cases e
    subst e
    refine wpList_plain hgd fun K hK => ?_
    have hr : (Builtin.append_ #[22, 22] o.type #[v, .slice none 0 cap]).run Try.prog w = .ok v w := by
      rcases hown.2 with ⟨rfl, _⟩ | ⟨g, cp, cur, rfl, _, _, hnc, _⟩
      · simp [Builtin.append_, run_underlying Try.underlying22, sizeOf, typeInfo, hi, Builtin.lenOf, Builtin.firstCells]
      · simp [Builtin.append_, run_underlying Try.underlying22, sizeOf, typeInfo, hi, Builtin.lenOf, Builtin.firstCells, hnc, storeCells]
    unfold Oper.wp execOp
    simp only [ho, resolve, invoke, builtin, Sem.run_bind, Sem.run_pure, Result.andThen_ok, List.map_toArray, List.map_cons, List.map_nil, hs, hx, List.length_nil, hr]
    exact hK _ _ (h v w (by simpa using hown) (Ow.refl _ _))
  · refine wpList_append_own_at _ hgd s x 22 ho base 5 i0 (.int .u8 0) 1 1 Try.underlying22 hi hz0 hz1 hz2 rfl (by decide) v L.length (byt L) hs hown ad M.length cap (byt M) hx (by simp [byt]) ?_ byt_cell (by unfold maxLen; omega) (by omega) hbase (fun v' w' h1 h2 _ h4 => fin v' w' h1 (Ow.of_append h2 h4))
    intro j u hu
    by_cases hj : j < M.length
    · obtain ⟨b, off, e, lt, hc⟩ := hM.at_ (by omega)
      injection e with e
      subst e
      rw [byt_get M j hj] at hu
      injection hu with hu
      subst hu
      have h1 := hc j hj
      have e : (⟨b, off, none⟩ : Addr).add j = ⟨b, off + j, none⟩ := by by_cases j0 : j = 0 <;> simp [Addr.add, j0]
      rw [e]
      exact h1
    · rw [List.getElem?_eq_none (by rw [byt_len]; omega)] at hu
      cases hu
theorem strCells_byt (s : ByteArray) : Lib.strCells s = byt s.data.toList := rfl
/-- The bytes of a string, onto a row that is not empty. -/
theorem appS {ops : Array Oper} {rest : List Oper} {o : Oper} {a : Act} {Q : Exit → Act → World → Prop} {w : World} (hgd : o.guard = none) (sl x : Operand)
    (ho : o.op = .call { callee := .builtin .append, args := #[sl, x], argTypes := #[22, 9] })
    (base : Nat) (v : Value) (L : List UInt8) (hs : a.eval sl = v) (hown : OwnB w base v L) (h0 : 0 < L.length) (s : ByteArray) (hx : a.eval x = .string s)
    (hlen : Hid (L.length + s.size ≤ 140737488355328)) (hbase : base ≤ w.heap.size)
    (h : ∀ v' w', OwnB w' base v' (L ++ s.data.toList) → Ow w w' v.ownBlock v'.ownBlock → wpList Try.prog ops Q rest (a.put o.dst v') w') :
    wpList Try.prog ops Q (o :: rest) a w := by
  obtain ⟨i, hi, hz, hs1, hby⟩ := info_parts info_u8
  have hl := hlen.out
  refine wpList_plain hgd fun K hK => ?_
  obtain ⟨v', w', hr, h2, h3, _⟩ := Lib.run_append_own_string (P := Try.prog) w base 22 9 o.type 5 i Try.underlying22 Try.underlying9 hi hz hs1 hby v L.length (byt L) hown s (by unfold maxLen; omega) hl hbase
  have hE : v'.ownBlock = v.ownBlock ∨ v'.ownBlock = some w.heap.size := by
    rcases hown.2 with ⟨rfl, h00⟩ | ⟨g, cap, cur, rfl, hbg, hg, hnc, hcm, hcs, htake⟩
    · omega
    · have hcs' : cur.size = cap := by simpa using hcs
      by_cases hroom : L.length + s.size ≤ cap
      · have hr2 := Lib.run_append_room_string (P := Try.prog) w 22 9 o.type 5 i Try.underlying22 Try.underlying9 hi hs1 g L.length cap cur hg s hroom (by omega)
        rw [hr2] at hr
        injection hr with e1 e2
        subst e1
        exact .inl rfl
      · have holds : ∀ j u, (byt L)[j]? = some u → w.cell? ((⟨g, 0, none⟩ : Addr).add j) = some u := World.ownsRow.cells hown (g := g) rfl
        have hr2 := Lib.run_append_grow_string (P := Try.prog) w 22 9 o.type 5 i (.int .u8 0) Try.underlying22 Try.underlying9 hi hz ⟨g, 0, none⟩ L.length cap (byt L) (by rw [hs1, byt_len]; omega) holds s (by omega) (by omega) (by rw [hby]; exact growslice_fits (by omega) (by omega))
        rw [hr2] at hr
        injection hr with e1 e2
        subst e1
        exact .inr rfl
  unfold Oper.wp execOp
  simp only [ho, resolve, invoke, builtin, Sem.run_bind, Sem.run_pure, Result.andThen_ok, List.map_toArray, List.map_cons, List.map_nil, hs, hx, hr]
  refine hK _ _ (h v' w' ?_ (Ow.of_append h3 hE))
  unfold OwnB
  rw [byt_append, List.length_append, ← strCells_byt]
  exact h2
/-- The string of a slice of bytes. -/
theorem text_run {w : World} {B : Nat} {A : Option Addr} {L : List UInt8} (h : Bs w B A L) (cap : Nat) :
    (convert 22 9 (.slice A L.length cap)).run Try.prog w = .ok (.string ⟨L.toArray⟩) w := by
  rcases A with _ | ad
  · have e : L = [] := by
      rcases Nat.eq_zero_or_pos L.length with h0 | h0
      · exact List.eq_nil_of_length_eq_zero h0
      · obtain ⟨b, off, e, _⟩ := h.at_ h0
        cases e
    subst e
    exact run_convert_bytes_nil w 22 5 Try.underlying22 Try.underlying5 _ _ 9 Try.underlying9
  · refine run_convert_bytes_back w 22 9 5 ad cap L Try.underlying22 Try.underlying5 Try.underlying9 fun j hj => ?_
    obtain ⟨b, off, e, lt, hc⟩ := h.at_ (by omega)
    injection e with e
    subst e
    have e : (⟨b, off, none⟩ : Addr).add j = ⟨b, off + j, none⟩ := by by_cases j0 : j = 0 <;> simp [Addr.add, j0]
    rw [e]
    exact hc j hj
end Go.Proofs.Ytcjhgihkofmhgaa
