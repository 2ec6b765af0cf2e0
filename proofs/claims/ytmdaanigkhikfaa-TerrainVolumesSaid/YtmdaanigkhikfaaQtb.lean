/-
  Layer 15: lists that grow; neighbours, receiver, Receiver, Catchment of package terrain.
-/
import Derived.Test.YtmdaanigkhikfaaQta
import Derived.Maps.AppendAt
import Derived.Deep.AppendLies
import Derived.OwnWalkIn
import Derived.TacticsIn
import Derived.RegionIn
import Derived.OrdersIn
import Derived.Deep.DeepCutAuto
import Derived.Deep.OwnRows
namespace Go.Proofs.Ytmdaanigkhikfaa
open Go.RowKit
set_option linter.unusedVariables false
set_option linter.unusedSimpArgs false
/-- A list of fractions that lies in memory. -/
def Frs (w : World) (A : Option Addr) (l : List (Int × Int)) : Prop := 0 < l.length → ∃ b off, A = some ⟨b, off, none⟩ ∧ b < w.heap.size ∧ ∀ j, (hj : j < l.length) → w.cell? ⟨b, off + j * 2, none⟩ = some (.int .i64 (l[j]).1) ∧ w.cell? ⟨b, off + (j * 2 + 1), none⟩ = some (.int .i64 (l[j]).2)
theorem Frs.below {w w' : World} {A : Option Addr} {l : List (Int × Int)} (h : Frs w A l) (hb : Below w.heap.size w w') : Frs w' A l := fun h0 => by
  obtain ⟨b, off, e, bl, q⟩ := h h0
  exact ⟨b, off, e, Nat.lt_of_lt_of_le bl hb.size, fun j hj => ⟨(hb.cell (p := ⟨b, off + j * 2, none⟩) bl).trans (q j hj).1, (hb.cell (p := ⟨b, off + (j * 2 + 1), none⟩) bl).trans (q j hj).2⟩⟩
theorem fgrown_of_below {w w' : World} (h : Below w.heap.size w w') (r : Option Nat) : w.grownBy w' r := ⟨h.os, h.tape, h.output, h.size, fun k hk _ => h.block k hk⟩
theorem info_fr : (Try.prog.info? 30).map (fun i => (i.zero, i.size, i.bytes)) = some (some (.agg #[.int .i64 0, .int .i64 0]), 2, 16) := by kernel_rfl
def frc : List (Int × Int) → List Value
  | [] => []
  | p :: l => Value.int .i64 p.1 :: Value.int .i64 p.2 :: frc l
theorem frc_len : ∀ l : List (Int × Int), (frc l).length = l.length * 2
  | [] => rfl
  | p :: l => by simp [frc, frc_len l]; omega
theorem frc_append : ∀ (l m : List (Int × Int)), frc (l ++ m) = frc l ++ frc m
  | [], m => rfl
  | p :: l, m => by simp [frc, frc_append l m]
theorem frc_get : ∀ (l : List (Int × Int)) (j : Nat) (h : j < l.length), (frc l)[j * 2]? = some (.int .i64 (l[j]).1) ∧ (frc l)[j * 2 + 1]? = some (.int .i64 (l[j]).2)
  | [], j, h => absurd h (by simp)
  | p :: l, 0, h => ⟨rfl, rfl⟩
  | p :: l, j + 1, h => by
    have := frc_get l j (by simpa using h)
    have e : (j + 1) * 2 = j * 2 + 1 + 1 := by omega
    rw [e]
    exact this
theorem frc_cell (l : List (Int × Int)) : ∀ u ∈ frc l, u.oneCell' = true := by
  induction l with
  | nil => intro u hu; simp [frc] at hu
  | cons p l ih =>
    intro u hu
    simp only [frc, List.mem_cons] at hu
    rcases hu with rfl | rfl | hu
    · rfl
    · rfl
    · exact ih u hu
/-- A row of points that the call owns. -/
def OwnF (w : World) (base : Nat) (v : Value) (l : List (Int × Int)) : Prop := w.ownsRow base 30 2 v l.length (frc l)
theorem OwnF.nil (w : World) (base : Nat) : OwnF w base (.slice none 0 0) [] := w.ownsRow_nil base 30 2
theorem OwnF.form {w : World} {base : Nat} {v : Value} {l : List (Int × Int)} (h : OwnF w base v l) : ∃ A cap, v = .slice A l.length cap ∧ l.length ≤ cap ∧ Frs w A l := by
  rcases h.2 with ⟨rfl, h0⟩ | ⟨g, cap, cur, rfl, hb, hg, hn, hm, hs, ht⟩
  · have e : l = [] := List.eq_nil_of_length_eq_zero h0
    subst e
    exact ⟨none, 0, rfl, Nat.le_refl _, fun h => absurd h (by simp)⟩
  · refine ⟨some ⟨g, 0, none⟩, cap, rfl, hn, fun _ => ⟨g, 0, rfl, (Array.getElem?_eq_some_iff.1 hg).1, fun j hj => ?_⟩⟩
    obtain ⟨g0, g1⟩ := frc_get l j hj
    have c0 := World.ownsRow.cells h (g := g) rfl _ _ g0
    have c1 := World.ownsRow.cells h (g := g) rfl _ _ g1
    have e : ∀ k, (⟨g, 0, none⟩ : Addr).add k = ⟨g, 0 + k, none⟩ := fun k => by by_cases k0 : k = 0 <;> simp [Addr.add, k0]
    rw [e] at c0 c1
    exact ⟨c0, c1⟩
theorem OwnF.below {w w' : World} {base : Nat} {v : Value} {l : List (Int × Int)} (h : OwnF w base v l) (hb : Below w.heap.size w w') : OwnF w' base v l :=
  World.ownsRow.kept h (fgrown_of_below hb none) (by cases v.ownBlock <;> simp)
theorem appF {ops : Array Oper} {rest : List Oper} {o : Oper} {a : Act} {Q : Exit → Act → World → Prop} {w : World} (hgd : o.guard = none) (s x : Operand)
    (ho : o.op = .call { callee := .builtin .append, args := #[s, x], argTypes := #[36, 36] })
    (base : Nat) (v : Value) (l : List (Int × Int)) (hs : a.eval s = v) (hown : OwnF w base v l) (g : Nat) (hx : a.eval x = .slice (some ⟨g, 0, none⟩) 1 1) (p q : Int)
    (c0 : w.cell? ⟨g, 0, none⟩ = some (.int .i64 p)) (c1 : w.cell? ⟨g, 1, none⟩ = some (.int .i64 q)) (hlen : Hid (l.length ≤ 4000)) (hbase : base ≤ w.heap.size)
    (h : ∀ v' w', OwnF w' base v' (l ++ [(p, q)]) → w.grownBy w' v.ownBlock → wpList Try.prog ops Q rest (a.put o.dst v') w') :
    wpList Try.prog ops Q (o :: rest) a w := by
  obtain ⟨i0, hi, hz0, hz1, hz2⟩ := info_parts info_fr
  have hl := hlen.out
  refine wpList_append_own_at _ hgd s x 36 ho base 30 i0 (.agg #[.int .i64 0, .int .i64 0]) 2 16 Try.underlying36 hi hz0 hz1 hz2 rfl (by decide) v l.length (frc l) hs hown ⟨g, 0, none⟩ 1 1 (frc [(p, q)]) hx (by simp [frc]) ?_ (frc_cell _) (by unfold maxLen; omega) (by omega) hbase ?_
  · intro j u hu
    match j with
    | 0 => simp [frc] at hu; subst hu; simpa [Addr.add] using c0
    | 1 => simp [frc] at hu; subst hu; simpa [Addr.add] using c1
    | j + 2 => simp [frc] at hu
  · intro v' w' h1 h2 _ h4
    refine h v' w' ?_ h2
    unfold OwnF
    rw [frc_append, List.length_append]
    exact h1
theorem ownF_lt {w : World} {base : Nat} {v : Value} {l : List (Int × Int)} (h : OwnF w base v l) {g : Nat} (hg : v.ownBlock = some g) : base ≤ g ∧ g < w.heap.size := World.ownsRow.lt h g hg
/-! ### Lists of ints that grow -/
theorem info_int : (Try.prog.info? 3).map (fun i => (i.zero, i.size, i.bytes)) = some (some (.int .i64 0), 1, 8) := by kernel_rfl
def intc (l : List Int) : List Value := l.map (fun x => Value.int .i64 x)
/-- A row of ints that the call owns. -/
def OwnI (w : World) (base : Nat) (v : Value) (l : List Int) : Prop := w.ownsRow base 3 1 v l.length (intc l)
theorem OwnI.nil (w : World) (base : Nat) : OwnI w base (.slice none 0 0) [] := w.ownsRow_nil base 3 1
theorem OwnI.form {w : World} {base : Nat} {v : Value} {l : List Int} (h : OwnI w base v l) : ∃ A cap, v = .slice A l.length cap ∧ l.length ≤ cap ∧ Ints w A l ∧ (∀ b off, A = some ⟨b, off, none⟩ → base ≤ b ∧ b < w.heap.size) := by
  rcases h.2 with ⟨rfl, h0⟩ | ⟨g, cap, cur, rfl, hb, hg, hn, hm, hs, ht⟩
  · have e : l = [] := List.eq_nil_of_length_eq_zero h0
    subst e
    exact ⟨none, 0, rfl, Nat.le_refl _, fun h => absurd h (by simp), fun b off h => by cases h⟩
  · have gl : g < w.heap.size := (Array.getElem?_eq_some_iff.1 hg).1
    refine ⟨some ⟨g, 0, none⟩, cap, rfl, hn, fun _ => ⟨g, 0, rfl, gl, fun j hj => ?_⟩, fun b off e => by
      simp only [Option.some.injEq, Addr.mk.injEq] at e
      obtain ⟨rfl, -⟩ := e
      exact ⟨hb, gl⟩⟩
    have g0 : (intc l)[j]? = some (.int .i64 (l[j])) := by simp [intc, hj]
    have c0 := World.ownsRow.cells h (g := g) rfl _ _ g0
    have e : ∀ k, (⟨g, 0, none⟩ : Addr).add k = ⟨g, 0 + k, none⟩ := fun k => by by_cases k0 : k = 0 <;> simp [Addr.add, k0]
    rw [e] at c0
    exact c0
theorem OwnI.below {w w' : World} {base : Nat} {v : Value} {l : List Int} (h : OwnI w base v l) (hb : Below w.heap.size w w') : OwnI w' base v l :=
  World.ownsRow.kept h (fgrown_of_below hb none) (by cases v.ownBlock <;> simp)
theorem appI_in {n : Nat} {ops : Array Oper} {rest : List Oper} {o : Oper} {a : Act} {Q : Exit → Act → World → Prop} {w : World} (hgd : o.guard = none) (s x : Operand)
    (ho : o.op = .call { callee := .builtin .append, args := #[s, x], argTypes := #[22, 22] })
    (base : Nat) (v : Value) (l : List Int) (hs : a.eval s = v) (hown : OwnI w base v l) (g : Nat) (hx : a.eval x = .slice (some ⟨g, 0, none⟩) 1 1) (p : Int)
    (c0 : w.cell? ⟨g, 0, none⟩ = some (.int .i64 p)) (hlen : Hid (l.length ≤ 4000)) (hbase : base ≤ w.heap.size)
    (h : ∀ v' w', OwnI w' base v' (l ++ [p]) → w.grownBy w' v.ownBlock → wpListIn Fence.wide n Try.prog ops Q rest (a.put o.dst v') w') :
    wpListIn Fence.wide n Try.prog ops Q (o :: rest) a w := by
  obtain ⟨i0, hi, hz0, hz1, hz2⟩ := info_parts info_int
  have hl := hlen.out
  refine wpListIn_append_own w hgd s x 22 ho base 3 i0 (.int .i64 0) 1 8 Try.underlying22 hi hz0 hz1 hz2 rfl (by decide) v l.length (intc l) hs hown ⟨g, 0, none⟩ 1 1 (intc [p]) hx (by simp [intc]) ?_ (fun u hu => by simp [intc] at hu; subst hu; rfl) (by unfold maxLen; omega) (by omega) hbase ?_
  · intro j u hu
    match j with
    | 0 => simp [intc] at hu; subst hu; simpa [Addr.add] using c0
    | j + 1 => simp [intc] at hu
  · intro v' w' h1 h2 _
    refine h v' w' ?_ h2
    unfold OwnI
    have e : intc (l ++ [p]) = intc l ++ intc [p] := by simp [intc]
    rw [e, List.length_append]
    exact h1
theorem appI {ops : Array Oper} {rest : List Oper} {o : Oper} {a : Act} {Q : Exit → Act → World → Prop} {w : World} (hgd : o.guard = none) (s x : Operand)
    (ho : o.op = .call { callee := .builtin .append, args := #[s, x], argTypes := #[22, 22] })
    (base : Nat) (v : Value) (l : List Int) (hs : a.eval s = v) (hown : OwnI w base v l) (g : Nat) (hx : a.eval x = .slice (some ⟨g, 0, none⟩) 1 1) (p : Int)
    (c0 : w.cell? ⟨g, 0, none⟩ = some (.int .i64 p)) (hlen : Hid (l.length ≤ 4000)) (hbase : base ≤ w.heap.size)
    (h : ∀ v' w', OwnI w' base v' (l ++ [p]) → w.grownBy w' v.ownBlock → wpList Try.prog ops Q rest (a.put o.dst v') w') :
    wpList Try.prog ops Q (o :: rest) a w := by
  obtain ⟨i0, hi, hz0, hz1, hz2⟩ := info_parts info_int
  have hl := hlen.out
  refine wpList_append_own_at _ hgd s x 22 ho base 3 i0 (.int .i64 0) 1 8 Try.underlying22 hi hz0 hz1 hz2 rfl (by decide) v l.length (intc l) hs hown ⟨g, 0, none⟩ 1 1 (intc [p]) hx (by simp [intc]) ?_ (fun u hu => by simp [intc] at hu; subst hu; rfl) (by unfold maxLen; omega) (by omega) hbase ?_
  · intro j u hu
    match j with
    | 0 => simp [intc] at hu; subst hu; simpa [Addr.add] using c0
    | j + 1 => simp [intc] at hu
  · intro v' w' h1 h2 _ _
    refine h v' w' ?_ h2
    unfold OwnI
    have e : intc (l ++ [p]) = intc l ++ intc [p] := by simp [intc]
    rw [e, List.length_append]
    exact h1
theorem ownI_lt {w : World} {base : Nat} {v : Value} {l : List Int} (h : OwnI w base v l) {g : Nat} (hg : v.ownBlock = some g) : base ≤ g ∧ g < w.heap.size := World.ownsRow.lt h g hg
theorem appF_step {ops : Array Oper} {o : Oper} {a : Act} {K : Act → World → Prop} {Q : Exit → Act → World → Prop} {E : Prop} {w : World} (hgd : o.guard = none) (s x : Operand)
    (ho : o.op = .call { callee := .builtin .append, args := #[s, x], argTypes := #[36, 36] })
    (base : Nat) (v : Value) (l : List (Int × Int)) (hs : a.eval s = v) (hown : OwnF w base v l) (g : Nat) (hx : a.eval x = .slice (some ⟨g, 0, none⟩) 1 1) (p q : Int)
    (c0 : w.cell? ⟨g, 0, none⟩ = some (.int .i64 p)) (c1 : w.cell? ⟨g, 1, none⟩ = some (.int .i64 q)) (hlen : Hid (l.length ≤ 4000)) (hbase : base ≤ w.heap.size)
    (h : ∀ v' w', OwnF w' base v' (l ++ [(p, q)]) → w.grownBy w' v.ownBlock → K (a.put o.dst v') w') :
    if Region.wanted o (yielded ops a.tmps) = true then Oper.wp Try.prog o a w K Q else E := by
  obtain ⟨i0, hi, hz0, hz1, hz2⟩ := info_parts info_fr
  have hl := hlen.out
  refine step_append_lies w hgd s x 36 ho base 30 i0 (.agg #[.int .i64 0, .int .i64 0]) 2 16 Try.underlying36 hi hz0 hz1 hz2 rfl (by decide) v l.length (frc l) hs hown ⟨g, 0, none⟩ 1 1 (frc [(p, q)]) hx (by simp [frc]) ?_ (frc_cell _) (by decide) (by unfold maxLen; omega) (by omega) hbase _ rfl ?_
  · intro j u hu
    match j with
    | 0 => simp [frc] at hu; subst hu; simpa [Addr.add] using c0
    | 1 => simp [frc] at hu; subst hu; simpa [Addr.add] using c1
    | j + 2 => simp [frc] at hu
  · intro g' cap' w' h1 h2 h3 h4
    refine h _ w' ?_ h2
    unfold OwnF
    rw [frc_append, List.length_append]
    exact h1
namespace Sp
def opt (b : Bool) (x : Int) : List Int := if b = true then [x] else []
/-- The neighbours of a node in ascending order. -/
def nbS (c r i : Int) : List Int := opt (decide (0 < i.tdiv c)) (i - c) ++ opt (decide (0 < i.tmod c)) (i - 1) ++ opt (decide (i.tmod c < c - 1)) (i + 1) ++ opt (decide (i.tdiv c < r - 1)) (i + c)
end Sp
theorem TrAt.grown {w w' : World} {g : Nat} {c r k : Int} {A : Option Addr} {n cap : Nat} (h : TrAt w g c r k A n cap) {row : Option Nat} (hg : w.grownBy w' row) (hr : ∀ b, row = some b → g < b) : TrAt w' g c r k A n cap := by
  have bk : w'.heap[g]? = w.heap[g]? := hg.block g h.lt (fun e => by have := hr g e.symm; omega)
  have ce : ∀ o, w'.cell? ⟨g, o, none⟩ = w.cell? ⟨g, o, none⟩ := fun o => World.cell?_of_block (a := ⟨g, o, none⟩) bk
  exact ⟨Nat.lt_of_lt_of_le h.lt hg.size, (ce _).trans h.c0, (ce _).trans h.c1, (ce _).trans h.c2, (ce _).trans h.c3⟩
theorem Ints.grown {w w' : World} {A : Option Addr} {l : List Int} (h : Ints w A l) {row : Option Nat} (hg : w.grownBy w' row) (hr : ∀ b off k, A = some ⟨b, off, none⟩ → row = some k → b ≠ k) : Ints w' A l := fun h0 => by
  obtain ⟨b, off, e, bl, q⟩ := h h0
  exact ⟨b, off, e, Nat.lt_of_lt_of_le bl hg.size, fun j hj => (World.cell?_of_block (a := ⟨b, off + j, none⟩) (hg.block b bl (fun e2 => hr b off b e e2.symm rfl))).trans (q j hj)⟩
/-- A list of ints is answered, in memory of the call's own. -/
def IntsPost (w : World) (L : List Int) (e : Ending) (w' : World) : Prop := Below w.heap.size w w' ∧ ∃ A cap, e = .returned (.slice A L.length cap) ∧ Ints w' A L
theorem ilen2 (B : Bool) (x : Int) : (Sp.opt B x).length ≤ 1 := by unfold Sp.opt; split <;> simp
set_option maxRecDepth 100000 in
set_option maxHeartbeats 1000000 in
theorem tneigh_walk (A : Option Addr) (cap : Nat) (c r k : Int) (z : List Int) (i X Y : Int) (B1 B2 B3 B4 : Bool) (w : World) (hX : i.tmod c = X) (hY : i.tdiv c = Y) (h1 : decide (Y > 0) = B1) (h2 : decide (X > 0) = B2) (h3 : decide (X < c - 1) = B3) (h4 : decide (Y < r - 1) = B4)
    (bc : 2 ≤ c ∧ c ≤ 16) (br : 2 ≤ r ∧ r ≤ 16) (bi : 0 ≤ i ∧ i ≤ 256) (bX : 0 ≤ X ∧ X ≤ 256) (bY : 0 ≤ Y ∧ Y ≤ 256) :
    Calls Try.prog 73 #[.agg #[.int .i64 c, .int .i64 r, .int .i64 k, .slice A z.length cap], .int .i64 i] w (IntsPost w (Sp.opt B1 (i - c) ++ Sp.opt B2 (i - 1) ++ Sp.opt B3 (i + 1) ++ Sp.opt B4 (i + c))) := by
  have VB := trAt_new w c r k A z.length cap
  have b0 : Below w.heap.size w (w.alloc (Obj.cells #[.int .i64 c, .int .i64 r, .int .i64 k, .slice A z.length cap] 24)) := balloc _ _
  have uz : w.heap.size + 1 ≤ (w.alloc (Obj.cells #[.int .i64 c, .int .i64 r, .int .i64 k, .slice A z.length cap] 24)).heap.size := by simp
  generalize hU : w.alloc (Obj.cells #[.int .i64 c, .int .i64 r, .int .i64 k, .slice A z.length cap] 24) = U at VB b0 uz
  have hD : Below U.heap.size U U.drew := (Below.refl _ _).drew
  have VD := VB.below hD
  have bD := bthen b0 hD
  have zD := Nat.le_trans uz hD.size
  have HU := hid hU
  have kz : ¬ c = 0 := by omega
  have ky : (c == 0) = false := by simp; omega
  have x1 : IntKind.i64.wrap X = X := pi64 _ (by omega)
  have x2 : IntKind.i64.wrap Y = Y := pi64 _ (by omega)
  have y1 : wrap64 (i - c) = i - c := pw64 _ (by omega)
  have y2 : wrap64 (i - 1) = i - 1 := pw64 _ (by omega)
  have y3 : wrap64 (i + 1) = i + 1 := pw64 _ (by omega)
  have y4 : wrap64 (i + c) = i + c := pw64 _ (by omega)
  have y5 : wrap64 (c - 1) = c - 1 := pw64 _ (by omega)
  have y6 : wrap64 (r - 1) = r - 1 := pw64 _ (by omega)
  have c0 := VB.c0
  have c1 := VB.c1
  have c2 := VB.c2
  have c3 := VB.c3
  have cl := VB.lt
  clear hU b0 uz VB bc br bi bX bY hD
  go_enter Try.func73, Try.ntmps73
  go_upto_region 1 with fail
  rw [HU.out]
  go_still (by rfl)
  refine (show ∀ (K : Act → World → Prop) a, K a U.drew → K a { U with drawn := U.drawn + 1 } from fun K a h => h) _ _ ?_
  clear c0 c1 c2 c3 cl
  generalize U.drew = V at VD bD zD ⊢
  have O0 : OwnI V (w.heap.size + 1) (.slice none 0 0) [] := OwnI.nil _ _
  have HO := hid O0
  have HV := hid VD
  have HB := hid bD
  have HZ := hid zD
  clear VD bD zD O0
  have t0 := HV.out.c0
  have t1 := HV.out.c1
  have tl := HV.out.lt
  go_upto_if 17 with fail
  clear t0 t1 tl
  go_cut [7] (fun v wx => OwnI wx (w.heap.size + 1) v (Sp.opt B1 (i - c)) ∧ TrAt wx w.heap.size c r k A z.length cap ∧ Below w.heap.size w wx ∧ w.heap.size + 1 ≤ wx.heap.size)
  case first =>
    have t0 := HV.out.c0
    have tl := HV.out.lt
    cases B1
    · go_wp2_with fail
      go_meet
      exact ⟨by simpa [Sp.opt] using HO.out, HV.out, HB.out, HZ.out⟩
    · have ll : Hid (([] : List Int).length ≤ 4000) := hid (by exact Nat.zero_le _)
      have gb : w.heap.size + 1 ≤ (V.alloc (.cells #[.int .i64 (i - c)] 3)).heap.size := by have := HZ.out; simp; omega
      go_wp2_with (at_builtin; refine appI rfl _ _ rfl (w.heap.size + 1) _ [] rfl (HO.out.below (balloc _ _)) V.heap.size rfl (i - c) (by simp [go_sem]) ll gb ?_; intro v8 w8 how hgr)
      go_meet
      have OL := fun g h => ownI_lt HO.out (g := g) h
      exact ⟨by simpa [Sp.opt] using how, (HV.out.below (balloc _ _)).grown hgr (fun b e => by have := (OL b e).1; omega), (bthen HB.out (balloc _ _)).grown hgr (Nat.le_of_succ_le gb) (fun b e => by have := (OL b e).1; omega), Nat.le_trans gb hgr.size⟩
  case rest =>
    obtain ⟨hO, hQ, hB, hZ⟩ := hcut
    clear HO HV HB HZ
    have HO := hid hO
    have HV := hid hQ
    have HB := hid hB
    have HZ := hid hZ
    obtain ⟨A1, k1, e1, -, -, -⟩ := hO.form
    subst e1
    clear hO hQ hB hZ
    have t0 := HV.out.c0
    have t1 := HV.out.c1
    have tl := HV.out.lt
    go_upto_if 26 with fail
    clear t0 t1 tl
    go_cut [7] (fun v wx => OwnI wx (w.heap.size + 1) v ((Sp.opt B1 (i - c)) ++ Sp.opt B2 (i - 1)) ∧ TrAt wx w.heap.size c r k A z.length cap ∧ Below w.heap.size w wx ∧ w.heap.size + 1 ≤ wx.heap.size)
    case first =>
      have t0 := HV.out.c0
      have tl := HV.out.lt
      cases B2
      · go_wp2_with fail
        go_meet
        exact ⟨by simpa [Sp.opt] using HO.out, HV.out, HB.out, HZ.out⟩
      · have ll : Hid (((Sp.opt B1 (i - c)) : List Int).length ≤ 4000) := hid (by have q0 := ilen2 B1 (i - c); omega)
        have gb : w.heap.size + 1 ≤ (wc.alloc (.cells #[.int .i64 (i - 1)] 3)).heap.size := by have := HZ.out; simp; omega
        go_wp2_with (at_builtin; refine appI rfl _ _ rfl (w.heap.size + 1) _ (Sp.opt B1 (i - c)) rfl (HO.out.below (balloc _ _)) wc.heap.size rfl (i - 1) (by simp [go_sem]) ll gb ?_; intro v8 w8 how hgr)
        go_meet
        have OL := fun g h => ownI_lt HO.out (g := g) h
        exact ⟨by simpa [Sp.opt] using how, (HV.out.below (balloc _ _)).grown hgr (fun b e => by have := (OL b e).1; omega), (bthen HB.out (balloc _ _)).grown hgr (Nat.le_of_succ_le gb) (fun b e => by have := (OL b e).1; omega), Nat.le_trans gb hgr.size⟩
    case rest =>
      obtain ⟨hO, hQ, hB, hZ⟩ := hcut
      clear HO HV HB HZ
      have HO := hid hO
      have HV := hid hQ
      have HB := hid hB
      have HZ := hid hZ
      obtain ⟨A2, k2, e1, -, -, -⟩ := hO.form
      subst e1
      clear hO hQ hB hZ
      have t0 := HV.out.c0
      have t1 := HV.out.c1
      have tl := HV.out.lt
      go_upto_if 36 with fail
      clear t0 t1 tl
      go_cut [7] (fun v wx => OwnI wx (w.heap.size + 1) v (((Sp.opt B1 (i - c)) ++ Sp.opt B2 (i - 1)) ++ Sp.opt B3 (i + 1)) ∧ TrAt wx w.heap.size c r k A z.length cap ∧ Below w.heap.size w wx ∧ w.heap.size + 1 ≤ wx.heap.size)
      case first =>
        have t0 := HV.out.c0
        have tl := HV.out.lt
        cases B3
        · go_wp2_with fail
          go_meet
          exact ⟨by simpa [Sp.opt] using HO.out, HV.out, HB.out, HZ.out⟩
        · have ll : Hid ((((Sp.opt B1 (i - c)) ++ Sp.opt B2 (i - 1)) : List Int).length ≤ 4000) := hid (by simp only [List.length_append]; have q0 := ilen2 B1 (i - c); have q1 := ilen2 B2 (i - 1); omega)
          have gb : w.heap.size + 1 ≤ (wc.alloc (.cells #[.int .i64 (i + 1)] 3)).heap.size := by have := HZ.out; simp; omega
          go_wp2_with (at_builtin; refine appI rfl _ _ rfl (w.heap.size + 1) _ ((Sp.opt B1 (i - c)) ++ Sp.opt B2 (i - 1)) rfl (HO.out.below (balloc _ _)) wc.heap.size rfl (i + 1) (by simp [go_sem]) ll gb ?_; intro v8 w8 how hgr)
          go_meet
          have OL := fun g h => ownI_lt HO.out (g := g) h
          exact ⟨by simpa [Sp.opt] using how, (HV.out.below (balloc _ _)).grown hgr (fun b e => by have := (OL b e).1; omega), (bthen HB.out (balloc _ _)).grown hgr (Nat.le_of_succ_le gb) (fun b e => by have := (OL b e).1; omega), Nat.le_trans gb hgr.size⟩
      case rest =>
        obtain ⟨hO, hQ, hB, hZ⟩ := hcut
        clear HO HV HB HZ
        have HO := hid hO
        have HV := hid hQ
        have HB := hid hB
        have HZ := hid hZ
        obtain ⟨A3, k3, e1, -, -, -⟩ := hO.form
        subst e1
        clear hO hQ hB hZ
        have t0 := HV.out.c0
        have t1 := HV.out.c1
        have tl := HV.out.lt
        go_upto_if 46 with fail
        clear t0 t1 tl
        go_cut [7] (fun v wx => OwnI wx (w.heap.size + 1) v ((((Sp.opt B1 (i - c)) ++ Sp.opt B2 (i - 1)) ++ Sp.opt B3 (i + 1)) ++ Sp.opt B4 (i + c)) ∧ TrAt wx w.heap.size c r k A z.length cap ∧ Below w.heap.size w wx ∧ w.heap.size + 1 ≤ wx.heap.size)
        case first =>
          have t0 := HV.out.c0
          have tl := HV.out.lt
          cases B4
          · go_wp2_with fail
            go_meet
            exact ⟨by simpa [Sp.opt] using HO.out, HV.out, HB.out, HZ.out⟩
          · have ll : Hid (((((Sp.opt B1 (i - c)) ++ Sp.opt B2 (i - 1)) ++ Sp.opt B3 (i + 1)) : List Int).length ≤ 4000) := hid (by simp only [List.length_append]; have q0 := ilen2 B1 (i - c); have q1 := ilen2 B2 (i - 1); have q2 := ilen2 B3 (i + 1); omega)
            have gb : w.heap.size + 1 ≤ (wc.alloc (.cells #[.int .i64 (i + c)] 3)).heap.size := by have := HZ.out; simp; omega
            go_wp2_with (at_builtin; refine appI rfl _ _ rfl (w.heap.size + 1) _ (((Sp.opt B1 (i - c)) ++ Sp.opt B2 (i - 1)) ++ Sp.opt B3 (i + 1)) rfl (HO.out.below (balloc _ _)) wc.heap.size rfl (i + c) (by simp [go_sem]) ll gb ?_; intro v8 w8 how hgr)
            go_meet
            have OL := fun g h => ownI_lt HO.out (g := g) h
            exact ⟨by simpa [Sp.opt] using how, (HV.out.below (balloc _ _)).grown hgr (fun b e => by have := (OL b e).1; omega), (bthen HB.out (balloc _ _)).grown hgr (Nat.le_of_succ_le gb) (fun b e => by have := (OL b e).1; omega), Nat.le_trans gb hgr.size⟩
        case rest =>
          obtain ⟨hO, hQ, hB, hZ⟩ := hcut
          clear HO HV HB HZ
          have HO := hid hO
          have HV := hid hQ
          have HB := hid hB
          have HZ := hid hZ
          obtain ⟨A4, k4, e1, -, -, -⟩ := hO.form
          subst e1
          clear hO hQ hB hZ
          go_wp2_with fail
          obtain ⟨A9, k9, e9, -, F9, -⟩ := HO.out.form
          injection e9 with g1 g2 g3
          subst g1 g3
          refine bodyPost_ret (v := .slice A4 ((((Sp.opt B1 (i - c)) ++ Sp.opt B2 (i - 1)) ++ Sp.opt B3 (i + 1)) ++ Sp.opt B4 (i + c)).length k4) (by simp [results, Try.results73, go_sem]) rfl ?_
          exact ⟨HB.out, A4, k4, rfl, F9⟩
theorem tneigh_any (A : Option Addr) (cap : Nat) (c r k : Int) (z : List Int) (i : Int) (w : World) (bc : 2 ≤ c ∧ c ≤ 16) (br : 2 ≤ r ∧ r ≤ 16) (bi : 0 ≤ i ∧ i ≤ 256) :
    Calls Try.prog 73 #[.agg #[.int .i64 c, .int .i64 r, .int .i64 k, .slice A z.length cap], .int .i64 i] w (IntsPost w (Sp.nbS c r i)) := by
  have t0 := Int.tdiv_nonneg bi.1 (show 0 ≤ c by omega)
  have t1 : i.tdiv c ≤ i := by rw [Int.tdiv_eq_ediv_of_nonneg bi.1]; exact Int.ediv_le_self _ bi.1
  have m0 := Int.tmod_nonneg c bi.1
  have m1 : i.tmod c < c := Int.tmod_lt_of_pos _ (by omega)
  exact tneigh_walk A cap c r k z i _ _ _ _ _ _ w rfl rfl rfl rfl rfl rfl bc br bi ⟨m0, by omega⟩ ⟨t0, by omega⟩
namespace Sp
/-- The lowest of some nodes, the first of equal ones. -/
def lowF (z : List Int) : Int → List Int → Int
  | l, [] => l
  | l, n :: L => lowF z (if hz z n < hz z l then n else l) L
/-- The node to which water flows, or -1. -/
def rcvS (z : List Int) (c r i : Int) : Int := if lowF z i (nbS c r i) = i then -1 else lowF z i (nbS c r i)
theorem hz_at (z : List Int) (q : Nat) (h : q < z.length) : hz z (q : Int) = z[q] := by
  unfold hz
  rw [Int.toNat_natCast, List.getElem?_eq_getElem h]; rfl
theorem opt_mem {b : Bool} {x y : Int} (h : y ∈ opt b x) : b = true ∧ y = x := by
  unfold opt at h
  split at h
  · simp at h; exact ⟨by assumption, h⟩
  · simp at h
theorem nbS_mem {c r i x : Int} (bc : 2 ≤ c) (br : 2 ≤ r) (i0 : 0 ≤ i) (i1 : i < c * r) (h : x ∈ nbS c r i) : 0 ≤ x ∧ x < c * r := by
  have e := Int.mul_tdiv_add_tmod i c
  have t0 := Int.tdiv_nonneg i0 (show 0 ≤ c by omega)
  have m0 := Int.tmod_nonneg c i0
  have m1 : i.tmod c < c := Int.tmod_lt_of_pos _ (by omega)
  unfold nbS at h
  generalize i.tdiv c = Y at *
  generalize i.tmod c = X at *
  simp only [List.mem_append] at h
  rcases h with ((h | h) | h) | h
  · obtain ⟨h1, rfl⟩ := opt_mem h
    have h2 : 0 < Y := by simpa using h1
    have : c * 1 ≤ c * Y := Int.mul_le_mul_of_nonneg_left (by omega) (by omega)
    omega
  · obtain ⟨h1, rfl⟩ := opt_mem h
    have h2 : 0 < X := by simpa using h1
    have : 0 ≤ c * Y := Int.mul_nonneg (by omega) t0
    omega
  · obtain ⟨h1, rfl⟩ := opt_mem h
    have h2 : X < c - 1 := by simpa using h1
    refine ⟨by omega, ?_⟩
    have h3 : Y ≤ r - 1 := by
      apply Int.le_of_not_gt
      intro g
      have : c * r ≤ c * Y := Int.mul_le_mul_of_nonneg_left (by omega) (by omega)
      omega
    have : c * Y ≤ c * (r - 1) := Int.mul_le_mul_of_nonneg_left h3 (by omega)
    rw [Int.mul_sub, Int.mul_one] at this
    omega
  · obtain ⟨h1, rfl⟩ := opt_mem h
    have h2 : Y < r - 1 := by simpa using h1
    have : c * (Y + 1) ≤ c * (r - 1) := Int.mul_le_mul_of_nonneg_left (by omega) (by omega)
    rw [Int.mul_sub, Int.mul_one, Int.mul_add, Int.mul_one] at this
    have t1 : 0 ≤ c * Y := Int.mul_nonneg (by omega) t0
    refine ⟨by omega, by omega⟩
theorem nbS_len (c r i : Int) : (nbS c r i).length ≤ 4 := by
  unfold nbS
  simp only [List.length_append]
  have h1 := ilen2 (decide (0 < i.tdiv c)) (i - c)
  have h2 := ilen2 (decide (0 < i.tmod c)) (i - 1)
  have h3 := ilen2 (decide (i.tmod c < c - 1)) (i + 1)
  have h4 := ilen2 (decide (i.tdiv c < r - 1)) (i + c)
  omega
end Sp
theorem rjw (j n : Nat) (h : j < n) (hn : n ≤ 1000000) : wrap64 ((j : Int) + 1) = (j : Int) + 1 ∧ (j : Int) + 1 = ((j + 1 : Nat) : Int) ∧ (0 : Int) ≤ (j : Int) ∧ (j : Int) < (n : Int) := ⟨pw64 _ (by omega), by rw [Int.natCast_add]; rfl, by omega, by omega⟩
set_option maxRecDepth 100000 in
set_option maxHeartbeats 1000000 in
theorem trcv_walk (A : Option Addr) (cap : Nat) (c r k : Int) (z : List Int) (i F R : Int) (L : List Int) (w : World) (hT : Ints w A z) (zl : z.length ≤ 256) (ll : L.length ≤ 4) (hL : ∀ x ∈ L, 0 ≤ x ∧ x < z.length) (bi : 0 ≤ i ∧ i < z.length)
    (hF : Sp.lowF z i L = F) (hR : (if F = i then -1 else F) = R)
    (nb : ∀ W, Below w.heap.size w W → Calls Try.prog 73 #[.agg #[.int .i64 c, .int .i64 r, .int .i64 k, .slice A z.length cap], .int .i64 i] W (IntsPost W L)) :
    Calls Try.prog 53 #[.agg #[.int .i64 c, .int .i64 r, .int .i64 k, .slice A z.length cap], .int .i64 i] w (Gives (.int .i64 R) w) := by
  have VB := trAt_new w c r k A z.length cap
  have b0 : Below w.heap.size w (w.alloc (Obj.cells #[.int .i64 c, .int .i64 r, .int .i64 k, .slice A z.length cap] 24)) := balloc _ _
  generalize hU : w.alloc (Obj.cells #[.int .i64 c, .int .i64 r, .int .i64 k, .slice A z.length cap] 24) = U at VB b0
  have NB := hid (nb U b0)
  have HU := hid hU
  have HB := hid b0
  have HV := hid VB
  have HT := hid hT
  have HL := hid hL
  have HF := hid hF
  have HR := hid hR
  have ZL := hid zl
  have LL := hid ll
  have BI := hid bi
  have c0 := VB.c0
  have c1 := VB.c1
  have c2 := VB.c2
  have c3 := VB.c3
  have cl := VB.lt
  clear hU b0 VB hT nb hL hF hR zl ll bi
  go_enter Try.func53, Try.ntmps53
  go_upto_region 1 with fail
  rw [HU.out]
  go_wp2_with fail
  refine NB.out.mono ?_
  rintro _ w5 ⟨hb, A5, k5, rfl, h5⟩
  have B5 := hid (bthen HB.out hb)
  have V5 := hid (HV.out.below hb)
  have H5 := hid h5
  clear hb h5 c0 c1 c2 c3 cl
  go_wp2_with fail
  go_loopw [13, 5] (fun t u wr => ∃ j p : Nat, t = .int .i64 (j : Int) ∧ u = .int .i64 (p : Int) ∧ j ≤ L.length ∧ p < z.length ∧ Sp.lowF z (p : Int) (L.drop j) = F ∧ Below w5.heap.size w5 wr) (fun t _ _ => L.length - (intOf t).toNat)
  case atStart =>
    obtain ⟨b1, b2⟩ := BI.out
    refine ⟨0, i.toNat, rfl, by rw [Int.toNat_of_nonneg b1], Nat.zero_le _, by omega, by rw [Int.toNat_of_nonneg b1]; exact HF.out, Below.refl _ _⟩
  case round =>
    obtain ⟨j, p, rfl, rfl, hj, hp, hd, hB⟩ := hrel
    have HD := hid hd
    have HBB := hid hB
    have HP := hid hp
    clear hd hB
    by_cases hlt : j < L.length
    · obtain ⟨b, off, rfl, bl, q⟩ := (H5.out.below HBB.out) (Nat.lt_of_le_of_lt (Nat.zero_le _) hlt)
      have q0 := q j hlt
      obtain ⟨b', off', rfl, bl', q'⟩ := (HT.out.below (bthen B5.out HBB.out)) (Nat.lt_of_le_of_lt (Nat.zero_le _) hp)
      have g := HL.out _ (List.getElem_mem hlt)
      obtain ⟨v, hv⟩ : ∃ v, L[j]'hlt = v := ⟨_, rfl⟩
      have hd := HD.out
      rw [List.drop_eq_getElem_cons hlt] at hd
      unfold Sp.lowF at hd
      rw [hv] at q0 g hd
      obtain ⟨n, rfl⟩ : ∃ n : Nat, v = (n : Int) := ⟨v.toNat, by omega⟩
      have gn : n < z.length := by omega
      rw [Sp.hz_at z n gn, Sp.hz_at z p hp] at hd
      have q1 := q' n gn
      have q2 := q' p hp
      obtain ⟨x, hx⟩ : ∃ x, z[n]'gn = x := ⟨_, rfl⟩
      obtain ⟨y, hy⟩ : ∃ y, z[p]'hp = y := ⟨_, rfl⟩
      rw [hx] at q1 hd
      rw [hy] at q2 hd
      obtain ⟨ej, eq, i0, i1⟩ := rjw j L.length hlt (by have := LL.out; omega)
      obtain ⟨-, -, n0, n1⟩ := rjw n z.length gn (by have := ZL.out; omega)
      obtain ⟨-, -, p0, p1⟩ := rjw p z.length hp (by have := ZL.out; omega)
      have EQ := hid eq
      have HJ := hid hlt
      have GN := hid gn
      have V := V5.out.below HBB.out
      have c3 := V.c3
      have cl := V.lt
      have hD := HBB.out.drew
      have HM := hid (pmeas L.length j hlt)
      clear q q' hv eq g gn V hx hy hp hlt bl bl'
      by_cases f : x < y
      · have f1 : decide (x < y) = true := decide_eq_true f
        rw [if_pos f] at hd
        have HD2 := hid hd
        clear hd f
        go_wp2_with fail
        go_still (by rfl)
        refine (show ∀ (K : Act → World → Prop) a, K a wr.drew → K a { wr with drawn := wr.drawn + 1 } from fun K a h => h) _ _ ?_
        go_wp2_with fail
        go_roundw
        case rel => exact ⟨j + 1, n, i64_eq (by first | exact EQ.out | exact ej.trans EQ.out), rfl, HJ.out, GN.out, HD2.out, hD⟩
        case measure => first | exact HM.out | (rw [ej]; exact HM.out)
      · have f1 : decide (x < y) = false := decide_eq_false f
        rw [if_neg f] at hd
        have HD2 := hid hd
        clear hd f
        go_wp2_with fail
        go_still (by rfl)
        refine (show ∀ (K : Act → World → Prop) a, K a wr.drew → K a { wr with drawn := wr.drawn + 1 } from fun K a h => h) _ _ ?_
        go_wp2_with fail
        go_roundw
        case rel => exact ⟨j + 1, p, i64_eq (by first | exact EQ.out | exact ej.trans EQ.out), rfl, HJ.out, HP.out, HD2.out, hD⟩
        case measure => first | exact HM.out | (rw [ej]; exact HM.out)
    · have i1 : ¬ (j : Int) < (L.length : Int) := fun k => hlt (Int.ofNat_lt.mp k)
      have hd := HD.out
      rw [List.drop_eq_nil_of_le (Nat.le_of_not_lt hlt)] at hd
      have HF2 := hid (show (p : Int) = F from hd)
      clear hd
      by_cases f : (p : Int) = i
      · have f1 : ((p : Int) == i) = true := by simpa using f
        have HR2 := hid (show -1 = R by have := HR.out; rw [← HF2.out, if_pos f] at this; exact this)
        clear f
        go_wp2_with fail
        go_ret
        exact Gives.mk (i64_eq (by first | exact HR2.out.symm | (have := HR2.out; simp; omega))) (bthen B5.out HBB.out)
      · have f1 : ((p : Int) == i) = false := by simpa using f
        have HR2 := hid (show (p : Int) = R by have := HR.out; rw [← HF2.out, if_neg f] at this; exact this)
        clear f
        go_wp2_with fail
        go_ret
        exact Gives.mk (i64_eq (by first | exact HR2.out.symm | exact HR2.out)) (bthen B5.out HBB.out)
theorem trcv_any (A : Option Addr) (cap : Nat) (c r k : Int) (z : List Int) (i : Int) (w : World) (bc : 2 ≤ c ∧ c ≤ 16) (br : 2 ≤ r ∧ r ≤ 16) (hl : (z.length : Int) = c * r) (bi : 0 ≤ i ∧ i < z.length) (hT : Ints w A z) :
    Calls Try.prog 53 #[.agg #[.int .i64 c, .int .i64 r, .int .i64 k, .slice A z.length cap], .int .i64 i] w (Gives (.int .i64 (Sp.rcvS z c r i)) w) := by
  have P : c * r ≤ 16 * 16 := Int.mul_le_mul bc.2 br.2 (by omega) (by omega)
  exact trcv_walk A cap c r k z i _ _ (Sp.nbS c r i) w hT (by omega) (Sp.nbS_len _ _ _) (fun x hx => by rw [hl]; exact Sp.nbS_mem bc.1 br.1 bi.1 (by omega) hx) bi rfl rfl (fun W hb => tneigh_any A cap c r k z i W bc br ⟨bi.1, by omega⟩)
namespace Sp
/-- The values at 0 to n - 1. -/
def tabL (g : Int → Int) (n : Nat) : List Int := (List.range n).map (fun k : Nat => g (k : Int))
theorem tabL_len (g : Int → Int) (n : Nat) : (tabL g n).length = n := by simp [tabL]
theorem tabL_snoc (g : Int → Int) (n : Nat) : tabL g (n + 1) = tabL g n ++ [g (n : Int)] := by simp [tabL, List.range_succ]
theorem tabL_get (g : Int → Int) (n k : Nat) (h : k < (tabL g n).length) : (tabL g n)[k] = g (k : Int) := by simp [tabL]
end Sp
/-- A list of ints and an error are answered. -/
def IlPost (w : World) (E : Int) (L : List Int) (e : Ending) (w' : World) : Prop :=
  Below w.heap.size w w' ∧ ((E ≠ 0 ∧ e = .returned (.tuple #[.slice none 0 0, .int .i64 E])) ∨ (E = 0 ∧ ∃ A cap, e = .returned (.tuple #[.slice A L.length cap, .int .i64 0]) ∧ Ints w' A L))
def RcRel (w : World) (c r k : Int) (A : Option Addr) (n0 cap : Nat) (g : Int → Int) (n : Nat) (t u : Value) (wr : World) : Prop :=
  ∃ j : Nat, t = .int .i64 (j : Int) ∧ j ≤ n ∧ OwnI wr (w.heap.size + 1) u (Sp.tabL g j) ∧ TrAt wr w.heap.size c r k A n0 cap ∧ Below w.heap.size w wr ∧ w.heap.size + 1 ≤ wr.heap.size
set_option maxRecDepth 100000 in
set_option maxHeartbeats 1000000 in
theorem tReceiver_any (A : Option Addr) (cap : Nat) (c r k : Int) (z : List Int) (w : World) (hl : z.length ≤ 140737488355328) (hT : Ints w A z) :
    Calls Try.prog 25 #[.agg #[.int .i64 c, .int .i64 r, .int .i64 k, .slice A z.length cap]] w (IlPost w (Sp.terE c r k z) (Sp.tabL (Sp.rcvS z c r) z.length)) := by
  have VB := trAt_new w c r k A z.length cap
  have b0 : Below w.heap.size w (w.alloc (Obj.cells #[.int .i64 c, .int .i64 r, .int .i64 k, .slice A z.length cap] 24)) := balloc _ _
  have uz : w.heap.size + 1 ≤ (w.alloc (Obj.cells #[.int .i64 c, .int .i64 r, .int .i64 k, .slice A z.length cap] 24)).heap.size := by simp
  generalize hU : w.alloc (Obj.cells #[.int .i64 c, .int .i64 r, .int .i64 k, .slice A z.length cap] 24) = U at VB b0 uz
  have CK := hid (tcheck_any A cap c r k z U hl (hT.below b0))
  have GD := hid (fun (q : Sp.terE c r k z = 0) => Sp.terE_zero q)
  have RC := hid (fun (q : Sp.terE c r k z = 0) (i : Int) (bi : 0 ≤ i ∧ i < z.length) W (hb : Below w.heap.size w W) => by
    obtain ⟨h1, h2, h3, h4, h5⟩ := Sp.terE_zero q
    exact trcv_any A cap c r k z i W h1 h2 h4 bi (hT.below hb))
  generalize Sp.terE c r k z = E at CK GD RC ⊢
  obtain ⟨g, hg⟩ : ∃ g, Sp.rcvS z c r = g := ⟨_, rfl⟩
  rw [hg]
  have RCG := hid (fun q i bi W hb => (congrArg (fun f => Calls Try.prog 53 #[.agg #[.int .i64 c, .int .i64 r, .int .i64 k, .slice A z.length cap], .int .i64 i] W (Gives (.int .i64 (f i)) W)) hg).mp (RC.out q i bi W hb))
  clear RC hg
  have RC := RCG
  clear RCG
  have HU := hid hU
  have HB := hid b0
  have HC := hid VB
  have UZ := hid uz
  have k0 := VB.c0
  have k1 := VB.c1
  have k2 := VB.c2
  have k3 := VB.c3
  have kl := VB.lt
  clear hT hU b0 VB hl uz
  go_enter Try.func25, Try.ntmps25
  go_upto_region 1 with fail
  rw [HU.out]
  go_wp2_with fail
  refine CK.out.mono ?_
  rintro _ w5 ⟨rfl, hb⟩
  have B5 := hid (bthen HB.out hb)
  have Q5 := hid (HC.out.below hb)
  have Z5 := hid (Nat.le_trans UZ.out hb.size)
  clear hb k0 k1 k2 k3 kl
  by_cases cE : E = 0
  · subst cE
    obtain ⟨g1, g2, g3, g4, -⟩ := GD.out rfl
    have zb : z.length ≤ 256 := by
      have : c * r ≤ 16 * 16 := Int.mul_le_mul g1.2 g2.2 (by omega) (by omega)
      omega
    have ZB := hid zb
    have RC2 := hid (RC.out (by first | rfl | trivial))
    have q3 := Q5.out.c3
    have ql := Q5.out.lt
    clear g1 g2 g3 g4 GD RC zb
    go_wp2_with fail
    go_loopw [15, 5] (fun t u wr => RcRel w c r k A z.length cap g z.length t u wr) (fun t _ _ => z.length - (intOf t).toNat)
    case atStart => exact ⟨0, rfl, Nat.zero_le _, OwnI.nil _ _, Q5.out, B5.out, Z5.out⟩
    case round =>
      obtain ⟨j, rfl, hj, hO, hQ, hB, hZ⟩ := hrel
      have HO := hid hO
      have HQ := hid hQ
      have HBB := hid hB
      have HZ := hid hZ
      obtain ⟨A1, q1, e1, -, -, -⟩ := hO.form
      subst e1
      have t0 := hQ.c0
      have t1 := hQ.c1
      have t2 := hQ.c2
      have t3 := hQ.c3
      have tl := hQ.lt
      clear hO hQ hB hZ ql q3
      by_cases hlt : j < z.length
      · obtain ⟨ej, eq, i0, i1⟩ := rjw j z.length hlt (by have := ZB.out; omega)
        have R1 := hid (fun W hb => RC2.out (j : Int) ⟨i0, i1⟩ W hb)
        have sn := Sp.tabL_snoc g j
        obtain ⟨x, hx⟩ : ∃ x, g (j : Int) = x := ⟨_, rfl⟩
        rw [hx] at sn
        simp only [hx] at R1
        have SN := hid sn
        have EQ := hid eq
        have HJ := hid hlt
        have HM := hid (pmeas z.length j hlt)
        have ll : Hid ((Sp.tabL g j).length ≤ 4000) := hid (by rw [Sp.tabL_len]; have := ZB.out; omega)
        clear sn hx eq hlt
        go_wp2_with (first
          | (go_at_call 53; refine (R1.out _ HBB.out).mono ?_; rintro _ w6 ⟨rfl, hb⟩; have HB6 := hid hb; have gb6 : w.heap.size + 1 ≤ (w6.alloc (.cells #[.int .i64 x] 3)).heap.size := (by have h1 := HZ.out; have h2 := hb.size; simp; omega); clear hb)
          | (at_builtin; refine appI rfl _ _ rfl (w.heap.size + 1) _ (Sp.tabL g j) rfl ((HO.out.below HB6.out).below (balloc _ _)) w6.heap.size rfl x (by simp [go_sem]) ll gb6 ?_; intro v8 w8 how hgr))
        have HOW := hid how
        have GR := hid hgr
        have OL := hid (fun g h => ownI_lt HO.out (g := g) h)
        clear how hgr
        go_roundw
        case rel =>
          refine ⟨j + 1, i64_eq (by first | exact EQ.out | exact ej.trans EQ.out), HJ.out, by rw [SN.out]; exact HOW.out, ?_, ?_, Nat.le_trans gb6 GR.out.size⟩
          · exact ((HQ.out.below HB6.out).below (balloc _ _)).grown GR.out (fun b e => by have := (OL.out b e).1; omega)
          · exact (bthen (bthen HBB.out HB6.out) (balloc _ _)).grown GR.out (Nat.le_of_succ_le gb6) (fun b e => by have := (OL.out b e).1; omega)
        case measure => first | exact HM.out | (rw [ej]; exact HM.out)
      · have i1 : ¬ (j : Int) < (z.length : Int) := fun k => hlt (Int.ofNat_lt.mp k)
        obtain rfl : j = z.length := by omega
        obtain ⟨A3, q4, e3, -, F3, -⟩ := HO.out.form
        injection e3 with h1 h2 h3
        subst h1 h3
        have F4 := hid F3
        clear h2 F3
        go_wp2_with fail
        refine bodyPost_ret (v := .tuple #[.slice A1 (Sp.tabL g z.length).length q1, .int .i64 0]) (by simp [results, Try.results25, go_sem]) rfl ?_
        exact ⟨HBB.out, .inr ⟨rfl, A1, q1, rfl, F4.out⟩⟩
  · have hn : (E == 0) = false := by simpa using cE
    clear GD RC
    go_wp2_with fail
    refine bodyPost_ret (v := .tuple #[.slice none 0 0, .int .i64 E]) (by simp [results, Try.results25, go_sem]) rfl ?_
    exact ⟨B5.out, .inl ⟨cE, rfl⟩⟩
namespace Sp
theorem lowF_cases (z : List Int) : ∀ (L : List Int) (l : Int), lowF z l L = l ∨ (lowF z l L ∈ L ∧ hz z (lowF z l L) < hz z l)
  | [], l => .inl rfl
  | n :: L, l => by
    unfold lowF
    by_cases c : hz z n < hz z l
    · rw [if_pos c]
      rcases lowF_cases z L n with h | ⟨h1, h2⟩
      · right; rw [h]; exact ⟨List.mem_cons_self, c⟩
      · exact .inr ⟨List.mem_cons_of_mem _ h1, by omega⟩
    · rw [if_neg c]
      rcases lowF_cases z L l with h | ⟨h1, h2⟩
      · exact .inl h
      · exact .inr ⟨List.mem_cons_of_mem _ h1, h2⟩
theorem rcv_cases {c r i : Int} (z : List Int) (bc : 2 ≤ c) (br : 2 ≤ r) (i0 : 0 ≤ i) (i1 : i < c * r) : rcvS z c r i = -1 ∨ (0 ≤ rcvS z c r i ∧ rcvS z c r i < c * r ∧ hz z (rcvS z c r i) < hz z i) := by
  unfold rcvS
  by_cases h : lowF z i (nbS c r i) = i
  · rw [if_pos h]; exact .inl rfl
  · rw [if_neg h]
    rcases lowF_cases z (nbS c r i) i with g | ⟨g1, g2⟩
    · exact absurd g h
    · obtain ⟨h1, h2⟩ := nbS_mem bc br i0 i1 g1
      exact .inr ⟨h1, h2, g2⟩
/-- What a way along receivers adds to the counts. -/
def wayC (l : List Int) : Nat → Int → List Int → List Int
  | 0, _, C => C
  | f + 1, a, C => if a = -1 then C else wayC l f (l[a.toNat]?.getD (-1)) (C.set a.toNat (C[a.toNat]?.getD 0 + 1))
/-- The counts behind the ways of the first nodes. -/
def catJ (l : List Int) (n : Nat) : Nat → List Int
  | 0 => List.replicate n 0
  | j + 1 => wayC l 50001 (j : Int) (catJ l n j)
theorem wayC_len (l : List Int) : ∀ (f : Nat) (a : Int) (C : List Int), (wayC l f a C).length = C.length
  | 0, _, _ => rfl
  | f + 1, a, C => by
    unfold wayC
    split
    · rfl
    · rw [wayC_len l f, List.length_set]
theorem catJ_len (l : List Int) (n : Nat) : ∀ j, (catJ l n j).length = n
  | 0 => by simp [catJ]
  | j + 1 => by unfold catJ; rw [wayC_len, catJ_len l n j]
/-- How high a way stands. -/
def hm (z : List Int) (a : Int) : Nat := if a = -1 then 0 else (hz z a).toNat + 1
end Sp
/-- A row of ints in a block of its own, that can be written. -/
structure RowI (w : World) (g : Nat) (l : List Int) : Prop where
  lt : g < w.heap.size
  c : ∀ j, (hj : j < l.length) → w.cell? ⟨g, j, none⟩ = some (.int .i64 (l[j]))
  f : ∀ o, w.frozen? ⟨g, o, none⟩ = false
theorem RowI.below {w w' : World} {g : Nat} {l : List Int} (h : RowI w g l) (hb : Below w.heap.size w w') : RowI w' g l :=
  ⟨Nat.lt_of_lt_of_le h.lt hb.size, fun j hj => (hb.cell (p := ⟨g, j, none⟩) h.lt).trans (h.c j hj), fun o => (hb.frozen (p := ⟨g, o, none⟩) h.lt).trans (h.f o)⟩
theorem RowI.set {w : World} {g : Nat} {l : List Int} (h : RowI w g l) (m : Nat) (v : Int) (hm : m < l.length) : RowI (w.setCell ⟨g, m, none⟩ (.int .i64 v)) g (l.set m v) := by
  refine ⟨by simpa using h.lt, fun j hj => ?_, fun o => by simp [go_sem, h.f]⟩
  have hj' : j < l.length := by simpa using hj
  by_cases e : j = m
  · subst e
    have := h.c j hj'
    simp [go_sem, this]
  · rw [World.cell?_setCell_other _ _ _ _ (by first | (simp; done) | (simp; omega)), h.c j hj', List.getElem_set_ne (fun k => e k.symm)]
theorem RowI.ints {w : World} {g : Nat} {l : List Int} (h : RowI w g l) : Ints w (some ⟨g, 0, none⟩) l := fun _ => ⟨g, 0, rfl, h.lt, fun j hj => by rw [Nat.zero_add]; exact h.c j hj⟩
theorem rowI_made (w : World) (n : Nat) : RowI (w.alloc (.cells (madeCells #[.int .i64 0] n) 3)) w.heap.size (List.replicate n 0) := by
  refine ⟨by simp, fun j hj => ?_, fun o => by simp [go_sem]⟩
  have hj' : j < n := by simpa using hj
  rw [List.getElem_replicate]
  simp [go_sem, madeCells, hj', Nat.mod_one]
namespace Sp
theorem getD_at {l : List Int} {d : Int} (m : Nat) (h : m < l.length) : l[m]?.getD d = l[m] := by rw [List.getElem?_eq_getElem h]; rfl
/-- The counts of all nodes. -/
def catS (z : List Int) (c r : Int) : List Int := catJ (tabL (rcvS z c r) z.length) z.length z.length
theorem set_bound {C : List Int} {M f : Int} {m : Nat} {v : Int} (h : ∀ v ∈ C, 0 ≤ v ∧ v + (f + 1) ≤ M) (hv : v ∈ C) : ∀ u ∈ C.set m (v + 1), 0 ≤ u ∧ u + f ≤ M := by
  intro u hu
  rcases List.mem_or_eq_of_mem_set hu with h1 | rfl
  · have := h u h1; omega
  · have := h v hv; omega
end Sp
/-- What holds inside the loop along one way. -/
def WyRel (z rl : List Int) (G j : Nat) (T : List Int) (W0 : World) (t : Value) (wr : World) : Prop :=
  ∃ (f : Nat) (a : Int) (C : List Int), t = .int .i64 a ∧ (a = -1 ∨ (0 ≤ a ∧ a < (rl.length : Int))) ∧ Sp.hm z a ≤ f ∧ f ≤ 50001 ∧ Sp.wayC rl f a C = T ∧ (∀ v ∈ C, 0 ≤ v ∧ v + (f : Int) ≤ ((j : Int) + 1) * 50001) ∧ C.length = rl.length ∧ RowI wr G C ∧ Below G W0 wr
theorem wayC_stop (l : List Int) (f : Nat) (C : List Int) : Sp.wayC l f (-1) C = C := by
  cases f <;> simp [Sp.wayC]
set_option maxRecDepth 100000 in
set_option maxHeartbeats 2000000 in
theorem tcat_walk (A : Option Addr) (cap : Nat) (c r k : Int) (z : List Int) (rl : List Int) (w : World) (hn : rl.length ≤ 256) (E : Int)
    (hd : E = 0 → ∀ m : Nat, (h : m < rl.length) → rl[m] = -1 ∨ (0 ≤ rl[m] ∧ rl[m] < (rl.length : Int) ∧ Sp.hz z rl[m] < Sp.hz z (m : Int))) (hz : E = 0 → ∀ i, Sp.hz z i ≤ 50000 ∧ 0 ≤ Sp.hz z i)
    (RC : ∀ W, Below w.heap.size w W → Calls Try.prog 25 #[.agg #[.int .i64 c, .int .i64 r, .int .i64 k, .slice A z.length cap]] W (IlPost W E rl)) :
    Calls Try.prog 27 #[.agg #[.int .i64 c, .int .i64 r, .int .i64 k, .slice A z.length cap]] w (IlPost w E (Sp.catJ rl rl.length rl.length)) := by
  have VB := trAt_new w c r k A z.length cap
  have b0 : Below w.heap.size w (w.alloc (Obj.cells #[.int .i64 c, .int .i64 r, .int .i64 k, .slice A z.length cap] 24)) := balloc _ _
  generalize hU : w.alloc (Obj.cells #[.int .i64 c, .int .i64 r, .int .i64 k, .slice A z.length cap] 24) = U at VB b0
  have R1 := hid (RC U b0)
  have HU := hid hU
  have HB := hid b0
  have HD := hid hd
  have HZ := hid hz
  have HN := hid hn
  have k0 := VB.c0
  have k1 := VB.c1
  have k2 := VB.c2
  have k3 := VB.c3
  have kl := VB.lt
  have MK := fun (W : World) => run_make_row' (P := Try.prog) 22 3 (.int .i64 0) 8 Try.underlying22 info_int rfl .i64 .i64 rl.length (by omega) (by omega) W
  clear hU b0 VB RC hd hz hn
  go_enter Try.func27, Try.ntmps27
  go_upto_region 1 with fail
  rw [HU.out]
  go_wp2_with fail
  refine R1.out.mono ?_
  rintro _ w5 ⟨hb, ⟨hE, rfl⟩ | ⟨rfl, A5, k5, rfl, h5⟩⟩
  · have B5 := hid (bthen HB.out hb)
    have hn : (E == 0) = false := by simpa using hE
    clear hb k0 k1 k2 k3 kl MK
    go_wp2_with fail
    refine bodyPost_ret (v := .tuple #[.slice none 0 0, .int .i64 E]) (by simp [results, Try.results27, go_sem]) rfl ?_
    exact ⟨B5.out, .inl ⟨hE, rfl⟩⟩
  · have B5 := hid (bthen HB.out hb)
    have RD := hid (HD.out rfl)
    have ZD := hid (HZ.out rfl)
    have H5 := hid h5
    have mk := MK w5
    have W0 := rowI_made w5 rl.length
    have hb0 : Below w5.heap.size w5 (w5.alloc (.cells (madeCells #[.int .i64 0] rl.length) 3)) := balloc _ _
    clear hb h5 k0 k1 k2 k3 kl MK HD HZ
    generalize hV : w5.alloc (.cells (madeCells #[.int .i64 0] rl.length) 3) = V at mk W0 hb0
    have I5 := hid (fun W (hb : Below w5.heap.size V W) => H5.out.below (hb0.trans hb))
    have BB := hid (fun W (hb : Below w5.heap.size V W) => bthen B5.out (hb0.trans hb))
    have WV := hid W0
    have ZV := hid (show w5.heap.size ≤ V.heap.size from hb0.size)
    clear hV W0 hb0
    go_wp2_with fail
    go_loopw [22] (fun t wr => ∃ j : Nat, t = .int .i64 (j : Int) ∧ j ≤ rl.length ∧ (∀ v ∈ Sp.catJ rl rl.length j, 0 ≤ v ∧ v ≤ (j : Int) * 50001) ∧ RowI wr w5.heap.size (Sp.catJ rl rl.length j) ∧ Below w5.heap.size V wr) (fun t _ => rl.length - (intOf t).toNat)
    case atStart => exact ⟨0, rfl, Nat.zero_le _, by simp [Sp.catJ], WV.out, Below.refl _ _⟩
    case round =>
      obtain ⟨j, rfl, hj, hv, hR, hB⟩ := hrel
      have HV := hid hv
      have HR := hid hR
      have HBB := hid hB
      clear hv hR hB
      by_cases hlt : j < rl.length
      · obtain ⟨ej, eq, i0, i1⟩ := rjw j rl.length hlt (by have := HN.out; omega)
        have EQ := hid eq
        have HJ := hid hlt
        have HM := hid (pmeas rl.length j hlt)
        obtain ⟨T, hT⟩ : ∃ T, Sp.wayC rl 50001 (j : Int) (Sp.catJ rl rl.length j) = T := ⟨_, rfl⟩
        have HT := hid hT
        have TE := hid (show Sp.catJ rl rl.length (j + 1) = T from hT)
        clear eq hlt hT
        go_wp2_with fail
        go_loopw [8] (fun t wr => WyRel z rl w5.heap.size j T V t wr) (fun t _ => Sp.hm z (intOf t))
        case atStart =>
          refine ⟨50001, (j : Int), _, rfl, .inr ⟨i0, i1⟩, ?_, Nat.le_refl _, HT.out, ?_, Sp.catJ_len _ _ _, HR.out, HBB.out⟩
          · have h := ZD.out (j : Int)
            unfold Sp.hm
            split <;> omega
          · intro v hv
            have h := HV.out v hv
            omega
        case round =>
          obtain ⟨f, a, C, rfl, ha, hf, f1, hw, hC, cl, hR1, hB1⟩ := hrel
          have HW := hid hw
          have HC := hid hC
          have HR1 := hid hR1
          have HB1 := hid hB1
          clear hw hC hR1 hB1
          rcases ha with rfl | ⟨a0, a1⟩
          · have e1 := HW.out
            rw [wayC_stop] at e1
            have E1 := hid e1
            clear e1
            go_wp2_with fail
            go_roundw
            case rel =>
              refine ⟨j + 1, i64_eq (by first | exact EQ.out | exact ej.trans EQ.out), HJ.out, ?_, ?_, HB1.out⟩
              · rw [TE.out, ← E1.out]
                intro v hv
                have h := HC.out v hv
                push_cast
                omega
              · rw [TE.out, ← E1.out]; exact HR1.out
            case measure => first | exact HM.out | (rw [ej]; exact HM.out)
          · obtain ⟨m, rfl⟩ : ∃ m : Nat, a = (m : Int) := ⟨a.toNat, by omega⟩
            have hm : m < rl.length := by omega
            have mz : ¬ (m : Int) = -1 := by omega
            obtain ⟨f', rfl⟩ : ∃ f', f = f' + 1 := by
              refine ⟨f - 1, ?_⟩
              unfold Sp.hm at hf
              rw [if_neg mz] at hf
              omega
            have e1 := HW.out
            unfold Sp.wayC at e1
            rw [if_neg mz, Int.toNat_natCast, Sp.getD_at m hm, Sp.getD_at m (by omega)] at e1
            have q0 := HR1.out.c m (by omega)
            have qf := HR1.out.f
            have ql := HR1.out.lt
            obtain ⟨x, hx⟩ : ∃ x, C[m]'(by omega) = x := ⟨_, rfl⟩
            have xb := HC.out x (by rw [← hx]; exact List.getElem_mem _)
            have jb : (j : Int) ≤ 256 := by have := HJ.out; have := HN.out; omega
            have wx : wrap64 (x + 1) = x + 1 := pw64 _ (by omega)
            have RR := HR1.out.set m (x + 1) (by omega)
            have CB := hid (Sp.set_bound (m := m) (v := x) (f := (f' : Int)) (M := ((j : Int) + 1) * 50001) (by have := HC.out; push_cast at this; exact this) (by rw [← hx]; exact List.getElem_mem _))
            have CL := hid (show (C.set m (x + 1)).length = rl.length by rw [List.length_set]; exact cl)
            rw [hx] at q0 e1
            have E1 := hid e1
            have R2 := hid RR
            have rd := RD.out m hm
            have hb2 : Below w5.heap.size V (wr.setCell ⟨w5.heap.size, m, none⟩ (.int .i64 (x + 1))) := HB1.out.setCell (p := ⟨w5.heap.size, m, none⟩) (Nat.le_refl _) _
            obtain ⟨b, off, eA, bl, q⟩ := (I5.out _ hb2) (by omega)
            have q1 := q m hm
            obtain ⟨y, hy⟩ : ∃ y, rl[m]'hm = y := ⟨_, rfl⟩
            rw [hy] at q1 rd
            have E2 := hid (show Sp.wayC rl f' y (C.set m (x + 1)) = T by have := E1.out; rw [hy] at this; exact this)
            have F1 := hid f1
            have YD := hid (show (y = -1 ∨ (0 ≤ y ∧ y < (rl.length : Int))) ∧ Sp.hm z y ≤ f' ∧ Sp.hm z y < Sp.hm z (m : Int) by
              unfold Sp.hm at hf ⊢
              rw [if_neg mz] at hf ⊢
              rcases rd with rfl | ⟨y0, y1, y2⟩
              · simp
              · have yn : ¬ y = -1 := by omega
                have := (ZD.out y).2
                rw [if_neg yn]
                exact ⟨.inr ⟨y0, y1⟩, by omega, by omega⟩)
            have B2 := hid hb2
            have i0 : (0 : Int) ≤ (m : Int) := Int.natCast_nonneg m
            have i1 : (m : Int) < (rl.length : Int) := Int.ofNat_lt.mpr hm
            subst eA
            clear e1 RR xb jb rd q hf f1 hx hb2 a0 a1 hy E1
            go_wp2_with fail
            go_roundw
            case rel => exact ⟨f', y, C.set m (x + 1), rfl, YD.out.1, YD.out.2.1, Nat.le_of_succ_le F1.out, E2.out, CB.out, CL.out, R2.out, B2.out⟩
            case measure => exact YD.out.2.2
      · have i1 : ¬ (j : Int) < (rl.length : Int) := fun k => hlt (Int.ofNat_lt.mp k)
        obtain rfl : j = rl.length := by omega
        go_wp2_with fail
        refine bodyPost_ret (v := .tuple #[.slice (some ⟨w5.heap.size, 0, none⟩) (Sp.catJ rl rl.length rl.length).length rl.length, .int .i64 0]) (by simp [results, Try.results27, go_sem, Sp.catJ_len]) rfl ?_
        exact ⟨BB.out _ HBB.out, .inr ⟨rfl, _, _, rfl, HR.out.ints⟩⟩
theorem tCatchment_any (A : Option Addr) (cap : Nat) (c r k : Int) (z : List Int) (w : World) (hl : z.length ≤ 140737488355328) (hT : Ints w A z) :
    Calls Try.prog 27 #[.agg #[.int .i64 c, .int .i64 r, .int .i64 k, .slice A z.length cap]] w (IlPost w (Sp.terE c r k z) (Sp.catS z c r)) := by
  by_cases hE : Sp.terE c r k z = 0
  · obtain ⟨h1, h2, h3, h4, h5⟩ := Sp.terE_zero hE
    have P : c * r ≤ 16 * 16 := Int.mul_le_mul h1.2 h2.2 (by omega) (by omega)
    have hl2 : (Sp.tabL (Sp.rcvS z c r) z.length).length = z.length := Sp.tabL_len _ _
    have H := tcat_walk A cap c r k z (Sp.tabL (Sp.rcvS z c r) z.length) w (by omega) (Sp.terE c r k z) (fun _ m hm => by
      rw [Sp.tabL_get, hl2, h4]
      exact Sp.rcv_cases z h1.1 h2.1 (by omega) (by omega)) (fun _ i => ⟨(Sp.hz_in h5 i).2, (Sp.hz_in h5 i).1⟩) (fun W hb => tReceiver_any A cap c r k z W hl (hT.below hb))
    rw [hl2] at H
    exact H
  · have H : Calls Try.prog 27 #[.agg #[.int .i64 c, .int .i64 r, .int .i64 k, .slice A z.length cap]] w (IlPost w (Sp.terE c r k z) []) :=
      tcat_walk A cap c r k z [] w (by simp) (Sp.terE c r k z) (fun _ m hm => absurd hm (by simp)) (fun e => absurd e hE) (fun W hb => (tReceiver_any A cap c r k z W hl (hT.below hb)).mono (by
        rintro e w' ⟨h1, ⟨h2, h3⟩ | ⟨h2, -⟩⟩
        · exact ⟨h1, .inl ⟨h2, h3⟩⟩
        · exact absurd h2 hE))
    refine H.mono ?_
    rintro e w' ⟨h1, ⟨h2, h3⟩ | ⟨h2, -⟩⟩
    · exact ⟨h1, .inl ⟨h2, h3⟩⟩
    · exact absurd h2 hE
end Go.Proofs.Ytmdaanigkhikfaa
