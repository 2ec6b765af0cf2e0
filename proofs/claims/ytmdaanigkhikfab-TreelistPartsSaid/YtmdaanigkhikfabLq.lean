/-
  Layer 16: lists of trees that grow; Living, Clone and Equal of lists of trees, by contract.
-/
import Derived.Test.YtmdaanigkhikfabLh
import Derived.Test.YtmdaanigkhikfabLpar
import Derived.Lib.SliceRun
namespace Go.Proofs.Ytmdaanigkhikfab
open Go.RowKit
set_option linter.unusedVariables false
set_option linter.unusedSimpArgs false
theorem info_te : (Try.prog.info? 43).map (fun i => (i.zero, i.size, i.bytes)) = some (some (.agg #[.int .i64 0, .int .i64 0, .int .i64 0, .int .i64 0]), 4, 32) := by kernel_rfl
def tec : List Sp.Te → List Value
  | [] => []
  | t :: l => Value.int .i64 t.s :: Value.int .i64 t.d :: Value.int .i64 t.h :: Value.int .i64 t.q :: tec l
theorem tec_len : ∀ l : List Sp.Te, (tec l).length = l.length * 4
  | [] => rfl
  | t :: l => by simp [tec, tec_len l]; omega
theorem tec_append : ∀ (l m : List Sp.Te), tec (l ++ m) = tec l ++ tec m
  | [], m => rfl
  | p :: l, m => by simp [tec, tec_append l m]
theorem tec_get : ∀ (l : List Sp.Te) (j : Nat) (h : j < l.length), (tec l)[j * 4]? = some (.int .i64 (l[j]).s) ∧ (tec l)[j * 4 + 1]? = some (.int .i64 (l[j]).d) ∧ (tec l)[j * 4 + 2]? = some (.int .i64 (l[j]).h) ∧ (tec l)[j * 4 + 3]? = some (.int .i64 (l[j]).q)
  | [], j, h => absurd h (by simp)
  | p :: l, 0, h => ⟨rfl, rfl, rfl, rfl⟩
  | p :: l, j + 1, h => by
    have := tec_get l j (by simpa using h)
    have e : (j + 1) * 4 = j * 4 + 1 + 1 + 1 + 1 := by omega
    rw [e]
    exact this
theorem tec_cell (l : List Sp.Te) : ∀ u ∈ tec l, u.oneCell' = true := by
  induction l with
  | nil => intro u hu; simp [tec] at hu
  | cons p l ih =>
    intro u hu
    simp only [tec, List.mem_cons] at hu
    rcases hu with rfl | rfl | rfl | rfl | hu
    · rfl
    · rfl
    · rfl
    · rfl
    · exact ih u hu
/-- A row of trees that the call owns. -/
def OwnT (w : World) (base : Nat) (v : Value) (l : List Sp.Te) : Prop := w.ownsRow base 43 4 v l.length (tec l)
theorem OwnT.nil (w : World) (base : Nat) : OwnT w base (.slice none 0 0) [] := w.ownsRow_nil base 43 4
theorem OwnT.form {w : World} {base : Nat} {v : Value} {l : List Sp.Te} (h : OwnT w base v l) : ∃ A cap, v = .slice A l.length cap ∧ l.length ≤ cap ∧ Trs w A l := by
  rcases h.2 with ⟨rfl, h0⟩ | ⟨g, cap, cur, rfl, hb, hg, hn, hm, hs, ht⟩
  · have e : l = [] := List.eq_nil_of_length_eq_zero h0
    subst e
    exact ⟨none, 0, rfl, Nat.le_refl _, fun h => absurd h (by simp)⟩
  · refine ⟨some ⟨g, 0, none⟩, cap, rfl, hn, fun _ => ⟨g, 0, rfl, (Array.getElem?_eq_some_iff.1 hg).1, fun j hj => ?_⟩⟩
    obtain ⟨g0, g1, g2, g3⟩ := tec_get l j hj
    have c0 := World.ownsRow.cells h (g := g) rfl _ _ g0
    have c1 := World.ownsRow.cells h (g := g) rfl _ _ g1
    have c2 := World.ownsRow.cells h (g := g) rfl _ _ g2
    have c3 := World.ownsRow.cells h (g := g) rfl _ _ g3
    have e : ∀ k, (⟨g, 0, none⟩ : Addr).add k = ⟨g, 0 + k, none⟩ := fun k => by by_cases k0 : k = 0 <;> simp [Addr.add, k0]
    rw [e] at c0 c1 c2 c3
    exact ⟨c0, c1, c2, c3⟩
theorem OwnT.below {w w' : World} {base : Nat} {v : Value} {l : List Sp.Te} (h : OwnT w base v l) (hb : Below w.heap.size w w') : OwnT w' base v l :=
  World.ownsRow.kept h (fgrown_of_below hb none) (by cases v.ownBlock <;> simp)
theorem ownT_lt {w : World} {base : Nat} {v : Value} {l : List Sp.Te} (h : OwnT w base v l) {g : Nat} (hg : v.ownBlock = some g) : base ≤ g ∧ g < w.heap.size := World.ownsRow.lt h g hg
/-- A row of a later call stays while an earlier one grows. -/
theorem OwnT.kept {w w' w0 : World} {base b0 : Nat} {v v0 : Value} {l l0 : List Sp.Te} (h : OwnT w base v l) (h0 : OwnT w0 b0 v0 l0) (hz : w0.heap.size ≤ base) (hg : w.grownBy w' v0.ownBlock) : OwnT w' base v l := by
  refine World.ownsRow.kept h hg ?_
  cases e : v.ownBlock with
  | none => exact .inl rfl
  | some g =>
    refine .inr fun c => ?_
    have h1 := (ownT_lt h e).1
    have h2 := (ownT_lt h0 c.symm).2
    omega
theorem tbelow {w w1 w8 : World} {v : Value} {l : List Sp.Te} {base : Nat} (hO : OwnT w1 base v l) (hz : w.heap.size ≤ base) (hb : Below w.heap.size w w1) (hgr : w1.grownBy w8 v.ownBlock) : Below w.heap.size w w8 := by
  refine ⟨hgr.os.trans hb.os, hgr.tape.trans hb.tape, hgr.output.trans hb.output, Nat.le_trans hb.size hgr.size, fun k hk => ?_⟩
  have h2 := hb.size
  refine (hgr.block k (by omega) (fun c => ?_)).trans (hb.block k (by omega))
  have := ownT_lt hO (g := k) c.symm
  omega
theorem run_appT (ty : TypeId) {w : World} (base : Nat) (v : Value) (L : List Sp.Te) (hown : OwnT w base v L) (A : Option Addr) (cap : Nat) (M : List Sp.Te) (hM : Trs w A M) (hlen : L.length + M.length ≤ 1000) (hbase : base ≤ w.heap.size) :
    ∃ v' w', (Builtin.append_ #[23, 23] ty #[v, .slice A M.length cap]).run Try.prog w = .ok v' w' ∧ OwnT w' base v' (L ++ M) ∧ w.grownBy w' v.ownBlock := by
  obtain ⟨i0, hi, hz0, hz1, hz2⟩ := info_parts info_te
  rcases A with _ | ad
  · have e : M = [] := by
      rcases Nat.eq_zero_or_pos M.length with h0 | h0
      · exact List.eq_nil_of_length_eq_zero h0
      · obtain ⟨b, off, e, _⟩ := hM h0
        cases e
    subst e
    have hr : (Builtin.append_ #[23, 23] ty #[v, .slice none 0 cap]).run Try.prog w = .ok v w := by
      rcases hown.2 with ⟨rfl, _⟩ | ⟨g, cp, cur, rfl, _, _, hnc, _⟩
      · simp [Builtin.append_, run_underlying Try.underlying23, sizeOf, typeInfo, hi, Builtin.lenOf, Builtin.firstCells]
      · simp [Builtin.append_, run_underlying Try.underlying23, sizeOf, typeInfo, hi, Builtin.lenOf, Builtin.firstCells, hnc, storeCells]
    exact ⟨v, w, hr, by simpa using hown, ⟨rfl, rfl, rfl, Nat.le_refl _, fun _ _ _ => rfl⟩⟩
  · obtain ⟨v', w', hr, h2, h3, _⟩ := run_append_own_at (P := Try.prog) (w := w) base 23 ty 43 i0 (.agg #[.int .i64 0, .int .i64 0, .int .i64 0, .int .i64 0]) 4 32 Try.underlying23 hi hz0 hz1 hz2 rfl (by decide) v L.length (tec L) hown ad M.length cap (tec M) (tec_len _) (fun j u hu => by
      have hj : j < M.length * 4 := by
        rcases Nat.lt_or_ge j (M.length * 4) with h | h
        · exact h
        · rw [List.getElem?_eq_none (by rw [tec_len]; exact h)] at hu; cases hu
      obtain ⟨b, off, e, lt, hc⟩ := hM (by omega)
      injection e with e
      subst e
      have ea : ∀ k, (⟨b, off, none⟩ : Addr).add k = ⟨b, off + k, none⟩ := fun k => by by_cases k0 : k = 0 <;> simp [Addr.add, k0]
      rw [ea]
      obtain ⟨k, hq, hm⟩ : ∃ k, k < M.length ∧ (j = k * 4 ∨ j = k * 4 + 1 ∨ j = k * 4 + 2 ∨ j = k * 4 + 3) := ⟨j / 4, by omega, by omega⟩
      obtain ⟨c0, c1, c2, c3⟩ := hc k hq
      obtain ⟨g0, g1, g2, g3⟩ := tec_get M k hq
      rcases hm with rfl | rfl | rfl | rfl
      · rw [g0] at hu; injection hu with hu; subst hu; exact c0
      · rw [g1] at hu; injection hu with hu; subst hu; exact c1
      · rw [g2] at hu; injection hu with hu; subst hu; exact c2
      · rw [g3] at hu; injection hu with hu; subst hu; exact c3) (tec_cell _) (by unfold maxLen; omega) (by omega) hbase
    refine ⟨v', w', hr, ?_, h3⟩
    unfold OwnT
    rw [tec_append, List.length_append]
    exact h2
theorem appT {ops : Array Oper} {rest : List Oper} {o : Oper} {a : Act} {Q : Exit → Act → World → Prop} {w : World} (hw : Region.wanted o (yielded ops a.tmps) = true) (s x : Operand)
    (ho : o.op = .call { callee := .builtin .append, args := #[s, x], argTypes := #[23, 23] })
    (base : Nat) (v : Value) (L : List Sp.Te) (hs : a.eval s = v) (hown : OwnT w base v L) (A : Option Addr) (cap : Nat) (M : List Sp.Te) (hx : a.eval x = .slice A M.length cap)
    (hM : Trs w A M) (hlen : Hid (L.length + M.length ≤ 1000)) (hbase : base ≤ w.heap.size)
    (h : ∀ v' w', OwnT w' base v' (L ++ M) → w.grownBy w' v.ownBlock → wpList Try.prog ops Q rest (a.put o.dst v') w') :
    wpList Try.prog ops Q (o :: rest) a w := by
  refine wpList_step fun K hK => ?_
  rw [if_pos hw]
  obtain ⟨v', w', hr, h2, h3⟩ := run_appT o.type base v L hown A cap M hM hlen.out hbase
  unfold Oper.wp execOp
  simp only [ho, resolve, invoke, builtin, Sem.run_bind, Sem.run_pure, Result.andThen_ok, List.map_toArray, List.map_cons, List.map_nil, hs, hx, hr]
  exact hK _ _ (h v' w' h2 h3)
/-! ### slices.Equal, slices.Clone -/
set_option maxRecDepth 100000 in
set_option maxHeartbeats 1000000 in
theorem teq_any (A B : Option Addr) (ca cb : Nat) (l : List Sp.Te) (w : World) (hl : l.length ≤ 1000) (hA : Trs w A l) (hB : Trs w B l) :
    Calls Try.prog 27 #[.slice A l.length ca, .slice B l.length cb] w (Gives (.bool true) w) := by
  have HA := hid hA
  have HB := hid hB
  have HL := hid hl
  clear hA hB hl
  go_enter Try.func27, Try.ntmps27
  go_wp2_with fail
  go_loopw [13] (fun t wr => ∃ j : Nat, t = .int .i64 (j : Int) ∧ j ≤ l.length ∧ Below w.heap.size w wr) (fun t _ => l.length - (intOf t).toNat)
  case atStart => exact ⟨0, rfl, Nat.zero_le _, Below.refl _ _⟩
  case round =>
    obtain ⟨j, rfl, hj, hb⟩ := hrel
    have BB := hid hb
    clear hb
    by_cases hlt : j < l.length
    · obtain ⟨b, off, rfl, bl, q0, q1, q2, q3⟩ := HA.out.at_ BB.out hlt
      obtain ⟨b', off', rfl, bl', r0, r1, r2, r3⟩ := HB.out.at_ BB.out hlt
      obtain ⟨t, ht⟩ : ∃ t, l[j]'hlt = t := ⟨_, rfl⟩
      rw [ht] at q0 q1 q2 q3 r0 r1 r2 r3
      obtain ⟨ts, td, th, tq⟩ := t
      simp only at q0 q1 q2 q3 r0 r1 r2 r3
      obtain ⟨ej, eq, i0, i1⟩ := rjw j l.length hlt (by have := HL.out; omega)
      have EQ := hid eq
      have HJ := hid hlt
      have HM := hid (pmeas l.length j hlt)
      clear ht eq hlt hj
      go_upto_region 6 with fail
      go_still (by rfl)
      go_wp2_with fail
      go_roundw
      case rel => exact ⟨j + 1, i64_eq (by first | exact EQ.out | exact ej.trans EQ.out), HJ.out, BB.out.drew⟩
      case measure => first | exact HM.out | (rw [ej]; exact HM.out)
    · obtain rfl : j = l.length := Nat.le_antisymm hj (Nat.le_of_not_lt hlt)
      have i1 : ¬ (l.length : Int) < (l.length : Int) := Int.lt_irrefl _
      clear hlt hj
      go_wp2_with fail
      go_ret
      exact Gives.mk rfl BB.out
set_option maxRecDepth 100000 in
set_option maxHeartbeats 1000000 in
theorem tclone_any (A : Option Addr) (cap : Nat) (l : List Sp.Te) (w : World) (hl : l.length ≤ 500) (hA : Trs w A l) :
    Calls Try.prog 31 #[.slice A l.length cap] w (fun e w' => ∃ v, e = .returned v ∧ OwnT w' w.heap.size v l ∧ Below w.heap.size w w') := by
  have en := fun W => Lib.run_eql_slice_nil (P := Try.prog) W 23 43 A l.length cap 0 0 Try.underlying23
  rcases A with _ | ad
  · have e : l = [] := by
      rcases Nat.eq_zero_or_pos l.length with h0 | h0
      · exact List.eq_nil_of_length_eq_zero h0
      · obtain ⟨b, off, e, _⟩ := hA h0
        cases e
    subst e
    simp only [Option.isNone_none, List.length_nil] at en
    clear hA hl
    go_enter Try.func31, Try.ntmps31
    go_wp2_with fail
    go_ret
    exact ⟨_, rfl, OwnT.nil _ _, Below.refl _ _⟩
  · simp only [Option.isNone_some] at en
    have made : OwnT (w.alloc (.cells #[] 43)) w.heap.size (.slice (some ⟨w.heap.size, 0, none⟩) 0 0) [] := w.ownsRow_made (e := 43) (size := 4) #[] 0 (Nat.le_refl _) (by decide) rfl
    have MK := hid made
    have SK := hid (hA.below (balloc w (.cells #[] 43)))
    have HL := hid (show ([] : List Sp.Te).length + l.length ≤ 1000 by simp; omega)
    clear made hA hl
    go_enter Try.func31, Try.ntmps31
    go_wp2_with (at_builtin; refine appT rfl _ _ rfl w.heap.size _ [] rfl MK.out (some ad) cap l rfl SK.out HL (by simp) ?_; intro v' w1 how hO)
    go_ret
    exact ⟨_, rfl, by simpa using how, tbelow MK.out (Nat.le_refl _) (balloc _ _) hO⟩
/-! ### Living -/
def Sp.liv (l : List Sp.Te) : List Sp.Te := l.filter (fun t => decide (t.q ≠ 2))
theorem Sp.liv_append (a b : List Sp.Te) : Sp.liv (a ++ b) = Sp.liv a ++ Sp.liv b := List.filter_append _ _
theorem Sp.liv_len (l : List Sp.Te) : (Sp.liv l).length ≤ l.length := List.length_filter_le _ _
theorem Sp.liv_take (l : List Sp.Te) (j : Nat) (h : j < l.length) : Sp.liv (l.take (j + 1)) = Sp.liv (l.take j) ++ (if (l[j]).q = 2 then [] else [l[j]]) := by
  rw [List.take_succ_eq_append_getElem h, Sp.liv_append]
  congr 1
  by_cases c : (l[j]).q = 2
  · rw [if_pos c]; simp [Sp.liv, c]
  · rw [if_neg c]; simp [Sp.liv, c]
def LivPost (w : World) (E : Int) (L : List Sp.Te) (e : Ending) (w' : World) : Prop :=
  Below w.heap.size w w' ∧ ((E ≠ 0 ∧ e = .returned (.tuple #[.slice none 0 0, .int .i64 E])) ∨ (E = 0 ∧ ∃ v, e = .returned (.tuple #[v, .int .i64 0]) ∧ OwnT w' w.heap.size v L))
set_option maxRecDepth 100000 in
set_option maxHeartbeats 2000000 in
theorem llive_any (A : Option Addr) (cap : Nat) (l : List Sp.Te) (w : World) (hl : l.length ≤ 140737488355328) (hT : Trs w A l) :
    Calls Try.prog 24 #[.slice A l.length cap] w (LivPost w (Sp.sqS l).2 (Sp.liv l)) := by
  obtain ⟨S, hSS⟩ : ∃ S, (Sp.sqS l).1 = S := ⟨_, rfl⟩
  obtain ⟨E1, hE1⟩ : ∃ E1, (Sp.sqS l).2 = E1 := ⟨_, rfl⟩
  have SQ := hid (lsquares_any A cap l S E1 w hl hT (by rw [← hSS, ← hE1]))
  have LE := hid (fun (h : E1 = 0) => (Sp.sqS_ok (hE1.trans h)).1)
  have HT := hid hT
  rw [hE1]
  clear hl hT hSS hE1
  go_enter Try.func24, Try.ntmps24
  go_wp2_with fail
  refine SQ.out.mono ?_
  rintro _ w5 ⟨rfl, hb⟩
  have B5 := hid hb
  clear hb
  by_cases c1 : E1 = 0
  · subst c1
    have L2 := hid (LE.out (by first | rfl | trivial))
    clear LE SQ
    go_wp2_with fail
    go_loopw [6, 19] (fun t u wr => ∃ j : Nat, u = .int .i64 (j : Int) ∧ j ≤ l.length ∧ OwnT wr w.heap.size t (Sp.liv (l.take j)) ∧ Below w.heap.size w wr) (fun _ u _ => l.length - (intOf u).toNat)
    case atStart => exact ⟨0, rfl, Nat.zero_le _, OwnT.nil _ _, B5.out⟩
    case round =>
      obtain ⟨j, rfl, hj, hO, hB⟩ := hrel
      have HO := hid hO
      have HB := hid hB
      clear hO hB
      by_cases hlt : j < l.length
      · obtain ⟨b, off, rfl, bl, q0, q1, q2, q3⟩ := HT.out.at_ HB.out hlt
        have tk := Sp.liv_take l j hlt
        have ln := Sp.liv_len (l.take j)
        obtain ⟨t, ht⟩ : ∃ t, l[j]'hlt = t := ⟨_, rfl⟩
        rw [ht] at q0 q1 q2 q3 tk
        obtain ⟨ts, td, th, tq⟩ := t
        simp only at q0 q1 q2 q3 tk
        obtain ⟨ej, eq, i0, i1⟩ := rjw j l.length hlt (by have := L2.out; omega)
        obtain ⟨V2, hV⟩ : ∃ V2, wr.alloc (Obj.cells #[.int .i64 ts, .int .i64 td, .int .i64 th, .int .i64 tq] 43) = V2 := ⟨_, rfl⟩
        have kV : Below wr.heap.size wr V2 := by rw [← hV]; exact balloc _ _
        have vz : wr.heap.size < V2.heap.size := by rw [← hV]; simp
        have v0 : V2.cell? ⟨wr.heap.size, 0, none⟩ = some (.int .i64 ts) := by rw [← hV]; simp [go_sem]
        have v1 : V2.cell? ⟨wr.heap.size, 1, none⟩ = some (.int .i64 td) := by rw [← hV]; simp [go_sem]
        have v2 : V2.cell? ⟨wr.heap.size, 2, none⟩ = some (.int .i64 th) := by rw [← hV]; simp [go_sem]
        have v3 : V2.cell? ⟨wr.heap.size, 3, none⟩ = some (.int .i64 tq) := by rw [← hV]; simp [go_sem]
        have HV2 := hid hV
        have O2 := hid (HO.out.below kV)
        have K2 := hid (bthen HB.out (kV.mono (Nat.le_refl _)))
        have EQ := hid eq
        have HJ := hid hlt
        have HM := hid (pmeas l.length j hlt)
        have LL := hid (show (Sp.liv (l.take j)).length + ([⟨ts, td, th, tq⟩] : List Sp.Te).length ≤ 1000 by
          rw [List.length_take] at ln
          have := L2.out
          simp
          omega)
        have TK := hid tk
        generalize Sp.liv (l.take j) = L0 at O2 LL TK HO
        clear hV ht eq hlt hj kV tk ln
        by_cases c : tq = 2
        · subst c
          go_upto_region 8 with fail
          rw [HV2.out]
          clear q0 q1 q2 q3 bl
          go_wp2_with fail
          go_roundw
          case rel => exact ⟨j + 1, i64_eq (by first | exact EQ.out | exact ej.trans EQ.out), HJ.out, by rw [TK.out, if_pos rfl, List.append_nil]; exact O2.out, K2.out⟩
          case measure => first | exact HM.out | (rw [ej]; exact HM.out)
        · have cn : (tq == 2) = false := by simpa using c
          have TK2 := hid (TK.out.trans (by rw [if_neg c]))
          have M3 : Trs (V2.alloc (Obj.cells #[.int .i64 ts, .int .i64 td, .int .i64 th, .int .i64 tq] 43)) (some ⟨V2.heap.size, 0, none⟩) [⟨ts, td, th, tq⟩] := fun _ => ⟨V2.heap.size, 0, rfl, by simp, fun k hk => by
            have : k = 0 := by simp at hk; omega
            subst this
            exact ⟨by simp [go_sem], by simp [go_sem], by simp [go_sem], by simp [go_sem]⟩⟩
          have HM3 := hid M3
          have O3 := hid (O2.out.below (balloc V2 (Obj.cells #[.int .i64 ts, .int .i64 td, .int .i64 th, .int .i64 tq] 43)))
          have K3 := hid (bthen K2.out (balloc V2 (Obj.cells #[.int .i64 ts, .int .i64 td, .int .i64 th, .int .i64 tq] 43)))
          clear M3
          go_upto_region 8 with fail
          rw [HV2.out]
          clear q0 q1 q2 q3 bl
          go_wp2_with (at_builtin; refine appT rfl _ _ rfl w.heap.size _ L0 rfl O3.out (some ⟨V2.heap.size, 0, none⟩) 1 [⟨ts, td, th, tq⟩] rfl HM3.out LL K3.out.size ?_; intro v' w9 how hgr)
          go_roundw
          case rel => exact ⟨j + 1, i64_eq (by first | exact EQ.out | exact ej.trans EQ.out), HJ.out, by rw [TK2.out]; exact how, tbelow O3.out (Nat.le_refl _) K3.out hgr⟩
          case measure => first | exact HM.out | (rw [ej]; exact HM.out)
      · obtain rfl : j = l.length := Nat.le_antisymm hj (Nat.le_of_not_lt hlt)
        have i1 : ¬ (l.length : Int) < (l.length : Int) := Int.lt_irrefl _
        have OF := HO.out
        rw [List.take_length] at OF
        have HOF := hid OF
        clear hlt hj OF
        go_wp2_with fail
        go_ret2
        exact ⟨HB.out, .inr ⟨rfl, _, rfl, HOF.out⟩⟩
  · have hn : (E1 == 0) = false := by simpa using c1
    go_wp2_with fail
    go_ret2
    exact ⟨B5.out, .inl ⟨c1, rfl⟩⟩
end Go.Proofs.Ytmdaanigkhikfab
