/-
  Layer 15: the iterator cells of package terrain inside a fence.
-/
import Derived.Test.YtmdaanigkhikfaaTp
import Derived.OwnWalkIn
import Derived.RangeFuncNested
import Derived.RangeFuncBox
import Derived.RangeFuncBound
import Derived.RangeFuncCalls
import Derived.RangeFuncLeaves
import Derived.Shelf.Abstract
import Derived.Shelf.RegionOpen
import Derived.WalkKit
import Derived.TacticsInMore
import Derived.LoopNIn
import Derived.LoopIn
namespace Go.Proofs.Ytmdaanigkhikfaa
open Go.RowKit Go.Shelf
set_option linter.unusedVariables false
set_option linter.unusedSimpArgs false
/-- What a round keeps: all below n, and block B. -/
structure KV (n B : Nat) (W W' : World) : Prop where
  below : Below n W W'
  blk : W'.heap[B]? = W.heap[B]?
theorem KV.trans {n B : Nat} {X Y Z : World} (h : KV n B X Y) (k : KV n B Y Z) : KV n B X Z := ⟨h.below.trans k.below, k.blk.trans h.blk⟩
theorem KV.of_below {n B : Nat} {W W' : World} (h : Below W.heap.size W W') (hn : n ≤ W.heap.size) (hB : B < W.heap.size) : KV n B W W' := ⟨h.mono hn, h.block B hB⟩
theorem KV.set {n B : Nat} {W W' : World} (h : KV n B W W') {b o : Nat} (hb : n ≤ b) (hne : B ≠ b) (v : Value) : KV n B W (W'.setCell ⟨b, o, none⟩ v) :=
  ⟨h.below.setCell (p := ⟨b, o, none⟩) hb v, (Below.heap_setCell _ _ _ B hne).trans h.blk⟩
theorem KV.put {n B m : Nat} (hn : n ≤ m) (hB : B < m) (W : World) (l : Nat) (o o' : Obj) (hl : m ≤ l) (h : W.heap[l]? = some o) (_ : o.isCells = false) (_ : o.isWalk = false) : KV n B W (W.putObj l o') :=
  ⟨(Below.refl n W).grown (grownBy_putObj' W l o') (by have := (Array.getElem?_eq_some_iff.1 h).1; omega) (fun k e => by cases e; omega), World.putObj_heap_other (by omega)⟩
theorem KV.cell {n B : Nat} {W W' : World} (h : KV n B W W') (o : Nat) : W'.cell? ⟨B, o, none⟩ = W.cell? ⟨B, o, none⟩ := by simp [World.cell?, h.blk]
theorem keeps_below {B : Nat} {W W' : World} (h : Below W.heap.size W W') : KeepsFrom B W W' :=
  ⟨h.size, fun k o _ hk _ => (h.block k (Array.getElem?_eq_some_iff.1 hk).1).trans hk⟩

theorem frozen_at {W W' : World} {row : Option Nat} {b : Nat} {v : Value} (h : W.cell? ⟨b, 0, none⟩ = some v) (hf : ∀ o, W.frozen? ⟨b, o, none⟩ = false) (hg : W.grownBy W' row) (hr : ∀ r, row = some r → ∃ o : Obj, W.heap[r]? = some o ∧ o.isCells = false) : ∀ o, W'.frozen? ⟨b, o, none⟩ = false := by
  intro o
  obtain ⟨ob, ho, hc⟩ := cells_of_cell h
  exact (World.frozen?_of_block (a := ⟨b, o, none⟩) (grownBy_keeps_cells hg hr ho hc)).trans (hf o)
/-- The k-th cell of a grid whose rows have n cells. -/
def cellF (n k : Nat) : Int × Int := (((k % n : Nat) : Int), ((k / n : Nat) : Int))
def cellU (n k : Nat) : List (Int × Int) := (List.range k).map (cellF n)
theorem cellU_len (n k : Nat) : (cellU n k).length = k := by simp [cellU]
theorem cellU_succ (n k : Nat) : cellU n (k + 1) = cellU n k ++ [cellF n k] := by simp [cellU, List.range_succ]
theorem cellF_at {n i j : Nat} (h : j < n) : cellF n (i * n + j) = ((j : Int), (i : Int)) := by
  unfold cellF
  have e1 : (i * n + j) % n = j := by rw [Nat.mul_comm, Nat.mul_add_mod]; exact Nat.mod_eq_of_lt h
  have e2 : (i * n + j) / n = i := by rw [Nat.mul_comm, Nat.mul_add_div (by omega), Nat.div_eq_of_lt h]; omega
  rw [e1, e2]
theorem cell_lt {n m i j : Nat} (h : j < n) (k : i < m) : i * n + j < m * n := by
  have : (i + 1) * n ≤ m * n := Nat.mul_le_mul_right _ k
  rw [Nat.add_mul, Nat.one_mul] at this
  omega
theorem csf (j n : Nat) (h : j < n) (hn : n ≤ 15) : (0 : Int) ≤ (j : Int) ∧ (j : Int) < (n : Int) ∧ wrap64 ((j : Int) + 1) = (j : Int) + 1 ∧ (j : Int) + 1 = ((j + 1 : Nat) : Int) := ⟨by omega, by omega, pw64 _ (by omega), by omega⟩
set_option maxHeartbeats 1000000 in
set_option maxRecDepth 100000 in
theorem cells1_in (q : Nat) (hq : 1 ≤ q) (m Bs n0 : Nat) (c r : Int) (nc nr : Nat) (hc : c - 1 = (nc : Int)) (hr : r - 1 = (nr : Int)) (bc : nc ≤ 15) (br : nr ≤ 15) (J Jx : List (Int × Int) → World → Prop)
    (hY : ∀ pre x W, J pre W → pre.length < nr * nc → x = cellF nc pre.length → YieldAt Fence.wide (q - 1) Try.prog m #[.int .i64 x.1, .int .i64 x.2] W fun e W' =>
      (e = .returned (.bool true) ∧ J (pre ++ [x]) W' ∧ KV n0 Bs W W') ∨ (e = .returned (.bool false) ∧ Jx (pre ++ [x]) W'))
    (W : World) (b0 : W.cell? ⟨Bs, 0, none⟩ = some (.int .i64 c)) (b1 : W.cell? ⟨Bs, 1, none⟩ = some (.int .i64 r)) (h0 : J [] W) :
    CallsIn Fence.wide q Try.prog 70 #[.func (.yield m) #[] #[], .pointer (some ⟨Bs, 0, none⟩)] W fun e W' => (∃ v, e = .returned v) ∧
      ((∃ ys, ys = cellU nc (nr * nc) ∧ J ys W') ∨ (∃ pre, (∃ k, k ≤ nr * nc ∧ pre = cellU nc k) ∧ Jx pre W')) := by
  have B0 := hid b0
  have B1 := hid b1
  have HC := hid hc
  have HR := hid hr
  have BC := hid bc
  have BR := hid br
  have wc : wrap64 (c - 1) = (nc : Int) := by rw [pw64 _ (by omega)]; exact hc
  have wr1 : wrap64 (r - 1) = (nr : Int) := by rw [pw64 _ (by omega)]; exact hr
  clear b0 hc hr bc br
  refine callsIn_of_wp Try.func70 rfl trivial ?_ rfl
  simp only [Try.ntmps70, List.size_toArray, List.length_cons, List.length_nil, Nat.reduceAdd, Nat.reduceSub, Array.replicate_succ, Array.replicate_zero, List.push_toArray, List.append_toArray, List.nil_append, List.cons_append]
  gi_wp2
  simp only [wr1]
  clear b1
  gi_loopw [8] (fun t wr => ∃ i : Nat, i ≤ nr ∧ t = .int .i64 (i : Int) ∧ J (cellU nc (i * nc)) wr ∧ KV n0 Bs W wr) (fun t _ => nr - (intOf t).toNat)
  case atStart => exact ⟨0, Nat.zero_le _, rfl, by rw [Nat.zero_mul]; exact h0, ⟨Below.refl _ _, rfl⟩⟩
  case round =>
    obtain ⟨i, hi, rfl, hJ, hk⟩ := hrel
    have bx := (hk.cell 0).trans B0.out
    have HK := hid hk
    clear hk
    by_cases hlt : i < nr
    · obtain ⟨i0, i1, ei, eq⟩ := csf i nr hlt BR.out
      have EQ := hid eq
      have HI := hid hlt
      have HM := hid (pmeas nr i hlt)
      clear eq hlt
      gi_wp2
      simp only [wc]
      clear bx
      gi_loopw [14] (fun t wr => ∃ j : Nat, j ≤ nc ∧ t = .int .i64 (j : Int) ∧ J (cellU nc (i * nc + j)) wr ∧ KV n0 Bs W wr) (fun t _ => nc - (intOf t).toNat)
      case atStart => exact ⟨0, Nat.zero_le _, rfl, hJ, HK.out⟩
      case round =>
        obtain ⟨j, hj, rfl, hJ2, hk2⟩ := hrel
        have HK2 := hid hk2
        clear hk2
        by_cases hlt : j < nc
        · obtain ⟨j0, j1, ej, eq2⟩ := csf j nc hlt BC.out
          have EQ2 := hid eq2
          have HM2 := hid (pmeas nc j hlt)
          have cf := cellF_at (i := i) hlt
          have cl := cell_lt hlt HI.out
          obtain ⟨fn, tmps, assign, body, hy, hR⟩ := hY _ ((j : Int), (i : Int)) wr hJ2 (by rw [cellU_len]; exact cl) (by rw [cellU_len, cf])
          dsimp only at hy
          have hs := cellU_succ nc (i * nc + j)
          rw [cf] at hs
          have HS := hid hs
          have HL := hid hlt
          have CL := hid cl
          clear eq2 cf cl hs hlt
          gi_wp2
          refine hR.mono ?_
          rintro e W3 (⟨rfl, hJ3, hk3⟩ | ⟨rfl, hJx3⟩)
          · gi_wp2
            go_roundw
            case rel => exact ⟨j + 1, HL.out, i64_eq (by first | exact EQ2.out | (rw [ej]; exact EQ2.out)), by have := HS.out; rw [show i * nc + (j + 1) = i * nc + j + 1 from rfl, this]; exact hJ3, HK2.out.trans hk3⟩
            case measure => first | exact HM2.out | (rw [ej]; exact HM2.out)
          · gi_wp2
            refine bodyPost_ret (results_none rfl _ _ _) rfl ?_
            exact ⟨⟨_, rfl⟩, .inr ⟨_, ⟨i * nc + j + 1, CL.out, HS.out.symm⟩, hJx3⟩⟩
        · obtain rfl : j = nc := by omega
          have z : ¬ (j : Int) < (j : Int) := by omega
          gi_wp2
          go_roundw
          case rel => exact ⟨i + 1, HI.out, i64_eq (by first | exact EQ.out | (rw [ei]; exact EQ.out)), by rw [Nat.add_mul, Nat.one_mul]; exact hJ2, HK2.out⟩
          case measure => first | exact HM.out | (rw [ei]; exact HM.out)
    · obtain rfl : i = nr := by omega
      have z : ¬ (i : Int) < (i : Int) := by omega
      gi_wp2
      go_end0
      first | exact ⟨⟨_, rfl⟩, .inl ⟨_, rfl, hJ⟩⟩ | exact ⟨⟨_, rfl⟩, .inl hJ⟩
/-- cells: the terrain is boxed; the function value captures the box. -/
theorem cells_in (q : Nat) (A : Option Addr) (cap : Nat) (c r k : Int) (z : List Int) (w : World) :
    CallsIn Fence.wide q Try.prog 51 #[.agg #[.int .i64 c, .int .i64 r, .int .i64 k, .slice A z.length cap]] w fun e w' => e = .returned (.func (.func 70) #[] #[.pointer (some ⟨w.heap.size, 0, none⟩)]) ∧ w' = w.alloc (Obj.cells #[.int .i64 c, .int .i64 r, .int .i64 k, .slice A z.length cap] 24) := by
  refine callsIn_of_wp Try.func51 rfl trivial ?_ rfl
  simp only [Try.ntmps51, List.size_toArray, List.length_cons, List.length_nil, Nat.reduceAdd, Nat.reduceSub, Array.replicate_succ, Array.replicate_zero, List.push_toArray, List.append_toArray, List.nil_append, List.cons_append]
  gi_wp2
  go_ret
  exact ⟨rfl, rfl⟩
/-- A cell of a grid. -/
def okC (c r : Int) (q : Int × Int) : Prop := (0 ≤ q.1 ∧ q.1 ≤ c - 2) ∧ (0 ≤ q.2 ∧ q.2 ≤ r - 2)
abbrev CQ (c r : Int) := { q : Int × Int // okC c r q }
def vC {c r : Int} (l : List (CQ c r)) : List (Int × Int) := l.map (fun q => q.1)
theorem vC_snoc {c r : Int} (l : List (CQ c r)) (x : CQ c r) : vC (l ++ [x]) = vC l ++ [x.1] := by simp [vC]
theorem vC_len {c r : Int} (l : List (CQ c r)) : (vC l).length = l.length := by simp [vC]
theorem cellF_ok {c r : Int} {nc nr k : Nat} (hc : c - 1 = (nc : Int)) (hr : r - 1 = (nr : Int)) (hk : k < nr * nc) : okC c r (cellF nc k) := by
  have n0 : 0 < nc := by
    apply Nat.pos_of_ne_zero
    rintro rfl
    simp at hk
  have h1 : k % nc < nc := Nat.mod_lt _ n0
  have h2 : k / nc < nr := Nat.div_lt_of_lt_mul (by rw [Nat.mul_comm]; exact hk)
  unfold cellF okC
  generalize k % nc = a at h1 ⊢
  generalize k / nc = b at h2 ⊢
  simp only
  omega
theorem cells_stops (q : Nat) (hq : 1 ≤ q) (Bs n0 : Nat) (c r : Int) (nc nr : Nat) (hc : c - 1 = (nc : Int)) (hr : r - 1 = (nr : Int)) (bc : nc ≤ 15) (br : nr ≤ 15) (w : World) (hB : Bs < w.heap.size)
    (b0 : w.cell? ⟨Bs, 0, none⟩ = some (.int .i64 c)) (b1 : w.cell? ⟨Bs, 1, none⟩ = some (.int .i64 r)) :
    SeqStopsK Fence.wide q Try.prog 70 #[.pointer (some ⟨Bs, 0, none⟩)] (fun x : CQ c r => #[Value.int .i64 x.1.1, Value.int .i64 x.1.2]) (KV n0 Bs) (fun ys => vC ys = cellU nc (nr * nc))
      (fun pre => ∃ k, k ≤ nr * nc ∧ vC pre = cellU nc k) (nr * nc) w := fun m J Jx W hW hA hAx hY h0 => by
  refine (cells1_in q hq m Bs n0 c r nc nr hc hr bc br (fun s W => ∃ s' : List (CQ c r), vC s' = s ∧ J s' W) (fun s W => ∃ s' : List (CQ c r), vC s' = s ∧ Jx s' W) ?_ W ((hW.cell (p := ⟨Bs, 0, none⟩) hB).trans b0) ((hW.cell (p := ⟨Bs, 1, none⟩) hB).trans b1) ⟨[], rfl, h0⟩).mono ?_
  · rintro pre x W1 ⟨s', e, h⟩ hlt hx
    have ok : okC c r x := by rw [hx]; exact cellF_ok hc hr hlt
    obtain ⟨fn, tmps, assign, body, hy, hR⟩ := hY s' ⟨x, ok⟩ W1 h (by rw [← e, vC_len] at hlt; exact hlt)
    refine ⟨fn, tmps, assign, body, hy, hR.mono ?_⟩
    rintro e2 W2 (⟨h1, h2, h3⟩ | ⟨h1, h2⟩)
    · exact .inl ⟨h1, ⟨s' ++ [⟨x, ok⟩], by rw [vC_snoc, e], h2⟩, h3⟩
    · exact .inr ⟨h1, ⟨s' ++ [⟨x, ok⟩], by rw [vC_snoc, e], h2⟩⟩
  · rintro e W' ⟨hv, ⟨ys, rfl, s', e', h⟩ | ⟨pre, ⟨k, hk, rfl⟩, s', e', h⟩⟩
    · exact ⟨hv, .inl ⟨s', e', h⟩⟩
    · exact ⟨hv, .inr ⟨s', ⟨k, hk, e'⟩, h⟩⟩
end Go.Proofs.Ytmdaanigkhikfaa
