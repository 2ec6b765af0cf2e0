/-
  Layer 12: slices.Backward over fractions, by contract; fraction.Int.
-/
import Derived.RangeFuncNested
import Derived.RangeFuncBound
import Derived.RangeFuncCalls
import Derived.RangeFuncLeaves
import Derived.Shelf.Abstract
import Derived.Shelf.RegionOpen
import Derived.WalkKit
import Derived.OwnWalkIn
import Derived.TacticsInMore
import Derived.LoopNIn
import Derived.LoopIn
import Derived.Test.YtcbecfimikpljaaPa
import Derived.Test.YtcbecfimikpljaaFnew
import Derived.Test.YtcbecfimikpljaaPn
namespace Go.Proofs.Ytcbecfimikpljaa
open Go.RowKit Go.Shelf
set_option linter.unusedVariables false
set_option linter.unusedSimpArgs false
attribute [local go_sem] Oper.semAt_some

theorem newS_one {x : Int} (x0 : -1000000000000000 ≤ x) (x1 : x ≤ 1000000000000000) : Sp.newS x 1 = (x, 1, 0) := by
  unfold Sp.newS
  rw [if_neg (by omega)]
  have g : (Int.gcd x 1 : Int) = 1 := by rw [Int.gcd_one]; rfl
  rw [g, Int.ediv_one, Int.ediv_one, if_neg (by omega)]
  by_cases c : x < 0
  · rw [if_neg (by simp [c])]
    have : -(x.natAbs : Int) = x := by omega
    rw [this]; rfl
  · rw [if_pos (by simp [c])]
    have : (x.natAbs : Int) = x := by omega
    rw [this]; rfl
set_option maxRecDepth 100000 in
set_option maxHeartbeats 1000000 in
theorem fint_any (x : Int) (x0 : -1000000000000000 ≤ x) (x1 : x ≤ 1000000000000000) (w : World) :
    Calls Try.prog 54 #[.int .i64 x] w (Gives (.tuple #[.agg #[.int .i64 x, .int .i64 1], .int .i64 0]) w) := by
  have nw := hid (fun W => fnew_any x 1 (by omega) (by omega) (by omega) (by omega) x 1 0 (newS_one x0 x1) W)
  clear x0 x1
  go_enter Try.func54, Try.ntmps54
  go_wp2_with (go_at_call 76; refine (nw.out _).mono ?_; rintro _ w5 ⟨rfl, hb⟩; have zz : w.heap.size < (w5).heap.size := Nat.lt_of_lt_of_le (show w.heap.size < _ from (by first | assumption | (simp; done) | (simp; omega) | (dsimp only; omega) | omega)) hb.size; have z0 : (w5).cell? ⟨w.heap.size, 0, none⟩ = some (.int .i64 (0)) := (hb.cell (p := ⟨w.heap.size, 0, none⟩) (by first | assumption | (simp; done) | (simp; omega) | (dsimp only; omega) | omega)).trans (by first | assumption | (simp [go_sem]; done) | (simp [go_sem, *]; done)); have z1 : (w5).cell? ⟨w.heap.size, 1, none⟩ = some (.int .i64 (0)) := (hb.cell (p := ⟨w.heap.size, 1, none⟩) (by first | assumption | (simp; done) | (simp; omega) | (dsimp only; omega) | omega)).trans (by first | assumption | (simp [go_sem]; done) | (simp [go_sem, *]; done)); have zf : ∀ o, (w5).frozen? ⟨w.heap.size, o, none⟩ = false := fun o => (hb.frozen (p := ⟨w.heap.size, o, none⟩) (by first | assumption | (simp; done) | (simp; omega) | (dsimp only; omega) | omega)).trans (by first | (simp [go_sem]; done) | (simp [go_sem, *]; done)))
  refine bodyPost_ret (v := .tuple #[.agg #[.int .i64 x, .int .i64 1], .int .i64 0]) (by simp [results, Try.results54, go_sem, z0, z1]) rfl ?_
  exact Gives.mk rfl (by repeat' (first | (with_reducible exact Below.refl _ _) | (with_reducible refine Below.alloc ?_ ?_ _) | (with_reducible refine Below.setCell ?_ ?_ _) | (with_reducible refine Below.drew ?_) | (with_reducible refine Below.trans ?_ (Below.mono (by assumption) ?_)) | (simp; done) | (simp; omega) | omega))

/-- What a round keeps: all below n, and block B. -/
structure KV (n B : Nat) (W W' : World) : Prop where
  below : Below n W W'
  blk : W'.heap[B]? = W.heap[B]?
theorem KV.trans {n B : Nat} {X Y Z : World} (h : KV n B X Y) (k : KV n B Y Z) : KV n B X Z := ⟨h.below.trans k.below, k.blk.trans h.blk⟩
theorem KV.of_below {n B : Nat} {W W' : World} (h : Below W.heap.size W W') (hn : n ≤ W.heap.size) (hB : B < W.heap.size) : KV n B W W' := ⟨h.mono hn, h.block B hB⟩
theorem KV.set {n B : Nat} {W W' : World} (h : KV n B W W') {b o : Nat} (hb : n ≤ b) (hne : B ≠ b) (v : Value) : KV n B W (W'.setCell ⟨b, o, none⟩ v) :=
  ⟨h.below.setCell (p := ⟨b, o, none⟩) hb v, (Below.heap_setCell _ _ _ B hne).trans h.blk⟩
theorem KV.put {n B m : Nat} (hn : n ≤ m) (hB : B < m) (W : World) (l : Nat) (o o' : Obj) (hl : m ≤ l) (h : W.heap[l]? = some o) (_ : o.isCells = false) (_ : o.isWalk = false) : KV n B W (W.putObj l o') :=
  ⟨(Below.refl n W).grown (grownBy_putObj' W l o') (by have := (Array.getElem?_eq_some_iff.1 h).1; omega) (fun k e => by cases e; omega), World.putObj_heap_other (by omega)⟩
theorem KV.cell {n B : Nat} {W W' : World} (h : KV n B W W') (o : Nat) : W'.cell? ⟨B, o, none⟩ = W.cell? ⟨B, o, none⟩ := by simp [World.cell?, h.blk]
theorem keeps_below {B : Nat} {W W' : World} (h : Below W.heap.size W W') : KeepsFrom B W W' :=
  ⟨h.size, fun k o _ hk _ => (h.block k (Array.getElem?_eq_some_iff.1 hk).1).trans hk⟩

/-- A fraction that is valid. -/
abbrev OQ := { q : Int × Int // Sp.okQ q }
open Classical in
noncomputable def toO (q : Int × Int) : OQ := if h : Sp.okQ q then ⟨q, h⟩ else ⟨(0, 1), Sp.zero_ok⟩
theorem toO_val {q : Int × Int} (h : Sp.okQ q) : (toO q).1 = q := by unfold toO; rw [dif_pos h]
/-- What has come when k rounds are over. -/
noncomputable def bkF (l : List (Int × Int)) (j : Nat) : Int × OQ := ((l.length : Int) - 1 - j, toO ((l.reverse[j]?).getD (0, 1)))
noncomputable def bkU (l : List (Int × Int)) (k : Nat) : List (Int × OQ) := (List.range k).map (bkF l)
theorem bkU_succ (l : List (Int × Int)) (k : Nat) : bkU l (k + 1) = bkU l k ++ [bkF l k] := by simp [bkU, List.range_succ]
theorem bkU_length (l : List (Int × Int)) (k : Nat) : (bkU l k).length = k := by simp [bkU]
theorem bkU_snd (l : List (Int × Int)) (hq : ∀ q ∈ l, Sp.okQ q) {k : Nat} (hk : k ≤ l.length) : (bkU l k).map (fun z => z.2.1) = l.reverse.take k := by
  apply List.ext_getElem
  · simp [bkU, hk]
  · intro i h1 h2
    have hi : i < l.length := by simp [bkU] at h1; omega
    have hi2 : i < l.reverse.length := by simpa using hi
    simp only [bkU, bkF, List.getElem_map, List.getElem_range, List.getElem_take, List.getElem?_eq_getElem hi2, Option.getD_some]
    exact toO_val (hq _ (List.mem_reverse.mp (List.getElem_mem hi2)))
theorem bk_at (l : List (Int × Int)) {k : Nat} (hk : k < l.length) : (l.reverse[k]?).getD (0, 1) = l[l.length - 1 - k]'(by omega) := by
  rw [List.getElem?_eq_getElem (by simpa using hk), Option.getD_some, List.getElem_reverse]

set_option maxRecDepth 100000 in
set_option maxHeartbeats 2000000 in
/-- The closure of slices.Backward: for every loop body that keeps what lay below n0 and the slice's box. -/
theorem back1_in (F : Fence) (n : Nat) (h7 : F.fn 77) (hro : F.round = none) (hn : 1 ≤ n) (m Bs n0 cap : Nat) (A : Option Addr) (l : List (Int × Int)) (hl : l.length ≤ 2000) (hq : ∀ q ∈ l, Sp.okQ q) (J Jx : List (Int × OQ) → World → Prop)
    (hY : ∀ pre x W, J pre W → pre.length < l.length → YieldAt F (n - 1) Try.prog m #[.int .i64 x.1, .agg #[.int .i64 x.2.1.1, .int .i64 x.2.1.2]] W fun e W' =>
      (e = .returned (.bool true) ∧ J (pre ++ [x]) W' ∧ KV n0 Bs W W') ∨ (e = .returned (.bool false) ∧ Jx (pre ++ [x]) W'))
    (W : World) (hBs : W.cell? ⟨Bs, 0, none⟩ = some (.slice A l.length cap)) (hT : Frs W A l) (hT0 : ∀ b off, A = some ⟨b, off, none⟩ → 0 < l.length → b < n0) (h0 : J [] W) :
    CallsIn F n Try.prog 77 #[.func (.yield m) #[] #[], .pointer (some ⟨Bs, 0, none⟩)] W fun e W' => (∃ v, e = .returned v) ∧
      ((∃ ys, ys = bkU l l.length ∧ J ys W') ∨ (∃ pre, (∃ k, k ≤ l.length ∧ pre = bkU l k) ∧ Jx pre W')) := by
  have e1 : wrap64 ((l.length : Int) - 1) = (l.length : Int) - 1 := pw64 _ (by omega)
  have HT := hid hT
  have HT0 := hid hT0
  have LE := hid hl
  clear hT hT0
  refine callsIn_of_wp Try.func77 rfl h7 ?_ hro
  simp only [Try.ntmps77, List.size_toArray, List.length_cons, List.length_nil, Nat.reduceAdd, Nat.reduceSub, Array.replicate_succ, Array.replicate_zero, List.push_toArray, List.append_toArray, List.nil_append, List.cons_append]
  gi_wp2
  gi_loopw [3] (fun i wr => ∃ k : Nat, k ≤ l.length ∧ i = .int .i64 ((l.length : Int) - 1 - k) ∧ J (bkU l k) wr ∧ KV n0 Bs W wr)
    (fun i _ => (intOf i + 1).toNat)
  case atStart => exact ⟨0, Nat.zero_le _, by simp [e1], h0, ⟨Below.refl _ _, rfl⟩⟩
  case round =>
    obtain ⟨k, hk, rfl, hJs, hnx⟩ := hrel
    have hbx := (hnx.cell 0).trans hBs
    by_cases hlt : k < l.length
    · have hT := HT.out
      obtain ⟨b, off, hA, bl, q⟩ := hT (by omega)
      have hb0 := HT0.out b off hA (by omega)
      obtain ⟨i, hi⟩ : ∃ i, l.length - 1 - k = i := ⟨_, rfl⟩
      have il : i < l.length := by omega
      have ei : (l.length : Int) - 1 - (k : Int) = (i : Int) := by omega
      obtain ⟨q0, q1⟩ := q i il
      have ba : bkF l k = ((i : Int), toO (l[i]'il)) := by
        unfold bkF
        rw [bk_at l hlt, ei]
        subst hi
        rfl
      have ta := toO_val (hq _ (List.getElem_mem il))
      generalize toO (l[i]'il) = z at ba ta
      have hs := bkU_succ l k
      rw [ba] at hs
      rw [← ta] at q0 q1
      obtain ⟨⟨a, d⟩, hz⟩ := z
      simp only at q0 q1
      clear ta
      have c0 := (hnx.below.cell (p := ⟨b, off + i * 2, none⟩) hb0).trans q0
      have c1 := (hnx.below.cell (p := ⟨b, off + i * 2 + 1, none⟩) hb0).trans q1
      subst hA
      have hlt0 : k < l.length := hlt
      have x0 : (0 : Int) ≤ (i : Int) := by omega
      have x1 : (i : Int) < (l.length : Int) := by omega
      have e2 : wrap64 ((i : Int) - 1) = (i : Int) - 1 := pw64 _ (by have := LE.out; omega)
      obtain ⟨fn, tmps, assign, body, hy, hR⟩ := hY _ ((i : Int), ⟨(a, d), hz⟩) wr hJs (by rw [bkU_length]; exact hlt)
      dsimp only at hy
      rw [ei]
      have HE := hid ei
      have HI := hid il
      clear q0 q1 q ei e1
      gi_wp2
      refine hR.mono ?_
      rintro e W3 (⟨rfl, hJ3, hk3⟩ | ⟨rfl, hJx3⟩)
      · gi_wp2
        go_roundw
        case rel => exact ⟨k + 1, by omega, i64_eq (by have := HE.out; first | omega | (rw [e2]; omega)), by rw [hs]; exact hJ3, hnx.trans hk3⟩
        case measure => first | (simp [intOf]; done) | (simp [intOf]; omega)
      · gi_wp2
        refine bodyPost_ret (results_none rfl _ _ _) rfl ?_
        exact ⟨⟨_, rfl⟩, .inr ⟨_, ⟨k + 1, by omega, hs.symm⟩, hJx3⟩⟩
    · obtain rfl : k = l.length := by omega
      have z : ¬ (0 : Int) ≤ (l.length : Int) - 1 - (l.length : Int) := by omega
      gi_wp2
      go_end0
      first | exact ⟨⟨_, rfl⟩, .inl ⟨_, rfl, hJs⟩⟩ | exact ⟨⟨_, rfl⟩, .inl hJs⟩
set_option maxHeartbeats 1000000 in
/-- slices.Backward: the slice is boxed; the function value captures the box. -/
theorem back_in (F : Fence) (n : Nat) (h5 : F.fn 55) (hro : F.round = none) (a : Option Addr) (len cap : Nat) (w : World) :
    CallsIn F n Try.prog 55 #[.slice a len cap] w fun e w' => e = .returned (.func (.func 77) #[] #[.pointer (some ⟨w.heap.size, 0, none⟩)]) ∧ w' = w.alloc (.cells #[.slice a len cap] 47) := by
  refine callsIn_of_wp Try.func55 rfl h5 ?_ hro
  simp only [Try.ntmps55, List.size_toArray, List.length_cons, List.length_nil, Nat.reduceAdd, Nat.reduceSub, Array.replicate_succ, Array.replicate_zero, List.push_toArray, List.append_toArray, List.nil_append, List.cons_append]
  gi_wp2
  go_ret
  exact ⟨rfl, rfl⟩
theorem back_stops (F : Fence) (n : Nat) (h7 : F.fn 77) (hro : F.round = none) (hn : 1 ≤ n) (Bs n0 cap : Nat) (A : Option Addr) (l : List (Int × Int)) (hl : l.length ≤ 2000) (hq : ∀ q ∈ l, Sp.okQ q) (w : World) (hB : Bs < w.heap.size)
    (hc : w.cell? ⟨Bs, 0, none⟩ = some (.slice A l.length cap)) (hT : Frs w A l) (hT0 : ∀ b off, A = some ⟨b, off, none⟩ → 0 < l.length → b < n0) :
    SeqStopsK F n Try.prog 77 #[.pointer (some ⟨Bs, 0, none⟩)] (fun x : Int × OQ => #[Value.int .i64 x.1, .agg #[.int .i64 x.2.1.1, .int .i64 x.2.1.2]]) (KV n0 Bs) (fun ys => ys = bkU l l.length)
      (fun pre => ∃ k, k ≤ l.length ∧ pre = bkU l k) l.length w := fun m J Jx W hW _ _ hY h0 =>
  back1_in F n h7 hro hn m Bs n0 cap A l hl hq J Jx hY W ((hW.cell (p := ⟨Bs, 0, none⟩) hB).trans hc) (hT.below hW) hT0 h0
end Go.Proofs.Ytcbecfimikpljaa
