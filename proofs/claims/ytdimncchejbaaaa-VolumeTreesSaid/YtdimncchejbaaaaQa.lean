/-
  Layer 12: the value of a piece, by specification and by contract (Pn, Pv, Pw as one: tools/merge.py).
-/
import Derived.Test.YtdimncchejbaaaaPm
import Derived.Test.YtdimncchejbaaaaFrat
import Derived.RangeFuncNested
import Derived.RangeFuncBound
import Derived.RangeFuncCalls
import Derived.RangeFuncLeaves
import Derived.Shelf.Abstract
import Derived.Shelf.RegionOpen
import Derived.WalkKit
import Derived.OwnWalkIn
import Derived.TacticsInMore
import Derived.LoopNIn
import Derived.LoopIn
import Derived.Test.YtdimncchejbaaaaPa
import Derived.Test.YtdimncchejbaaaaFnew
import Derived.Test.YtdimncchejbaaaaFops
namespace Go.Proofs.Ytdimncchejbaaaa
open Go.RowKit
set_option linter.unusedVariables false
set_option linter.unusedSimpArgs false
namespace Sp
theorem one_ok {x : Int} (x0 : -1000000000000000 ≤ x) (x1 : x ≤ 1000000000000000) : fchk x 1 = 0 :=
  valid_mk (by omega) (Int.gcd_one) (by omega) (by omega)
theorem lim_res {x y : Int} (y0 : 0 < y) (g : Int.gcd x y = 1) : ((limF x y).2.2 = 0 ∧ fchk (limF x y).1 (limF x y).2.1 = 0) ∨ limF x y = (0, 0, 8) := by
  unfold limF
  split
  · exact .inr rfl
  · exact .inl ⟨rfl, valid_mk y0 g (by simp only; omega) (by simp only; omega)⟩
theorem mul_res {a b c d : Int} (h1 : fchk a b = 0) (h2 : fchk c d = 0) : ((mulF a b c d).2.2 = 0 ∧ fchk (mulF a b c d).1 (mulF a b c d).2.1 = 0) ∨ mulF a b c d = (0, 0, 8) := by
  obtain ⟨x, y, e, y0, g, -, -, -⟩ := prodF_core h1 h2
  rw [mul_of h1 h2 e]
  exact lim_res y0 g
theorem add_res {a b c d : Int} (h1 : fchk a b = 0) (h2 : fchk c d = 0) : ((addF a b c d).2.2 = 0 ∧ fchk (addF a b c d).1 (addF a b c d).2.1 = 0) ∨ addF a b c d = (0, 0, 8) := by
  obtain ⟨x, y, e, y0, g, -, -, -⟩ := sumF_core h1 h2
  rw [add_of h1 h2 e]
  exact lim_res y0 g
/-- A step of Horner's rule. -/
def stepF (x : Int) (y c : Int × Int) : Int × Int × Int :=
  if (mulF y.1 y.2 x 1).2.2 ≠ 0 then (0, 0, (mulF y.1 y.2 x 1).2.2) else addF (mulF y.1 y.2 x 1).1 (mulF y.1 y.2 x 1).2.1 c.1 c.2
def hornF (x : Int) : List (Int × Int) → Int × Int → Int × Int × Int
  | [], y => (y.1, y.2, 0)
  | c :: r, y => if (stepF x y c).2.2 ≠ 0 then (0, 0, (stepF x y c).2.2) else hornF x r ((stepF x y c).1, (stepF x y c).2.1)
theorem hornF_cons (x : Int) (c : Int × Int) (r : List (Int × Int)) (y : Int × Int) : hornF x (c :: r) y = if (stepF x y c).2.2 ≠ 0 then (0, 0, (stepF x y c).2.2) else hornF x r ((stepF x y c).1, (stepF x y c).2.1) := rfl
def valP (p : Pd) (x : Int) : Int × Int × Int := hornF x p.c.reverse (0, 1)
def okQ (q : Int × Int) : Prop := fchk q.1 q.2 = 0
theorem zero_ok : okQ (0, 1) := one_ok (by omega) (by omega)
theorem okQ_bounds {q : Int × Int} (h : okQ q) : (-9223372036854775808 ≤ q.1 ∧ q.1 ≤ 9223372036854775807) ∧ (-9223372036854775808 ≤ q.2 ∧ q.2 ≤ 9223372036854775807) := by
  obtain ⟨h1, h2, h3, h4, -⟩ := fchk_zero.mp h
  omega
theorem step_res {x : Int} {y c : Int × Int} (hy : okQ y) (hc : okQ c) (x0 : 0 ≤ x) (x1 : x ≤ 3000) : ((stepF x y c).2.2 = 0 ∧ okQ ((stepF x y c).1, (stepF x y c).2.1)) ∨ stepF x y c = (0, 0, 8) := by
  unfold stepF
  rcases mul_res hy (one_ok (x := x) (by omega) (by omega)) with ⟨e, h⟩ | e
  · rw [if_neg (fun k => k e)]
    exact add_res h hc
  · rw [e]; exact .inr rfl
theorem horn_res {x : Int} (x0 : 0 ≤ x) (x1 : x ≤ 3000) : ∀ (r : List (Int × Int)) (y : Int × Int), (∀ q ∈ r, okQ q) → okQ y → ((hornF x r y).2.2 = 0 ∧ okQ ((hornF x r y).1, (hornF x r y).2.1)) ∨ hornF x r y = (0, 0, 8) := by
  intro r
  induction r with
  | nil => intro y _ hy; exact .inl ⟨rfl, hy⟩
  | cons c r ih =>
    intro y hr hy
    rw [hornF_cons]
    rcases step_res hy (hr c (by simp)) x0 x1 with ⟨e, h⟩ | e
    · rw [if_neg (fun k => k e)]
      exact ih _ (fun q hq => hr q (by simp [hq])) h
    · rw [e]; exact .inr rfl
theorem horn_snoc {x : Int} (c : Int × Int) : ∀ (r : List (Int × Int)) (z y : Int × Int), hornF x r z = (y.1, y.2, 0) → hornF x (r ++ [c]) z = if (stepF x y c).2.2 ≠ 0 then (0, 0, (stepF x y c).2.2) else ((stepF x y c).1, (stepF x y c).2.1, 0)
  | [], z, y, h => by
    obtain ⟨z1, z2⟩ := z
    obtain ⟨y1, y2⟩ := y
    simp only [hornF] at h
    obtain ⟨rfl, h2⟩ := Prod.mk.inj h
    obtain ⟨rfl, -⟩ := Prod.mk.inj h2
    rfl
  | d :: r, z, y, h => by
    rw [hornF_cons] at h
    rw [List.cons_append, hornF_cons]
    by_cases e : (stepF x z d).2.2 = 0
    · rw [if_neg (fun k => k e)] at h
      rw [if_neg (fun k => k e)]
      exact horn_snoc c r _ y h
    · rw [if_pos e] at h
      have := (Prod.mk.inj (Prod.mk.inj h).2).2
      exact absurd this e
theorem horn_stop {x e : Int} (he : e ≠ 0) (s : List (Int × Int)) : ∀ (r : List (Int × Int)) (z : Int × Int), hornF x r z = (0, 0, e) → hornF x (r ++ s) z = (0, 0, e)
  | [], z, h => by
    simp only [hornF] at h
    have := (Prod.mk.inj (Prod.mk.inj h).2).2
    exact absurd this.symm he
  | d :: r, z, h => by
    rw [hornF_cons] at h
    rw [List.cons_append, hornF_cons]
    by_cases e : (stepF x z d).2.2 = 0
    · rw [if_neg (fun k => k e)] at h
      rw [if_neg (fun k => k e)]
      exact horn_stop he s r _ h
    · rw [if_pos e] at h
      rw [if_pos e]
      exact h
theorem good_ok {p : Pd} (g : GoodP p) : ∀ q ∈ p.c, okQ q := fun q hq => (g.ok q hq).1
theorem val_res {p : Pd} {x : Int} (g : GoodP p) (x0 : 0 ≤ x) (x1 : x ≤ 3000) : ((valP p x).2.2 = 0 ∧ okQ ((valP p x).1, (valP p x).2.1)) ∨ valP p x = (0, 0, 8) :=
  horn_res x0 x1 _ _ (fun q hq => good_ok g q (List.mem_reverse.mp hq)) zero_ok
/-- The first error among k values, and the values. -/
def fstE (g : Int → Int × Int × Int) : Nat → Int → Int
  | 0, _ => 0
  | k + 1, x => if (g x).2.2 ≠ 0 then (g x).2.2 else fstE g k (x + 1)
def lstV (g : Int → Int × Int × Int) : Nat → Int → List (Int × Int)
  | 0, _ => []
  | k + 1, x => ((g x).1, (g x).2.1) :: lstV g k (x + 1)
theorem fstE_succ (g : Int → Int × Int × Int) (k : Nat) (x : Int) : fstE g (k + 1) x = if (g x).2.2 ≠ 0 then (g x).2.2 else fstE g k (x + 1) := rfl
theorem lstV_succ (g : Int → Int × Int × Int) (k : Nat) (x : Int) : lstV g (k + 1) x = ((g x).1, (g x).2.1) :: lstV g k (x + 1) := rfl
theorem lstV_len (g : Int → Int × Int × Int) : ∀ (k : Nat) (x : Int), (lstV g k x).length = k
  | 0, _ => rfl
  | k + 1, x => by rw [lstV_succ, List.length_cons, lstV_len g k]
theorem lstV_get (g : Int → Int × Int × Int) : ∀ (k : Nat) (x : Int) (i : Nat) (h : i < (lstV g k x).length), (lstV g k x)[i] = ((g (x + i)).1, (g (x + i)).2.1)
  | 0, x, i, h => absurd h (by simp [lstV])
  | k + 1, x, 0, h => by simp [lstV_succ]
  | k + 1, x, i + 1, h => by
    simp only [lstV_succ, List.getElem_cons_succ]
    rw [lstV_get g k (x + 1) i]
    have e : x + 1 + (i : Int) = x + ((i + 1 : Nat) : Int) := by omega
    rw [e]
theorem lstV_snoc (g : Int → Int × Int × Int) : ∀ (k : Nat) (x : Int), lstV g (k + 1) x = lstV g k x ++ [((g (x + k)).1, (g (x + k)).2.1)]
  | 0, x => by simp [lstV]
  | k + 1, x => by
    have e : x + 1 + (k : Int) = x + ((k + 1 : Nat) : Int) := by omega
    rw [lstV_succ, lstV_snoc g k (x + 1), lstV_succ, List.cons_append, e]
theorem fstE_zero (g : Int → Int × Int × Int) : ∀ (k : Nat) (x : Int), fstE g k x = 0 ↔ ∀ i : Nat, i < k → (g (x + i)).2.2 = 0
  | 0, x => by simp [fstE]
  | k + 1, x => by
    rw [fstE_succ]
    constructor
    · intro h
      by_cases c : (g x).2.2 = 0
      · rw [if_neg (fun z => z c)] at h
        intro i hi
        cases i with
        | zero => simpa using c
        | succ i =>
          have := (fstE_zero g k (x + 1)).mp h i (by omega)
          have e : x + 1 + (i : Int) = x + ((i + 1 : Nat) : Int) := by omega
          rwa [e] at this
      · rw [if_pos c] at h; exact absurd h c
    · intro h
      have c : (g x).2.2 = 0 := by simpa using h 0 (by omega)
      rw [if_neg (fun z => z c)]
      refine (fstE_zero g k (x + 1)).mpr fun i hi => ?_
      have := h (i + 1) (by omega)
      have e : x + 1 + (i : Int) = x + ((i + 1 : Nat) : Int) := by omega
      rwa [e]
/-- The piece that an argument belongs to. -/
def pieceI (l : List Pd) (x : Int) : Nat := min (atI l x) (l.length - 1)
def pieceO (l : List Pd) (x : Int) : Pd := (l[pieceI l x]?).getD (⟨0, 0, none, 0, []⟩ : Pd)
def valL (l : List Pd) (x : Int) : Int × Int × Int := valP (pieceO l x) x
theorem pieceO_is {l : List Pd} (x : Int) (h0 : 0 < l.length) : ∃ h : pieceI l x < l.length, l[pieceI l x]'h = pieceO l x := by
  have h : pieceI l x < l.length := by unfold pieceI; omega
  refine ⟨h, ?_⟩
  unfold pieceO
  rw [List.getElem?_eq_getElem h, Option.getD_some]
theorem pieceO_mem {l : List Pd} (x : Int) (h0 : 0 < l.length) : pieceO l x ∈ l := by
  obtain ⟨h, e⟩ := pieceO_is (l := l) x h0
  rw [← e]; exact List.getElem_mem h
theorem valL_res {l : List Pd} {x : Int} (h : pcheck l = 0) (x0 : 0 ≤ x) (x1 : x ≤ 3000) : ((valL l x).2.2 = 0 ∧ okQ ((valL l x).1, (valL l x).2.1)) ∨ valL l x = (0, 0, 8) := by
  obtain ⟨h0, -, g, -⟩ := pcheck_good h
  exact val_res (g _ (pieceO_mem x h0)) x0 x1
/-- What values answers: a list, or an error. -/
def least (l : List Pd) : Int := ((l[0]?).getD (⟨0, 0, none, 0, []⟩ : Pd)).f
def great (l : List Pd) : Int := ((l[l.length - 1]?).getD (⟨0, 0, none, 0, []⟩ : Pd)).t
def valsE (l : List Pd) (a b : Int) : Int :=
  if pcheck l ≠ 0 then pcheck l else if a < least l ∨ great l < b ∨ b < a then 2 else fstE (valL l) (b - a + 1).toNat a
def valsL (l : List Pd) (a b : Int) : List (Int × Int) := lstV (valL l) (b - a + 1).toNat a
def evalS (l : List Pd) (x : Int) : Int × Int × Int := if valsE l x x ≠ 0 then (0, 0, valsE l x x) else ((valL l x).1, (valL l x).2.1, 0)
/-- Do neighbouring pieces agree where they meet? -/
def joinE (p q : Pd) : Int := if (valP p q.f).2.2 ≠ 0 then (valP p q.f).2.2 else (valP q q.f).2.2
def joinB (p q : Pd) : Bool := decide ((valP p q.f).1 = (valP q q.f).1) && decide ((valP p q.f).2.1 = (valP q q.f).2.1)
def contF : List Pd → Bool → Bool × Int
  | p :: q :: r, B => if joinE p q ≠ 0 then (false, joinE p q) else contF (q :: r) (B && joinB p q)
  | _, B => (B, 0)
theorem contF_step (p q : Pd) (r : List Pd) (B : Bool) : contF (p :: q :: r) B = if joinE p q ≠ 0 then (false, joinE p q) else contF (q :: r) (B && joinB p q) := rfl
def contS (l : List Pd) : Bool × Int := if pcheck l ≠ 0 then (false, pcheck l) else contF l true
end Sp
open Go.RowKit Go.Shelf
attribute [local go_sem] Oper.semAt_some

theorem newS_one {x : Int} (x0 : -1000000000000000 ≤ x) (x1 : x ≤ 1000000000000000) : Sp.newS x 1 = (x, 1, 0) := by
  unfold Sp.newS
  rw [if_neg (by omega)]
  have g : (Int.gcd x 1 : Int) = 1 := by rw [Int.gcd_one]; rfl
  rw [g, Int.ediv_one, Int.ediv_one, if_neg (by omega)]
  by_cases c : x < 0
  · rw [if_neg (by simp [c])]
    have : -(x.natAbs : Int) = x := by omega
    rw [this]; rfl
  · rw [if_pos (by simp [c])]
    have : (x.natAbs : Int) = x := by omega
    rw [this]; rfl
set_option maxRecDepth 100000 in
set_option maxHeartbeats 1000000 in
theorem fint_any (x : Int) (x0 : -1000000000000000 ≤ x) (x1 : x ≤ 1000000000000000) (w : World) :
    Calls Try.prog 86 #[.int .i64 x] w (Gives (.tuple #[.agg #[.int .i64 x, .int .i64 1], .int .i64 0]) w) := by
  have nw := hid (fun W => fnew_any x 1 (by omega) (by omega) (by omega) (by omega) x 1 0 (newS_one x0 x1) W)
  clear x0 x1
  go_enter Try.func86, Try.ntmps86
  go_wp2_with (go_at_call 62; refine (nw.out _).mono ?_; rintro _ w5 ⟨rfl, hb⟩; have zz : w.heap.size < (w5).heap.size := Nat.lt_of_lt_of_le (show w.heap.size < _ from (by first | assumption | (simp; done) | (simp; omega) | (dsimp only; omega) | omega)) hb.size; have z0 : (w5).cell? ⟨w.heap.size, 0, none⟩ = some (.int .i64 (0)) := (hb.cell (p := ⟨w.heap.size, 0, none⟩) (by first | assumption | (simp; done) | (simp; omega) | (dsimp only; omega) | omega)).trans (by first | assumption | (simp [go_sem]; done) | (simp [go_sem, *]; done)); have z1 : (w5).cell? ⟨w.heap.size, 1, none⟩ = some (.int .i64 (0)) := (hb.cell (p := ⟨w.heap.size, 1, none⟩) (by first | assumption | (simp; done) | (simp; omega) | (dsimp only; omega) | omega)).trans (by first | assumption | (simp [go_sem]; done) | (simp [go_sem, *]; done)); have zf : ∀ o, (w5).frozen? ⟨w.heap.size, o, none⟩ = false := fun o => (hb.frozen (p := ⟨w.heap.size, o, none⟩) (by first | assumption | (simp; done) | (simp; omega) | (dsimp only; omega) | omega)).trans (by first | (simp [go_sem]; done) | (simp [go_sem, *]; done)))
  refine bodyPost_ret (v := .tuple #[.agg #[.int .i64 x, .int .i64 1], .int .i64 0]) (by simp [results, Try.results86, go_sem, z0, z1]) rfl ?_
  exact Gives.mk rfl (by repeat' (first | (with_reducible exact Below.refl _ _) | (with_reducible refine Below.alloc ?_ ?_ _) | (with_reducible refine Below.setCell ?_ ?_ _) | (with_reducible refine Below.drew ?_) | (with_reducible refine Below.trans ?_ (Below.mono (by assumption) ?_)) | (simp; done) | (simp; omega) | omega))

/-- What a round keeps: all below n, and block B. -/
structure KV (n B : Nat) (W W' : World) : Prop where
  below : Below n W W'
  blk : W'.heap[B]? = W.heap[B]?
theorem KV.trans {n B : Nat} {X Y Z : World} (h : KV n B X Y) (k : KV n B Y Z) : KV n B X Z := ⟨h.below.trans k.below, k.blk.trans h.blk⟩
theorem KV.of_below {n B : Nat} {W W' : World} (h : Below W.heap.size W W') (hn : n ≤ W.heap.size) (hB : B < W.heap.size) : KV n B W W' := ⟨h.mono hn, h.block B hB⟩
theorem KV.set {n B : Nat} {W W' : World} (h : KV n B W W') {b o : Nat} (hb : n ≤ b) (hne : B ≠ b) (v : Value) : KV n B W (W'.setCell ⟨b, o, none⟩ v) :=
  ⟨h.below.setCell (p := ⟨b, o, none⟩) hb v, (Below.heap_setCell _ _ _ B hne).trans h.blk⟩
theorem KV.put {n B m : Nat} (hn : n ≤ m) (hB : B < m) (W : World) (l : Nat) (o o' : Obj) (hl : m ≤ l) (h : W.heap[l]? = some o) (_ : o.isCells = false) (_ : o.isWalk = false) : KV n B W (W.putObj l o') :=
  ⟨(Below.refl n W).grown (grownBy_putObj' W l o') (by have := (Array.getElem?_eq_some_iff.1 h).1; omega) (fun k e => by cases e; omega), World.putObj_heap_other (by omega)⟩
theorem KV.cell {n B : Nat} {W W' : World} (h : KV n B W W') (o : Nat) : W'.cell? ⟨B, o, none⟩ = W.cell? ⟨B, o, none⟩ := by simp [World.cell?, h.blk]
theorem keeps_below {B : Nat} {W W' : World} (h : Below W.heap.size W W') : KeepsFrom B W W' :=
  ⟨h.size, fun k o _ hk _ => (h.block k (Array.getElem?_eq_some_iff.1 hk).1).trans hk⟩

/-- A fraction that is valid. -/
abbrev OQ := { q : Int × Int // Sp.okQ q }
open Classical in
noncomputable def toO (q : Int × Int) : OQ := if h : Sp.okQ q then ⟨q, h⟩ else ⟨(0, 1), Sp.zero_ok⟩
theorem toO_val {q : Int × Int} (h : Sp.okQ q) : (toO q).1 = q := by unfold toO; rw [dif_pos h]
/-- What has come when k rounds are over. -/
noncomputable def bkF (l : List (Int × Int)) (j : Nat) : Int × OQ := ((l.length : Int) - 1 - j, toO ((l.reverse[j]?).getD (0, 1)))
noncomputable def bkU (l : List (Int × Int)) (k : Nat) : List (Int × OQ) := (List.range k).map (bkF l)
theorem bkU_succ (l : List (Int × Int)) (k : Nat) : bkU l (k + 1) = bkU l k ++ [bkF l k] := by simp [bkU, List.range_succ]
theorem bkU_length (l : List (Int × Int)) (k : Nat) : (bkU l k).length = k := by simp [bkU]
theorem bkU_snd (l : List (Int × Int)) (hq : ∀ q ∈ l, Sp.okQ q) {k : Nat} (hk : k ≤ l.length) : (bkU l k).map (fun z => z.2.1) = l.reverse.take k := by
  apply List.ext_getElem
  · simp [bkU, hk]
  · intro i h1 h2
    have hi : i < l.length := by simp [bkU] at h1; omega
    have hi2 : i < l.reverse.length := by simpa using hi
    simp only [bkU, bkF, List.getElem_map, List.getElem_range, List.getElem_take, List.getElem?_eq_getElem hi2, Option.getD_some]
    exact toO_val (hq _ (List.mem_reverse.mp (List.getElem_mem hi2)))
theorem bk_at (l : List (Int × Int)) {k : Nat} (hk : k < l.length) : (l.reverse[k]?).getD (0, 1) = l[l.length - 1 - k]'(by omega) := by
  rw [List.getElem?_eq_getElem (by simpa using hk), Option.getD_some, List.getElem_reverse]

set_option maxRecDepth 100000 in
set_option maxHeartbeats 2000000 in
/-- The closure of slices.Backward: for every loop body that keeps what lay below n0 and the slice's box. -/
theorem back1_in (F : Fence) (n : Nat) (h7 : F.fn 96) (hro : F.round = none) (hn : 1 ≤ n) (m Bs n0 cap : Nat) (A : Option Addr) (l : List (Int × Int)) (hl : l.length ≤ 2000) (hq : ∀ q ∈ l, Sp.okQ q) (J Jx : List (Int × OQ) → World → Prop)
    (hY : ∀ pre x W, J pre W → pre.length < l.length → YieldAt F (n - 1) Try.prog m #[.int .i64 x.1, .agg #[.int .i64 x.2.1.1, .int .i64 x.2.1.2]] W fun e W' =>
      (e = .returned (.bool true) ∧ J (pre ++ [x]) W' ∧ KV n0 Bs W W') ∨ (e = .returned (.bool false) ∧ Jx (pre ++ [x]) W'))
    (W : World) (hBs : W.cell? ⟨Bs, 0, none⟩ = some (.slice A l.length cap)) (hT : Frs W A l) (hT0 : ∀ b off, A = some ⟨b, off, none⟩ → 0 < l.length → b < n0) (h0 : J [] W) :
    CallsIn F n Try.prog 96 #[.func (.yield m) #[] #[], .pointer (some ⟨Bs, 0, none⟩)] W fun e W' => (∃ v, e = .returned v) ∧
      ((∃ ys, ys = bkU l l.length ∧ J ys W') ∨ (∃ pre, (∃ k, k ≤ l.length ∧ pre = bkU l k) ∧ Jx pre W')) := by
  have e1 : wrap64 ((l.length : Int) - 1) = (l.length : Int) - 1 := pw64 _ (by omega)
  have HT := hid hT
  have HT0 := hid hT0
  have LE := hid hl
  clear hT hT0
  refine callsIn_of_wp Try.func96 rfl h7 ?_ hro
  simp only [Try.ntmps96, List.size_toArray, List.length_cons, List.length_nil, Nat.reduceAdd, Nat.reduceSub, Array.replicate_succ, Array.replicate_zero, List.push_toArray, List.append_toArray, List.nil_append, List.cons_append]
  gi_wp2
  gi_loopw [3] (fun i wr => ∃ k : Nat, k ≤ l.length ∧ i = .int .i64 ((l.length : Int) - 1 - k) ∧ J (bkU l k) wr ∧ KV n0 Bs W wr)
    (fun i _ => (intOf i + 1).toNat)
  case atStart => exact ⟨0, Nat.zero_le _, by simp [e1], h0, ⟨Below.refl _ _, rfl⟩⟩
  case round =>
    obtain ⟨k, hk, rfl, hJs, hnx⟩ := hrel
    have hbx := (hnx.cell 0).trans hBs
    by_cases hlt : k < l.length
    · have hT := HT.out
      obtain ⟨b, off, hA, bl, q⟩ := hT (by omega)
      have hb0 := HT0.out b off hA (by omega)
      obtain ⟨i, hi⟩ : ∃ i, l.length - 1 - k = i := ⟨_, rfl⟩
      have il : i < l.length := by omega
      have ei : (l.length : Int) - 1 - (k : Int) = (i : Int) := by omega
      obtain ⟨q0, q1⟩ := q i il
      have ba : bkF l k = ((i : Int), toO (l[i]'il)) := by
        unfold bkF
        rw [bk_at l hlt, ei]
        subst hi
        rfl
      have ta := toO_val (hq _ (List.getElem_mem il))
      generalize toO (l[i]'il) = z at ba ta
      have hs := bkU_succ l k
      rw [ba] at hs
      rw [← ta] at q0 q1
      obtain ⟨⟨a, d⟩, hz⟩ := z
      simp only at q0 q1
      clear ta
      have c0 := (hnx.below.cell (p := ⟨b, off + i * 2, none⟩) hb0).trans q0
      have c1 := (hnx.below.cell (p := ⟨b, off + i * 2 + 1, none⟩) hb0).trans q1
      subst hA
      have hlt0 : k < l.length := hlt
      have x0 : (0 : Int) ≤ (i : Int) := by omega
      have x1 : (i : Int) < (l.length : Int) := by omega
      have e2 : wrap64 ((i : Int) - 1) = (i : Int) - 1 := pw64 _ (by have := LE.out; omega)
      obtain ⟨fn, tmps, assign, body, hy, hR⟩ := hY _ ((i : Int), ⟨(a, d), hz⟩) wr hJs (by rw [bkU_length]; exact hlt)
      dsimp only at hy
      rw [ei]
      have HE := hid ei
      have HI := hid il
      clear q0 q1 q ei e1
      gi_wp2
      refine hR.mono ?_
      rintro e W3 (⟨rfl, hJ3, hk3⟩ | ⟨rfl, hJx3⟩)
      · gi_wp2
        go_roundw
        case rel => exact ⟨k + 1, by omega, i64_eq (by have := HE.out; first | omega | (rw [e2]; omega)), by rw [hs]; exact hJ3, hnx.trans hk3⟩
        case measure => first | (simp [intOf]; done) | (simp [intOf]; omega)
      · gi_wp2
        refine bodyPost_ret (results_none rfl _ _ _) rfl ?_
        exact ⟨⟨_, rfl⟩, .inr ⟨_, ⟨k + 1, by omega, hs.symm⟩, hJx3⟩⟩
    · obtain rfl : k = l.length := by omega
      have z : ¬ (0 : Int) ≤ (l.length : Int) - 1 - (l.length : Int) := by omega
      gi_wp2
      go_end0
      first | exact ⟨⟨_, rfl⟩, .inl ⟨_, rfl, hJs⟩⟩ | exact ⟨⟨_, rfl⟩, .inl hJs⟩
set_option maxHeartbeats 1000000 in
/-- slices.Backward: the slice is boxed; the function value captures the box. -/
theorem back_in (F : Fence) (n : Nat) (h5 : F.fn 87) (hro : F.round = none) (a : Option Addr) (len cap : Nat) (w : World) :
    CallsIn F n Try.prog 87 #[.slice a len cap] w fun e w' => e = .returned (.func (.func 96) #[] #[.pointer (some ⟨w.heap.size, 0, none⟩)]) ∧ w' = w.alloc (.cells #[.slice a len cap] 57) := by
  refine callsIn_of_wp Try.func87 rfl h5 ?_ hro
  simp only [Try.ntmps87, List.size_toArray, List.length_cons, List.length_nil, Nat.reduceAdd, Nat.reduceSub, Array.replicate_succ, Array.replicate_zero, List.push_toArray, List.append_toArray, List.nil_append, List.cons_append]
  gi_wp2
  go_ret
  exact ⟨rfl, rfl⟩
theorem back_stops (F : Fence) (n : Nat) (h7 : F.fn 96) (hro : F.round = none) (hn : 1 ≤ n) (Bs n0 cap : Nat) (A : Option Addr) (l : List (Int × Int)) (hl : l.length ≤ 2000) (hq : ∀ q ∈ l, Sp.okQ q) (w : World) (hB : Bs < w.heap.size)
    (hc : w.cell? ⟨Bs, 0, none⟩ = some (.slice A l.length cap)) (hT : Frs w A l) (hT0 : ∀ b off, A = some ⟨b, off, none⟩ → 0 < l.length → b < n0) :
    SeqStopsK F n Try.prog 96 #[.pointer (some ⟨Bs, 0, none⟩)] (fun x : Int × OQ => #[Value.int .i64 x.1, .agg #[.int .i64 x.2.1.1, .int .i64 x.2.1.2]]) (KV n0 Bs) (fun ys => ys = bkU l l.length)
      (fun pre => ∃ k, k ≤ l.length ∧ pre = bkU l k) l.length w := fun m J Jx W hW _ _ hY h0 =>
  back1_in F n h7 hro hn m Bs n0 cap A l hl hq J Jx hY W ((hW.cell (p := ⟨Bs, 0, none⟩) hB).trans hc) (hT.below hW) hT0 h0
open Go.RowKit Go.Shelf
attribute [local go_sem] Oper.semAt_some

/-- The boxes of value: a and a + 1 the results', b the argument's, c the sum's. -/
structure VI (w : World) (b c : Nat) (x : Int) (y : Int × Int) (W : World) : Prop where
  r0 : W.cell? ⟨w.heap.size + 1, 0, none⟩ = some (.int .i64 0)
  r1 : W.cell? ⟨w.heap.size + 1, 1, none⟩ = some (.int .i64 0)
  rf : ∀ o, W.frozen? ⟨w.heap.size + 1, o, none⟩ = false
  e0 : W.cell? ⟨w.heap.size + 1 + 1, 0, none⟩ = some (.int .i64 0)
  ef : ∀ o, W.frozen? ⟨w.heap.size + 1 + 1, o, none⟩ = false
  x0 : W.cell? ⟨b, 0, none⟩ = some (.int .i64 x)
  x1 : W.cell? ⟨b, 1, none⟩ = some (.int .i64 1)
  y0 : W.cell? ⟨c, 0, none⟩ = some (.int .i64 y.1)
  y1 : W.cell? ⟨c, 1, none⟩ = some (.int .i64 y.2)
  yf : ∀ o, W.frozen? ⟨c, o, none⟩ = false
  bw : Below w.heap.size w W
  sz : c + 1 < W.heap.size
theorem frozen_at {W W' : World} {row : Option Nat} {b : Nat} {v : Value} (h : W.cell? ⟨b, 0, none⟩ = some v) (hf : ∀ o, W.frozen? ⟨b, o, none⟩ = false) (hg : W.grownBy W' row) (hr : ∀ r, row = some r → ∃ o : Obj, W.heap[r]? = some o ∧ o.isCells = false) : ∀ o, W'.frozen? ⟨b, o, none⟩ = false := by
  intro o
  obtain ⟨ob, ho, hc⟩ := cells_of_cell h
  exact (World.frozen?_of_block (a := ⟨b, o, none⟩) (grownBy_keeps_cells hg hr ho hc)).trans (hf o)
theorem VI.grown {w W W' : World} {b c : Nat} {x : Int} {y : Int × Int} (h : VI w b c x y W) {row : Option Nat} {B : Nat} (hB : w.heap.size ≤ B) (hg : W.grownBy W' row) (hr : ∀ r, row = some r → B ≤ r ∧ ∃ o : Obj, W.heap[r]? = some o ∧ o.isCells = false) : VI w b c x y W' := by
  have hr' := fun r e => (hr r e).2
  exact ⟨cell_kept h.r0 hg hr', cell_kept h.r1 hg hr', frozen_at h.r0 h.rf hg hr', cell_kept h.e0 hg hr', frozen_at h.e0 h.ef hg hr', cell_kept h.x0 hg hr', cell_kept h.x1 hg hr', cell_kept h.y0 hg hr', cell_kept h.y1 hg hr', frozen_at h.y0 h.yf hg hr',
    h.bw.grown hg h.bw.size (fun k e => Nat.le_trans hB (hr k e).1), Nat.lt_of_lt_of_le h.sz hg.size⟩
theorem VI.below {w W W' : World} {b c : Nat} {x : Int} {y : Int × Int} (h : VI w b c x y W) (hb : Below W.heap.size W W') (h2 : w.heap.size + 2 < b) (h3 : b < c) : VI w b c x y W' := by
  have s := h.sz
  exact ⟨(hb.cell (p := ⟨w.heap.size + 1, 0, none⟩) (by simp only; omega)).trans h.r0, (hb.cell (p := ⟨w.heap.size + 1, 1, none⟩) (by simp only; omega)).trans h.r1, fun o => (hb.frozen (p := ⟨w.heap.size + 1, o, none⟩) (by simp only; omega)).trans (h.rf o),
    (hb.cell (p := ⟨w.heap.size + 1 + 1, 0, none⟩) (by simp only; omega)).trans h.e0, fun o => (hb.frozen (p := ⟨w.heap.size + 1 + 1, o, none⟩) (by simp only; omega)).trans (h.ef o),
    (hb.cell (p := ⟨b, 0, none⟩) (by simp only; omega)).trans h.x0, (hb.cell (p := ⟨b, 1, none⟩) (by simp only; omega)).trans h.x1,
    (hb.cell (p := ⟨c, 0, none⟩) (by simp only; omega)).trans h.y0, (hb.cell (p := ⟨c, 1, none⟩) (by simp only; omega)).trans h.y1, fun o => (hb.frozen (p := ⟨c, o, none⟩) (by simp only; omega)).trans (h.yf o),
    h.bw.trans (hb.mono h.bw.size), Nat.lt_of_lt_of_le s hb.size⟩
theorem VI.set {w W : World} {b c : Nat} {x : Int} {y : Int × Int} (h : VI w b c x y W) (h2 : w.heap.size + 2 < b) (h3 : b < c) (q : Int × Int) : VI w b c x q ((W.setCell ⟨c, 0, none⟩ (.int .i64 q.1)).setCell ⟨c, 1, none⟩ (.int .i64 q.2)) := by
  have n1 : ¬ w.heap.size + 1 = c := by omega
  have n2 : ¬ w.heap.size + 1 + 1 = c := by omega
  have n3 : ¬ b = c := by omega
  have s := h.sz
  exact ⟨by simp [go_sem, n1, h.r0], by simp [go_sem, n1, h.r1], fun o => by simp [go_sem, h.rf], by simp [go_sem, n2, h.e0], fun o => by simp [go_sem, h.ef], by simp [go_sem, n3, h.x0], by simp [go_sem, n3, h.x1], by simp [go_sem, h.y0, h.y1], by simp [go_sem, h.y0, h.y1], fun o => by simp [go_sem, h.yf],
    (h.bw.setCell (p := ⟨c, 0, none⟩) (by simp only; omega) _).setCell (p := ⟨c, 1, none⟩) (by simp only; omega) _, by simpa using s⟩
/-- A round has left: the error is stored. -/
structure VX (w : World) (lo hi e : Int) (W : World) : Prop where
  r0 : W.cell? ⟨w.heap.size + 1, 0, none⟩ = some (.int .i64 lo)
  r1 : W.cell? ⟨w.heap.size + 1, 1, none⟩ = some (.int .i64 hi)
  e0 : W.cell? ⟨w.heap.size + 1 + 1, 0, none⟩ = some (.int .i64 e)
  bw : Below w.heap.size w W
theorem VX.grown {w W W' : World} {lo hi e : Int} (h : VX w lo hi e W) {row : Option Nat} {B : Nat} (hB : w.heap.size ≤ B) (hg : W.grownBy W' row) (hr : ∀ r, row = some r → B ≤ r ∧ ∃ o : Obj, W.heap[r]? = some o ∧ o.isCells = false) : VX w lo hi e W' := by
  have hr' := fun r e => (hr r e).2
  exact ⟨cell_kept h.r0 hg hr', cell_kept h.r1 hg hr', cell_kept h.e0 hg hr', h.bw.grown hg h.bw.size (fun k e => Nat.le_trans hB (hr k e).1)⟩
theorem VI.fail {w W : World} {b c : Nat} {x : Int} {y : Int × Int} (h : VI w b c x y W) (h2 : w.heap.size + 2 < b) (h3 : b < c) (lo hi e : Int) : VX w lo hi e (((W.setCell ⟨w.heap.size + 1, 0, none⟩ (.int .i64 lo)).setCell ⟨w.heap.size + 1, 1, none⟩ (.int .i64 hi)).setCell ⟨w.heap.size + 1 + 1, 0, none⟩ (.int .i64 e)) :=
  ⟨by simp [go_sem, h.r0, h.r1], by simp [go_sem, h.r0, h.r1], by simp [go_sem, h.e0], ((h.bw.setCell (p := ⟨w.heap.size + 1, 0, none⟩) (by simp only; omega) _).setCell (p := ⟨w.heap.size + 1, 1, none⟩) (by simp only; omega) _).setCell (p := ⟨w.heap.size + 1 + 1, 0, none⟩) (by simp only; omega) _⟩

theorem VX.put {w W : World} {lo hi e : Int} (h : VX w lo hi e W) {D : Nat} {o o' : Obj} (hD : w.heap.size ≤ D) (hK : W.heap[D]? = some o) (hc : o.isCells = false) : VX w lo hi e (W.putObj D o') :=
  h.grown (B := w.heap.size) (Nat.le_refl _) (grownBy_putObj' W D o') (fun r e => by cases e; exact ⟨hD, _, hK, hc⟩)
theorem keeps_fail {B : Nat} (W : World) (a b c : Addr) (u v x : Value) : KeepsFrom B W (((W.setCell a u).setCell b v).setCell c x) :=
  (((KeepsOthers.setCell W a u).trans (KeepsOthers.setCell _ b v)).trans (KeepsOthers.setCell _ c x)).from B

set_option maxRecDepth 100000 in
set_option maxHeartbeats 4000000 in
theorem value_any (f t : Int) (A : Option Addr) (k : Nat) (c : List (Int × Int)) (x lo hi e : Int) (w : World) (x0 : 0 ≤ x) (x1 : x ≤ 3000) (hl : c.length ≤ 2000) (hq : ∀ q ∈ c, Sp.okQ q) (hT : Frs w A c) (hv : Sp.hornF x c.reverse (0, 1) = (lo, hi, e)) :
    Calls Try.prog 71 #[.agg #[.int .i64 f, .int .i64 t, .slice A c.length k], .int .i64 x] w (Gives (.tuple #[.agg #[.int .i64 lo, .int .i64 hi], .int .i64 e]) w) := by
  have HT := hid hT
  have HQ := hid hq
  have HV := hid hv
  have LE := hid hl
  have ni := hid (fun W => fint_any x (by omega) (by omega) W)
  have nz := hid (fun W => fint_any 0 (by omega) (by omega) W)
  have X0 := hid x0
  have X1 := hid x1
  clear hT hq hv hl x0 x1
  refine (callsIn_wide (n := 3)).1 ?_
  refine callsIn_of_wp_marks Try.func71 rfl trivial ?_ rfl
  simp only [Try.ntmps71, List.size_toArray, List.length_cons, List.length_nil, Nat.reduceAdd, Nat.reduceSub, Array.replicate_succ, Array.replicate_zero, List.push_toArray, List.append_toArray, List.nil_append, List.cons_append]
  gi_wp2_with (refine ⟨trivial, ?_⟩; gi_at_call 86; refine (callsIn_wide.2 (ni.out _)).mono ?_; rintro _ w5 ⟨rfl, hb⟩)
  have sz5 : w.heap.size + 3 ≤ w5.heap.size := by have := hb.size; simpa using this
  have p2 : w5.cell? ⟨w.heap.size, 2, none⟩ = some (.slice A c.length k) := (hb.cell (p := ⟨w.heap.size, 2, none⟩) (by simp; omega)).trans (by simp [go_sem])
  have a0 : w5.cell? ⟨w.heap.size + 1, 0, none⟩ = some (.int .i64 0) := (hb.cell (p := ⟨w.heap.size + 1, 0, none⟩) (by simp)).trans (by simp [go_sem])
  have a1 : w5.cell? ⟨w.heap.size + 1, 1, none⟩ = some (.int .i64 0) := (hb.cell (p := ⟨w.heap.size + 1, 1, none⟩) (by simp)).trans (by simp [go_sem])
  have af : ∀ o, w5.frozen? ⟨w.heap.size + 1, o, none⟩ = false := fun o => (hb.frozen (p := ⟨w.heap.size + 1, o, none⟩) (by simp)).trans (by simp [go_sem])
  have b0 : w5.cell? ⟨w.heap.size + 1 + 1, 0, none⟩ = some (.int .i64 0) := (hb.cell (p := ⟨w.heap.size + 1 + 1, 0, none⟩) (by simp)).trans (by simp [go_sem])
  have bf : ∀ o, w5.frozen? ⟨w.heap.size + 1 + 1, o, none⟩ = false := fun o => (hb.frozen (p := ⟨w.heap.size + 1 + 1, o, none⟩) (by simp)).trans (by simp [go_sem])
  have bw5 : Below w.heap.size w w5 := by repeat' (first | (with_reducible exact Below.refl _ _) | (with_reducible refine Below.alloc ?_ ?_ _) | (with_reducible refine Below.setCell ?_ ?_ _) | (with_reducible refine Below.drew ?_) | (with_reducible refine Below.trans ?_ (Below.mono (by assumption) ?_)) | (simp; done) | (simp; omega) | omega)
  clear hb ni
  obtain ⟨V5, hV5⟩ : ∃ V5, w5.alloc (Obj.cells #[.int .i64 x, .int .i64 1] 56) = V5 := ⟨_, rfl⟩
  have HV5 := hid hV5
  have z5 : V5.heap.size = w5.heap.size + 1 := by rw [← hV5]; simp
  have k5 : Below w5.heap.size w5 V5 := by rw [← hV5]; exact (Below.refl _ _).alloc (Nat.le_refl _) _
  have v0 : V5.cell? ⟨w5.heap.size, 0, none⟩ = some (.int .i64 x) := by rw [← hV5]; simp [go_sem]
  have v1 : V5.cell? ⟨w5.heap.size, 1, none⟩ = some (.int .i64 1) := by rw [← hV5]; simp [go_sem]
  have K5 := hid (fun (W : World) (h : Below V5.heap.size V5 W) => (⟨(h.mono (show w5.heap.size ≤ V5.heap.size by omega)), h.size⟩ : Below w5.heap.size V5 W ∧ V5.heap.size ≤ W.heap.size))
  have P2 := hid (fun (W : World) (h : Below V5.heap.size V5 W) => ((k5.trans (h.mono (show w5.heap.size ≤ V5.heap.size by omega))).cell (p := ⟨w.heap.size, 2, none⟩) (by simp only; omega)).trans p2)
  rw [hV5]
  clear hV5 p2
  gi_wp2_with (first
    | (refine ⟨trivial, ?_⟩; gi_at_call 86; refine (callsIn_wide.2 (nz.out _)).mono ?_; rintro _ w6 ⟨rfl, hb⟩; have p6 := P2.out _ hb; have sz6 : w.heap.size + 4 ≤ w6.heap.size := (by have := hb.size; omega); have lt6 : w.heap.size < w6.heap.size := (by omega); have ne6 : ¬ w.heap.size = w6.heap.size := (by omega))
    | (refine ⟨trivial, ?_⟩; gi_at_call 87; refine (back_in Fence.wide _ trivial rfl _ _ _ _).mono ?_; rintro e w' ⟨rfl, rfl⟩))
  obtain ⟨W0, hW0⟩ : ∃ W0, (w6.alloc (Obj.cells #[.int .i64 0, .int .i64 1] 56)).alloc (Obj.cells #[.slice A c.length k] 57) = W0 := ⟨_, rfl⟩
  have zW : W0.heap.size = w6.heap.size + 2 := by rw [← hW0]; simp
  have kW : Below w6.heap.size w6 W0 := by rw [← hW0]; exact ((Below.refl _ _).alloc (Nat.le_refl _) _).alloc (by simp) _
  have bs : W0.cell? ⟨w6.heap.size + 1, 0, none⟩ = some (.slice A c.length k) := by rw [← hW0]; simp [go_sem]
  have g0 : W0.cell? ⟨w6.heap.size, 0, none⟩ = some (.int .i64 0) := by rw [← hW0]; simp [go_sem]
  have g1 : W0.cell? ⟨w6.heap.size, 1, none⟩ = some (.int .i64 1) := by rw [← hW0]; simp [go_sem]
  have gf : ∀ o, W0.frozen? ⟨w6.heap.size, o, none⟩ = false := by intro o; rw [← hW0]; simp [go_sem]
  have kV := hb.trans (kW.mono hb.size)
  have kA : Below w5.heap.size w5 W0 := k5.trans (kV.mono (show w5.heap.size ≤ V5.heap.size by omega))
  have sb : V5.heap.size ≤ w6.heap.size := hb.size
  have I0 : VI w w5.heap.size w6.heap.size x (0, 1) W0 := by
    refine ⟨(kA.cell (p := ⟨w.heap.size + 1, 0, none⟩) (by simp only; omega)).trans a0, (kA.cell (p := ⟨w.heap.size + 1, 1, none⟩) (by simp only; omega)).trans a1, fun o => (kA.frozen (p := ⟨w.heap.size + 1, o, none⟩) (by simp only; omega)).trans (af o),
      (kA.cell (p := ⟨w.heap.size + 1 + 1, 0, none⟩) (by simp only; omega)).trans b0, fun o => (kA.frozen (p := ⟨w.heap.size + 1 + 1, o, none⟩) (by simp only; omega)).trans (bf o),
      (kV.cell (p := ⟨w5.heap.size, 0, none⟩) (by simp only; omega)).trans v0, (kV.cell (p := ⟨w5.heap.size, 1, none⟩) (by simp only; omega)).trans v1, g0, g1, gf, bw5.trans (kA.mono (by omega)), by omega⟩
  rw [hW0]
  clear a0 a1 af b0 bf v0 v1 g0 g1 gf p6 lt6 ne6 hW0 kW kV kA bw5 hb k5 K5 P2 HV5 nz
  have h5 : w.heap.size + 2 < w5.heap.size := by omega
  have h6 : w5.heap.size < w6.heap.size := by omega
  clear sz5 sz6 z5 sb
  clear V5
  refine wpIn_rangeFunc_ownH rfl (by omega) (gf := 96) (lb := #[.pointer (some ⟨w6.heap.size + 1, 0, none⟩)]) rfl trivial (enters_of Try.func96 (by kernel_rfl) rfl)
    (back_stops Fence.wide _ trivial rfl (by omega) (w6.heap.size + 1) w.heap.size k A c LE.out HQ.out W0 (by omega) bs (HT.out.below I0.bw) (fun b off hA h0 => by
      obtain ⟨b', off', hA', hl', -⟩ := HT.out h0
      rw [hA] at hA'
      obtain ⟨rfl, rfl⟩ : b = b' ∧ off = off' := by simpa using hA'
      exact hl'))
    (fun h k => KV.trans h k) (KV.put (by omega) (by omega)) (Below.refl _ _) (fun _ => rfl)
    (fun pre W => ∃ y : Int × Int, Sp.okQ y ∧ Sp.hornF x (pre.map (fun z => z.2.1)) (0, 1) = (y.1, y.2, 0) ∧ VI w w5.heap.size w6.heap.size x y W)
    (fun cd pre W => cd = .ret ∧ ∃ e' : Int, e' ≠ 0 ∧ Sp.hornF x (pre.map (fun z => z.2.1)) (0, 1) = (0, 0, e') ∧ VX w 0 0 e' W)
    (fun s X Y row hs hg hr => by obtain ⟨y, o, h, v⟩ := hs; exact ⟨y, o, h, v.grown (B := W0.heap.size) (by omega) hg hr⟩)
    (fun cd s X Y row hs hg hr => by obtain ⟨h1, e', h2, h3, v⟩ := hs; exact ⟨h1, e', h2, h3, v.grown (B := W0.heap.size) (by omega) hg hr⟩)
    ⟨(0, 1), Sp.zero_ok, rfl, I0⟩
    (fun z a' W => ∃ Bx, w6.heap.size + 1 < Bx ∧ Bx < W.heap.size ∧ W.cell? ⟨Bx, 0, none⟩ = some (.int .i64 z.2.1.1) ∧ W.cell? ⟨Bx, 1, none⟩ = some (.int .i64 z.2.1.2) ∧ a' = { tmps := #[.agg #[.int .i64 f, .int .i64 t, .slice A c.length k], .int .i64 x, .pointer (some ⟨w.heap.size, 0, none⟩), undef, .pointer (some ⟨w.heap.size + 1, 0, none⟩), .pointer (some ⟨w.heap.size + 1 + 1, 0, none⟩), .pointer (some ⟨w5.heap.size, 0, none⟩), .int .i64 0, .pointer (some ⟨w6.heap.size, 0, none⟩), .int .i64 0, undef, .pointer (some ⟨Bx, 0, none⟩), undef, undef, .tuple #[.agg #[.int .i64 x, .int .i64 1], .int .i64 0], .int .i64 x, .tuple #[.agg #[.int .i64 x, .int .i64 1], .int .i64 0], .agg #[.int .i64 x, .int .i64 1], .int .i64 0, .tuple #[.agg #[.int .i64 0, .int .i64 1], .int .i64 0], .tuple #[.agg #[.int .i64 0, .int .i64 1], .int .i64 0], .agg #[.int .i64 0, .int .i64 1], .int .i64 0, .pointer (some ⟨w.heap.size, 2, none⟩), .slice A c.length k, .func (.func 96) #[] #[.pointer (some ⟨w6.heap.size + 1, 0, none⟩)], .int .i64 z.1, .agg #[.int .i64 z.2.1.1, .int .i64 z.2.1.2], undef, undef, undef, undef, undef, undef, undef, undef, undef, undef, undef, undef, undef, undef, undef, undef, undef, undef, undef, undef, undef], defers := [] })
    (fun z a' _ X Y row hs hg hr => by obtain ⟨Bx, g1, g2, c0, c1, e⟩ := hs; exact ⟨Bx, g1, Nat.lt_of_lt_of_le g2 hg.size, cell_kept c0 hg (fun r e => (hr r e).2), cell_kept c1 hg (fun r e => (hr r e).2), e⟩) ?assign ?body ?done ?stop
  case assign =>
    rintro l pre z W K ⟨y, o, h, v⟩ hK
    gi_wp2
    have kb : Below W.heap.size W (W.alloc (Obj.cells #[.int .i64 z.2.1.1, .int .i64 z.2.1.2] 56)) := (Below.refl _ _).alloc (Nat.le_refl _) _
    have s1 := v.bw.size
    have s2 := v.sz
    refine hK _ _ (keeps_below kb) (KV.of_below kb s1 (by omega)) ⟨y, o, h, v.below kb (by omega) (by omega)⟩ ⟨W.heap.size, by omega, by simp, by simp [go_sem], by simp [go_sem], rfl⟩
  case body =>
    rintro l pre ⟨i, ⟨⟨n, d⟩, hq⟩⟩ a' W hl0 ⟨r, hr⟩ ⟨⟨y1, y2⟩, oy, hy, v⟩ ⟨Bx, h1, h2, c0, c1, rfl⟩ hlt
    simp only at c0 c1
    clear hr
    have s1 := v.bw.size
    have s2 := v.sz
    obtain ⟨⟨p1, p2, e1⟩, hm⟩ : ∃ m, Sp.mulF y1 y2 x 1 = m := ⟨_, rfl⟩
    have by1 := Sp.okQ_bounds oy
    have bq := Sp.okQ_bounds hq
    simp only at by1 bq
    have mu := hid (fun W => fmul_any y1 y2 x 1 p1 p2 e1 by1.1.1 by1.1.2 by1.2.1 by1.2.2 (by have := X0.out; omega) (by have := X1.out; omega) (by omega) (by omega) hm W)
    have mr := Sp.mul_res (a := y1) (b := y2) (c := x) (d := 1) oy (Sp.one_ok (by have := X0.out; omega) (by have := X1.out; omega))
    have st : Sp.stepF x (y1, y2) (n, d) = if e1 ≠ 0 then (0, 0, e1) else Sp.addF p1 p2 n d := by unfold Sp.stepF; simp only [hm]
    rw [hm] at mr
    have sn := Sp.horn_snoc (x := x) (n, d) _ _ _ hy
    rw [st] at sn
    have HL : (pre ++ [(i, (⟨(n, d), hq⟩ : OQ))]).map (fun z => z.2.1) = pre.map (fun z => z.2.1) ++ [(n, d)] := by simp
    have SN := hid sn
    have HLL := hid HL
    have q0 := v.y0
    have q1 := v.y1
    have x0 := v.x0
    have x1 := v.x1
    have HV2 := hid v
    have HH5 := hid h5
    have HH6 := hid h6
    simp only at q0 q1
    clear hy sn st v hm HL
    by_cases z1 : e1 = 0
    · subst z1
      have op : Sp.okQ (p1, p2) := by
        rcases mr with h | h
        · exact h.2
        · have := (Prod.mk.inj (Prod.mk.inj h).2).2; omega
      have bp := Sp.okQ_bounds op
      simp only at bp
      obtain ⟨⟨g1, g2, e2⟩, ha⟩ : ∃ m, Sp.addF p1 p2 n d = m := ⟨_, rfl⟩
      have ad := hid (fun W => fadd_any p1 p2 n d g1 g2 e2 bp.1.1 bp.1.2 bp.2.1 bp.2.2 bq.1.1 bq.1.2 bq.2.1 bq.2.2 ha W)
      have ar := Sp.add_res (a := p1) (b := p2) (c := n) (d := d) op hq
      rw [ha] at ar
      have AR := hid ar
      have SN2 := SN.out
      simp only [ne_eq, not_true_eq_false, if_false, ha] at SN2
      have SN3 := hid SN2
      clear mr by1 bq bp oy op ar ha SN SN2
      by_cases z2 : e2 = 0
      · subst z2
        gi_wp2_with (first
          | (refine ⟨trivial, ?_⟩; gi_at_call 63; refine (CallsIn.inRound l (callsIn_wide.2 (mu.out _))).mono ?_; rintro _ w7 ⟨rfl, hb⟩; have HV7 := hid (HV2.out.below hb (by omega) (by omega)); have k0 : w7.cell? ⟨Bx, 0, none⟩ = some (.int .i64 n) := (hb.cell (p := ⟨Bx, 0, none⟩) h2).trans c0; have k1 : w7.cell? ⟨Bx, 1, none⟩ = some (.int .i64 d) := (hb.cell (p := ⟨Bx, 1, none⟩) h2).trans c1; have hx7 : Bx < w7.heap.size := Nat.lt_of_lt_of_le h2 hb.size; have nx7 : ¬ Bx = w7.heap.size := (by omega); have HB7 := hid hb; clear hb)
          | (refine ⟨trivial, ?_⟩; gi_at_call 88; refine (CallsIn.inRound l (callsIn_wide.2 (ad.out _))).mono ?_; rintro _ w8 ⟨rfl, hb⟩; have HB8 := hid (show Below w7.heap.size w7 w8 from (by repeat' (first | (with_reducible exact Below.refl _ _) | (with_reducible refine Below.alloc ?_ ?_ _) | (with_reducible refine Below.setCell ?_ ?_ _) | (with_reducible refine Below.drew ?_) | (with_reducible refine Below.trans ?_ (Below.mono (by assumption) ?_)) | (simp; done) | (simp; omega) | omega))); have HV8 := hid (HV7.out.below HB8.out (by omega) (by omega)); have j0 := HV8.out.y0; have j1 := HV8.out.y1; have jf := HV8.out.yf; simp only at j0 j1; clear hb))
        have k7 := HB7.out
        have k8 := k7.trans (HB8.out.mono k7.size)
        have HS := HV8.out.set (by omega) (by omega) (g1, g2)
        have o2 : Sp.okQ (g1, g2) := by
          rcases AR.out with h | h
          · exact h.2
          · have := (Prod.mk.inj (Prod.mk.inj h).2).2; omega
        have S3 := SN3.out
        have kk := KV.of_below (n := w.heap.size) (B := w6.heap.size + 1) k8 (by omega) (by omega)
        refine ⟨(keeps_below k8).trans (((KeepsOthers.setCell _ _ _).trans (KeepsOthers.setCell _ _ _)).from _), (kk.set (by omega) (by omega) _).set (by omega) (by omega) _, (g1, g2), o2, ?_, HS⟩
        rw [HLL.out]
        simpa using S3
      · have hn : (e2 == 0) = false := by simpa using z2
        gi_wp2_with (first
          | (refine ⟨trivial, ?_⟩; gi_at_call 63; refine (CallsIn.inRound l (callsIn_wide.2 (mu.out _))).mono ?_; rintro _ w7 ⟨rfl, hb⟩; have HV7 := hid (HV2.out.below hb (by omega) (by omega)); have k0 : w7.cell? ⟨Bx, 0, none⟩ = some (.int .i64 n) := (hb.cell (p := ⟨Bx, 0, none⟩) h2).trans c0; have k1 : w7.cell? ⟨Bx, 1, none⟩ = some (.int .i64 d) := (hb.cell (p := ⟨Bx, 1, none⟩) h2).trans c1; have hx7 : Bx < w7.heap.size := Nat.lt_of_lt_of_le h2 hb.size; have nx7 : ¬ Bx = w7.heap.size := (by omega); have HB7 := hid hb; clear hb)
          | (refine ⟨trivial, ?_⟩; gi_at_call 88; refine (CallsIn.inRound l (callsIn_wide.2 (ad.out _))).mono ?_; rintro _ w8 ⟨rfl, hb⟩; have HB8 := hid (show Below w7.heap.size w7 w8 from (by repeat' (first | (with_reducible exact Below.refl _ _) | (with_reducible refine Below.alloc ?_ ?_ _) | (with_reducible refine Below.setCell ?_ ?_ _) | (with_reducible refine Below.drew ?_) | (with_reducible refine Below.trans ?_ (Below.mono (by assumption) ?_)) | (simp; done) | (simp; omega) | omega))); have HV8 := hid (HV7.out.below HB8.out (by omega) (by omega)); have j0 := HV8.out.y0; have j1 := HV8.out.y1; have jf := HV8.out.yf; have i0 := HV8.out.r0; have i1 := HV8.out.r1; have if0 := HV8.out.rf; have i2 := HV8.out.e0; have if2 := HV8.out.ef; have ne1 : ¬ w.heap.size + 1 = w6.heap.size := (by omega); have ne2 : ¬ w.heap.size + 1 + 1 = w6.heap.size := (by omega); simp only at j0 j1; clear hb))
        have k7 := HB7.out
        have k8 := k7.trans (HB8.out.mono k7.size)
        have S3 := SN3.out
        rw [if_pos z2] at S3
        have HS := (HV8.out.set (by omega) (by omega) (g1, g2)).fail (by omega) (by omega) 0 0 e2
        exact ⟨((keeps_below k8).trans (((KeepsOthers.setCell _ _ _).trans (KeepsOthers.setCell _ _ _)).from _)).trans (keeps_fail _ _ _ _ _ _ _), rfl, e2, z2, by rw [HLL.out]; exact S3, HS⟩
    · have hn : (e1 == 0) = false := by simpa using z1
      clear mr by1 bq
      gi_wp2_with (refine ⟨trivial, ?_⟩; gi_at_call 63; refine (CallsIn.inRound l (callsIn_wide.2 (mu.out _))).mono ?_; rintro _ w7 ⟨rfl, hb⟩; have HV7 := hid (HV2.out.below hb (by omega) (by omega)); have HB7 := hid hb; have i0 := HV7.out.r0; have i1 := HV7.out.r1; have if0 := HV7.out.rf; have i2 := HV7.out.e0; have if2 := HV7.out.ef; have lt1 : w.heap.size + 1 < w7.heap.size := (by have := HV7.out.sz; omega); have lt2 : w.heap.size + 1 + 1 < w7.heap.size := (by have := HV7.out.sz; omega); clear hb)
      have S3 := SN.out
      simp only [ne_eq, z1, not_false_eq_true, if_true] at S3
      have k7 := HB7.out
      have HS := (HV7.out.fail (by omega) (by omega) 0 0 e1).grown (B := w.heap.size) (Nat.le_refl _) (World.grownBy_alloc _ (Obj.cells #[.int .i64 p1, .int .i64 p2] 56) none) (fun r e => by cases e)
      exact ⟨((keeps_below k7).trans (keeps_fail _ _ _ _ _ _ _)).trans ((KeepsOthers.alloc _ _).from _), rfl, e1, z1, by rw [HLL.out]; exact S3, HS⟩
  case done =>
    rintro D xs W hD hxs ⟨⟨y1, y2⟩, oy, hy, v⟩ hK
    have e0 : Sp.hornF x c.reverse (0, 1) = (y1, y2, 0) := by
      rw [hxs, bkU_snd c HQ.out (Nat.le_refl _), List.take_of_length_le (by simp)] at hy
      exact hy
    rw [HV.out] at e0
    have e3 : lo = y1 ∧ hi = y2 ∧ e = 0 := by simpa using e0
    obtain ⟨rfl, rfl, rfl⟩ := e3
    have q0 := v.y0
    have q1 := v.y1
    have i0 := v.r0
    have i1 := v.r1
    have if0 := v.rf
    have i2 := v.e0
    have if2 := v.ef
    simp only at q0 q1
    clear hxs hy oy e0
    have hx := v.fail (by omega) (by omega) lo hi 0
    have hK2 := (keeps_fail (B := 0) W ⟨w.heap.size + 1, 0, none⟩ ⟨w.heap.size + 1, 1, none⟩ ⟨w.heap.size + 1 + 1, 0, none⟩ (.int .i64 lo) (.int .i64 hi) (.int .i64 0)).same D _ (Nat.zero_le _) hK rfl
    have sD : w.heap.size ≤ D := by omega
    clear hK
    gi_wp2
    refine ⟨by simp, .inl ⟨_, _, rfl, run_takeDeferred hK2, ?_⟩⟩
    have X2 := hx.put (o' := .deferred none) (show w.heap.size ≤ D by omega) hK2 rfl
    have c0 := X2.r0
    have c1 := X2.r1
    have c2 := X2.e0
    refine ⟨.tuple #[.agg #[.int .i64 lo, .int .i64 hi], .int .i64 0], by simp [results, Try.results71, go_sem, c0, c1, c2], Gives.mk rfl X2.bw⟩

  case stop =>
    rintro D cd pre W hD ⟨kk, hk, rfl⟩ ⟨rfl, e', he, hy, v⟩ hK
    have e0 : Sp.hornF x c.reverse (0, 1) = (0, 0, e') := by
      rw [bkU_snd c HQ.out hk] at hy
      have := Sp.horn_stop he (c.reverse.drop kk) _ _ hy
      rwa [List.take_append_drop] at this
    rw [HV.out] at e0
    have e3 : lo = 0 ∧ hi = 0 ∧ e = e' := by simpa using e0
    obtain ⟨rfl, rfl, rfl⟩ := e3
    have hx := v
    have hK2 := hK
    gi_wp2
    refine ⟨by simp, .inl ⟨_, _, rfl, run_takeDeferred hK2, ?_⟩⟩
    have X2 := hx.put (o' := .deferred none) (show w.heap.size ≤ D by omega) hK2 rfl
    have c0 := X2.r0
    have c1 := X2.r1
    have c2 := X2.e0
    refine ⟨.tuple #[.agg #[.int .i64 0, .int .i64 0], .int .i64 e], by simp [results, Try.results71, go_sem, c0, c1, c2], Gives.mk rfl X2.bw⟩
end Go.Proofs.Ytdimncchejbaaaa
