/-
  Layer 12: the value of a piece by Horner's rule, and lists of values: specifications. No Go in sight.
-/
import Derived.Test.YtcbecfimikpljaaPm
import Derived.Test.YtcbecfimikpljaaFrat
namespace Go.Proofs.Ytcbecfimikpljaa
open Go.RowKit
set_option linter.unusedVariables false
namespace Sp
theorem one_ok {x : Int} (x0 : -1000000000000000 ≤ x) (x1 : x ≤ 1000000000000000) : fchk x 1 = 0 :=
  valid_mk (by omega) (Int.gcd_one) (by omega) (by omega)
theorem lim_res {x y : Int} (y0 : 0 < y) (g : Int.gcd x y = 1) : ((limF x y).2.2 = 0 ∧ fchk (limF x y).1 (limF x y).2.1 = 0) ∨ limF x y = (0, 0, 8) := by
  unfold limF
  split
  · exact .inr rfl
  · exact .inl ⟨rfl, valid_mk y0 g (by simp only; omega) (by simp only; omega)⟩
theorem mul_res {a b c d : Int} (h1 : fchk a b = 0) (h2 : fchk c d = 0) : ((mulF a b c d).2.2 = 0 ∧ fchk (mulF a b c d).1 (mulF a b c d).2.1 = 0) ∨ mulF a b c d = (0, 0, 8) := by
  obtain ⟨x, y, e, y0, g, -, -, -⟩ := prodF_core h1 h2
  rw [mul_of h1 h2 e]
  exact lim_res y0 g
theorem add_res {a b c d : Int} (h1 : fchk a b = 0) (h2 : fchk c d = 0) : ((addF a b c d).2.2 = 0 ∧ fchk (addF a b c d).1 (addF a b c d).2.1 = 0) ∨ addF a b c d = (0, 0, 8) := by
  obtain ⟨x, y, e, y0, g, -, -, -⟩ := sumF_core h1 h2
  rw [add_of h1 h2 e]
  exact lim_res y0 g
/-- A step of Horner's rule. -/
def stepF (x : Int) (y c : Int × Int) : Int × Int × Int :=
  if (mulF y.1 y.2 x 1).2.2 ≠ 0 then (0, 0, (mulF y.1 y.2 x 1).2.2) else addF (mulF y.1 y.2 x 1).1 (mulF y.1 y.2 x 1).2.1 c.1 c.2
def hornF (x : Int) : List (Int × Int) → Int × Int → Int × Int × Int
  | [], y => (y.1, y.2, 0)
  | c :: r, y => if (stepF x y c).2.2 ≠ 0 then (0, 0, (stepF x y c).2.2) else hornF x r ((stepF x y c).1, (stepF x y c).2.1)
theorem hornF_cons (x : Int) (c : Int × Int) (r : List (Int × Int)) (y : Int × Int) : hornF x (c :: r) y = if (stepF x y c).2.2 ≠ 0 then (0, 0, (stepF x y c).2.2) else hornF x r ((stepF x y c).1, (stepF x y c).2.1) := rfl
def valP (p : Pd) (x : Int) : Int × Int × Int := hornF x p.c.reverse (0, 1)
def okQ (q : Int × Int) : Prop := fchk q.1 q.2 = 0
theorem zero_ok : okQ (0, 1) := one_ok (by omega) (by omega)
theorem okQ_bounds {q : Int × Int} (h : okQ q) : (-9223372036854775808 ≤ q.1 ∧ q.1 ≤ 9223372036854775807) ∧ (-9223372036854775808 ≤ q.2 ∧ q.2 ≤ 9223372036854775807) := by
  obtain ⟨h1, h2, h3, h4, -⟩ := fchk_zero.mp h
  omega
theorem step_res {x : Int} {y c : Int × Int} (hy : okQ y) (hc : okQ c) (x0 : 0 ≤ x) (x1 : x ≤ 3000) : ((stepF x y c).2.2 = 0 ∧ okQ ((stepF x y c).1, (stepF x y c).2.1)) ∨ stepF x y c = (0, 0, 8) := by
  unfold stepF
  rcases mul_res hy (one_ok (x := x) (by omega) (by omega)) with ⟨e, h⟩ | e
  · rw [if_neg (fun k => k e)]
    exact add_res h hc
  · rw [e]; exact .inr rfl
theorem horn_res {x : Int} (x0 : 0 ≤ x) (x1 : x ≤ 3000) : ∀ (r : List (Int × Int)) (y : Int × Int), (∀ q ∈ r, okQ q) → okQ y → ((hornF x r y).2.2 = 0 ∧ okQ ((hornF x r y).1, (hornF x r y).2.1)) ∨ hornF x r y = (0, 0, 8) := by
  intro r
  induction r with
  | nil => intro y _ hy; exact .inl ⟨rfl, hy⟩
  | cons c r ih =>
    intro y hr hy
    rw [hornF_cons]
    rcases step_res hy (hr c (by simp)) x0 x1 with ⟨e, h⟩ | e
    · rw [if_neg (fun k => k e)]
      exact ih _ (fun q hq => hr q (by simp [hq])) h
    · rw [e]; exact .inr rfl
theorem horn_snoc {x : Int} (c : Int × Int) : ∀ (r : List (Int × Int)) (z y : Int × Int), hornF x r z = (y.1, y.2, 0) → hornF x (r ++ [c]) z = if (stepF x y c).2.2 ≠ 0 then (0, 0, (stepF x y c).2.2) else ((stepF x y c).1, (stepF x y c).2.1, 0)
  | [], z, y, h => by
    obtain ⟨z1, z2⟩ := z
    obtain ⟨y1, y2⟩ := y
    simp only [hornF] at h
    obtain ⟨rfl, h2⟩ := Prod.mk.inj h
    obtain ⟨rfl, -⟩ := Prod.mk.inj h2
    rfl
  | d :: r, z, y, h => by
    rw [hornF_cons] at h
    rw [List.cons_append, hornF_cons]
    by_cases e : (stepF x z d).2.2 = 0
    · rw [if_neg (fun k => k e)] at h
      rw [if_neg (fun k => k e)]
      exact horn_snoc c r _ y h
    · rw [if_pos e] at h
      have := (Prod.mk.inj (Prod.mk.inj h).2).2
      exact absurd this e
theorem horn_stop {x e : Int} (he : e ≠ 0) (s : List (Int × Int)) : ∀ (r : List (Int × Int)) (z : Int × Int), hornF x r z = (0, 0, e) → hornF x (r ++ s) z = (0, 0, e)
  | [], z, h => by
    simp only [hornF] at h
    have := (Prod.mk.inj (Prod.mk.inj h).2).2
    exact absurd this.symm he
  | d :: r, z, h => by
    rw [hornF_cons] at h
    rw [List.cons_append, hornF_cons]
    by_cases e : (stepF x z d).2.2 = 0
    · rw [if_neg (fun k => k e)] at h
      rw [if_neg (fun k => k e)]
      exact horn_stop he s r _ h
    · rw [if_pos e] at h
      rw [if_pos e]
      exact h
theorem good_ok {p : Pd} (g : GoodP p) : ∀ q ∈ p.c, okQ q := fun q hq => (g.ok q hq).1
theorem val_res {p : Pd} {x : Int} (g : GoodP p) (x0 : 0 ≤ x) (x1 : x ≤ 3000) : ((valP p x).2.2 = 0 ∧ okQ ((valP p x).1, (valP p x).2.1)) ∨ valP p x = (0, 0, 8) :=
  horn_res x0 x1 _ _ (fun q hq => good_ok g q (List.mem_reverse.mp hq)) zero_ok
/-- The first error among k values, and the values. -/
def fstE (g : Int → Int × Int × Int) : Nat → Int → Int
  | 0, _ => 0
  | k + 1, x => if (g x).2.2 ≠ 0 then (g x).2.2 else fstE g k (x + 1)
def lstV (g : Int → Int × Int × Int) : Nat → Int → List (Int × Int)
  | 0, _ => []
  | k + 1, x => ((g x).1, (g x).2.1) :: lstV g k (x + 1)
theorem fstE_succ (g : Int → Int × Int × Int) (k : Nat) (x : Int) : fstE g (k + 1) x = if (g x).2.2 ≠ 0 then (g x).2.2 else fstE g k (x + 1) := rfl
theorem lstV_succ (g : Int → Int × Int × Int) (k : Nat) (x : Int) : lstV g (k + 1) x = ((g x).1, (g x).2.1) :: lstV g k (x + 1) := rfl
theorem lstV_len (g : Int → Int × Int × Int) : ∀ (k : Nat) (x : Int), (lstV g k x).length = k
  | 0, _ => rfl
  | k + 1, x => by rw [lstV_succ, List.length_cons, lstV_len g k]
theorem lstV_get (g : Int → Int × Int × Int) : ∀ (k : Nat) (x : Int) (i : Nat) (h : i < (lstV g k x).length), (lstV g k x)[i] = ((g (x + i)).1, (g (x + i)).2.1)
  | 0, x, i, h => absurd h (by simp [lstV])
  | k + 1, x, 0, h => by simp [lstV_succ]
  | k + 1, x, i + 1, h => by
    simp only [lstV_succ, List.getElem_cons_succ]
    rw [lstV_get g k (x + 1) i]
    have e : x + 1 + (i : Int) = x + ((i + 1 : Nat) : Int) := by omega
    rw [e]
theorem lstV_snoc (g : Int → Int × Int × Int) : ∀ (k : Nat) (x : Int), lstV g (k + 1) x = lstV g k x ++ [((g (x + k)).1, (g (x + k)).2.1)]
  | 0, x => by simp [lstV]
  | k + 1, x => by
    have e : x + 1 + (k : Int) = x + ((k + 1 : Nat) : Int) := by omega
    rw [lstV_succ, lstV_snoc g k (x + 1), lstV_succ, List.cons_append, e]
theorem fstE_zero (g : Int → Int × Int × Int) : ∀ (k : Nat) (x : Int), fstE g k x = 0 ↔ ∀ i : Nat, i < k → (g (x + i)).2.2 = 0
  | 0, x => by simp [fstE]
  | k + 1, x => by
    rw [fstE_succ]
    constructor
    · intro h
      by_cases c : (g x).2.2 = 0
      · rw [if_neg (fun z => z c)] at h
        intro i hi
        cases i with
        | zero => simpa using c
        | succ i =>
          have := (fstE_zero g k (x + 1)).mp h i (by omega)
          have e : x + 1 + (i : Int) = x + ((i + 1 : Nat) : Int) := by omega
          rwa [e] at this
      · rw [if_pos c] at h; exact absurd h c
    · intro h
      have c : (g x).2.2 = 0 := by simpa using h 0 (by omega)
      rw [if_neg (fun z => z c)]
      refine (fstE_zero g k (x + 1)).mpr fun i hi => ?_
      have := h (i + 1) (by omega)
      have e : x + 1 + (i : Int) = x + ((i + 1 : Nat) : Int) := by omega
      rwa [e]
/-- The piece that an argument belongs to. -/
def pieceI (l : List Pd) (x : Int) : Nat := min (atI l x) (l.length - 1)
def pieceO (l : List Pd) (x : Int) : Pd := (l[pieceI l x]?).getD (⟨0, 0, none, 0, []⟩ : Pd)
def valL (l : List Pd) (x : Int) : Int × Int × Int := valP (pieceO l x) x
theorem pieceO_is {l : List Pd} (x : Int) (h0 : 0 < l.length) : ∃ h : pieceI l x < l.length, l[pieceI l x]'h = pieceO l x := by
  have h : pieceI l x < l.length := by unfold pieceI; omega
  refine ⟨h, ?_⟩
  unfold pieceO
  rw [List.getElem?_eq_getElem h, Option.getD_some]
theorem pieceO_mem {l : List Pd} (x : Int) (h0 : 0 < l.length) : pieceO l x ∈ l := by
  obtain ⟨h, e⟩ := pieceO_is (l := l) x h0
  rw [← e]; exact List.getElem_mem h
theorem valL_res {l : List Pd} {x : Int} (h : pcheck l = 0) (x0 : 0 ≤ x) (x1 : x ≤ 3000) : ((valL l x).2.2 = 0 ∧ okQ ((valL l x).1, (valL l x).2.1)) ∨ valL l x = (0, 0, 8) := by
  obtain ⟨h0, -, g, -⟩ := pcheck_good h
  exact val_res (g _ (pieceO_mem x h0)) x0 x1
/-- What values answers: a list, or an error. -/
def least (l : List Pd) : Int := ((l[0]?).getD (⟨0, 0, none, 0, []⟩ : Pd)).f
def great (l : List Pd) : Int := ((l[l.length - 1]?).getD (⟨0, 0, none, 0, []⟩ : Pd)).t
def valsE (l : List Pd) (a b : Int) : Int :=
  if pcheck l ≠ 0 then pcheck l else if a < least l ∨ great l < b ∨ b < a then 2 else fstE (valL l) (b - a + 1).toNat a
def valsL (l : List Pd) (a b : Int) : List (Int × Int) := lstV (valL l) (b - a + 1).toNat a
def evalS (l : List Pd) (x : Int) : Int × Int × Int := if valsE l x x ≠ 0 then (0, 0, valsE l x x) else ((valL l x).1, (valL l x).2.1, 0)
/-- Do neighbouring pieces agree where they meet? -/
def joinE (p q : Pd) : Int := if (valP p q.f).2.2 ≠ 0 then (valP p q.f).2.2 else (valP q q.f).2.2
def joinB (p q : Pd) : Bool := decide ((valP p q.f).1 = (valP q q.f).1) && decide ((valP p q.f).2.1 = (valP q q.f).2.1)
def contF : List Pd → Bool → Bool × Int
  | p :: q :: r, B => if joinE p q ≠ 0 then (false, joinE p q) else contF (q :: r) (B && joinB p q)
  | _, B => (B, 0)
theorem contF_step (p q : Pd) (r : List Pd) (B : Bool) : contF (p :: q :: r) B = if joinE p q ≠ 0 then (false, joinE p q) else contF (q :: r) (B && joinB p q) := rfl
def contS (l : List Pd) : Bool × Int := if pcheck l ≠ 0 then (false, pcheck l) else contF l true
end Sp
end Go.Proofs.Ytcbecfimikpljaa
