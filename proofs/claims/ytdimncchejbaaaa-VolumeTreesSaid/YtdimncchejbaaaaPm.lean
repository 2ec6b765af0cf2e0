/-
  Layer 12: functions of pieces: specifications (a piece knows where its coefficients lie).
-/
import Derived.Test.YtdimncchejbaaaaFspec
import Derived.WalkKit
namespace Go.Proofs.Ytdimncchejbaaaa
open Go.RowKit
set_option linter.unusedVariables false
namespace Sp
/-- A piece: its ends, where its coefficients lie, and they. -/
structure Pd where
  f : Int
  t : Int
  A : Option Addr
  k : Nat
  c : List (Int × Int)
def coefE : List (Int × Int) → Int
  | [] => 0
  | p :: r => if fchk p.1 p.2 ≠ 0 then fchk p.1 p.2 else coefE r
def bigF (p : Int × Int) : Bool := decide (1000000 < p.1) || decide (p.1 < -1000000) || decide (1000000000 < p.2)
def pieceE (p : Pd) (b : Int) : Int := if p.f < 0 ∨ 3000 < p.t then 2 else if p.t ≤ p.f ∨ p.f ≠ b then 9 else if 4 < p.c.length then 8 else if coefE p.c ≠ 0 then coefE p.c else if p.c.any bigF then 2 else 0
def listE : List Pd → Int → Int
  | [], _ => 0
  | p :: r, b => if pieceE p b ≠ 0 then pieceE p b else listE r p.t
def pcheck (l : List Pd) : Int := if h : 0 < l.length then (if 8 < l.length then 8 else listE l (l[0]).f) else 6
def firstBig (l : List (Int × Int)) (j : Int) : Int := match l with
  | [] => -1
  | p :: r => if bigF p then j else firstBig r (j + 1)
theorem firstBig_any (l : List (Int × Int)) : ∀ j, 0 ≤ j → decide (0 ≤ firstBig l j) = l.any bigF := by
  induction l with
  | nil => intro j _; rfl
  | cons p r ih =>
    intro j hj
    rw [List.any_cons]
    unfold firstBig
    by_cases h : bigF p = true
    · rw [if_pos h, h]; simp [hj]
    · rw [if_neg h, ih _ (by omega)]; simp [h]
theorem coefE_cons (p : Int × Int) (r : List (Int × Int)) : coefE (p :: r) = if fchk p.1 p.2 ≠ 0 then fchk p.1 p.2 else coefE r := rfl
theorem listE_cons (p : Pd) (r : List Pd) (b : Int) : listE (p :: r) b = if pieceE p b ≠ 0 then pieceE p b else listE r p.t := rfl
theorem firstBig_cons (p : Int × Int) (r : List (Int × Int)) (j : Int) : firstBig (p :: r) j = if bigF p then j else firstBig r (j + 1) := rfl
theorem coefE_all {l : List (Int × Int)} (h : coefE l = 0) : ∀ p ∈ l, fchk p.1 p.2 = 0 := by
  induction l with
  | nil => intro p hp; cases hp
  | cons q r ih =>
    rw [coefE_cons] at h
    by_cases e : fchk q.1 q.2 = 0
    · rw [if_neg (fun x => x e)] at h
      intro p hp
      cases hp with
      | head => exact e
      | tail _ hp => exact ih h p hp
    · rw [if_pos e] at h; exact absurd h e
/-- What a valid piece is. -/
structure GoodP (p : Pd) : Prop where
  f0 : 0 ≤ p.f
  ft : p.f < p.t
  t1 : p.t ≤ 3000
  n4 : p.c.length ≤ 4
  ok : ∀ q ∈ p.c, fchk q.1 q.2 = 0 ∧ -1000000 ≤ q.1 ∧ q.1 ≤ 1000000 ∧ q.2 ≤ 1000000000
theorem pieceE_good {p : Pd} {b : Int} (h : pieceE p b = 0) : GoodP p ∧ p.f = b := by
  unfold pieceE at h
  by_cases c1 : p.f < 0 ∨ 3000 < p.t
  · rw [if_pos c1] at h; omega
  rw [if_neg c1] at h
  by_cases c2 : p.t ≤ p.f ∨ p.f ≠ b
  · rw [if_pos c2] at h; omega
  rw [if_neg c2] at h
  by_cases c3 : 4 < p.c.length
  · rw [if_pos c3] at h; omega
  rw [if_neg c3] at h
  by_cases c4 : coefE p.c = 0
  · rw [if_neg (fun x => x c4)] at h
    by_cases c5 : p.c.any bigF = true
    · rw [if_pos c5] at h; omega
    · have big : ∀ q ∈ p.c, -1000000 ≤ q.1 ∧ q.1 ≤ 1000000 ∧ q.2 ≤ 1000000000 := by
        intro q hq
        have : ¬ bigF q = true := fun x => c5 (List.any_eq_true.mpr ⟨q, hq, x⟩)
        unfold bigF at this
        simp at this
        omega
      exact ⟨⟨by omega, by omega, by omega, by omega, fun q hq => ⟨coefE_all c4 q hq, big q hq⟩⟩, by omega⟩
  · rw [if_pos c4] at h; exact absurd h c4
theorem listE_good {l : List Pd} : ∀ {b : Int}, listE l b = 0 → (∀ p ∈ l, GoodP p) ∧ (∀ j, (h : j + 1 < l.length) → (l[j]).t = (l[j + 1]).f) ∧ ∀ h : 0 < l.length, (l[0]).f = b := by
  induction l with
  | nil => intro b _; exact ⟨fun p hp => (by cases hp), fun j h => (by simp at h), fun h => (by simp at h)⟩
  | cons q r ih =>
    intro b h
    rw [listE_cons] at h
    by_cases e : pieceE q b = 0
    · rw [if_neg (fun x => x e)] at h
      obtain ⟨g1, g2⟩ := pieceE_good e
      obtain ⟨i1, i2, i3⟩ := ih h
      refine ⟨fun p hp => ?_, fun j hj => ?_, fun _ => g2⟩
      · cases hp with
        | head => exact g1
        | tail _ hp => exact i1 p hp
      · cases j with
        | zero => exact (i3 (by simpa using hj)).symm
        | succ j => exact i2 j (by simpa using hj)
    · rw [if_pos e] at h; exact absurd h e
theorem pcheck_good {l : List Pd} (h : pcheck l = 0) : 0 < l.length ∧ l.length ≤ 8 ∧ (∀ p ∈ l, GoodP p) ∧ ∀ j, (h : j + 1 < l.length) → (l[j]).t = (l[j + 1]).f := by
  unfold pcheck at h
  by_cases c : 0 < l.length
  · rw [dif_pos c] at h
    by_cases c8 : 8 < l.length
    · rw [if_pos c8] at h; omega
    · rw [if_neg c8] at h
      obtain ⟨i1, i2, i3⟩ := listE_good h
      exact ⟨c, by omega, i1, i2⟩
  · rw [dif_neg c] at h; omega
theorem good_le {l : List Pd} (g : ∀ p ∈ l, GoodP p) (q : ∀ j, (h : j + 1 < l.length) → (l[j]).t = (l[j + 1]).f) : ∀ d i, (h : i + d < l.length) → (l[i]).t ≤ (l[i + d]).t := by
  intro d
  induction d with
  | zero => intro i h; exact Int.le_refl _
  | succ d ih =>
    intro i h
    have h1 := ih i (by omega)
    have h2 := q (i + d) (by omega)
    have h3 := (g _ (List.getElem_mem (show i + d + 1 < l.length by omega))).ft
    have h4 : (l[i + (d + 1)]).t = (l[i + d + 1]).t := rfl
    omega
/-- The place that a search finds. -/
def IsAt (l : List Pd) (x : Int) (I : Nat) : Prop := I ≤ l.length ∧ (∀ j, (h : j < l.length) → j < I → (l[j]).t ≤ x) ∧ ∀ j, (h : j < l.length) → I ≤ j → x < (l[j]).t
def atI (l : List Pd) (x : Int) : Nat := (l.takeWhile (fun p => decide (p.t ≤ x))).length
theorem take_lt {l : List Pd} {x : Int} : ∀ j, (h : j < l.length) → j < atI l x → (l[j]).t ≤ x := by
  induction l with
  | nil => intro j h; simp at h
  | cons p r ih =>
    intro j h hj
    unfold atI at hj
    rw [List.takeWhile_cons] at hj
    by_cases c : p.t ≤ x
    · cases j with
      | zero => exact c
      | succ j =>
        simp [c] at hj
        exact ih j (by simpa using h) hj
    · simp [c] at hj
theorem take_ge {l : List Pd} {x : Int} (h : atI l x < l.length) : x < (l[atI l x]).t := by
  induction l with
  | nil => simp at h
  | cons p r ih =>
    by_cases c : p.t ≤ x
    · have e : atI (p :: r) x = atI r x + 1 := by unfold atI; rw [List.takeWhile_cons]; simp [c]
      simp only [e, List.getElem_cons_succ]
      exact ih (by rw [e] at h; simpa using h)
    · have e : atI (p :: r) x = 0 := by unfold atI; rw [List.takeWhile_cons]; simp [c]
      simp only [e, List.getElem_cons_zero]
      omega
theorem atI_is {l : List Pd} (x : Int) (g : ∀ p ∈ l, GoodP p) (q : ∀ j, (h : j + 1 < l.length) → (l[j]).t = (l[j + 1]).f) : IsAt l x (atI l x) := by
  refine ⟨(List.takeWhile_sublist _).length_le, take_lt, fun j h hj => ?_⟩
  have h1 := take_ge (l := l) (x := x) (by omega)
  have h2 := good_le g q (j - atI l x) (atI l x) (by omega)
  have e : (l[atI l x + (j - atI l x)]'(by omega)).t = (l[j]).t := by congr 2; omega
  omega
end Sp
end Go.Proofs.Ytdimncchejbaaaa
