/-
  Plain mathematics of layer 4: texts of measured numbers and of days, as lists of bytes; no Go in sight.
-/
import Derived.Lib.ItoaNum
import Derived.Lib.IndexLaws
import Derived.Lib.Strings
namespace Go.Proofs.YtgfjofdjicepiaaDoor
set_option linter.unusedVariables false
namespace Sp
def unitL (k : Int) : List UInt8 := if k = 1 then [109] else if k = 2 then [99, 109] else if k = 3 then [109, 51] else if k = 4 then [116] else if k = 5 then [107, 114] else []
def decK (k : Int) : Nat := if k = 1 then 1 else if k = 2 then 1 else if k = 3 then 3 else if k = 4 then 3 else if k = 5 then 2 else 0
def nameS (k : Int) : List UInt8 × Int := if 1 ≤ k ∧ k ≤ 5 then (unitL k, 0) else ([], 1)
def decS (k : Int) : Int × Int := if 1 ≤ k ∧ k ≤ 5 then (decK k, 0) else (0, 1)
/-- A number with leading zeros up to a width. -/
def padL (n : Int) (w : Nat) : List UInt8 := List.replicate (w - (Lib.itoa n).length) 48 ++ Lib.itoa n
def fmtL (k n : Int) : List UInt8 :=
  (if n < 0 then [45] else []) ++ (padL n.natAbs (decK k + 1)).take ((padL n.natAbs (decK k + 1)).length - decK k) ++ [46] ++ (padL n.natAbs (decK k + 1)).drop ((padL n.natAbs (decK k + 1)).length - decK k) ++ [32] ++ unitL k
def formatS (k n : Int) : List UInt8 × Int :=
  if ¬ (1 ≤ k ∧ k ≤ 5) then ([], 1) else if n < -1000000000000000 ∨ 1000000000000000 < n then ([], 8) else (fmtL k n, 0)
/-- Where a byte is first; the length if it is nowhere. -/
def at1 (b : UInt8) (l : List UInt8) : Nat := l.findIdx (· == b)
def isD (c : UInt8) : Bool := decide (48 ≤ c.toNat) && decide (c.toNat ≤ 57)
def digB (l : List UInt8) : Bool := l.all isD && !l.isEmpty
def wholeB (l : List UInt8) : Bool := digB l && (l == [48] || !(l.head? == some 48))
/-- The number that digits write, or the limit's error. -/
def valS : Int → List UInt8 → Int × Int
  | n, [] => (n, 0)
  | n, c :: l => if 1000000000000000 < 10 * n + ((c.toNat : Int) - 48) then (0, 8) else valS (10 * n + ((c.toNat : Int) - 48)) l
/-- The digits of a number without its point, with all its decimals. -/
def adS (l : List UInt8) (d : Nat) : Option (List UInt8) :=
  if wholeB (l.take (at1 46 l)) = false ∨ (at1 46 l < l.length ∧ digB (l.drop (at1 46 l + 1)) = false) ∨ d < (l.drop (at1 46 l + 1)).length then none
  else some (l.take (at1 46 l) ++ l.drop (at1 46 l + 1) ++ List.replicate (d - (l.drop (at1 46 l + 1)).length) 48)
def signS (neg : Bool) (p : Int × Int) : Int × Int := if p.2 ≠ 0 then (0, p.2) else if neg then (if p.1 = 0 then (0, 4) else (-p.1, 0)) else (p.1, 0)
def readS (neg : Bool) (r : List UInt8) (d : Nat) (u : List UInt8) : Int × Int :=
  match adS (r.take (at1 32 r)) d with
  | none => (0, 4)
  | some D => if r.drop (at1 32 r + 1) ≠ u then (0, 4) else signS neg (valS 0 D)
def parseU (k : Int) (l : List UInt8) : Int × Int :=
  if ¬ (1 ≤ k ∧ k ≤ 5) then (0, 1) else if 64 < l.length then (0, 8) else readS (Lib.hasPrefix l [45]) (Lib.trimPrefix l [45]) (decK k) (unitL k)
def dayL (day : Int) : List UInt8 := Lib.itoa (day / 365) ++ [45] ++ padL (day % 365 + 1) 3
def dateS (day : Int) : List UInt8 × Int := if day < 0 ∨ 100000 < day then ([], 2) else (dayL day, 0)
def dateR (l : List UInt8) : Int × Int :=
  if wholeB (l.take (at1 45 l)) = false ∨ 4 < (l.take (at1 45 l)).length ∨ digB (l.drop (at1 45 l + 1)) = false ∨ (l.drop (at1 45 l + 1)).length ≠ 3 then (0, 4)
  else if (valS 0 (l.drop (at1 45 l + 1))).1 < 1 ∨ 365 < (valS 0 (l.drop (at1 45 l + 1))).1 ∨ 100000 < (valS 0 (l.take (at1 45 l))).1 * 365 + (valS 0 (l.drop (at1 45 l + 1))).1 - 1 then (0, 2)
  else ((valS 0 (l.take (at1 45 l))).1 * 365 + (valS 0 (l.drop (at1 45 l + 1))).1 - 1, 0)

theorem at1_le (b : UInt8) (l : List UInt8) : at1 b l ≤ l.length := List.findIdx_le_length
theorem indexByte_at1 (c : UInt8) : ∀ l : List UInt8, Lib.indexByte l c = if at1 c l < l.length then (at1 c l : Int) else -1
  | [] => by simp [Lib.indexByte, at1]
  | b :: l => by
    have ih := indexByte_at1 c l
    unfold Lib.indexByte
    by_cases h : b = c
    · subst h
      simp [at1, List.findIdx_cons]
    · have e : (b == c) = false := by simpa using h
      have e2 : at1 c (b :: l) = at1 c l + 1 := by simp [at1, List.findIdx_cons, e]
      rw [e2, e, ih]
      by_cases q : at1 c l < l.length
      · have hc : at1 c l + 1 < (b :: l).length := by simp; omega
        have : ¬ ((at1 c l : Int) == -1) = true := by first | (simp; done) | (simp; omega)
        simp only [Bool.false_eq_true, if_false, q, hc, if_true, this]
        omega
      · have hc : ¬ at1 c l + 1 < (b :: l).length := by simp; omega
        simp only [Bool.false_eq_true, if_false, q, hc]
        rfl
theorem at1_step {b : UInt8} {l : List UInt8} {k : Nat} (h : k < l.length) (hn : ∀ j, j < k → ∀ hj : j < l.length, ¬ l[j] = b) : (l[k] = b → at1 b l = k) ∧ (k ≤ at1 b l) := by
  have hk : k ≤ at1 b l := by
    rcases Nat.lt_or_ge (at1 b l) k with c | c
    · have hl : at1 b l < l.length := by omega
      have := List.findIdx_getElem (w := hl)
      have h2 := hn (at1 b l) c hl
      exact absurd (beq_iff_eq.1 this) h2
    · exact c
  refine ⟨fun e => ?_, hk⟩
  rcases Nat.lt_or_ge k (at1 b l) with c | c
  · have := List.not_of_lt_findIdx (p := (· == b)) (xs := l) (i := k) c
    simp [e] at this
  · omega
theorem at1_none {b : UInt8} {l : List UInt8} (hn : ∀ j, ∀ hj : j < l.length, ¬ l[j] = b) : at1 b l = l.length := by
  have := at1_le b l
  rcases Nat.lt_or_ge (at1 b l) l.length with hl | hl
  · have := List.findIdx_getElem (w := hl)
    exact absurd (beq_iff_eq.1 this) (hn _ hl)
  · omega
theorem valS_cons (n : Int) (c : UInt8) (l : List UInt8) : valS n (c :: l) = if 1000000000000000 < 10 * n + ((c.toNat : Int) - 48) then (0, 8) else valS (10 * n + ((c.toNat : Int) - 48)) l := rfl
theorem val_step {l : List UInt8} {k : Nat} {n : Int} (h : k < l.length) : valS n (l.drop k) = if 1000000000000000 < 10 * n + (((l[k]).toNat : Int) - 48) then (0, 8) else valS (10 * n + (((l[k]).toNat : Int) - 48)) (l.drop (k + 1)) := by
  rw [List.drop_eq_getElem_cons h]
  rfl
theorem isD_iff {c : UInt8} : isD c = true ↔ 48 ≤ (c.toNat : Int) ∧ (c.toNat : Int) ≤ 57 := by
  unfold isD
  rw [Bool.and_eq_true, decide_eq_true_eq, decide_eq_true_eq]
  omega
theorem valS_bound : ∀ (l : List UInt8) (n : Int), l.all isD = true → 0 ≤ n → n ≤ 1000000000000000 → 0 ≤ (valS n l).1 ∧ (valS n l).1 ≤ 1000000000000000
  | [], n, _, h0, h1 => ⟨h0, h1⟩
  | c :: l, n, hd, h0, h1 => by
    rw [List.all_cons, Bool.and_eq_true] at hd
    have hc := isD_iff.1 hd.1
    rw [valS_cons]
    by_cases h : 1000000000000000 < 10 * n + ((c.toNat : Int) - 48)
    · rw [if_pos h]; simp
    · rw [if_neg h]
      exact valS_bound l _ hd.2 (by omega) (by omega)
end Sp
end Go.Proofs.YtgfjofdjicepiaaDoor
