/-
  Plain mathematics for the layer 'interval': what each call is to answer. No Go in sight.
-/
import Derived.WalkKit
namespace Go.Proofs.Ytmdaanigkhikfab
set_option linter.unusedVariables false
namespace Sp
/-- The error of an interval. -/
def chk (a b : Int) : Int := if b < a then 1 else if a < -1000000000000000 ∨ 1000000000000000 < b then 8 else 0
/-- The first error of two intervals. -/
def both (a b c d : Int) : Int := if chk a b ≠ 0 then chk a b else chk c d
/-- Up to the limit the interval, beyond it the error. -/
def lim (a b : Int) : Int × Int × Int := if a < -1000000000000000 ∨ 1000000000000000 < b then (0, 0, 8) else (a, b, 0)
def addS (a b c d : Int) : Int × Int × Int := if both a b c d ≠ 0 then (0, 0, both a b c d) else lim (a + c) (b + d)
def subS (a b c d : Int) : Int × Int × Int := if both a b c d ≠ 0 then (0, 0, both a b c d) else lim (a - d) (b - c)
def negS (a b : Int) : Int × Int × Int := if chk a b ≠ 0 then (0, 0, chk a b) else (-b, -a, 0)
def joinS (a b c d : Int) : Int × Int × Int := if both a b c d ≠ 0 then (0, 0, both a b c d) else (min a c, max b d, 0)
def meetS (a b c d : Int) : Int × Int × Int := if both a b c d ≠ 0 then (0, 0, both a b c d) else if min b d < max a c then (0, 0, 6) else (max a c, min b d, 0)
def widthS (a b : Int) : Int × Int := if chk a b ≠ 0 then (0, chk a b) else (b - a, 0)
def inB (a b x : Int) : Bool := decide (chk a b = 0 ∧ a ≤ x ∧ x ≤ b)
def withinB (a b c d : Int) : Bool := decide (both a b c d = 0 ∧ c ≤ a ∧ b ≤ d)
theorem chk_zero {a b : Int} : chk a b = 0 ↔ (a ≤ b ∧ -1000000000000000 ≤ a ∧ b ≤ 1000000000000000) := by
  unfold chk
  split
  · simp; omega
  · split
    · simp; omega
    · simp; omega
theorem chk_cases (a b : Int) : (chk a b = 0 ∧ a ≤ b ∧ -1000000000000000 ≤ a ∧ b ≤ 1000000000000000) ∨ (chk a b = 1 ∧ b < a) ∨ (chk a b = 8 ∧ a ≤ b ∧ (a < -1000000000000000 ∨ 1000000000000000 < b)) := by
  unfold chk
  split
  · exact Or.inr (Or.inl ⟨rfl, by omega⟩)
  · split
    · exact Or.inr (Or.inr ⟨rfl, by omega, by omega⟩)
    · exact Or.inl ⟨rfl, by omega, by omega, by omega⟩
theorem both_zero {a b c d : Int} : both a b c d = 0 ↔ (chk a b = 0 ∧ chk c d = 0) := by
  unfold both
  by_cases h : chk a b = 0
  · rw [if_neg (by simpa using h)]; simp [h]
  · rw [if_pos h]; simp [h]
theorem both_ok {a b c d : Int} (h : both a b c d = 0) : (a ≤ b ∧ -1000000000000000 ≤ a ∧ b ≤ 1000000000000000) ∧ (c ≤ d ∧ -1000000000000000 ≤ c ∧ d ≤ 1000000000000000) :=
  ⟨chk_zero.1 (both_zero.1 h).1, chk_zero.1 (both_zero.1 h).2⟩
end Sp
end Go.Proofs.Ytmdaanigkhikfab
