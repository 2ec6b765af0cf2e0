/-
  Plain mathematics: the arithmetic of fractions. No Go in sight.
-/
import Derived.Test.YtmdaanigkhikfabFmath
namespace Go.Proofs.Ytmdaanigkhikfab
set_option linter.unusedVariables false
namespace Sp
/-- A quotient in lowest terms, up to the limit. -/
def newS (n d : Int) : Int × Int × Int :=
  if d = 0 then (0, 0, 18)
  else if 1000000000000000 < (n.natAbs : Int) / (Int.gcd n d : Int) ∨ 1000000000000000 < (d.natAbs : Int) / (Int.gcd n d : Int) then (0, 0, 8)
  else (if decide (n < 0) = decide (d < 0) then (n.natAbs : Int) / (Int.gcd n d : Int) else -((n.natAbs : Int) / (Int.gcd n d : Int)), (d.natAbs : Int) / (Int.gcd n d : Int), 0)
def limF (n d : Int) : Int × Int × Int := if n < -1000000000000000 ∨ 1000000000000000 < n ∨ 1000000000000000 < d then (0, 0, 8) else (n, d, 0)
def sumN (a b c d : Int) : Int := a * (d / (Int.gcd b d : Int)) + c * (b / (Int.gcd b d : Int))
def sumR (a b c d : Int) : Int := (Int.gcd (sumN a b c d) (Int.gcd b d : Int) : Int)
def sumF (a b c d : Int) : Int × Int × Int := limF (sumN a b c d / sumR a b c d) (b / (Int.gcd b d : Int) * (d / sumR a b c d))
def prodF (a b c d : Int) : Int × Int × Int := limF (a / (Int.gcd a d : Int) * (c / (Int.gcd c b : Int))) (b / (Int.gcd c b : Int) * (d / (Int.gcd a d : Int)))
def bothF (a b c d : Int) : Int := if fchk a b ≠ 0 then fchk a b else fchk c d
def addF (a b c d : Int) : Int × Int × Int := if bothF a b c d ≠ 0 then (0, 0, bothF a b c d) else sumF a b c d
def subF (a b c d : Int) : Int × Int × Int := if bothF a b c d ≠ 0 then (0, 0, bothF a b c d) else sumF a b (-c) d
def mulF (a b c d : Int) : Int × Int × Int := if bothF a b c d ≠ 0 then (0, 0, bothF a b c d) else prodF a b c d
def divF (a b c d : Int) : Int × Int × Int := if bothF a b c d ≠ 0 then (0, 0, bothF a b c d) else if c = 0 then (0, 0, 18) else if c < 0 then prodF a b (-d) (-c) else prodF a b d c
def negF (a b : Int) : Int × Int × Int := if fchk a b ≠ 0 then (0, 0, fchk a b) else (-a, b, 0)
def cmpF (a b c d : Int) : Int := if bothF a b c d ≠ 0 then 0 else Wd.cmpI (a * d) (c * b)
def floorF (n d : Int) : Int := if fchk n d ≠ 0 then 0 else n / d
def ceilF (n d : Int) : Int := if fchk n d ≠ 0 then 0 else -((-n) / d)
def roundF (n d : Int) : Int := if fchk n d ≠ 0 then 0 else if n < 0 then -((2 * (-n) + d) / (2 * d)) else (2 * n + d) / (2 * d)
theorem bothF_zero {a b c d : Int} : bothF a b c d = 0 ↔ fchk a b = 0 ∧ fchk c d = 0 := by
  unfold bothF
  constructor
  · intro h
    by_cases c : fchk a b = 0
    · rw [if_neg (by omega)] at h; exact ⟨c, h⟩
    · rw [if_pos c] at h; exact absurd h c
  · rintro ⟨h1, h2⟩
    rw [if_neg (by omega)]; exact h2
/-- An exact quotient by a divisor of a number that is not negative, bounded. -/
theorem div_exact_of {n g : Int} (g0 : 0 < g) (h : g ∣ n) : n.tdiv g = n / g ∧ n / g * g = n := by
  obtain ⟨k, rfl⟩ := h
  rw [Int.mul_tdiv_cancel_left k (by omega), Int.mul_ediv_cancel_left k (by omega)]
  exact ⟨rfl, Int.mul_comm _ _⟩
theorem div_le_self {n g : Int} (g0 : 0 < g) (n0 : 0 ≤ n) : 0 ≤ n / g ∧ n / g ≤ n := ⟨Int.ediv_nonneg n0 (by omega), Int.ediv_le_self _ n0⟩
theorem div_abs_le {n g : Int} (g0 : 0 < g) (h : g ∣ n) : (n / g).natAbs ≤ n.natAbs := by
  obtain ⟨k, rfl⟩ := h
  rw [Int.mul_ediv_cancel_left k (by omega), Int.natAbs_mul]
  exact Nat.le_mul_of_pos_left _ (by omega)
end Sp
end Go.Proofs.Ytmdaanigkhikfab
