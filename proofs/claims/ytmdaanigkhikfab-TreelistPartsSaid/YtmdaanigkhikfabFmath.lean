/-
  Plain mathematics: fractions in lowest terms, and intervals scaled by them. No Go in sight.
-/
import Derived.Test.YtmdaanigkhikfabImath
import Derived.Test.YtmdaanigkhikfabWmath
namespace Go.Proofs.Ytmdaanigkhikfab
set_option linter.unusedVariables false
namespace Sp
/-- The error of a fraction. -/
def fchk (n d : Int) : Int := if d ≤ 0 then 3 else if n < -1000000000000000 ∨ 1000000000000000 < n ∨ 1000000000000000 < d then 8 else if 1 < Int.gcd n d then 3 else 0
theorem fchk_zero {n d : Int} : fchk n d = 0 ↔ (0 < d ∧ -1000000000000000 ≤ n ∧ n ≤ 1000000000000000 ∧ d ≤ 1000000000000000 ∧ Int.gcd n d ≤ 1) := by
  unfold fchk
  split
  · simp; omega
  · split
    · simp; omega
    · split
      · simp; omega
      · simp; omega
/-- The floor of a product, up to the limit. -/
def flp (x n d : Int) : Int × Int := if -1000000000000000 ≤ x * n / d ∧ x * n / d ≤ 1000000000000000 then (x * n / d, 0) else (0, 8)
def scaleS (a b n d : Int) : Int × Int × Int :=
  if chk a b ≠ 0 then (0, 0, chk a b) else if fchk n d ≠ 0 then (0, 0, fchk n d) else if n < 0 then (0, 0, 1)
  else if (flp a n d).2 ≠ 0 then (0, 0, 8) else if (flp (-b) n d).2 ≠ 0 then (0, 0, 8) else ((flp a n d).1, -(flp (-b) n d).1, 0)
/-- Floor and ceiling. -/
def ffS (n d : Int) : Int × Int × Int := if fchk n d ≠ 0 then (0, 0, fchk n d) else (n / d, -((-n) / d), 0)
/-- Quotient rounded down, out of the one towards 0. -/
theorem tdiv_floor {n d : Int} (hd : 0 < d) : n / d = if n.tmod d < 0 then n.tdiv d - 1 else n.tdiv d := by
  by_cases hn : 0 ≤ n
  · have h1 := Int.tmod_nonneg d hn
    rw [if_neg (by omega), Int.tdiv_eq_ediv_of_nonneg hn]
  · obtain ⟨m, rfl⟩ : ∃ m, n = -m := ⟨-n, by omega⟩
    have hm : 0 ≤ m := by omega
    rw [Int.neg_tmod, Int.neg_tdiv, Int.tmod_eq_emod_of_nonneg hm, Int.tdiv_eq_ediv_of_nonneg hm]
    have h1 := Int.emod_nonneg m (show d ≠ 0 by omega)
    have h2 := Int.emod_lt_of_pos m hd
    have h3 := Int.emod_add_mul_ediv m d
    have h4 := Int.emod_nonneg (-m) (show d ≠ 0 by omega)
    have h5 := Int.emod_lt_of_pos (-m) hd
    have h6 := Int.emod_add_mul_ediv (-m) d
    generalize m / d = q at *
    generalize m % d = r at *
    generalize (-m) / d = q' at *
    generalize (-m) % d = r' at *
    have key : r + r' + d * (q + q') = 0 := by rw [Int.mul_add]; omega
    split
    · have : q + q' = -1 := by
        by_cases hq : q + q' ≥ 0
        · have := Int.mul_nonneg (show 0 ≤ d by omega) hq; omega
        · by_cases hq2 : q + q' ≤ -2
          · have : d * (q + q') ≤ d * (-2) := Int.mul_le_mul_of_nonneg_left hq2 (by omega)
            omega
          · omega
      omega
    · have hr : r = 0 := by omega
      subst hr
      have : q + q' = 0 := by
        by_cases hq : q + q' ≥ 1
        · have : d * 1 ≤ d * (q + q') := Int.mul_le_mul_of_nonneg_left hq (by omega)
          omega
        · by_cases hq2 : q + q' ≤ -1
          · have : d * (q + q') ≤ d * (-1) := Int.mul_le_mul_of_nonneg_left hq2 (by omega)
            omega
          · omega
      omega
end Sp
end Go.Proofs.Ytmdaanigkhikfab
