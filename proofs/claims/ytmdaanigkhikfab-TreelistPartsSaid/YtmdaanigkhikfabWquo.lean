/-
  The exported functions of package wide, each by a contract: quotients, ints.
-/
import Derived.Test.YtmdaanigkhikfabWmul
namespace Go.Proofs.Ytmdaanigkhikfab
open Go.RowKit
set_option linter.unusedVariables false

/-- From bounds on a number of 128 bits to bounds on its quotient's halves. -/
theorem halves_of {m d a b r : Int} (m0 : 0 ≤ m) (m1 : m < 170141183460469231731687303715884105728) (d0 : 0 < d) (ha : m / d / 18446744073709551616 = a) (hb : m / d % 18446744073709551616 = b) (hr : m % d = r) :
    0 ≤ a ∧ a < 9223372036854775808 ∧ 0 ≤ b ∧ b < 18446744073709551616 ∧ 0 ≤ r ∧ r < d ∧ m = d * (a * 18446744073709551616 + b) + r ∧ (a * 18446744073709551616 + b) ≤ m ∧ a * 18446744073709551616 + b = m / d := by
  have q0 : 0 ≤ m / d := Int.ediv_nonneg m0 (by omega)
  have q1 : m / d ≤ m := Int.ediv_le_self _ m0
  have hm := Int.emod_add_mul_ediv m d
  have r0 := Int.emod_nonneg m (show d ≠ 0 by omega)
  have r1 := Int.emod_lt_of_pos m d0
  have e : a * 18446744073709551616 + b = m / d := by omega
  rw [e]
  refine ⟨by omega, by omega, by omega, by omega, by omega, by omega, by omega, by omega, rfl⟩
end Go.Proofs.Ytmdaanigkhikfab
