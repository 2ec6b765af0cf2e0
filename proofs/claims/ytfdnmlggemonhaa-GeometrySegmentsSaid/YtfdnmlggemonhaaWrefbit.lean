/-
  The division of couperef01, bit by bit, by contract.
-/
import Derived.Test.YtfdnmlggemonhaaWref
namespace Go.Proofs.Ytfdnmlggemonhaa
open Go.RowKit
set_option linter.unusedVariables false
set_option linter.unusedSimpArgs false

theorem or_bit {x b : Int} (x0 : 0 ≤ x) (x1 : x < 18446744073709551616) (he : x % 2 = 0) (hb : b = 0 ∨ b = 1) : bits .or .u64 x b = x + b := by
  obtain ⟨x, rfl⟩ := Int.eq_ofNat_of_zero_le x0
  obtain ⟨b, rfl⟩ := Int.eq_ofNat_of_zero_le (show 0 ≤ b by omega)
  rw [bits_or_u64_nat _ _ (by omega) (by omega)]
  have h := Nat.two_pow_add_eq_or_of_lt (show b < 2 ^ 1 by omega) (x / 2)
  have e2 : 2 ^ 1 * (x / 2) = x := by omega
  rw [e2] at h
  rw [← h]
  omega
theorem div_pow_cast (x k : Nat) : ((x : Int) / 2 ^ k) = ((x / 2 ^ k : Nat) : Int) := by
  rw [Int.natCast_ediv, Int.natCast_pow]; rfl
/-- What is done of the division: the bits from k on. -/
structure Bits (M D k : Nat) (hi lo r : Int) : Prop where
  q : hi * 18446744073709551616 + lo = ((M / 2 ^ k / D : Nat) : Int)
  r : r = ((M / 2 ^ k % D : Nat) : Int)
  l0 : 0 ≤ lo
  l1 : lo < 18446744073709551616
  h0 : 0 ≤ hi
theorem Bits.step {M D k : Nat} {hi lo r b : Int} (hD : 0 < D) (hM : M < 170141183460469231731687303715884105728) (h : Bits M D (k + 1) hi lo r) (hb : ((M / 2 ^ k % 2 : Nat) : Int) = b) :
    (b = 0 ∨ b = 1) ∧ hi < 4611686018427387904 ∧ 0 ≤ r ∧ r < D ∧
    ((D : Int) ≤ 2 * r + b → Bits M D k (2 * hi + lo / 9223372036854775808) (2 * lo % 18446744073709551616 + 1) (2 * r + b - D)) ∧
    (2 * r + b < D → Bits M D k (2 * hi + lo / 9223372036854775808) (2 * lo % 18446744073709551616) (2 * r + b)) := by
  obtain ⟨hq, hr, l0, l1, h0⟩ := h
  obtain ⟨e1, e2, e3⟩ := Wd.bit_step (m := M) (i := k) hD
  have hlt := Nat.mod_lt (M / 2 ^ (k + 1)) hD
  have hQ : M / 2 ^ (k + 1) / D ≤ M / 2 := by
    refine Nat.le_trans (Nat.div_le_self _ _) ?_
    rw [Nat.pow_succ, Nat.mul_comm, ← Nat.div_div_eq_div_mul]
    exact Nat.div_le_self _ _
  generalize M / 2 ^ (k + 1) / D = Q at *
  generalize M / 2 ^ (k + 1) % D = R at *
  generalize hB : M / 2 ^ k % 2 = B at *
  have hB2 : B < 2 := by omega
  refine ⟨by omega, by omega, by omega, by omega, fun hc => ?_, fun hc => ?_⟩
  · obtain ⟨f1, f2⟩ := e2 (by omega)
    exact ⟨by rw [f1]; omega, by rw [f2]; omega, by omega, by omega, by omega⟩
  · obtain ⟨f1, f2⟩ := e3 (by omega)
    exact ⟨by rw [f1]; omega, by rw [f2]; omega, by omega, by omega, by omega⟩
end Go.Proofs.Ytfdnmlggemonhaa
