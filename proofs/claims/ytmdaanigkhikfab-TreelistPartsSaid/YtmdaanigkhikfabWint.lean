/-
  The exported functions of package wide, each by a contract: ints, greatest common divisors, comparisons.
-/
import Derived.Test.YtmdaanigkhikfabWquo
namespace Go.Proofs.Ytmdaanigkhikfab
open Go.RowKit
set_option linter.unusedVariables false

theorem tup2 {a b c d : Int} (h1 : a = c) (h2 : b = d) : Value.tuple #[.int .i64 a, .int .i64 b] = .tuple #[.int .i64 c, .int .i64 d] := by rw [h1, h2]
/-- The loop of the greatest common divisor. -/
def Gc (G : Nat) (w : World) (v v' : Value) (wr : World) : Prop :=
  ∃ x y : Int, v = .int .u64 x ∧ v' = .int .u64 y ∧ 0 ≤ x ∧ x ≤ 9223372036854775808 ∧ 0 ≤ y ∧ y ≤ 9223372036854775808 ∧ Int.gcd x y = G ∧ Below w.heap.size w wr
theorem gcd_step {x y : Int} (x0 : 0 ≤ x) (y0 : 0 ≤ y) : Int.gcd y (x % y) = Int.gcd x y := by
  obtain ⟨x, rfl⟩ := Int.eq_ofNat_of_zero_le x0
  obtain ⟨y, rfl⟩ := Int.eq_ofNat_of_zero_le y0
  rw [← Int.natCast_emod]
  simp only [Int.gcd_natCast_natCast]
  rw [Nat.gcd_comm y, ← Nat.gcd_rec, Nat.gcd_comm]
theorem gcd_abs (m a : Int) : Int.gcd m a = Int.gcd m (a.natAbs : Int) := by
  simp [Int.gcd]
end Go.Proofs.Ytmdaanigkhikfab
