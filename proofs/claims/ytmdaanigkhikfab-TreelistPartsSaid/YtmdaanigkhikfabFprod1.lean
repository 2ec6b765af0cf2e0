/-
  The functions of package fraction, each by a contract: product of every two valid fractions.
-/
import Derived.Test.YtmdaanigkhikfabFprod
namespace Go.Proofs.Ytmdaanigkhikfab
open Go.RowKit
set_option linter.unusedVariables false

theorem fmag_pos (b : Int) (b0 : 0 ≤ b) (b1 : b ≤ 9223372036854775807) (w : World) : Calls Try.prog 59 #[.int .i64 b] w fun e w' => e = .returned (.int .u64 b) ∧ w' = w := by
  have h := fmag_any b (by omega) b1 w
  have e : (b.natAbs : Int) = b := by omega
  rw [e] at h
  exact h
theorem wrap_in {x : Int} (h : x.natAbs ≤ 1000000000000000) : IntKind.i64.wrap x = x := IntWalk.i64_in _ (by omega)
/-- An exact quotient by a common divisor. -/
theorem quo_facts {n g : Int} (g0 : 0 < g) (h : g ∣ n) (hn : n.natAbs ≤ 1000000000000000) : n.tdiv g = n / g ∧ IntKind.i64.wrap (n / g) = n / g ∧ (n / g).natAbs ≤ 1000000000000000 := by
  have e := Sp.div_exact_of g0 h
  have b := Sp.div_abs_le g0 h
  exact ⟨e.1, wrap_in (by omega), by omega⟩
theorem mul_fits {x y : Int} (hx : x.natAbs ≤ 1000000000000000) (hy : y.natAbs ≤ 1000000000000000) : (x * y).natAbs ≤ 1000000000000000000000000000000 := by
  rw [Int.natAbs_mul]
  have := Nat.mul_le_mul hx hy
  omega
end Go.Proofs.Ytmdaanigkhikfab
