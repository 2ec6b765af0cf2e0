/-
  The functions of package wide, each by a contract: sums and comparisons.
-/
import Derived.Test.YtfdnmlggemonhaaWcode
import Derived.Shelf.Spec.BitsCarry
namespace Go.Proofs.Ytfdnmlggemonhaa
open Go.RowKit
set_option linter.unusedVariables false

/-- How two magnitudes compare. -/
theorem compareMagnitudes_any (a b : Bool) (h l h' l' : Int) (l0 : 0 ≤ l) (l1 : l < 18446744073709551616) (l0' : 0 ≤ l') (l1' : l' < 18446744073709551616) (w : World) :
    Calls Try.prog 88 #[.agg #[.bool a, .int .u64 h, .int .u64 l], .agg #[.bool b, .int .u64 h', .int .u64 l']] w fun e w' => e = .returned (.int .i64 (Wd.cmpI (h * 18446744073709551616 + l) (h' * 18446744073709551616 + l'))) ∧ w' = (w.alloc (Obj.cells #[.bool a, .int .u64 h, .int .u64 l] 81)).alloc (Obj.cells #[.bool b, .int .u64 h', .int .u64 l'] 81) := by
  go_enter Try.func88, Try.ntmps88
  go_wp2
  all_goals
    go_ret
    refine ⟨ret_i64 ?_, by simp [*]⟩
    (try simp only [beq_iff_eq, beq_eq_false_iff_ne, ne_eq] at *)
    unfold Wd.cmpI
    (repeat' split) <;> omega
end Go.Proofs.Ytfdnmlggemonhaa
