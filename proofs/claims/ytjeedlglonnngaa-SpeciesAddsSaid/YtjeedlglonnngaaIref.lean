/-
  The functions of package couperef03, each by a contract: all but Scale, Sum and FromFrac.
-/
import Derived.Test.YtjeedlglonnngaaIcode
namespace Go.Proofs.Ytjeedlglonnngaa
open Go.RowKit
set_option linter.unusedVariables false

theorem rcheck_any (a b : Int) (w : World) :
    Calls Try.prog 32 #[.agg #[.int .i64 a, .int .i64 b]] w fun e w' => e = .returned (.int .i64 (Sp.chk a b)) ∧ w' = w.alloc (Obj.cells #[.int .i64 a, .int .i64 b] 30) := by
  go_enter Try.func32, Try.ntmps32
  go_wp2
  all_goals
    go_ret
    refine ⟨ret_i64 ?_, rfl⟩
    unfold Sp.chk
    (repeat' split) <;> omega
end Go.Proofs.Ytjeedlglonnngaa
