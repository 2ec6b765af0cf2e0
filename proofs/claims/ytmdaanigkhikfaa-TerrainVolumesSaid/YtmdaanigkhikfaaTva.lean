/-
  Layer 15: Volume at the example.
-/
import Derived.Test.YtmdaanigkhikfaaTu
import Derived.Test.YtmdaanigkhikfaaTv
namespace Go.Proofs.Ytmdaanigkhikfaa
open Go.RowKit
set_option linter.unusedVariables false
set_option linter.unusedSimpArgs false
theorem ex_volume (A : Option Addr) (w : World) (h : Ints w A [0, 10, 20, 50]) : Calls Try.prog 29 #[.agg #[.int .i64 2, .int .i64 2, .int .i64 10, .slice A 4 4], .int .i64 20] w (Gives (.tuple #[.agg #[.int .i64 0, .int .i64 750], .agg #[.int .i64 0, .int .i64 750], .int .i64 0]) w) := by
  have H := tVolume_any A 4 2 2 10 [0, 10, 20, 50] 20 w (by decide) h
  have e : Sp.volS 2 2 10 [0, 10, 20, 50] 20 = ((0, 750), (0, 750), 0) := by kernel_rfl
  rw [e] at H
  exact H
end Go.Proofs.Ytmdaanigkhikfaa
