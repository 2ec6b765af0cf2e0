/-
  The functions of package interval, each by a contract: all but Scale, Sum and FromFrac.
-/
import Derived.Test.YtmdaanigkhikfabImath
import Derived.Test.YtmdaanigkhikfabWcode
import Derived.Deep.QuietTactic
import Derived.BigQuiet
namespace Go.Proofs.Ytmdaanigkhikfab
open Go.RowKit
set_option linter.unusedVariables false

theorem tupS {a b c d e f : Int} (h1 : a = b) (h2 : c = d) (h3 : e = f) : Value.tuple #[.agg #[.int .i64 a, .int .i64 c], .int .i64 e] = .tuple #[.agg #[.int .i64 b, .int .i64 d], .int .i64 f] := by rw [h1, h2, h3]
theorem ret_bool {a b : Bool} (h : a = b) : Ending.returned (.bool a) = .returned (.bool b) := by rw [h]
theorem below_dn {B : Nat} {a w : World} (h : Below B a w) (n : Nat) : Below B a (w.drewN n) := h.trans ⟨rfl, rfl, rfl, Nat.le_refl _, fun _ _ => rfl⟩
end Go.Proofs.Ytmdaanigkhikfab
