/-
  The functions of package wide, each by a contract.
-/
import Derived.Test.YtmdaanigkhikfabProg
import Derived.Test.YtmdaanigkhikfabWmath
import Derived.WalkKit
import Derived.Handy
namespace Go.Proofs.Ytmdaanigkhikfab
open Go.RowKit
set_option linter.unusedVariables false

theorem hid {p : Prop} (h : p) : Hid p := h
/-- A call answers a value and turns nothing that was there. -/
def Gives (v : Value) (w : World) (e : Ending) (w' : World) : Prop := e = .returned v ∧ Below w.heap.size w w'
theorem Gives.mk {v v' : Value} {w w' : World} (h : v = v') (b : Below w.heap.size w w') : Gives v w (.returned v') w' := ⟨by rw [h], b⟩
theorem i64_eq {a b : Int} (h : a = b) : Value.int .i64 a = .int .i64 b := by rw [h]
theorem u64_eq {a b : Int} (h : a = b) : Value.int .u64 a = .int .u64 b := by rw [h]
theorem agg_eq {a b : Bool} {c d e f : Int} (h : a = b) (h1 : c = d) (h2 : e = f) : Value.agg #[.bool a, .int .u64 c, .int .u64 e] = .agg #[.bool b, .int .u64 d, .int .u64 f] := by rw [h, h1, h2]
abbrev Wd.val (w : Wd) : Value := .agg #[.bool w.neg, .int .u64 w.hi, .int .u64 w.lo]
theorem ret_i64 {a b : Int} (h : a = b) : Ending.returned (.int .i64 a) = .returned (.int .i64 b) := by rw [h]
theorem ret_u64 {a b : Int} (h : a = b) : Ending.returned (.int .u64 a) = .returned (.int .u64 b) := by rw [h]

theorem or_zero {h l : Int} (h0 : 0 ≤ h) (h1 : h < 18446744073709551616) (l0 : 0 ≤ l) (l1 : l < 18446744073709551616) : (bits .or .u64 h l != 0) = !(decide (h = 0 ∧ l = 0)) := by
  obtain ⟨h, rfl⟩ := Int.eq_ofNat_of_zero_le h0
  obtain ⟨l, rfl⟩ := Int.eq_ofNat_of_zero_le l0
  rw [bits_or_u64_nat h l (by omega) (by omega)]
  rw [Bool.eq_iff_iff]
  simp [Nat.or_eq_zero_iff]; omega
end Go.Proofs.Ytmdaanigkhikfab
