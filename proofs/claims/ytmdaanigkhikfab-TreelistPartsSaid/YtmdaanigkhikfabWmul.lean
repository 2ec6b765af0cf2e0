/-
  The exported functions of package wide, each by a contract: products.
-/
import Derived.Test.YtmdaanigkhikfabWtop
import Derived.Deep.RegionWith
namespace Go.Proofs.Ytmdaanigkhikfab
open Go.RowKit
set_option linter.unusedVariables false

theorem nat_mul_sign (a b : Int) : Wd.sv ((decide (a < 0)) != (decide (b < 0))) ((a.natAbs : Int) * (b.natAbs : Int)) = a * b := by
  unfold Wd.sv
  by_cases ha : a < 0 <;> by_cases hb : b < 0
  · have e1 : (a.natAbs : Int) = -a := by omega
    have e2 : (b.natAbs : Int) = -b := by omega
    rw [e1, e2, Int.neg_mul_neg]; simp [ha, hb]
  · have e1 : (a.natAbs : Int) = -a := by omega
    have e2 : (b.natAbs : Int) = b := by omega
    rw [e1, e2, Int.neg_mul]; simp [ha, hb]
  · have e1 : (a.natAbs : Int) = a := by omega
    have e2 : (b.natAbs : Int) = -b := by omega
    rw [e1, e2, Int.mul_neg]; simp [ha, hb]
  · have e1 : (a.natAbs : Int) = a := by omega
    have e2 : (b.natAbs : Int) = b := by omega
    rw [e1, e2]; simp [ha, hb]
theorem sv_mul (n : Bool) (m a : Int) : Wd.sv (n != (decide (a < 0))) (m * (a.natAbs : Int)) = Wd.sv n m * a := by
  unfold Wd.sv
  by_cases ha : a < 0
  · have e1 : (a.natAbs : Int) = -a := by omega
    cases n
    · simp [ha, e1, Int.mul_neg]
    · simp [ha, e1, Int.neg_mul, Int.mul_neg]
  · have e1 : (a.natAbs : Int) = a := by omega
    cases n
    · simp [ha, e1]
    · simp [ha, e1, Int.neg_mul]
theorem nat_mul_le {a b : Int} {c : Int} (ha : a.natAbs ≤ 9223372036854775808) (hb : (b.natAbs : Int) ≤ c) (c0 : 0 ≤ c) : (a.natAbs : Int) * (b.natAbs : Int) ≤ 9223372036854775808 * c :=
  Int.mul_le_mul (by omega) hb (by omega) (by omega)
end Go.Proofs.Ytmdaanigkhikfab
