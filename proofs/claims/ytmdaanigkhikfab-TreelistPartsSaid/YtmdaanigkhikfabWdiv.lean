/-
  math/bits.Div64 by a contract: quotient and remainder of a number of 128 bits.
-/
import Derived.Test.YtmdaanigkhikfabWcode
import Derived.Test.YtmdaanigkhikfabShelf
import Derived.Laws.Bits64b
import Derived.Deep.QuietTactic
import Derived.BigQuiet
import Derived.Deep.DeepCutAuto
import Derived.Deep.CutBlock
import Derived.Outline
namespace Go.Proofs.Ytmdaanigkhikfab
open Go.RowKit
set_option linter.unusedVariables false

theorem below_drewN {w : World} (n : Nat) : Below w.heap.size w (w.drewN n) := by
  induction n with
  | zero => exact Below.refl _ _
  | succ n ih => exact ⟨ih.os, ih.tape, ih.output, ih.size, ih.block⟩
/-- What the first loop leaves; what the second one does. -/
def Slot (q : Int) (v : Value) : Prop := v = .int .u64 q
def Round (U u Y y1 : Int) (v v' : Value) : Prop := ∃ q r : Int, v = .int .u64 q ∧ v' = .int .u64 r ∧ r < 4294967296 ∧ Ld.Guess U u Y y1 q r

theorem mask32 {a : Int} (h0 : 0 ≤ a) (h1 : a < 18446744073709551616) : bits .and .u64 a 4294967295 = a % 4294967296 := by
  obtain ⟨n, rfl⟩ := Int.eq_ofNat_of_zero_le h0
  have h := bits_and_u64_nat n 4294967295 (by omega) (by omega)
  have e : n &&& 4294967295 = n % 4294967296 := Nat.and_two_pow_sub_one_eq_mod n 32
  rw [e] at h
  exact h.trans (by omega)
theorem pow_cast (s : Nat) : ((2 ^ s : Nat) : Int) = (2 : Int) ^ s := by simp
theorem norm_shift {y : Nat} (h0 : 0 < y) (h1 : y < 18446744073709551616) :
    Lib.bitLen y ≤ 64 ∧ 64 - Lib.bitLen y ≤ 63 ∧ 9223372036854775808 ≤ y * 2 ^ (64 - Lib.bitLen y) ∧ y * 2 ^ (64 - Lib.bitLen y) < 18446744073709551616 := by
  have hb : 1 ≤ Lib.bitLen y ∧ 2 ^ (Lib.bitLen y - 1) ≤ y ∧ y < 2 ^ Lib.bitLen y := Lib.bitLenAux_bounds 64 y (Nat.lt_of_lt_of_eq h1 (by decide)) (by omega)
  obtain ⟨p1, b3, b1⟩ := hb
  have p2 : Lib.bitLen y ≤ 64 := by
    apply Nat.le_of_not_lt; intro hc
    have : 2 ^ 64 ≤ 2 ^ (Lib.bitLen y - 1) := Nat.pow_le_pow_right (by omega) (by omega)
    have e : (2 : Nat) ^ 64 = 18446744073709551616 := by decide
    omega
  generalize Lib.bitLen y = k at *
  refine ⟨p2, by omega, ?_, ?_⟩
  · have h := Nat.mul_le_mul_right (2 ^ (64 - k)) b3
    rw [← Nat.pow_add] at h
    have e : k - 1 + (64 - k) = 63 := by omega
    rw [e] at h
    have e2 : (2 : Nat) ^ 63 = 9223372036854775808 := by decide
    omega
  · have h := Nat.mul_lt_mul_of_pos_right b1 (Nat.two_pow_pos (64 - k))
    rw [← Nat.pow_add] at h
    have e : k + (64 - k) = 64 := by omega
    rw [e] at h
    have e2 : (2 : Nat) ^ 64 = 18446744073709551616 := by decide
    omega
end Go.Proofs.Ytmdaanigkhikfab
