/-
  The exported functions of package wide, each by a contract: products.
-/
import Derived.Test.YtdimncchejbaaaaWtop
import Derived.Deep.RegionWith
namespace Go.Proofs.Ytdimncchejbaaaa
open Go.RowKit
set_option linter.unusedVariables false

theorem mul64_any (x y : Int) (x0 : 0 ≤ x) (x1 : x < 18446744073709551616) (y0 : 0 ≤ y) (y1 : y < 18446744073709551616) (w : World) :
    Calls Try.prog 100 #[.int .u64 x, .int .u64 y] w fun e w' => e = .returned (.tuple #[.int .u64 (x * y / 18446744073709551616), .int .u64 (x * y % 18446744073709551616)]) ∧ w' = w := by
  obtain ⟨x, rfl⟩ := Int.eq_ofNat_of_zero_le x0
  obtain ⟨y, rfl⟩ := Int.eq_ofNat_of_zero_le y0
  refine (Try.bits_Mul64 x y (by omega) (by omega) w).mono fun e w' h => ?_
  simp only [Int.natCast_ediv, Int.natCast_emod, Int.natCast_mul, Int.cast_ofNat_Int] at h
  exact h
theorem nat_mul_sign (a b : Int) : Wd.sv ((decide (a < 0)) != (decide (b < 0))) ((a.natAbs : Int) * (b.natAbs : Int)) = a * b := by
  unfold Wd.sv
  by_cases ha : a < 0 <;> by_cases hb : b < 0
  · have e1 : (a.natAbs : Int) = -a := by omega
    have e2 : (b.natAbs : Int) = -b := by omega
    rw [e1, e2, Int.neg_mul_neg]; simp [ha, hb]
  · have e1 : (a.natAbs : Int) = -a := by omega
    have e2 : (b.natAbs : Int) = b := by omega
    rw [e1, e2, Int.neg_mul]; simp [ha, hb]
  · have e1 : (a.natAbs : Int) = a := by omega
    have e2 : (b.natAbs : Int) = -b := by omega
    rw [e1, e2, Int.mul_neg]; simp [ha, hb]
  · have e1 : (a.natAbs : Int) = a := by omega
    have e2 : (b.natAbs : Int) = b := by omega
    rw [e1, e2]; simp [ha, hb]
theorem sv_mul (n : Bool) (m a : Int) : Wd.sv (n != (decide (a < 0))) (m * (a.natAbs : Int)) = Wd.sv n m * a := by
  unfold Wd.sv
  by_cases ha : a < 0
  · have e1 : (a.natAbs : Int) = -a := by omega
    cases n
    · simp [ha, e1, Int.mul_neg]
    · simp [ha, e1, Int.neg_mul, Int.mul_neg]
  · have e1 : (a.natAbs : Int) = a := by omega
    cases n
    · simp [ha, e1]
    · simp [ha, e1, Int.neg_mul]
theorem nat_mul_le {a b : Int} {c : Int} (ha : a.natAbs ≤ 9223372036854775808) (hb : (b.natAbs : Int) ≤ c) (c0 : 0 ≤ c) : (a.natAbs : Int) * (b.natAbs : Int) ≤ 9223372036854775808 * c :=
  Int.mul_le_mul (by omega) hb (by omega) (by omega)
theorem mul_any (a b : Int) (a0 : -9223372036854775808 ≤ a) (a1 : a ≤ 9223372036854775807) (b0 : -9223372036854775808 ≤ b) (b1 : b ≤ 9223372036854775807) (n : Bool) (h l : Int)
    (hv : Wd.ofInt (a * b) = ⟨n, h, l⟩) (w : World) :
    Calls Try.prog 95 #[.int .i64 a, .int .i64 b] w fun e w' => e = .returned (.agg #[.bool n, .int .u64 h, .int .u64 l]) ∧ w' = (w.alloc (Obj.cells #[.bool n, .int .u64 h, .int .u64 l] 114)).alloc (Obj.cells #[.bool n, .int .u64 h, .int .u64 l] 114) := by
  have hp := nat_mul_le (a := a) (b := b) (c := 9223372036854775808) (by omega) (by omega) (by omega)
  have hp0 : 0 ≤ (a.natAbs : Int) * (b.natAbs : Int) := Int.mul_nonneg (by omega) (by omega)
  have hs := nat_mul_sign a b
  have m64 := fun w => mul64_any (a.natAbs : Int) (b.natAbs : Int) (by omega) (by omega) (by omega) (by omega) w
  generalize (a.natAbs : Int) * (b.natAbs : Int) = p at *
  obtain ⟨hi, hhi⟩ : ∃ x, p / 18446744073709551616 = x := ⟨_, rfl⟩
  obtain ⟨lo, hlo⟩ : ∃ x, p % 18446744073709551616 = x := ⟨_, rfl⟩
  rw [hhi, hlo] at m64
  have e := Wd.mk'_eq ((decide (a < 0)) != (decide (b < 0))) hi lo (by omega) (by omega) (by omega)
  have e1 : hi * 18446744073709551616 + lo = p := by omega
  rw [e1, hs, hv] at e
  obtain ⟨_, rfl, rfl⟩ := Wd.mk.inj e
  have S := hid e
  have sg := fun w => signed_any ((decide (a < 0)) != (decide (b < 0))) hi lo (by omega) (by omega) (by omega) (by omega) n S.out w
  have ma := fun w => magnitude_any a a0 a1 w
  have mb := fun w => magnitude_any b b0 b1 w
  clear hp hp0 hs hhi hlo e hv e1
  go_enter Try.func95, Try.ntmps95
  go_wp2_with (first | (go_at_call 101; refine (magnitude_any _ (by assumption) (by assumption) _).mono ?_; rintro e w' ⟨rfl, rfl⟩) | (go_at_call 100; refine (m64 _).mono ?_; rintro e w' ⟨rfl, rfl⟩) | (go_at_call 102; refine (sg _).mono ?_; rintro e w' ⟨rfl, rfl⟩))
  go_returns
  exact ⟨rfl, rfl⟩

end Go.Proofs.Ytdimncchejbaaaa
