/-
  The functions of package couperef02, each by a contract: Abs, Gcd, Check, Valid, Floor, Ceil, Round; and those of package fraction for every input.
-/
import Derived.Test.YtmdaanigkhikfaaFops2
namespace Go.Proofs.Ytmdaanigkhikfaa
open Go.RowKit
set_option linter.unusedVariables false
set_option linter.unusedSimpArgs false

/-- The loop of the reference's greatest common divisor. -/
def Gr (G : Nat) (w : World) (v v' : Value) (wr : World) : Prop :=
  ∃ (x y : Int) (q : Nat), v = .int .i64 x ∧ v' = .int .i64 y ∧ 0 ≤ x ∧ x ≤ 1000000000000000 ∧ 0 ≤ y ∧ y ≤ 1000000000000000 ∧ Int.gcd x y = G ∧ wr = w.drewN q
namespace Sp
theorem tdiv_ceil {n d : Int} (hd : 0 < d) : -((-n) / d) = if 0 < n.tmod d then n.tdiv d + 1 else n.tdiv d := by
  rw [tdiv_floor hd, Int.neg_tmod, Int.neg_tdiv]
  split <;> split <;> omega
theorem round_half {m d : Int} (m0 : 0 ≤ m) (hd : 0 < d) : (2 * m + d) / (2 * d) = if d ≤ 2 * (m % d) then m / d + 1 else m / d := by
  have h1 := Int.emod_nonneg m (show d ≠ 0 by omega)
  have h2 := Int.emod_lt_of_pos m hd
  have h3 := Int.emod_add_mul_ediv m d
  generalize m / d = q at *
  generalize m % d = r at *
  have e : 2 * m + d = (2 * r + d) + (2 * d) * q := by
    rw [Int.mul_assoc]; omega
  rw [e, Int.add_mul_ediv_left _ _ (by omega)]
  split
  · have : (2 * r + d) / (2 * d) = 1 := by
      have a := (Int.le_ediv_iff_mul_le (a := 1) (b := 2 * r + d) (show 0 < 2 * d by omega)).2 (by omega)
      have b := (Int.ediv_lt_iff_lt_mul (a := 2 * r + d) (b := 2) (show 0 < 2 * d by omega)).2 (by omega)
      omega
    omega
  · have : (2 * r + d) / (2 * d) = 0 := Int.ediv_eq_zero_of_lt (by omega) (by omega)
    omega
end Sp
theorem ffloor_all (n d : Int) (N0 : -9223372036854775808 ≤ n) (N1 : n ≤ 9223372036854775807) (D0 : -9223372036854775808 ≤ d) (D1 : d ≤ 9223372036854775807) (w : World) :
    Calls Try.prog 32 #[.agg #[.int .i64 n, .int .i64 d]] w (Gives (.int .i64 (Sp.floorF n d)) w) := by
  unfold Sp.floorF
  by_cases hv : Sp.fchk n d = 0
  · rw [if_neg (by omega)]
    exact ffloor_any n d hv w
  · rw [if_pos hv]
    have ck := fun w => fcheck_any n d N0 N1 D0 D1 w
    obtain ⟨y, hy⟩ : ∃ y, Sp.fchk n d = y := ⟨_, rfl⟩
    rw [hy] at ck hv
    clear hy
    go_enter Try.func32, Try.ntmps32
    go_wp2_with (go_at_call 62; refine (ck _).mono ?_; rintro e w1 ⟨rfl, hb⟩)
    go_ret
    exact Gives.mk rfl (by repeat' (first | (with_reducible exact Below.refl _ _) | (with_reducible refine Below.alloc ?_ ?_ _) | (with_reducible refine Below.setCell ?_ ?_ _) | (with_reducible refine Below.drew ?_) | (with_reducible refine below_dn ?_ _) | (with_reducible refine Below.trans ?_ (Below.mono (by assumption) ?_)) | (simp; done) | (simp; omega) | omega))
theorem fceil_all (n d : Int) (N0 : -9223372036854775808 ≤ n) (N1 : n ≤ 9223372036854775807) (D0 : -9223372036854775808 ≤ d) (D1 : d ≤ 9223372036854775807) (w : World) :
    Calls Try.prog 33 #[.agg #[.int .i64 n, .int .i64 d]] w (Gives (.int .i64 (Sp.ceilF n d)) w) := by
  unfold Sp.ceilF
  by_cases hv : Sp.fchk n d = 0
  · rw [if_neg (by omega)]
    exact fceil_any n d hv w
  · rw [if_pos hv]
    have ck := fun w => fcheck_any n d N0 N1 D0 D1 w
    obtain ⟨y, hy⟩ : ∃ y, Sp.fchk n d = y := ⟨_, rfl⟩
    rw [hy] at ck hv
    clear hy
    go_enter Try.func33, Try.ntmps33
    go_wp2_with (go_at_call 62; refine (ck _).mono ?_; rintro e w1 ⟨rfl, hb⟩)
    go_ret
    exact Gives.mk rfl (by repeat' (first | (with_reducible exact Below.refl _ _) | (with_reducible refine Below.alloc ?_ ?_ _) | (with_reducible refine Below.setCell ?_ ?_ _) | (with_reducible refine Below.drew ?_) | (with_reducible refine below_dn ?_ _) | (with_reducible refine Below.trans ?_ (Below.mono (by assumption) ?_)) | (simp; done) | (simp; omega) | omega))
end Go.Proofs.Ytmdaanigkhikfaa
