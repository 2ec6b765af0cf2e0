/-
  The exported functions of package wide, each by a contract: ints, greatest common divisors, comparisons.
-/
import Derived.Test.YtjeedlglonnngaaWquo
namespace Go.Proofs.Ytjeedlglonnngaa
open Go.RowKit
set_option linter.unusedVariables false

theorem tup2 {a b c d : Int} (h1 : a = c) (h2 : b = d) : Value.tuple #[.int .i64 a, .int .i64 b] = .tuple #[.int .i64 c, .int .i64 d] := by rw [h1, h2]
theorem int_any (n : Bool) (h l : Int) (f : Wd.Fits ⟨n, h, l⟩) (v e : Int) (hv : Wd.intS ⟨n, h, l⟩ = (v, e)) (w : World) :
    Calls Try.prog 55 #[.agg #[.bool n, .int .u64 h, .int .u64 l]] w (Gives (.tuple #[.int .i64 v, .int .i64 e]) w) := by
  obtain ⟨⟨b0, b1⟩, ⟨b2, b3⟩⟩ := f
  simp only at b0 b1 b2 b3
  obtain ⟨c, hc⟩ : ∃ c, Wd.chk ⟨n, h, l⟩ = c := ⟨_, rfl⟩
  have ck := fun w => check_any n h l w
  rw [hc] at ck
  unfold Wd.intS at hv
  rw [hc] at hv
  by_cases c0 : c = 0
  · subst c0
    rw [if_neg (by omega)] at hv
    have hT : Wd.toInt ⟨n, h, l⟩ = Wd.sv n (h * 18446744073709551616 + l) := rfl
    rw [hT] at hv
    have V := hid hv
    clear hv hT hc
    by_cases hh : h = 0
    · subst hh
      by_cases hl : 9223372036854775808 < l
      · go_enter Try.func55, Try.ntmps55
        go_wp2_with (go_at_call 56; refine (ck _).mono ?_; rintro e w' ⟨rfl, rfl⟩)
        go_ret2
        have hv := V.out
        rw [if_neg (by unfold Wd.sv; split <;> omega)] at hv
        obtain ⟨rfl, rfl⟩ := Prod.mk.inj hv
        exact Gives.mk rfl (by repeat' (first | (with_reducible exact Below.refl _ _) | (with_reducible refine Below.alloc ?_ ?_ _) | (with_reducible refine Below.setCell ?_ ?_ _) | (with_reducible refine Below.drew ?_) | (with_reducible refine Below.trans ?_ (Below.mono (by assumption) ?_)) | (simp; done) | (simp; omega) | omega))
      · by_cases hl2 : l = 9223372036854775808
        · subst hl2
          cases n
          · go_enter Try.func55, Try.ntmps55
            go_wp2_with (go_at_call 56; refine (ck _).mono ?_; rintro e w' ⟨rfl, rfl⟩)
            go_ret2
            have hv := V.out
            rw [if_neg (by unfold Wd.sv; simp)] at hv
            obtain ⟨rfl, rfl⟩ := Prod.mk.inj hv
            exact Gives.mk rfl (by repeat' (first | (with_reducible exact Below.refl _ _) | (with_reducible refine Below.alloc ?_ ?_ _) | (with_reducible refine Below.setCell ?_ ?_ _) | (with_reducible refine Below.drew ?_) | (with_reducible refine Below.trans ?_ (Below.mono (by assumption) ?_)) | (simp; done) | (simp; omega) | omega))
          · go_enter Try.func55, Try.ntmps55
            go_wp2_with (go_at_call 56; refine (ck _).mono ?_; rintro e w' ⟨rfl, rfl⟩)
            go_ret2
            have hv := V.out
            rw [if_pos (by unfold Wd.sv; simp)] at hv
            obtain ⟨rfl, rfl⟩ := Prod.mk.inj hv
            exact Gives.mk (tup2 (by unfold Wd.sv; simp [wrap64, IntKind.wrap_u64]) rfl) (by repeat' (first | (with_reducible exact Below.refl _ _) | (with_reducible refine Below.alloc ?_ ?_ _) | (with_reducible refine Below.setCell ?_ ?_ _) | (with_reducible refine Below.drew ?_) | (with_reducible refine Below.trans ?_ (Below.mono (by assumption) ?_)) | (simp; done) | (simp; omega) | omega))
        · have hlt : l < 9223372036854775808 := by omega
          have hne : (l == 9223372036854775808) = false := by simp; omega
          clear hl hl2
          cases n
          · go_enter Try.func55, Try.ntmps55
            go_wp2_with (go_at_call 56; refine (ck _).mono ?_; rintro e w' ⟨rfl, rfl⟩)
            go_ret2
            have hv := V.out
            rw [if_pos (by unfold Wd.sv; simp; omega)] at hv
            obtain ⟨rfl, rfl⟩ := Prod.mk.inj hv
            exact Gives.mk (tup2 (by unfold Wd.sv; simp) rfl) (by repeat' (first | (with_reducible exact Below.refl _ _) | (with_reducible refine Below.alloc ?_ ?_ _) | (with_reducible refine Below.setCell ?_ ?_ _) | (with_reducible refine Below.drew ?_) | (with_reducible refine Below.trans ?_ (Below.mono (by assumption) ?_)) | (simp; done) | (simp; omega) | omega))
          · go_enter Try.func55, Try.ntmps55
            go_wp2_with (go_at_call 56; refine (ck _).mono ?_; rintro e w' ⟨rfl, rfl⟩)
            go_ret2
            have hv := V.out
            rw [if_pos (by unfold Wd.sv; simp; omega)] at hv
            obtain ⟨rfl, rfl⟩ := Prod.mk.inj hv
            refine Gives.mk (tup2 ?_ rfl) (by repeat' (first | (with_reducible exact Below.refl _ _) | (with_reducible refine Below.alloc ?_ ?_ _) | (with_reducible refine Below.setCell ?_ ?_ _) | (with_reducible refine Below.drew ?_) | (with_reducible refine Below.trans ?_ (Below.mono (by assumption) ?_)) | (simp; done) | (simp; omega) | omega))
            unfold Wd.sv
            simp only [if_true, IntKind.wrap_u64, wrap64]
            omega
    · go_enter Try.func55, Try.ntmps55
      go_wp2_with (go_at_call 56; refine (ck _).mono ?_; rintro e w' ⟨rfl, rfl⟩)
      go_ret2
      have hv := V.out
      rw [if_neg (by unfold Wd.sv; split <;> omega)] at hv
      obtain ⟨rfl, rfl⟩ := Prod.mk.inj hv
      exact Gives.mk rfl (by repeat' (first | (with_reducible exact Below.refl _ _) | (with_reducible refine Below.alloc ?_ ?_ _) | (with_reducible refine Below.setCell ?_ ?_ _) | (with_reducible refine Below.drew ?_) | (with_reducible refine Below.trans ?_ (Below.mono (by assumption) ?_)) | (simp; done) | (simp; omega) | omega))
  · rw [if_pos c0] at hv
    obtain ⟨rfl, rfl⟩ := Prod.mk.inj hv
    clear hc
    go_enter Try.func55, Try.ntmps55
    go_wp2_with (go_at_call 56; refine (ck _).mono ?_; rintro e w' ⟨rfl, rfl⟩)
    go_ret2
    exact Gives.mk rfl (by repeat' (first | (with_reducible exact Below.refl _ _) | (with_reducible refine Below.alloc ?_ ?_ _) | (with_reducible refine Below.setCell ?_ ?_ _) | (with_reducible refine Below.drew ?_) | (with_reducible refine Below.trans ?_ (Below.mono (by assumption) ?_)) | (simp; done) | (simp; omega) | omega))

/-- The loop of the greatest common divisor. -/
def Gc (G : Nat) (w : World) (v v' : Value) (wr : World) : Prop :=
  ∃ x y : Int, v = .int .u64 x ∧ v' = .int .u64 y ∧ 0 ≤ x ∧ x ≤ 9223372036854775808 ∧ 0 ≤ y ∧ y ≤ 9223372036854775808 ∧ Int.gcd x y = G ∧ Below w.heap.size w wr
theorem gcd_step {x y : Int} (x0 : 0 ≤ x) (y0 : 0 ≤ y) : Int.gcd y (x % y) = Int.gcd x y := by
  obtain ⟨x, rfl⟩ := Int.eq_ofNat_of_zero_le x0
  obtain ⟨y, rfl⟩ := Int.eq_ofNat_of_zero_le y0
  rw [← Int.natCast_emod]
  simp only [Int.gcd_natCast_natCast]
  rw [Nat.gcd_comm y, ← Nat.gcd_rec, Nat.gcd_comm]
theorem gcd_abs (m a : Int) : Int.gcd m a = Int.gcd m (a.natAbs : Int) := by
  simp [Int.gcd]
end Go.Proofs.Ytjeedlglonnngaa
