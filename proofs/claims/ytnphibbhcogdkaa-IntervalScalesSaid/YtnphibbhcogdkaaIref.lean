/-
  The functions of package couperef03, each by a contract: all but Scale, Sum and FromFrac.
-/
import Derived.Test.YtnphibbhcogdkaaIcode
namespace Go.Proofs.Ytnphibbhcogdkaa
open Go.RowKit
set_option linter.unusedVariables false

theorem rcheck_any (a b : Int) (w : World) :
    Calls Try.prog 46 #[.agg #[.int .i64 a, .int .i64 b]] w fun e w' => e = .returned (.int .i64 (Sp.chk a b)) ∧ w' = w.alloc (Obj.cells #[.int .i64 a, .int .i64 b] 49) := by
  go_enter Try.func46, Try.ntmps46
  go_wp2
  all_goals
    go_ret
    refine ⟨ret_i64 ?_, rfl⟩
    unfold Sp.chk
    (repeat' split) <;> omega
theorem rboth_any (a b c d y : Int) (hd : Sp.both a b c d = y) (w : World) :
    Calls Try.prog 93 #[.agg #[.int .i64 a, .int .i64 b], .agg #[.int .i64 c, .int .i64 d]] w (Gives (.int .i64 y) w) := by
  unfold Sp.both at hd
  obtain ⟨x, hx⟩ : ∃ x, Sp.chk a b = x := ⟨_, rfl⟩
  have k1 := fun w => rcheck_any a b w
  have k2 := fun w => rcheck_any c d w
  rw [hx] at hd k1
  by_cases x0 : x = 0
  · subst x0
    rw [if_neg (by omega)] at hd
    rw [hd] at k2
    clear hd hx
    go_enter Try.func93, Try.ntmps93
    go_wp2_with (first | (go_at_call 46; (with_reducible refine (k1 _).mono ?_); rintro e w' ⟨rfl, rfl⟩) | (go_at_call 46; (with_reducible refine (k2 _).mono ?_); rintro e w' ⟨rfl, rfl⟩))
    go_ret
    exact Gives.mk rfl (by repeat' (first | (with_reducible exact Below.refl _ _) | (with_reducible refine Below.alloc ?_ ?_ _) | (with_reducible refine Below.setCell ?_ ?_ _) | (with_reducible refine Below.drew ?_) | (with_reducible refine Below.trans ?_ (Below.mono (by assumption) ?_)) | (simp; done) | (simp; omega) | omega))
  · rw [if_pos x0] at hd
    subst hd
    clear hx k2
    go_enter Try.func93, Try.ntmps93
    go_wp2_with (go_at_call 46; refine (k1 _).mono ?_; rintro e w' ⟨rfl, rfl⟩)
    go_ret
    exact Gives.mk rfl (by repeat' (first | (with_reducible exact Below.refl _ _) | (with_reducible refine Below.alloc ?_ ?_ _) | (with_reducible refine Below.setCell ?_ ?_ _) | (with_reducible refine Below.drew ?_) | (with_reducible refine Below.trans ?_ (Below.mono (by assumption) ?_)) | (simp; done) | (simp; omega) | omega))
theorem rvalid_any (a b lo hi e : Int) (hab : a ≤ b) (hv : Sp.lim a b = (lo, hi, e)) (w : World) :
    Calls Try.prog 94 #[.agg #[.int .i64 a, .int .i64 b]] w (Gives (.tuple #[.agg #[.int .i64 lo, .int .i64 hi], .int .i64 e]) w) := by
  have k1 := fun w => rcheck_any a b w
  unfold Sp.lim at hv
  by_cases c : a < -1000000000000000 ∨ 1000000000000000 < b
  · rw [if_pos c] at hv
    obtain ⟨rfl, h2⟩ := Prod.mk.inj hv
    obtain ⟨rfl, rfl⟩ := Prod.mk.inj h2
    have e8 : Sp.chk a b = 8 := by unfold Sp.chk; rw [if_neg (by omega), if_pos c]
    rw [e8] at k1
    clear hv h2 e8 c
    go_enter Try.func94, Try.ntmps94
    go_wp2_with (go_at_call 46; refine (k1 _).mono ?_; rintro e w' ⟨rfl, rfl⟩)
    go_returns
    exact Gives.mk rfl (by repeat' (first | (with_reducible exact Below.refl _ _) | (with_reducible refine Below.alloc ?_ ?_ _) | (with_reducible refine Below.setCell ?_ ?_ _) | (with_reducible refine Below.drew ?_) | (with_reducible refine Below.trans ?_ (Below.mono (by assumption) ?_)) | (simp; done) | (simp; omega) | omega))
  · rw [if_neg c] at hv
    obtain ⟨rfl, h2⟩ := Prod.mk.inj hv
    obtain ⟨rfl, rfl⟩ := Prod.mk.inj h2
    have e0 : Sp.chk a b = 0 := by unfold Sp.chk; rw [if_neg (by omega), if_neg c]
    rw [e0] at k1
    clear hv h2 e0 c
    go_enter Try.func94, Try.ntmps94
    go_wp2_with (go_at_call 46; refine (k1 _).mono ?_; rintro e w' ⟨rfl, rfl⟩)
    go_returns
    exact Gives.mk rfl (by repeat' (first | (with_reducible exact Below.refl _ _) | (with_reducible refine Below.alloc ?_ ?_ _) | (with_reducible refine Below.setCell ?_ ?_ _) | (with_reducible refine Below.drew ?_) | (with_reducible refine Below.trans ?_ (Below.mono (by assumption) ?_)) | (simp; done) | (simp; omega) | omega))
end Go.Proofs.Ytnphibbhcogdkaa
