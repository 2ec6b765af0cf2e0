/-
  The functions of package couperef01, each by a contract: sums, differences, negatives.
-/
import Derived.Test.YthfnblifefnfmaaWrefmin
import Derived.Test.YthfnblifefnfmaaWsub
namespace Go.Proofs.Ythfnblifefnfmaa
open Go.RowKit
set_option linter.unusedVariables false
set_option linter.unusedSimpArgs false

theorem plus_any (n1 n2 : Bool) (h1 l1 h2 l2 H L : Int) (a0 : 0 ≤ h1) (a1 : h1 < 18446744073709551616) (a2 : 0 ≤ l1) (a3 : l1 < 18446744073709551616) (b0 : 0 ≤ h2) (b1 : h2 < 18446744073709551616) (b2 : 0 ≤ l2) (b3 : l2 < 18446744073709551616)
    (H0 : 0 ≤ H) (H1 : H < 18446744073709551616) (L0 : 0 ≤ L) (L1 : L < 18446744073709551616) (hs : H * 18446744073709551616 + L = (h1 * 18446744073709551616 + l1) + (h2 * 18446744073709551616 + l2)) (w : World) :
    Calls Try.prog 61 #[.agg #[.bool n1, .int .u64 h1, .int .u64 l1], .agg #[.bool n2, .int .u64 h2, .int .u64 l2]] w (Gives (.agg #[.int .u64 (L % 4294967296), .int .u64 (L / 4294967296), .int .u64 (H % 4294967296), .int .u64 (H / 4294967296)]) w) := by
  refine plus_walk n1 n2 h1 l1 h2 l2 (l1 % 4294967296) (l1 / 4294967296) (h1 % 4294967296) (h1 / 4294967296) (l2 % 4294967296) (l2 / 4294967296) (h2 % 4294967296) (h2 / 4294967296) w (fun w => parts_any h1 l1 a0 a1 a2 a3 w) (fun w => parts_any h2 l2 b0 b1 b2 b3 w)
    (by omega) (by omega) (by omega) (by omega) (by omega) (by omega) (by omega) (by omega) (by omega) (by omega) (by omega) (by omega) (by omega) (by omega) (by omega) (by omega)
    (L % 4294967296) (L / 4294967296) (H % 4294967296) (H / 4294967296) ((l1 % 4294967296 + l2 % 4294967296) / 4294967296) ((l1 / 4294967296 + l2 / 4294967296 + (l1 % 4294967296 + l2 % 4294967296) / 4294967296) / 4294967296)
    ((h1 % 4294967296 + h2 % 4294967296 + (l1 / 4294967296 + l2 / 4294967296 + (l1 % 4294967296 + l2 % 4294967296) / 4294967296) / 4294967296) / 4294967296) 0 (by omega) rfl (by omega) rfl (by omega) rfl (by omega) (by omega)
theorem minus_any (n1 n2 : Bool) (h1 l1 h2 l2 H L : Int) (a0 : 0 ≤ h1) (a1 : h1 < 18446744073709551616) (a2 : 0 ≤ l1) (a3 : l1 < 18446744073709551616) (b0 : 0 ≤ h2) (b1 : h2 < 18446744073709551616) (b2 : 0 ≤ l2) (b3 : l2 < 18446744073709551616)
    (H0 : 0 ≤ H) (L0 : 0 ≤ L) (L1 : L < 18446744073709551616) (hs : H * 18446744073709551616 + L = (h1 * 18446744073709551616 + l1) - (h2 * 18446744073709551616 + l2)) (w : World) :
    Calls Try.prog 62 #[.agg #[.bool n1, .int .u64 h1, .int .u64 l1], .agg #[.bool n2, .int .u64 h2, .int .u64 l2]] w (Gives (.agg #[.int .u64 (L % 4294967296), .int .u64 (L / 4294967296), .int .u64 (H % 4294967296), .int .u64 (H / 4294967296)]) w) := by
  obtain ⟨a, ha⟩ : ∃ a, l1 % 4294967296 = a := ⟨_, rfl⟩
  obtain ⟨b, hb⟩ : ∃ a, l1 / 4294967296 = a := ⟨_, rfl⟩
  obtain ⟨c, hc⟩ : ∃ a, h1 % 4294967296 = a := ⟨_, rfl⟩
  obtain ⟨d, hd⟩ : ∃ a, h1 / 4294967296 = a := ⟨_, rfl⟩
  obtain ⟨a', ha'⟩ : ∃ a, l2 % 4294967296 = a := ⟨_, rfl⟩
  obtain ⟨b', hb'⟩ : ∃ a, l2 / 4294967296 = a := ⟨_, rfl⟩
  obtain ⟨c', hc'⟩ : ∃ a, h2 % 4294967296 = a := ⟨_, rfl⟩
  obtain ⟨d', hd'⟩ : ∃ a, h2 / 4294967296 = a := ⟨_, rfl⟩
  have p1 := fun w => parts_any h1 l1 a0 a1 a2 a3 w
  have p2 := fun w => parts_any h2 l2 b0 b1 b2 b3 w
  rw [ha, hb, hc, hd] at p1
  rw [ha', hb', hc', hd'] at p2
  obtain ⟨y0, k0⟩ : ∃ y, 1 - (a + 4294967296 - a') / 4294967296 = y := ⟨_, rfl⟩
  obtain ⟨y1, k1⟩ : ∃ y, 1 - (b + 4294967296 - b' - y0) / 4294967296 = y := ⟨_, rfl⟩
  obtain ⟨y2, k2⟩ : ∃ y, 1 - (c + 4294967296 - c' - y1) / 4294967296 = y := ⟨_, rfl⟩
  exact minus_walk n1 n2 h1 l1 h2 l2 a b c d a' b' c' d' w p1 p2
    (by omega) (by omega) (by omega) (by omega) (by omega) (by omega) (by omega) (by omega) (by omega) (by omega) (by omega) (by omega) (by omega) (by omega) (by omega) (by omega)
    (L % 4294967296) (L / 4294967296) (H % 4294967296) (H / 4294967296) y0 y1 y2 _ (by omega) k0 (by omega) k1 (by omega) k2 (by omega) rfl
theorem rmade_any (s : Bool) (H L : Int) (H0 : 0 ≤ H) (H1 : H < 18446744073709551616) (L0 : 0 ≤ L) (L1 : L < 18446744073709551616) (n : Bool) (hs : Wd.mk' s H L = ⟨n, H, L⟩) (w : World) :
    Calls Try.prog 39 #[.bool s, .agg #[.int .u64 (L % 4294967296), .int .u64 (L / 4294967296), .int .u64 (H % 4294967296), .int .u64 (H / 4294967296)]] w (Gives (.agg #[.bool n, .int .u64 H, .int .u64 L]) w) :=
  made_any s _ _ _ _ (by omega) (by omega) (by omega) (by omega) (by omega) (by omega) (by omega) (by omega) n H L (by omega) (by omega) hs w
theorem rlimited_any (n : Bool) (H L : Int) (n' : Bool) (h' l' e : Int) (hv : (if 9223372036854775808 ≤ H then (Wd.zero, (8 : Int)) else (⟨n, H, L⟩, 0)) = (⟨n', h', l'⟩, e)) (w : World) :
    Calls Try.prog 59 #[.agg #[.bool n, .int .u64 H, .int .u64 L]] w (Gives (.tuple #[.agg #[.bool n', .int .u64 h', .int .u64 l'], .int .i64 e]) w) := by
  by_cases c : 9223372036854775808 ≤ H
  · rw [if_pos c] at hv
    simp only [Prod.mk.injEq, Wd.zero, Wd.mk.injEq] at hv
    obtain ⟨⟨rfl, rfl, rfl⟩, rfl⟩ := hv
    go_enter Try.func59, Try.ntmps59
    go_wp2
    go_returns
    exact Gives.mk rfl (by repeat' (first | (with_reducible exact Below.refl _ _) | (with_reducible refine Below.alloc ?_ ?_ _) | (with_reducible refine Below.setCell ?_ ?_ _) | (with_reducible refine Below.drew ?_) | (with_reducible refine Below.trans ?_ (Below.mono (by assumption) ?_)) | (simp; done) | (simp; omega) | omega))
  · rw [if_neg c] at hv
    simp only [Prod.mk.injEq, Wd.mk.injEq] at hv
    obtain ⟨⟨rfl, rfl, rfl⟩, rfl⟩ := hv
    go_enter Try.func59, Try.ntmps59
    go_wp2
    go_returns
    exact Gives.mk rfl (by repeat' (first | (with_reducible exact Below.refl _ _) | (with_reducible refine Below.alloc ?_ ?_ _) | (with_reducible refine Below.setCell ?_ ?_ _) | (with_reducible refine Below.drew ?_) | (with_reducible refine Below.trans ?_ (Below.mono (by assumption) ?_)) | (simp; done) | (simp; omega) | omega))
theorem rwboth_any (n1 n2 : Bool) (h1 l1 h2 l2 c d : Int) (a0 : 0 ≤ h1) (a2 : 0 ≤ l1) (b0 : 0 ≤ h2) (b2 : 0 ≤ l2) (hc : Wd.chk ⟨n1, h1, l1⟩ = c) (hd : (if c ≠ 0 then c else Wd.chk ⟨n2, h2, l2⟩) = d) (w : World) :
    Calls Try.prog 50 #[.agg #[.bool n1, .int .u64 h1, .int .u64 l1], .agg #[.bool n2, .int .u64 h2, .int .u64 l2]] w (Gives (.int .i64 d) w) := by
  have k1 := fun w => refCheck_any n1 h1 l1 w a0 a2
  have k2 := fun w => refCheck_any n2 h2 l2 w b0 b2
  rw [hc] at k1
  by_cases c0 : c = 0
  · subst c0
    simp only [ne_eq, not_true_eq_false, if_false] at hd
    rw [hd] at k2
    clear hc hd
    go_enter Try.func50, Try.ntmps50
    go_wp2_with (first | (go_at_call 11; (with_reducible refine (k1 _).mono ?_); rintro e w' ⟨rfl, rfl⟩) | (go_at_call 11; (with_reducible refine (k2 _).mono ?_); rintro e w' ⟨rfl, rfl⟩))
    go_ret
    exact Gives.mk rfl (by repeat' (first | (with_reducible exact Below.refl _ _) | (with_reducible refine Below.alloc ?_ ?_ _) | (with_reducible refine Below.setCell ?_ ?_ _) | (with_reducible refine Below.drew ?_) | (with_reducible refine Below.trans ?_ (Below.mono (by assumption) ?_)) | (simp; done) | (simp; omega) | omega))
  · simp only [ne_eq, c0, not_false_eq_true, if_true] at hd
    subst hd
    clear hc k2
    go_enter Try.func50, Try.ntmps50
    go_wp2_with (go_at_call 11; refine (k1 _).mono ?_; rintro e w' ⟨rfl, rfl⟩)
    go_ret
    exact Gives.mk rfl (by repeat' (first | (with_reducible exact Below.refl _ _) | (with_reducible refine Below.alloc ?_ ?_ _) | (with_reducible refine Below.setCell ?_ ?_ _) | (with_reducible refine Below.drew ?_) | (with_reducible refine Below.trans ?_ (Below.mono (by assumption) ?_)) | (simp; done) | (simp; omega) | omega))
end Go.Proofs.Ythfnblifefnfmaa
