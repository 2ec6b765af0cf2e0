/-
  The functions of package couperef01, each by a contract: sums, differences, negatives.
-/
import Derived.Test.YtfdnmlggemonhaaWrefmin
import Derived.Test.YtfdnmlggemonhaaWsub
namespace Go.Proofs.Ytfdnmlggemonhaa
open Go.RowKit
set_option linter.unusedVariables false
set_option linter.unusedSimpArgs false

theorem rmade_any (s : Bool) (H L : Int) (H0 : 0 ≤ H) (H1 : H < 18446744073709551616) (L0 : 0 ≤ L) (L1 : L < 18446744073709551616) (n : Bool) (hs : Wd.mk' s H L = ⟨n, H, L⟩) (w : World) :
    Calls Try.prog 104 #[.bool s, .agg #[.int .u64 (L % 4294967296), .int .u64 (L / 4294967296), .int .u64 (H % 4294967296), .int .u64 (H / 4294967296)]] w (Gives (.agg #[.bool n, .int .u64 H, .int .u64 L]) w) :=
  made_any s _ _ _ _ (by omega) (by omega) (by omega) (by omega) (by omega) (by omega) (by omega) (by omega) n H L (by omega) (by omega) hs w
theorem rlimited_any (n : Bool) (H L : Int) (n' : Bool) (h' l' e : Int) (hv : (if 9223372036854775808 ≤ H then (Wd.zero, (8 : Int)) else (⟨n, H, L⟩, 0)) = (⟨n', h', l'⟩, e)) (w : World) :
    Calls Try.prog 103 #[.agg #[.bool n, .int .u64 H, .int .u64 L]] w (Gives (.tuple #[.agg #[.bool n', .int .u64 h', .int .u64 l'], .int .i64 e]) w) := by
  by_cases c : 9223372036854775808 ≤ H
  · rw [if_pos c] at hv
    simp only [Prod.mk.injEq, Wd.zero, Wd.mk.injEq] at hv
    obtain ⟨⟨rfl, rfl, rfl⟩, rfl⟩ := hv
    go_enter Try.func103, Try.ntmps103
    go_wp2
    go_returns
    exact Gives.mk rfl (by repeat' (first | (with_reducible exact Below.refl _ _) | (with_reducible refine Below.alloc ?_ ?_ _) | (with_reducible refine Below.setCell ?_ ?_ _) | (with_reducible refine Below.drew ?_) | (with_reducible refine Below.trans ?_ (Below.mono (by assumption) ?_)) | (simp; done) | (simp; omega) | omega))
  · rw [if_neg c] at hv
    simp only [Prod.mk.injEq, Wd.mk.injEq] at hv
    obtain ⟨⟨rfl, rfl, rfl⟩, rfl⟩ := hv
    go_enter Try.func103, Try.ntmps103
    go_wp2
    go_returns
    exact Gives.mk rfl (by repeat' (first | (with_reducible exact Below.refl _ _) | (with_reducible refine Below.alloc ?_ ?_ _) | (with_reducible refine Below.setCell ?_ ?_ _) | (with_reducible refine Below.drew ?_) | (with_reducible refine Below.trans ?_ (Below.mono (by assumption) ?_)) | (simp; done) | (simp; omega) | omega))
end Go.Proofs.Ytfdnmlggemonhaa
