/-
  Neg and Sub of both packages, each by a contract, for every input.
-/
import Derived.Test.YtdimncchejbaaaaFradd2
import Derived.Test.YtdimncchejbaaaaFops2
namespace Go.Proofs.Ytdimncchejbaaaa
open Go.RowKit
set_option linter.unusedVariables false
set_option linter.unusedSimpArgs false

theorem radd_any (a b c d lo hi e : Int) (A0 : -9223372036854775808 ≤ a) (A1 : a ≤ 9223372036854775807) (B0 : -9223372036854775808 ≤ b) (B1 : b ≤ 9223372036854775807) (C0 : -9223372036854775808 ≤ c) (C1 : c ≤ 9223372036854775807) (D0 : -9223372036854775808 ≤ d) (D1 : d ≤ 9223372036854775807) (hv : Sp.addF a b c d = (lo, hi, e)) (w : World) :
    Calls Try.prog 92 #[.agg #[.int .i64 a, .int .i64 b], .agg #[.int .i64 c, .int .i64 d]] w (Gives (.tuple #[.agg #[.int .i64 lo, .int .i64 hi], .int .i64 e]) w) := by
  unfold Sp.addF at hv
  by_cases d0 : Sp.bothF a b c d = 0
  · rw [if_neg (by omega)] at hv
    obtain ⟨v1, v2⟩ := Sp.bothF_zero.1 d0
    exact radd_valid a b c d lo hi e v1 v2 hv w
  · rw [if_pos d0] at hv
    simp only [Prod.mk.injEq] at hv
    obtain ⟨rfl, rfl, rfl⟩ := hv
    obtain ⟨y, hy⟩ : ∃ y, Sp.bothF a b c d = y := ⟨_, rfl⟩
    have tw := fun w => rtwo_any a b c d A0 A1 B0 B1 C0 C1 D0 D1 w
    rw [hy] at d0 tw ⊢
    clear hy
    have g : (y == 0) = false := by simp; exact d0
    go_enter Try.func92, Try.ntmps92
    go_wp2_with (go_at_call 82; refine (tw _).mono ?_; rintro _ w1 ⟨rfl, hb⟩; have rz : w.heap.size + 1 + 1 < (w1).heap.size := Nat.lt_of_lt_of_le (show w.heap.size + 1 + 1 < _ from (by first | assumption | (simp; done) | (simp; omega) | (dsimp only; omega) | omega)) hb.size; have r0 : (w1).cell? ⟨w.heap.size + 1 + 1, 0, none⟩ = some (.int .i64 0) := (hb.cell (p := ⟨w.heap.size + 1 + 1, 0, none⟩) (by first | assumption | (simp; done) | (simp; omega) | (dsimp only; omega) | omega)).trans (by first | assumption | (simp [go_sem]; done) | (simp [go_sem, *]; done)); have r1 : (w1).cell? ⟨w.heap.size + 1 + 1, 1, none⟩ = some (.int .i64 0) := (hb.cell (p := ⟨w.heap.size + 1 + 1, 1, none⟩) (by first | assumption | (simp; done) | (simp; omega) | (dsimp only; omega) | omega)).trans (by first | assumption | (simp [go_sem]; done) | (simp [go_sem, *]; done)); have rf : ∀ o, (w1).frozen? ⟨w.heap.size + 1 + 1, o, none⟩ = false := fun o => (hb.frozen (p := ⟨w.heap.size + 1 + 1, o, none⟩) (by first | assumption | (simp; done) | (simp; omega) | (dsimp only; omega) | omega)).trans (by first | (simp [go_sem]; done) | (simp [*]; done)))
    refine bodyPost_ret (v := .tuple #[.agg #[.int .i64 0, .int .i64 0], .int .i64 y]) (by simp [results, Try.results92, go_sem, r0, r1, rz]) rfl ?_
    exact Gives.mk rfl (by repeat' (first | (with_reducible exact Below.refl _ _) | (with_reducible refine Below.alloc ?_ ?_ _) | (with_reducible refine Below.setCell ?_ ?_ _) | (with_reducible refine Below.drew ?_) | (with_reducible refine Below.trans ?_ (Below.mono (by assumption) ?_)) | (simp; done) | (simp; omega) | omega))
end Go.Proofs.Ytdimncchejbaaaa
