/-
  The functions of package couperef01, each by a contract: Of, DivFloor.
-/
import Derived.Test.YtfdnmlggemonhaaWrefint
namespace Go.Proofs.Ytfdnmlggemonhaa
open Go.RowKit
set_option linter.unusedVariables false
set_option linter.unusedSimpArgs false

set_option maxHeartbeats 4000000 in
theorem rof_walk (a f : Int) (s n : Bool) (w : World) (hs : decide (a < 0) = s)
    (sz : ∀ w : World, Calls Try.prog 102 #[.int .i64 a] w fun e w' => e = .returned (.int .u64 f) ∧ w' = w)
    (pt : ∀ w : World, Calls Try.prog 105 #[.int .u64 0, .int .u64 f] w fun e w' => e = .returned (.agg #[.int .u64 (f % 4294967296), .int .u64 (f / 4294967296), .int .u64 (0 % 4294967296), .int .u64 (0 / 4294967296)]) ∧ w' = w.alloc (.cells #[.int .u64 (f % 4294967296), .int .u64 (f / 4294967296), .int .u64 (0 % 4294967296), .int .u64 (0 / 4294967296)] 114))
    (md : ∀ w : World, Calls Try.prog 104 #[.bool s, .agg #[.int .u64 (f % 4294967296), .int .u64 (f / 4294967296), .int .u64 (0 % 4294967296), .int .u64 (0 / 4294967296)]] w (Gives (.agg #[.bool n, .int .u64 0, .int .u64 f]) w)) :
    Calls Try.prog 94 #[.int .i64 a] w (Gives (.agg #[.bool n, .int .u64 0, .int .u64 f]) w) := by
  cases s
  · have hd : ¬ a < 0 := of_decide_eq_false hs
    clear hs
    go_enter Try.func94, Try.ntmps94
    go_wp2_with (first | (go_at_call 102; refine (sz _).mono ?_; rintro e w' ⟨rfl, rfl⟩) | (go_at_call 105; refine (pt _).mono ?_; rintro e w' ⟨rfl, rfl⟩) | (go_at_call 104; refine (md _).mono ?_; rintro e w' ⟨rfl, hb⟩; have xz : w.heap.size < (w').heap.size := Nat.lt_of_lt_of_le (show w.heap.size < _ from (by first | assumption | (simp; done) | (simp; omega) | (dsimp only; omega) | omega)) hb.size; have x0 : (w').cell? ⟨w.heap.size, 0, none⟩ = some (.bool false) := (hb.cell (p := ⟨w.heap.size, 0, none⟩) (by first | assumption | (simp; done) | (simp; omega) | (dsimp only; omega) | omega)).trans (by first | assumption | (simp [go_sem]; done)); have x1 : (w').cell? ⟨w.heap.size, 1, none⟩ = some (.int .u64 0) := (hb.cell (p := ⟨w.heap.size, 1, none⟩) (by first | assumption | (simp; done) | (simp; omega) | (dsimp only; omega) | omega)).trans (by first | assumption | (simp [go_sem]; done)); have x2 : (w').cell? ⟨w.heap.size, 2, none⟩ = some (.int .u64 0) := (hb.cell (p := ⟨w.heap.size, 2, none⟩) (by first | assumption | (simp; done) | (simp; omega) | (dsimp only; omega) | omega)).trans (by first | assumption | (simp [go_sem]; done)); have xf : ∀ o, (w').frozen? ⟨w.heap.size, o, none⟩ = false := fun o => (hb.frozen (p := ⟨w.heap.size, o, none⟩) (by first | assumption | (simp; done) | (simp; omega) | (dsimp only; omega) | omega)).trans (by first | (simp [go_sem]; done) | (simp [*]; done))))
    refine bodyPost_ret (v := .agg #[.bool n, .int .u64 0, .int .u64 f]) (by simp [results, Try.results94, go_sem, x0, x1, x2]) rfl ?_
    exact Gives.mk rfl (by repeat' (first | (with_reducible exact Below.refl _ _) | (with_reducible refine Below.alloc ?_ ?_ _) | (with_reducible refine Below.setCell ?_ ?_ _) | (with_reducible refine Below.drew ?_) | (with_reducible refine Below.trans ?_ (Below.mono (by assumption) ?_)) | (simp; done) | (simp; omega) | omega))
  · have hd : a < 0 := of_decide_eq_true hs
    clear hs
    go_enter Try.func94, Try.ntmps94
    go_wp2_with (first | (go_at_call 102; refine (sz _).mono ?_; rintro e w' ⟨rfl, rfl⟩) | (go_at_call 105; refine (pt _).mono ?_; rintro e w' ⟨rfl, rfl⟩) | (go_at_call 104; refine (md _).mono ?_; rintro e w' ⟨rfl, hb⟩; have xz : w.heap.size < (w').heap.size := Nat.lt_of_lt_of_le (show w.heap.size < _ from (by first | assumption | (simp; done) | (simp; omega) | (dsimp only; omega) | omega)) hb.size; have x0 : (w').cell? ⟨w.heap.size, 0, none⟩ = some (.bool false) := (hb.cell (p := ⟨w.heap.size, 0, none⟩) (by first | assumption | (simp; done) | (simp; omega) | (dsimp only; omega) | omega)).trans (by first | assumption | (simp [go_sem]; done)); have x1 : (w').cell? ⟨w.heap.size, 1, none⟩ = some (.int .u64 0) := (hb.cell (p := ⟨w.heap.size, 1, none⟩) (by first | assumption | (simp; done) | (simp; omega) | (dsimp only; omega) | omega)).trans (by first | assumption | (simp [go_sem]; done)); have x2 : (w').cell? ⟨w.heap.size, 2, none⟩ = some (.int .u64 0) := (hb.cell (p := ⟨w.heap.size, 2, none⟩) (by first | assumption | (simp; done) | (simp; omega) | (dsimp only; omega) | omega)).trans (by first | assumption | (simp [go_sem]; done)); have xf : ∀ o, (w').frozen? ⟨w.heap.size, o, none⟩ = false := fun o => (hb.frozen (p := ⟨w.heap.size, o, none⟩) (by first | assumption | (simp; done) | (simp; omega) | (dsimp only; omega) | omega)).trans (by first | (simp [go_sem]; done) | (simp [*]; done))))
    refine bodyPost_ret (v := .agg #[.bool n, .int .u64 0, .int .u64 f]) (by simp [results, Try.results94, go_sem, x0, x1, x2]) rfl ?_
    exact Gives.mk rfl (by repeat' (first | (with_reducible exact Below.refl _ _) | (with_reducible refine Below.alloc ?_ ?_ _) | (with_reducible refine Below.setCell ?_ ?_ _) | (with_reducible refine Below.drew ?_) | (with_reducible refine Below.trans ?_ (Below.mono (by assumption) ?_)) | (simp; done) | (simp; omega) | omega))
theorem rof_any (a : Int) (h0 : -9223372036854775808 ≤ a) (h1 : a ≤ 9223372036854775807) (w : World) :
    Calls Try.prog 94 #[.int .i64 a] w (Gives (.agg #[.bool (decide (a < 0)), .int .u64 0, .int .u64 (a.natAbs : Int)]) w) := by
  obtain ⟨f, hf⟩ : ∃ f : Int, (a.natAbs : Int) = f := ⟨_, rfl⟩
  have sz := fun w => size_any a h0 h1 w
  rw [hf] at sz ⊢
  refine rof_walk a f _ _ w rfl sz (fun w => parts_any 0 f (by omega) (by omega) (by omega) (by omega) w) (fun w => rmade_any _ 0 f (by omega) (by omega) (by omega) (by omega) _ ?_ w)
  unfold Wd.mk'
  congr 1
  by_cases c : a < 0
  · simp [c]; omega
  · simp [c]

end Go.Proofs.Ytfdnmlggemonhaa
