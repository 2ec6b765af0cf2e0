/-
  couperef02: two, for every input; small facts on quotients.
-/
import Derived.Test.YtdimncchejbaaaaFwide3
import Derived.Test.YtdimncchejbaaaaFwide4
import Derived.Test.YtdimncchejbaaaaFref
namespace Go.Proofs.Ytdimncchejbaaaa
open Go.RowKit
set_option linter.unusedVariables false
set_option linter.unusedSimpArgs false
theorem rtwo_any (a b c d : Int) (A0 : -9223372036854775808 ≤ a) (A1 : a ≤ 9223372036854775807) (B0 : -9223372036854775808 ≤ b) (B1 : b ≤ 9223372036854775807) (C0 : -9223372036854775808 ≤ c) (C1 : c ≤ 9223372036854775807) (D0 : -9223372036854775808 ≤ d) (D1 : d ≤ 9223372036854775807) (w : World) :
    Calls Try.prog 82 #[.agg #[.int .i64 a, .int .i64 b], .agg #[.int .i64 c, .int .i64 d]] w (Gives (.int .i64 (Sp.bothF a b c d)) w) := by
  have ck1 := fun w => rfcheck_any a b A0 A1 B0 B1 w
  have ck2 := fun w => rfcheck_any c d C0 C1 D0 D1 w
  unfold Sp.bothF
  obtain ⟨y, hy⟩ : ∃ y, Sp.fchk a b = y := ⟨_, rfl⟩
  obtain ⟨z, hz⟩ : ∃ z, Sp.fchk c d = z := ⟨_, rfl⟩
  rw [hy] at ck1
  rw [hz] at ck2
  rw [hy, hz]
  clear hy hz A0 A1 B0 B1 C0 C1 D0 D1
  by_cases y0 : y = 0
  · subst y0
    rw [if_neg (by omega)]
    go_enter Try.func82, Try.ntmps82
    go_wp2_with (first | (go_at_call 77; (with_reducible refine (ck1 _).mono ?_); rintro _ w1 ⟨rfl, hb⟩; have qz : w.heap.size + 1 < (w1).heap.size := Nat.lt_of_lt_of_le (show w.heap.size + 1 < _ from (by first | assumption | (simp; done) | (simp; omega) | (dsimp only; omega) | omega)) hb.size; have q0 : (w1).cell? ⟨w.heap.size + 1, 0, none⟩ = some (.int .i64 c) := (hb.cell (p := ⟨w.heap.size + 1, 0, none⟩) (by first | assumption | (simp; done) | (simp; omega) | (dsimp only; omega) | omega)).trans (by first | assumption | (simp [go_sem]; done) | (simp [go_sem, *]; done)); have q1 : (w1).cell? ⟨w.heap.size + 1, 1, none⟩ = some (.int .i64 d) := (hb.cell (p := ⟨w.heap.size + 1, 1, none⟩) (by first | assumption | (simp; done) | (simp; omega) | (dsimp only; omega) | omega)).trans (by first | assumption | (simp [go_sem]; done) | (simp [go_sem, *]; done)); have qf : ∀ o, (w1).frozen? ⟨w.heap.size + 1, o, none⟩ = false := fun o => (hb.frozen (p := ⟨w.heap.size + 1, o, none⟩) (by first | assumption | (simp; done) | (simp; omega) | (dsimp only; omega) | omega)).trans (by first | (simp [go_sem]; done) | (simp [*]; done)); have BN : Below w.heap.size w w1 := (by repeat' (first | (with_reducible exact Below.refl _ _) | (with_reducible refine Below.alloc ?_ ?_ _) | (with_reducible refine Below.setCell ?_ ?_ _) | (with_reducible refine Below.drew ?_) | (with_reducible refine Below.trans ?_ (Below.mono (by assumption) ?_)) | (simp; done) | (simp; omega) | omega)); clear hb) | (go_at_call 77; (with_reducible refine (ck2 _).mono ?_); rintro _ w2 ⟨rfl, hb⟩))
    go_ret
    exact Gives.mk rfl (by repeat' (first | (with_reducible exact Below.refl _ _) | (with_reducible refine Below.alloc ?_ ?_ _) | (with_reducible refine Below.setCell ?_ ?_ _) | (with_reducible refine Below.drew ?_) | (with_reducible refine Below.trans ?_ (Below.mono (by assumption) ?_)) | (simp; done) | (simp; omega) | omega))
  · rw [if_pos y0]
    have g : (y == 0) = false := by simp; exact y0
    go_enter Try.func82, Try.ntmps82
    go_wp2_with (go_at_call 77; (with_reducible refine (ck1 _).mono ?_); rintro _ w1 ⟨rfl, hb⟩)
    go_ret
    exact Gives.mk rfl (by repeat' (first | (with_reducible exact Below.refl _ _) | (with_reducible refine Below.alloc ?_ ?_ _) | (with_reducible refine Below.setCell ?_ ?_ _) | (with_reducible refine Below.drew ?_) | (with_reducible refine Below.trans ?_ (Below.mono (by assumption) ?_)) | (simp; done) | (simp; omega) | omega))
theorem capQ_le {V d : Int} (d0 : 0 < d) (V0 : 0 ≤ V) : 0 ≤ Sp.capQ V d ∧ Sp.capQ V d ≤ 1000000000000000 := by
  unfold Sp.capQ
  have := Int.ediv_nonneg V0 (Int.le_of_lt d0)
  split <;> omega
theorem parts_of {V : Int} (V0 : 0 ≤ V) (K : Int) (hV : V ≤ K * 1000000000000000) : 0 ≤ V / 1000000000000000 ∧ V / 1000000000000000 ≤ K ∧ 0 ≤ V % 1000000000000000 ∧ V % 1000000000000000 < 1000000000000000 ∧ V / 1000000000000000 * 1000000000000000 + V % 1000000000000000 = V := by
  omega
theorem prod_le15 {x y : Int} (x1 : x.natAbs ≤ 1000000000000000) (y1 : y.natAbs ≤ 1000000000000000) : 0 ≤ (x.natAbs : Int) * (y.natAbs : Int) ∧ (x.natAbs : Int) * (y.natAbs : Int) ≤ 1000000000000000 * 1000000000000000 :=
  ⟨Int.mul_nonneg (by omega) (by omega), Int.mul_le_mul (by omega) (by omega) (by omega) (by omega)⟩
end Go.Proofs.Ytdimncchejbaaaa
