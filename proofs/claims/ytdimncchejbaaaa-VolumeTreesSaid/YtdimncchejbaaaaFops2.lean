/-
  The functions of package fraction, each by a contract: Div, Compare, Round.
-/
import Derived.Test.YtdimncchejbaaaaFops
namespace Go.Proofs.Ytdimncchejbaaaa
open Go.RowKit
set_option linter.unusedVariables false
set_option linter.unusedSimpArgs false

theorem fchk_recip {n d : Int} (h : Sp.fchk n d = 0) (n0 : 0 < n) : Sp.fchk d n = 0 := by
  rw [Sp.fchk_zero] at h ⊢
  rw [Int.gcd_comm]; omega
theorem fchk_recip_neg {n d : Int} (h : Sp.fchk n d = 0) (n0 : n < 0) : Sp.fchk (-d) (-n) = 0 := by
  rw [Sp.fchk_zero] at h ⊢
  rw [Int.gcd_comm, Int.neg_gcd, Int.gcd_neg]; omega
theorem fround_nonneg (n d : Int) (n0 : 0 ≤ n) (hv : Sp.fchk n d = 0) (w : World) :
    Calls Try.prog 33 #[.agg #[.int .i64 n, .int .i64 d]] w (Gives (.int .i64 ((2 * n + d) / (2 * d))) w) := by
  obtain ⟨d0, _, n1, d1, _⟩ := Sp.fchk_zero.1 hv
  have ck := fun w => fcheck_any n d (by omega) (by omega) (by omega) (by omega) w
  rw [hv] at ck
  obtain ⟨q, hq⟩ : ∃ q, (2 * n + d) / (2 * d) = q := ⟨_, rfl⟩
  have hq2 : (2 * n + d).tdiv (2 * d) = q := by rw [Int.tdiv_eq_ediv_of_nonneg (by omega)]; exact hq
  have qb : 0 ≤ q ∧ q ≤ 2 * n + d := by rw [← hq]; exact ⟨Int.ediv_nonneg (by omega) (by omega), Int.ediv_le_self _ (by omega)⟩
  have q0 := qb.1
  have q1 : q ≤ 3000000000000000 := by omega
  have g : (2 * d == 0) = false := by simp; omega
  have g1 : ¬ 2 * d = 0 := by omega
  rw [hq]
  clear hv hq qb
  go_enter Try.func33, Try.ntmps33
  go_wp2_with (go_at_call 54; refine (ck _).mono ?_; rintro e w1 ⟨rfl, hb⟩; have pz : w.heap.size < (w1).heap.size := Nat.lt_of_lt_of_le (show w.heap.size < _ from (by first | assumption | (simp; done) | (simp; omega) | (dsimp only; omega) | omega)) hb.size; have p0 : (w1).cell? ⟨w.heap.size, 0, none⟩ = some (.int .i64 n) := (hb.cell (p := ⟨w.heap.size, 0, none⟩) (by first | assumption | (simp; done) | (simp; omega) | (dsimp only; omega) | omega)).trans (by first | assumption | (simp [go_sem]; done) | (simp [go_sem, *]; done)); have p1 : (w1).cell? ⟨w.heap.size, 1, none⟩ = some (.int .i64 d) := (hb.cell (p := ⟨w.heap.size, 1, none⟩) (by first | assumption | (simp; done) | (simp; omega) | (dsimp only; omega) | omega)).trans (by first | assumption | (simp [go_sem]; done) | (simp [go_sem, *]; done)); have pf : ∀ o, (w1).frozen? ⟨w.heap.size, o, none⟩ = false := fun o => (hb.frozen (p := ⟨w.heap.size, o, none⟩) (by first | assumption | (simp; done) | (simp; omega) | (dsimp only; omega) | omega)).trans (by first | (simp [go_sem]; done) | (simp [*]; done)))
  go_ret
  exact Gives.mk rfl (by repeat' (first | (with_reducible exact Below.refl _ _) | (with_reducible refine Below.alloc ?_ ?_ _) | (with_reducible refine Below.setCell ?_ ?_ _) | (with_reducible refine Below.drew ?_) | (with_reducible refine below_dn ?_ _) | (with_reducible refine Below.trans ?_ (Below.mono (by assumption) ?_)) | (simp; done) | (simp; omega) | omega))
theorem fround_any (n d : Int) (N0 : -9223372036854775808 ≤ n) (N1 : n ≤ 9223372036854775807) (D0 : -9223372036854775808 ≤ d) (D1 : d ≤ 9223372036854775807) (w : World) :
    Calls Try.prog 33 #[.agg #[.int .i64 n, .int .i64 d]] w (Gives (.int .i64 (Sp.roundF n d)) w) := by
  unfold Sp.roundF
  by_cases hv : Sp.fchk n d = 0
  · rw [if_neg (by omega)]
    by_cases hn : n < 0
    · rw [if_pos hn]
      obtain ⟨d0, n0, n1, d1, _⟩ := Sp.fchk_zero.1 hv
      have hv2 : Sp.fchk (-n) d = 0 := by
        rw [Sp.fchk_zero] at hv ⊢
        rw [Int.neg_gcd]; omega
      have ck := fun w => fcheck_any n d (by omega) (by omega) (by omega) (by omega) w
      rw [hv] at ck
      have op := fun w => fopp_any n d (by omega) (by omega) w
      have ro := fun w => fround_nonneg (-n) d (by omega) hv2 w
      obtain ⟨q, hq⟩ : ∃ q, (2 * (-n) + d) / (2 * d) = q := ⟨_, rfl⟩
      have qb : 0 ≤ q ∧ q ≤ 2 * (-n) + d := by rw [← hq]; exact ⟨Int.ediv_nonneg (by omega) (by omega), Int.ediv_le_self _ (by omega)⟩
      have q0 := qb.1
      have q1 : q ≤ 3000000000000000 := by omega
      rw [hq] at ro ⊢
      clear hv hv2 hq qb
      go_enter Try.func33, Try.ntmps33
      go_wp2_with (first | (go_at_call 54; refine (ck _).mono ?_; rintro e w1 ⟨rfl, hb⟩; have pz : w.heap.size < (w1).heap.size := Nat.lt_of_lt_of_le (show w.heap.size < _ from (by first | assumption | (simp; done) | (simp; omega) | (dsimp only; omega) | omega)) hb.size; have p0 : (w1).cell? ⟨w.heap.size, 0, none⟩ = some (.int .i64 n) := (hb.cell (p := ⟨w.heap.size, 0, none⟩) (by first | assumption | (simp; done) | (simp; omega) | (dsimp only; omega) | omega)).trans (by first | assumption | (simp [go_sem]; done) | (simp [go_sem, *]; done)); have p1 : (w1).cell? ⟨w.heap.size, 1, none⟩ = some (.int .i64 d) := (hb.cell (p := ⟨w.heap.size, 1, none⟩) (by first | assumption | (simp; done) | (simp; omega) | (dsimp only; omega) | omega)).trans (by first | assumption | (simp [go_sem]; done) | (simp [go_sem, *]; done)); have pf : ∀ o, (w1).frozen? ⟨w.heap.size, o, none⟩ = false := fun o => (hb.frozen (p := ⟨w.heap.size, o, none⟩) (by first | assumption | (simp; done) | (simp; omega) | (dsimp only; omega) | omega)).trans (by first | (simp [go_sem]; done) | (simp [*]; done))) | (go_at_call 55; refine (op _).mono ?_; rintro e w' ⟨rfl, rfl⟩) | (go_at_call 33; refine (ro _).mono ?_; rintro e w2 ⟨rfl, hb2⟩))
      go_ret
      exact Gives.mk rfl (by repeat' (first | (with_reducible exact Below.refl _ _) | (with_reducible refine Below.alloc ?_ ?_ _) | (with_reducible refine Below.setCell ?_ ?_ _) | (with_reducible refine Below.drew ?_) | (with_reducible refine below_dn ?_ _) | (with_reducible refine Below.trans ?_ (Below.mono (by assumption) ?_)) | (simp; done) | (simp; omega) | omega))
    · rw [if_neg hn]
      exact fround_nonneg n d (by omega) hv w
  · rw [if_pos hv]
    have ck := fun w => fcheck_any n d N0 N1 D0 D1 w
    obtain ⟨y, hy⟩ : ∃ y, Sp.fchk n d = y := ⟨_, rfl⟩
    rw [hy] at ck hv
    clear hy
    go_enter Try.func33, Try.ntmps33
    go_wp2_with (go_at_call 54; refine (ck _).mono ?_; rintro e w1 ⟨rfl, hb⟩)
    go_ret
    exact Gives.mk rfl (by repeat' (first | (with_reducible exact Below.refl _ _) | (with_reducible refine Below.alloc ?_ ?_ _) | (with_reducible refine Below.setCell ?_ ?_ _) | (with_reducible refine Below.drew ?_) | (with_reducible refine below_dn ?_ _) | (with_reducible refine Below.trans ?_ (Below.mono (by assumption) ?_)) | (simp; done) | (simp; omega) | omega))
end Go.Proofs.Ytdimncchejbaaaa
