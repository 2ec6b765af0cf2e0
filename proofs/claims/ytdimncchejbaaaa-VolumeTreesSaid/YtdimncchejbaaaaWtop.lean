/-
  The exported functions of package wide, each by a contract.
-/
import Derived.Test.YtdimncchejbaaaaWsum
import Derived.Test.YtdimncchejbaaaaWdiv
namespace Go.Proofs.Ytdimncchejbaaaa
open Go.RowKit
set_option linter.unusedVariables false

/-- What is valid, of the halves alone. -/
theorem chk_of {n : Bool} {h l : Int} (hc : Wd.chk ⟨n, h, l⟩ = 0) : h < 9223372036854775808 := by
  unfold Wd.chk at hc
  apply Int.lt_of_not_ge
  intro hx
  rw [if_pos hx] at hc
  omega
/-- firstError of two integers. -/
theorem firstError_two (n1 n2 : Bool) (h1 l1 h2 l2 c d : Int) (b : Nat) (w : World)
    (hb : b < w.heap.size) (hc : Wd.chk ⟨n1, h1, l1⟩ = c) (hd : (if c ≠ 0 then c else Wd.chk ⟨n2, h2, l2⟩) = d)
    (x0 : w.cell? ⟨b, 0, none⟩ = some (.bool n1)) (x1 : w.cell? ⟨b, 1, none⟩ = some (.int .u64 h1)) (x2 : w.cell? ⟨b, 2, none⟩ = some (.int .u64 l1))
    (y0 : w.cell? ⟨b, 3, none⟩ = some (.bool n2)) (y1 : w.cell? ⟨b, 4, none⟩ = some (.int .u64 h2)) (y2 : w.cell? ⟨b, 5, none⟩ = some (.int .u64 l2)) :
    Calls Try.prog 108 #[.slice (some ⟨b, 0, none⟩) 2 2] w (Gives (.int .i64 d) w) := by
  have e0 : ¬ b = w.heap.size := by omega
  have e1 : ¬ b = w.heap.size + 1 := by omega
  have e2 : ¬ b = w.heap.size + 1 + 1 := by omega
  have e3 : ¬ b = w.heap.size + 1 + 1 + 1 := by omega
  by_cases c0 : c = 0
  · subst c0
    simp only [ne_eq, not_true_eq_false, if_false] at hd
    by_cases d0 : d = 0
    · subst d0
      go_enter Try.func108, Try.ntmps108
      go_wp2
      refine wp_loop_rounds 3 ?_
      repeat any_goals (rw [rounds_succ]; go_wp2_with ((go_at_call 107; refine (check_any _ _ _ _).mono ?_; rintro e w' ⟨rfl, rfl⟩)))
      go_ret
      exact Gives.mk rfl (by repeat' (first | (with_reducible exact Below.refl _ _) | (with_reducible refine Below.alloc ?_ ?_ _) | (with_reducible refine Below.setCell ?_ ?_ _) | (with_reducible refine Below.drew ?_) | (with_reducible refine Below.trans ?_ (Below.mono (by assumption) ?_)) | (simp; done) | (simp; omega) | omega))
    · go_enter Try.func108, Try.ntmps108
      go_wp2
      refine wp_loop_rounds 3 ?_
      repeat any_goals (rw [rounds_succ]; go_wp2_with ((go_at_call 107; refine (check_any _ _ _ _).mono ?_; rintro e w' ⟨rfl, rfl⟩)))
      go_ret
      exact Gives.mk rfl (by repeat' (first | (with_reducible exact Below.refl _ _) | (with_reducible refine Below.alloc ?_ ?_ _) | (with_reducible refine Below.setCell ?_ ?_ _) | (with_reducible refine Below.drew ?_) | (with_reducible refine Below.trans ?_ (Below.mono (by assumption) ?_)) | (simp; done) | (simp; omega) | omega))
  · simp only [ne_eq, c0, not_false_eq_true, if_true] at hd
    subst hd
    go_enter Try.func108, Try.ntmps108
    go_wp2
    refine wp_loop_rounds 3 ?_
    repeat any_goals (rw [rounds_succ]; go_wp2_with ((go_at_call 107; refine (check_any _ _ _ _).mono ?_; rintro e w' ⟨rfl, rfl⟩)))
    go_ret
    exact Gives.mk rfl (by repeat' (first | (with_reducible exact Below.refl _ _) | (with_reducible refine Below.alloc ?_ ?_ _) | (with_reducible refine Below.setCell ?_ ?_ _) | (with_reducible refine Below.drew ?_) | (with_reducible refine Below.trans ?_ (Below.mono (by assumption) ?_)) | (simp; done) | (simp; omega) | omega))

theorem add_any (n1 n2 : Bool) (h1 l1 h2 l2 : Int) (f1 : Wd.Fits ⟨n1, h1, l1⟩) (f2 : Wd.Fits ⟨n2, h2, l2⟩) (n : Bool) (h l e : Int)
    (hv : Wd.addS ⟨n1, h1, l1⟩ ⟨n2, h2, l2⟩ = (⟨n, h, l⟩, e)) (w : World) :
    Calls Try.prog 103 #[.agg #[.bool n1, .int .u64 h1, .int .u64 l1], .agg #[.bool n2, .int .u64 h2, .int .u64 l2]] w (Gives (.tuple #[.agg #[.bool n, .int .u64 h, .int .u64 l], .int .i64 e]) w) := by
  obtain ⟨⟨a0, a1⟩, ⟨a2, a3⟩⟩ := f1
  obtain ⟨⟨b0, b1⟩, ⟨b2, b3⟩⟩ := f2
  obtain ⟨c, hc⟩ : ∃ c, Wd.chk ⟨n1, h1, l1⟩ = c := ⟨_, rfl⟩
  obtain ⟨d, hd⟩ : ∃ d, (if c ≠ 0 then c else Wd.chk ⟨n2, h2, l2⟩) = d := ⟨_, rfl⟩
  have fe := fun b w hb x0 x1 x2 y0 y1 y2 => firstError_two n1 n2 h1 l1 h2 l2 c d b w hb hc hd x0 x1 x2 y0 y1 y2
  by_cases d0 : d = 0
  · subst d0
    have hc0 : c = 0 := by
      by_cases c0 : c = 0
      · exact c0
      · rw [if_pos c0] at hd; exact hd
    subst hc0
    simp only [ne_eq, not_true_eq_false, if_false] at hd
    have hs : Wd.lim (Wd.sv n1 (h1 * 18446744073709551616 + l1) + Wd.sv n2 (h2 * 18446744073709551616 + l2)) = (⟨n, h, l⟩, e) := by
      rw [← hv]; unfold Wd.addS; rw [hc, hd]; rfl
    have sm := fun w => sum_any n1 n2 h1 l1 h2 l2 a0 (chk_of hc) a2 a3 b0 (chk_of hd) b2 b3 n h l e hs w
    clear hc hd hs hv
    go_enter Try.func103, Try.ntmps103
    go_wp2_with (first | (go_at_call 108; refine (fe _ _ (by first | assumption | (simp; done) | (simp; omega) | (dsimp only; omega) | omega) (by first | assumption | (simp [go_sem]; done)) (by first | assumption | (simp [go_sem]; done)) (by first | assumption | (simp [go_sem]; done)) (by first | assumption | (simp [go_sem]; done)) (by first | assumption | (simp [go_sem]; done)) (by first | assumption | (simp [go_sem]; done))).mono ?_; rintro e w1 ⟨rfl, hb⟩; have pz : w.heap.size < (w1).heap.size := Nat.lt_of_lt_of_le (show w.heap.size < _ from (by first | assumption | (simp; done) | (simp; omega) | (dsimp only; omega) | omega)) hb.size; have p0 : (w1).cell? ⟨w.heap.size, 0, none⟩ = some (.bool n1) := (hb.cell (p := ⟨w.heap.size, 0, none⟩) (by first | assumption | (simp; done) | (simp; omega) | (dsimp only; omega) | omega)).trans (by first | assumption | (simp [go_sem]; done)); have p1 : (w1).cell? ⟨w.heap.size, 1, none⟩ = some (.int .u64 h1) := (hb.cell (p := ⟨w.heap.size, 1, none⟩) (by first | assumption | (simp; done) | (simp; omega) | (dsimp only; omega) | omega)).trans (by first | assumption | (simp [go_sem]; done)); have p2 : (w1).cell? ⟨w.heap.size, 2, none⟩ = some (.int .u64 l1) := (hb.cell (p := ⟨w.heap.size, 2, none⟩) (by first | assumption | (simp; done) | (simp; omega) | (dsimp only; omega) | omega)).trans (by first | assumption | (simp [go_sem]; done)); have pf : ∀ o, (w1).frozen? ⟨w.heap.size, o, none⟩ = false := fun o => (hb.frozen (p := ⟨w.heap.size, o, none⟩) (by first | assumption | (simp; done) | (simp; omega) | (dsimp only; omega) | omega)).trans (by first | (simp [go_sem]; done) | (simp [*]; done)); have qz : w.heap.size + 1 < (w1).heap.size := Nat.lt_of_lt_of_le (show w.heap.size + 1 < _ from (by first | assumption | (simp; done) | (simp; omega) | (dsimp only; omega) | omega)) hb.size; have q0 : (w1).cell? ⟨w.heap.size + 1, 0, none⟩ = some (.bool n2) := (hb.cell (p := ⟨w.heap.size + 1, 0, none⟩) (by first | assumption | (simp; done) | (simp; omega) | (dsimp only; omega) | omega)).trans (by first | assumption | (simp [go_sem]; done)); have q1 : (w1).cell? ⟨w.heap.size + 1, 1, none⟩ = some (.int .u64 h2) := (hb.cell (p := ⟨w.heap.size + 1, 1, none⟩) (by first | assumption | (simp; done) | (simp; omega) | (dsimp only; omega) | omega)).trans (by first | assumption | (simp [go_sem]; done)); have q2 : (w1).cell? ⟨w.heap.size + 1, 2, none⟩ = some (.int .u64 l2) := (hb.cell (p := ⟨w.heap.size + 1, 2, none⟩) (by first | assumption | (simp; done) | (simp; omega) | (dsimp only; omega) | omega)).trans (by first | assumption | (simp [go_sem]; done)); have qf : ∀ o, (w1).frozen? ⟨w.heap.size + 1, o, none⟩ = false := fun o => (hb.frozen (p := ⟨w.heap.size + 1, o, none⟩) (by first | assumption | (simp; done) | (simp; omega) | (dsimp only; omega) | omega)).trans (by first | (simp [go_sem]; done) | (simp [*]; done)); have rz : w.heap.size + 1 + 1 < (w1).heap.size := Nat.lt_of_lt_of_le (show w.heap.size + 1 + 1 < _ from (by first | assumption | (simp; done) | (simp; omega) | (dsimp only; omega) | omega)) hb.size; have r0 : (w1).cell? ⟨w.heap.size + 1 + 1, 0, none⟩ = some (.bool false) := (hb.cell (p := ⟨w.heap.size + 1 + 1, 0, none⟩) (by first | assumption | (simp; done) | (simp; omega) | (dsimp only; omega) | omega)).trans (by first | assumption | (simp [go_sem]; done)); have r1 : (w1).cell? ⟨w.heap.size + 1 + 1, 1, none⟩ = some (.int .u64 0) := (hb.cell (p := ⟨w.heap.size + 1 + 1, 1, none⟩) (by first | assumption | (simp; done) | (simp; omega) | (dsimp only; omega) | omega)).trans (by first | assumption | (simp [go_sem]; done)); have r2 : (w1).cell? ⟨w.heap.size + 1 + 1, 2, none⟩ = some (.int .u64 0) := (hb.cell (p := ⟨w.heap.size + 1 + 1, 2, none⟩) (by first | assumption | (simp; done) | (simp; omega) | (dsimp only; omega) | omega)).trans (by first | assumption | (simp [go_sem]; done)); have rf : ∀ o, (w1).frozen? ⟨w.heap.size + 1 + 1, o, none⟩ = false := fun o => (hb.frozen (p := ⟨w.heap.size + 1 + 1, o, none⟩) (by first | assumption | (simp; done) | (simp; omega) | (dsimp only; omega) | omega)).trans (by first | (simp [go_sem]; done) | (simp [*]; done))) | (go_at_call 109; refine (sm _).mono ?_; rintro e w2 ⟨rfl, hb⟩; have xz : w.heap.size + 1 + 1 < (w2).heap.size := Nat.lt_of_lt_of_le (show w.heap.size + 1 + 1 < _ from (by first | assumption | (simp; done) | (simp; omega) | (dsimp only; omega) | omega)) hb.size; have x0 : (w2).cell? ⟨w.heap.size + 1 + 1, 0, none⟩ = some (.bool false) := (hb.cell (p := ⟨w.heap.size + 1 + 1, 0, none⟩) (by first | assumption | (simp; done) | (simp; omega) | (dsimp only; omega) | omega)).trans (by first | assumption | (simp [go_sem]; done)); have x1 : (w2).cell? ⟨w.heap.size + 1 + 1, 1, none⟩ = some (.int .u64 0) := (hb.cell (p := ⟨w.heap.size + 1 + 1, 1, none⟩) (by first | assumption | (simp; done) | (simp; omega) | (dsimp only; omega) | omega)).trans (by first | assumption | (simp [go_sem]; done)); have x2 : (w2).cell? ⟨w.heap.size + 1 + 1, 2, none⟩ = some (.int .u64 0) := (hb.cell (p := ⟨w.heap.size + 1 + 1, 2, none⟩) (by first | assumption | (simp; done) | (simp; omega) | (dsimp only; omega) | omega)).trans (by first | assumption | (simp [go_sem]; done)); have xf : ∀ o, (w2).frozen? ⟨w.heap.size + 1 + 1, o, none⟩ = false := fun o => (hb.frozen (p := ⟨w.heap.size + 1 + 1, o, none⟩) (by first | assumption | (simp; done) | (simp; omega) | (dsimp only; omega) | omega)).trans (by first | (simp [go_sem]; done) | (simp [*]; done))))
    refine bodyPost_ret (v := .tuple #[.agg #[.bool n, .int .u64 h, .int .u64 l], .int .i64 e]) (by simp [results, Try.results103, go_sem, x0, x1, x2]) rfl ?_
    exact Gives.mk rfl (by repeat' (first | (with_reducible exact Below.refl _ _) | (with_reducible refine Below.alloc ?_ ?_ _) | (with_reducible refine Below.setCell ?_ ?_ _) | (with_reducible refine Below.drew ?_) | (with_reducible refine Below.trans ?_ (Below.mono (by assumption) ?_)) | (simp; done) | (simp; omega) | omega))
  · have hx : Wd.addS ⟨n1, h1, l1⟩ ⟨n2, h2, l2⟩ = (Wd.zero, d) := by
      unfold Wd.addS
      by_cases c0 : c = 0
      · subst c0
        simp only [ne_eq, not_true_eq_false, if_false] at hd
        rw [hc, hd, if_neg (by omega), if_pos d0]
      · rw [if_pos c0] at hd
        rw [hc, if_pos c0, hd]
    rw [hx] at hv
    obtain ⟨hz, rfl⟩ := Prod.mk.inj hv
    obtain ⟨rfl, rfl, rfl⟩ := Wd.mk.inj hz
    clear hc hd hx hv hz
    go_enter Try.func103, Try.ntmps103
    go_wp2_with (go_at_call 108; refine (fe _ _ (by first | assumption | (simp; done) | (simp; omega) | (dsimp only; omega) | omega) (by first | assumption | (simp [go_sem]; done)) (by first | assumption | (simp [go_sem]; done)) (by first | assumption | (simp [go_sem]; done)) (by first | assumption | (simp [go_sem]; done)) (by first | assumption | (simp [go_sem]; done)) (by first | assumption | (simp [go_sem]; done))).mono ?_; rintro e w1 ⟨rfl, hb⟩; have pz : w.heap.size < (w1).heap.size := Nat.lt_of_lt_of_le (show w.heap.size < _ from (by first | assumption | (simp; done) | (simp; omega) | (dsimp only; omega) | omega)) hb.size; have p0 : (w1).cell? ⟨w.heap.size, 0, none⟩ = some (.bool n1) := (hb.cell (p := ⟨w.heap.size, 0, none⟩) (by first | assumption | (simp; done) | (simp; omega) | (dsimp only; omega) | omega)).trans (by first | assumption | (simp [go_sem]; done)); have p1 : (w1).cell? ⟨w.heap.size, 1, none⟩ = some (.int .u64 h1) := (hb.cell (p := ⟨w.heap.size, 1, none⟩) (by first | assumption | (simp; done) | (simp; omega) | (dsimp only; omega) | omega)).trans (by first | assumption | (simp [go_sem]; done)); have p2 : (w1).cell? ⟨w.heap.size, 2, none⟩ = some (.int .u64 l1) := (hb.cell (p := ⟨w.heap.size, 2, none⟩) (by first | assumption | (simp; done) | (simp; omega) | (dsimp only; omega) | omega)).trans (by first | assumption | (simp [go_sem]; done)); have pf : ∀ o, (w1).frozen? ⟨w.heap.size, o, none⟩ = false := fun o => (hb.frozen (p := ⟨w.heap.size, o, none⟩) (by first | assumption | (simp; done) | (simp; omega) | (dsimp only; omega) | omega)).trans (by first | (simp [go_sem]; done) | (simp [*]; done)); have qz : w.heap.size + 1 < (w1).heap.size := Nat.lt_of_lt_of_le (show w.heap.size + 1 < _ from (by first | assumption | (simp; done) | (simp; omega) | (dsimp only; omega) | omega)) hb.size; have q0 : (w1).cell? ⟨w.heap.size + 1, 0, none⟩ = some (.bool n2) := (hb.cell (p := ⟨w.heap.size + 1, 0, none⟩) (by first | assumption | (simp; done) | (simp; omega) | (dsimp only; omega) | omega)).trans (by first | assumption | (simp [go_sem]; done)); have q1 : (w1).cell? ⟨w.heap.size + 1, 1, none⟩ = some (.int .u64 h2) := (hb.cell (p := ⟨w.heap.size + 1, 1, none⟩) (by first | assumption | (simp; done) | (simp; omega) | (dsimp only; omega) | omega)).trans (by first | assumption | (simp [go_sem]; done)); have q2 : (w1).cell? ⟨w.heap.size + 1, 2, none⟩ = some (.int .u64 l2) := (hb.cell (p := ⟨w.heap.size + 1, 2, none⟩) (by first | assumption | (simp; done) | (simp; omega) | (dsimp only; omega) | omega)).trans (by first | assumption | (simp [go_sem]; done)); have qf : ∀ o, (w1).frozen? ⟨w.heap.size + 1, o, none⟩ = false := fun o => (hb.frozen (p := ⟨w.heap.size + 1, o, none⟩) (by first | assumption | (simp; done) | (simp; omega) | (dsimp only; omega) | omega)).trans (by first | (simp [go_sem]; done) | (simp [*]; done)); have rz : w.heap.size + 1 + 1 < (w1).heap.size := Nat.lt_of_lt_of_le (show w.heap.size + 1 + 1 < _ from (by first | assumption | (simp; done) | (simp; omega) | (dsimp only; omega) | omega)) hb.size; have r0 : (w1).cell? ⟨w.heap.size + 1 + 1, 0, none⟩ = some (.bool false) := (hb.cell (p := ⟨w.heap.size + 1 + 1, 0, none⟩) (by first | assumption | (simp; done) | (simp; omega) | (dsimp only; omega) | omega)).trans (by first | assumption | (simp [go_sem]; done)); have r1 : (w1).cell? ⟨w.heap.size + 1 + 1, 1, none⟩ = some (.int .u64 0) := (hb.cell (p := ⟨w.heap.size + 1 + 1, 1, none⟩) (by first | assumption | (simp; done) | (simp; omega) | (dsimp only; omega) | omega)).trans (by first | assumption | (simp [go_sem]; done)); have r2 : (w1).cell? ⟨w.heap.size + 1 + 1, 2, none⟩ = some (.int .u64 0) := (hb.cell (p := ⟨w.heap.size + 1 + 1, 2, none⟩) (by first | assumption | (simp; done) | (simp; omega) | (dsimp only; omega) | omega)).trans (by first | assumption | (simp [go_sem]; done)); have rf : ∀ o, (w1).frozen? ⟨w.heap.size + 1 + 1, o, none⟩ = false := fun o => (hb.frozen (p := ⟨w.heap.size + 1 + 1, o, none⟩) (by first | assumption | (simp; done) | (simp; omega) | (dsimp only; omega) | omega)).trans (by first | (simp [go_sem]; done) | (simp [*]; done)))
    refine bodyPost_ret (v := .tuple #[.agg #[.bool false, .int .u64 0, .int .u64 0], .int .i64 d]) (by simp [results, Try.results103, go_sem, r0, r1, r2]) rfl ?_
    exact Gives.mk rfl (by repeat' (first | (with_reducible exact Below.refl _ _) | (with_reducible refine Below.alloc ?_ ?_ _) | (with_reducible refine Below.setCell ?_ ?_ _) | (with_reducible refine Below.drew ?_) | (with_reducible refine Below.trans ?_ (Below.mono (by assumption) ?_)) | (simp; done) | (simp; omega) | omega))
end Go.Proofs.Ytdimncchejbaaaa
