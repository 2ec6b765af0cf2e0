/-
  The exported functions of package wide, each by a contract: comparisons.
-/
import Derived.Test.YtcbecfimikpljaaWmul
namespace Go.Proofs.Ytcbecfimikpljaa
open Go.RowKit
set_option linter.unusedVariables false

theorem compare_any (n1 n2 : Bool) (h1 l1 h2 l2 : Int) (f1 : Wd.Fits ⟨n1, h1, l1⟩) (f2 : Wd.Fits ⟨n2, h2, l2⟩) (v : Int)
    (hv : Wd.cmpS ⟨n1, h1, l1⟩ ⟨n2, h2, l2⟩ = v) (w : World) :
    Calls Try.prog 83 #[.agg #[.bool n1, .int .u64 h1, .int .u64 l1], .agg #[.bool n2, .int .u64 h2, .int .u64 l2]] w (Gives (.int .i64 v) w) := by
  have F1 := f1
  have F2 := f2
  obtain ⟨⟨a0, a1⟩, ⟨a2, a3⟩⟩ := f1
  obtain ⟨⟨b0, b1⟩, ⟨b2, b3⟩⟩ := f2
  simp only at a0 a1 a2 a3 b0 b1 b2 b3
  obtain ⟨c, hc⟩ : ∃ c, Wd.chk ⟨n1, h1, l1⟩ = c := ⟨_, rfl⟩
  obtain ⟨d, hd⟩ : ∃ d, (if c ≠ 0 then c else Wd.chk ⟨n2, h2, l2⟩) = d := ⟨_, rfl⟩
  have fe := fun b w hb x0 x1 x2 y0 y1 y2 => firstError_two n1 n2 h1 l1 h2 l2 c d b w hb hc hd x0 x1 x2 y0 y1 y2
  by_cases d0 : d = 0
  · subst d0
    have hc0 : c = 0 := by
      by_cases c0 : c = 0
      · exact c0
      · rw [if_pos c0] at hd; exact hd
    subst hc0
    simp only [ne_eq, not_true_eq_false, if_false] at hd
    unfold Wd.cmpS at hv
    rw [hc, hd, if_neg (by simp)] at hv
    have g1 := Wd.toInt_neg _ hc F1
    have g2 := Wd.toInt_neg _ hd F2
    simp only at g1 g2
    have t1 : Wd.toInt ⟨n1, h1, l1⟩ = Wd.sv n1 (h1 * 18446744073709551616 + l1) := rfl
    have t2 : Wd.toInt ⟨n2, h2, l2⟩ = Wd.sv n2 (h2 * 18446744073709551616 + l2) := rfl
    rw [t1] at hv g1
    rw [t2] at hv g2
    have cm := fun w => compareMagnitudes_any n1 n2 h1 l1 h2 l2 a2 a3 b2 b3 w
    have cm' := fun w => compareMagnitudes_any n2 n1 h2 l2 h1 l1 b2 b3 a2 a3 w
    clear hc hd t1 t2
    unfold Wd.sv at hv g1 g2
    cases n1 <;> cases n2
    · simp only [Bool.false_eq_true, if_false] at hv
      rw [hv] at cm
      clear cm' hv g1 g2 F1 F2
      go_enter Try.func83, Try.ntmps83
      go_wp2_with (first | (go_at_call 94; refine (fe _ _ (by first | assumption | (simp; done) | (simp; omega) | (dsimp only; omega) | omega) (by first | assumption | (simp [go_sem]; done)) (by first | assumption | (simp [go_sem]; done)) (by first | assumption | (simp [go_sem]; done)) (by first | assumption | (simp [go_sem]; done)) (by first | assumption | (simp [go_sem]; done)) (by first | assumption | (simp [go_sem]; done))).mono ?_; rintro e w1 ⟨rfl, hb⟩; have pz : w.heap.size < (w1).heap.size := Nat.lt_of_lt_of_le (show w.heap.size < _ from (by first | assumption | (simp; done) | (simp; omega) | (dsimp only; omega) | omega)) hb.size; have p0 : (w1).cell? ⟨w.heap.size, 0, none⟩ = some (.bool false) := (hb.cell (p := ⟨w.heap.size, 0, none⟩) (by first | assumption | (simp; done) | (simp; omega) | (dsimp only; omega) | omega)).trans (by first | assumption | (simp [go_sem]; done)); have p1 : (w1).cell? ⟨w.heap.size, 1, none⟩ = some (.int .u64 h1) := (hb.cell (p := ⟨w.heap.size, 1, none⟩) (by first | assumption | (simp; done) | (simp; omega) | (dsimp only; omega) | omega)).trans (by first | assumption | (simp [go_sem]; done)); have p2 : (w1).cell? ⟨w.heap.size, 2, none⟩ = some (.int .u64 l1) := (hb.cell (p := ⟨w.heap.size, 2, none⟩) (by first | assumption | (simp; done) | (simp; omega) | (dsimp only; omega) | omega)).trans (by first | assumption | (simp [go_sem]; done)); have pf : ∀ o, (w1).frozen? ⟨w.heap.size, o, none⟩ = false := fun o => (hb.frozen (p := ⟨w.heap.size, o, none⟩) (by first | assumption | (simp; done) | (simp; omega) | (dsimp only; omega) | omega)).trans (by first | (simp [go_sem]; done) | (simp [*]; done)); have qz : w.heap.size + 1 < (w1).heap.size := Nat.lt_of_lt_of_le (show w.heap.size + 1 < _ from (by first | assumption | (simp; done) | (simp; omega) | (dsimp only; omega) | omega)) hb.size; have q0 : (w1).cell? ⟨w.heap.size + 1, 0, none⟩ = some (.bool false) := (hb.cell (p := ⟨w.heap.size + 1, 0, none⟩) (by first | assumption | (simp; done) | (simp; omega) | (dsimp only; omega) | omega)).trans (by first | assumption | (simp [go_sem]; done)); have q1 : (w1).cell? ⟨w.heap.size + 1, 1, none⟩ = some (.int .u64 h2) := (hb.cell (p := ⟨w.heap.size + 1, 1, none⟩) (by first | assumption | (simp; done) | (simp; omega) | (dsimp only; omega) | omega)).trans (by first | assumption | (simp [go_sem]; done)); have q2 : (w1).cell? ⟨w.heap.size + 1, 2, none⟩ = some (.int .u64 l2) := (hb.cell (p := ⟨w.heap.size + 1, 2, none⟩) (by first | assumption | (simp; done) | (simp; omega) | (dsimp only; omega) | omega)).trans (by first | assumption | (simp [go_sem]; done)); have qf : ∀ o, (w1).frozen? ⟨w.heap.size + 1, o, none⟩ = false := fun o => (hb.frozen (p := ⟨w.heap.size + 1, o, none⟩) (by first | assumption | (simp; done) | (simp; omega) | (dsimp only; omega) | omega)).trans (by first | (simp [go_sem]; done) | (simp [*]; done))) | (go_at_call 95; refine (cm _).mono ?_; rintro e w' ⟨rfl, rfl⟩))
      go_ret
      exact Gives.mk rfl (by repeat' (first | (with_reducible exact Below.refl _ _) | (with_reducible refine Below.alloc ?_ ?_ _) | (with_reducible refine Below.setCell ?_ ?_ _) | (with_reducible refine Below.drew ?_) | (with_reducible refine Below.trans ?_ (Below.mono (by assumption) ?_)) | (simp; done) | (simp; omega) | omega))
    · have e : v = 1 := by
        rw [← hv]; simp only [Bool.false_eq_true, if_false, if_true]; unfold Wd.cmpI
        simp at g1 g2
        rw [if_neg (by omega), if_neg (by omega)]
      subst e
      clear cm cm' hv g1 g2 F1 F2
      go_enter Try.func83, Try.ntmps83
      go_wp2_with (first | (go_at_call 94; refine (fe _ _ (by first | assumption | (simp; done) | (simp; omega) | (dsimp only; omega) | omega) (by first | assumption | (simp [go_sem]; done)) (by first | assumption | (simp [go_sem]; done)) (by first | assumption | (simp [go_sem]; done)) (by first | assumption | (simp [go_sem]; done)) (by first | assumption | (simp [go_sem]; done)) (by first | assumption | (simp [go_sem]; done))).mono ?_; rintro e w1 ⟨rfl, hb⟩; have pz : w.heap.size < (w1).heap.size := Nat.lt_of_lt_of_le (show w.heap.size < _ from (by first | assumption | (simp; done) | (simp; omega) | (dsimp only; omega) | omega)) hb.size; have p0 : (w1).cell? ⟨w.heap.size, 0, none⟩ = some (.bool false) := (hb.cell (p := ⟨w.heap.size, 0, none⟩) (by first | assumption | (simp; done) | (simp; omega) | (dsimp only; omega) | omega)).trans (by first | assumption | (simp [go_sem]; done)); have p1 : (w1).cell? ⟨w.heap.size, 1, none⟩ = some (.int .u64 h1) := (hb.cell (p := ⟨w.heap.size, 1, none⟩) (by first | assumption | (simp; done) | (simp; omega) | (dsimp only; omega) | omega)).trans (by first | assumption | (simp [go_sem]; done)); have p2 : (w1).cell? ⟨w.heap.size, 2, none⟩ = some (.int .u64 l1) := (hb.cell (p := ⟨w.heap.size, 2, none⟩) (by first | assumption | (simp; done) | (simp; omega) | (dsimp only; omega) | omega)).trans (by first | assumption | (simp [go_sem]; done)); have pf : ∀ o, (w1).frozen? ⟨w.heap.size, o, none⟩ = false := fun o => (hb.frozen (p := ⟨w.heap.size, o, none⟩) (by first | assumption | (simp; done) | (simp; omega) | (dsimp only; omega) | omega)).trans (by first | (simp [go_sem]; done) | (simp [*]; done)); have qz : w.heap.size + 1 < (w1).heap.size := Nat.lt_of_lt_of_le (show w.heap.size + 1 < _ from (by first | assumption | (simp; done) | (simp; omega) | (dsimp only; omega) | omega)) hb.size; have q0 : (w1).cell? ⟨w.heap.size + 1, 0, none⟩ = some (.bool true) := (hb.cell (p := ⟨w.heap.size + 1, 0, none⟩) (by first | assumption | (simp; done) | (simp; omega) | (dsimp only; omega) | omega)).trans (by first | assumption | (simp [go_sem]; done)); have q1 : (w1).cell? ⟨w.heap.size + 1, 1, none⟩ = some (.int .u64 h2) := (hb.cell (p := ⟨w.heap.size + 1, 1, none⟩) (by first | assumption | (simp; done) | (simp; omega) | (dsimp only; omega) | omega)).trans (by first | assumption | (simp [go_sem]; done)); have q2 : (w1).cell? ⟨w.heap.size + 1, 2, none⟩ = some (.int .u64 l2) := (hb.cell (p := ⟨w.heap.size + 1, 2, none⟩) (by first | assumption | (simp; done) | (simp; omega) | (dsimp only; omega) | omega)).trans (by first | assumption | (simp [go_sem]; done)); have qf : ∀ o, (w1).frozen? ⟨w.heap.size + 1, o, none⟩ = false := fun o => (hb.frozen (p := ⟨w.heap.size + 1, o, none⟩) (by first | assumption | (simp; done) | (simp; omega) | (dsimp only; omega) | omega)).trans (by first | (simp [go_sem]; done) | (simp [*]; done))))
      go_ret
      exact Gives.mk rfl (by repeat' (first | (with_reducible exact Below.refl _ _) | (with_reducible refine Below.alloc ?_ ?_ _) | (with_reducible refine Below.setCell ?_ ?_ _) | (with_reducible refine Below.drew ?_) | (with_reducible refine Below.trans ?_ (Below.mono (by assumption) ?_)) | (simp; done) | (simp; omega) | omega))
    · have e : v = -1 := by
        rw [← hv]; simp only [Bool.false_eq_true, if_false, if_true]; unfold Wd.cmpI
        simp at g1 g2
        rw [if_pos (by omega)]
      subst e
      clear cm cm' hv g1 g2 F1 F2
      go_enter Try.func83, Try.ntmps83
      go_wp2_with (first | (go_at_call 94; refine (fe _ _ (by first | assumption | (simp; done) | (simp; omega) | (dsimp only; omega) | omega) (by first | assumption | (simp [go_sem]; done)) (by first | assumption | (simp [go_sem]; done)) (by first | assumption | (simp [go_sem]; done)) (by first | assumption | (simp [go_sem]; done)) (by first | assumption | (simp [go_sem]; done)) (by first | assumption | (simp [go_sem]; done))).mono ?_; rintro e w1 ⟨rfl, hb⟩; have pz : w.heap.size < (w1).heap.size := Nat.lt_of_lt_of_le (show w.heap.size < _ from (by first | assumption | (simp; done) | (simp; omega) | (dsimp only; omega) | omega)) hb.size; have p0 : (w1).cell? ⟨w.heap.size, 0, none⟩ = some (.bool true) := (hb.cell (p := ⟨w.heap.size, 0, none⟩) (by first | assumption | (simp; done) | (simp; omega) | (dsimp only; omega) | omega)).trans (by first | assumption | (simp [go_sem]; done)); have p1 : (w1).cell? ⟨w.heap.size, 1, none⟩ = some (.int .u64 h1) := (hb.cell (p := ⟨w.heap.size, 1, none⟩) (by first | assumption | (simp; done) | (simp; omega) | (dsimp only; omega) | omega)).trans (by first | assumption | (simp [go_sem]; done)); have p2 : (w1).cell? ⟨w.heap.size, 2, none⟩ = some (.int .u64 l1) := (hb.cell (p := ⟨w.heap.size, 2, none⟩) (by first | assumption | (simp; done) | (simp; omega) | (dsimp only; omega) | omega)).trans (by first | assumption | (simp [go_sem]; done)); have pf : ∀ o, (w1).frozen? ⟨w.heap.size, o, none⟩ = false := fun o => (hb.frozen (p := ⟨w.heap.size, o, none⟩) (by first | assumption | (simp; done) | (simp; omega) | (dsimp only; omega) | omega)).trans (by first | (simp [go_sem]; done) | (simp [*]; done)); have qz : w.heap.size + 1 < (w1).heap.size := Nat.lt_of_lt_of_le (show w.heap.size + 1 < _ from (by first | assumption | (simp; done) | (simp; omega) | (dsimp only; omega) | omega)) hb.size; have q0 : (w1).cell? ⟨w.heap.size + 1, 0, none⟩ = some (.bool false) := (hb.cell (p := ⟨w.heap.size + 1, 0, none⟩) (by first | assumption | (simp; done) | (simp; omega) | (dsimp only; omega) | omega)).trans (by first | assumption | (simp [go_sem]; done)); have q1 : (w1).cell? ⟨w.heap.size + 1, 1, none⟩ = some (.int .u64 h2) := (hb.cell (p := ⟨w.heap.size + 1, 1, none⟩) (by first | assumption | (simp; done) | (simp; omega) | (dsimp only; omega) | omega)).trans (by first | assumption | (simp [go_sem]; done)); have q2 : (w1).cell? ⟨w.heap.size + 1, 2, none⟩ = some (.int .u64 l2) := (hb.cell (p := ⟨w.heap.size + 1, 2, none⟩) (by first | assumption | (simp; done) | (simp; omega) | (dsimp only; omega) | omega)).trans (by first | assumption | (simp [go_sem]; done)); have qf : ∀ o, (w1).frozen? ⟨w.heap.size + 1, o, none⟩ = false := fun o => (hb.frozen (p := ⟨w.heap.size + 1, o, none⟩) (by first | assumption | (simp; done) | (simp; omega) | (dsimp only; omega) | omega)).trans (by first | (simp [go_sem]; done) | (simp [*]; done))))
      go_ret
      exact Gives.mk rfl (by repeat' (first | (with_reducible exact Below.refl _ _) | (with_reducible refine Below.alloc ?_ ?_ _) | (with_reducible refine Below.setCell ?_ ?_ _) | (with_reducible refine Below.drew ?_) | (with_reducible refine Below.trans ?_ (Below.mono (by assumption) ?_)) | (simp; done) | (simp; omega) | omega))
    · have e : v = Wd.cmpI (h2 * 18446744073709551616 + l2) (h1 * 18446744073709551616 + l1) := by
        rw [← hv]; simp only [if_true]; unfold Wd.cmpI
        split <;> split <;> (try split) <;> (try split) <;> omega
      rw [← e] at cm'
      clear cm hv g1 g2 F1 F2 e
      go_enter Try.func83, Try.ntmps83
      go_wp2_with (first | (go_at_call 94; refine (fe _ _ (by first | assumption | (simp; done) | (simp; omega) | (dsimp only; omega) | omega) (by first | assumption | (simp [go_sem]; done)) (by first | assumption | (simp [go_sem]; done)) (by first | assumption | (simp [go_sem]; done)) (by first | assumption | (simp [go_sem]; done)) (by first | assumption | (simp [go_sem]; done)) (by first | assumption | (simp [go_sem]; done))).mono ?_; rintro e w1 ⟨rfl, hb⟩; have pz : w.heap.size < (w1).heap.size := Nat.lt_of_lt_of_le (show w.heap.size < _ from (by first | assumption | (simp; done) | (simp; omega) | (dsimp only; omega) | omega)) hb.size; have p0 : (w1).cell? ⟨w.heap.size, 0, none⟩ = some (.bool true) := (hb.cell (p := ⟨w.heap.size, 0, none⟩) (by first | assumption | (simp; done) | (simp; omega) | (dsimp only; omega) | omega)).trans (by first | assumption | (simp [go_sem]; done)); have p1 : (w1).cell? ⟨w.heap.size, 1, none⟩ = some (.int .u64 h1) := (hb.cell (p := ⟨w.heap.size, 1, none⟩) (by first | assumption | (simp; done) | (simp; omega) | (dsimp only; omega) | omega)).trans (by first | assumption | (simp [go_sem]; done)); have p2 : (w1).cell? ⟨w.heap.size, 2, none⟩ = some (.int .u64 l1) := (hb.cell (p := ⟨w.heap.size, 2, none⟩) (by first | assumption | (simp; done) | (simp; omega) | (dsimp only; omega) | omega)).trans (by first | assumption | (simp [go_sem]; done)); have pf : ∀ o, (w1).frozen? ⟨w.heap.size, o, none⟩ = false := fun o => (hb.frozen (p := ⟨w.heap.size, o, none⟩) (by first | assumption | (simp; done) | (simp; omega) | (dsimp only; omega) | omega)).trans (by first | (simp [go_sem]; done) | (simp [*]; done)); have qz : w.heap.size + 1 < (w1).heap.size := Nat.lt_of_lt_of_le (show w.heap.size + 1 < _ from (by first | assumption | (simp; done) | (simp; omega) | (dsimp only; omega) | omega)) hb.size; have q0 : (w1).cell? ⟨w.heap.size + 1, 0, none⟩ = some (.bool true) := (hb.cell (p := ⟨w.heap.size + 1, 0, none⟩) (by first | assumption | (simp; done) | (simp; omega) | (dsimp only; omega) | omega)).trans (by first | assumption | (simp [go_sem]; done)); have q1 : (w1).cell? ⟨w.heap.size + 1, 1, none⟩ = some (.int .u64 h2) := (hb.cell (p := ⟨w.heap.size + 1, 1, none⟩) (by first | assumption | (simp; done) | (simp; omega) | (dsimp only; omega) | omega)).trans (by first | assumption | (simp [go_sem]; done)); have q2 : (w1).cell? ⟨w.heap.size + 1, 2, none⟩ = some (.int .u64 l2) := (hb.cell (p := ⟨w.heap.size + 1, 2, none⟩) (by first | assumption | (simp; done) | (simp; omega) | (dsimp only; omega) | omega)).trans (by first | assumption | (simp [go_sem]; done)); have qf : ∀ o, (w1).frozen? ⟨w.heap.size + 1, o, none⟩ = false := fun o => (hb.frozen (p := ⟨w.heap.size + 1, o, none⟩) (by first | assumption | (simp; done) | (simp; omega) | (dsimp only; omega) | omega)).trans (by first | (simp [go_sem]; done) | (simp [*]; done))) | (go_at_call 95; refine (cm' _).mono ?_; rintro e w' ⟨rfl, rfl⟩))
      go_ret
      exact Gives.mk rfl (by repeat' (first | (with_reducible exact Below.refl _ _) | (with_reducible refine Below.alloc ?_ ?_ _) | (with_reducible refine Below.setCell ?_ ?_ _) | (with_reducible refine Below.drew ?_) | (with_reducible refine Below.trans ?_ (Below.mono (by assumption) ?_)) | (simp; done) | (simp; omega) | omega))
  · have e : v = 0 := by
      rw [← hv]
      unfold Wd.cmpS
      rw [if_pos]
      by_cases c0 : c = 0
      · right
        intro hx
        apply d0
        rw [← hd, if_neg (by simp [c0])]; exact hx
      · left; rw [hc]; exact c0
    subst e
    clear hv hc hd F1 F2
    go_enter Try.func83, Try.ntmps83
    go_wp2_with (go_at_call 94; refine (fe _ _ (by first | assumption | (simp; done) | (simp; omega) | (dsimp only; omega) | omega) (by first | assumption | (simp [go_sem]; done)) (by first | assumption | (simp [go_sem]; done)) (by first | assumption | (simp [go_sem]; done)) (by first | assumption | (simp [go_sem]; done)) (by first | assumption | (simp [go_sem]; done)) (by first | assumption | (simp [go_sem]; done))).mono ?_; rintro e w1 ⟨rfl, hb⟩)
    go_ret
    exact Gives.mk rfl (by repeat' (first | (with_reducible exact Below.refl _ _) | (with_reducible refine Below.alloc ?_ ?_ _) | (with_reducible refine Below.setCell ?_ ?_ _) | (with_reducible refine Below.drew ?_) | (with_reducible refine Below.trans ?_ (Below.mono (by assumption) ?_)) | (simp; done) | (simp; omega) | omega))

theorem products_any (a b c d : Int) (a0 : -9223372036854775808 ≤ a) (a1 : a ≤ 9223372036854775807) (b0 : -9223372036854775808 ≤ b) (b1 : b ≤ 9223372036854775807)
    (c0 : -9223372036854775808 ≤ c) (c1 : c ≤ 9223372036854775807) (d0 : -9223372036854775808 ≤ d) (d1 : d ≤ 9223372036854775807) (w : World) :
    Calls Try.prog 62 #[.int .i64 a, .int .i64 b, .int .i64 c, .int .i64 d] w (Gives (.int .i64 (Wd.cmpI (a * b) (c * d))) w) := by
  have lt : ∀ x y : Int, -9223372036854775808 ≤ x → x ≤ 9223372036854775807 → -9223372036854775808 ≤ y → y ≤ 9223372036854775807 → (x * y).natAbs < 170141183460469231731687303715884105728 := fun x y x0 x1 y0 y1 => by
    have h := nat_mul_le (a := x) (b := y) (c := 9223372036854775808) (by omega) (by omega) (by omega)
    rw [← Int.natCast_mul, ← Int.natAbs_mul] at h
    omega
  have p1 := lt a b a0 a1 b0 b1
  have p2 := lt c d c0 c1 d0 d1
  obtain ⟨⟨n1, h1, l1⟩, hA⟩ : ∃ x, Wd.ofInt (a * b) = x := ⟨_, rfl⟩
  obtain ⟨⟨n2, h2, l2⟩, hB⟩ : ∃ x, Wd.ofInt (c * d) = x := ⟨_, rfl⟩
  have f1 := Wd.fits_ofInt (a * b) (by omega)
  have f2 := Wd.fits_ofInt (c * d) (by omega)
  have k1 := Wd.chk_ofInt (a * b) p1
  have k2 := Wd.chk_ofInt (c * d) p2
  have t1 := Wd.toInt_ofInt (a * b)
  have t2 := Wd.toInt_ofInt (c * d)
  rw [hA] at f1 k1 t1
  rw [hB] at f2 k2 t2
  have hv : Wd.cmpS ⟨n1, h1, l1⟩ ⟨n2, h2, l2⟩ = Wd.cmpI (a * b) (c * d) := by
    unfold Wd.cmpS; rw [k1, k2, t1, t2, if_neg (by simp)]
  have m1 := fun w => mul_any a b a0 a1 b0 b1 n1 h1 l1 hA w
  have m2 := fun w => mul_any c d c0 c1 d0 d1 n2 h2 l2 hB w
  have cm := fun w => compare_any n1 n2 h1 l1 h2 l2 f1 f2 _ hv w
  clear lt p1 p2 hA hB f1 f2 k1 k2 t1 t2 hv
  obtain ⟨v, hvv⟩ : ∃ v, Wd.cmpI (a * b) (c * d) = v := ⟨_, rfl⟩
  rw [hvv] at cm ⊢
  clear hvv
  go_enter Try.func62, Try.ntmps62
  go_wp2_with fail
  refine (m1 _).mono ?_; rintro e w' ⟨rfl, rfl⟩
  go_wp2_with fail
  refine (m2 _).mono ?_; rintro e w' ⟨rfl, rfl⟩
  go_wp2_with (go_at_call 83; refine (cm _).mono ?_; rintro e w' ⟨rfl, hb⟩)
  go_ret
  exact Gives.mk rfl (by repeat' (first | (with_reducible exact Below.refl _ _) | (with_reducible refine Below.alloc ?_ ?_ _) | (with_reducible refine Below.setCell ?_ ?_ _) | (with_reducible refine Below.drew ?_) | (with_reducible refine Below.trans ?_ (Below.mono (by assumption) ?_)) | (simp; done) | (simp; omega) | omega))
end Go.Proofs.Ytcbecfimikpljaa
