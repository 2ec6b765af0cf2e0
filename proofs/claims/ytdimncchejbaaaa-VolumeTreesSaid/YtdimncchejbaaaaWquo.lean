/-
  The exported functions of package wide, each by a contract: quotients, ints.
-/
import Derived.Test.YtdimncchejbaaaaWmul
namespace Go.Proofs.Ytdimncchejbaaaa
open Go.RowKit
set_option linter.unusedVariables false

theorem divide_walk (hi lo d q1 r1 q2 r2 : Int) (d1 : 1 ≤ d) (g : (d == 0) = false) (h0 : 0 ≤ hi) (e1 : IntKind.u64.wrap (hi.tdiv d) = q1) (e2 : hi % d = r1) (w : World)
    (dv : ∀ w : World, Calls Try.prog 115 #[.int .u64 r1, .int .u64 lo, .int .u64 d] w (Gives (.tuple #[.int .u64 q2, .int .u64 r2]) w)) :
    Calls Try.prog 110 #[.int .u64 hi, .int .u64 lo, .int .u64 d] w (Gives (.tuple #[.int .u64 q1, .int .u64 q2, .int .u64 r2]) w) := by
  go_enter Try.func110, Try.ntmps110
  go_wp2
  go_quiet (fail)
  go_wp2_with (go_at_call 115; refine (dv _).mono ?_; rintro e w' ⟨rfl, hb⟩)
  go_ret3
  exact Gives.mk rfl ((below_drewN _).trans (hb.mono (by simp)))
/-- The quotient of the magnitude in two halves, and the remainder. -/
theorem divide_any (hi lo d : Int) (h0 : 0 ≤ hi) (h1 : hi < 18446744073709551616) (l0 : 0 ≤ lo) (l1 : lo < 18446744073709551616) (d0 : 0 < d) (d1 : d < 18446744073709551616)
    (a b r : Int) (ha : (hi * 18446744073709551616 + lo) / d / 18446744073709551616 = a) (hb : (hi * 18446744073709551616 + lo) / d % 18446744073709551616 = b) (hr : (hi * 18446744073709551616 + lo) % d = r) (w : World) :
    Calls Try.prog 110 #[.int .u64 hi, .int .u64 lo, .int .u64 d] w (Gives (.tuple #[.int .u64 a, .int .u64 b, .int .u64 r]) w) := by
  have m0 := Int.emod_nonneg hi (show d ≠ 0 by omega)
  have m1 := Int.emod_lt_of_pos hi d0
  have q0 : 0 ≤ hi / d := Int.ediv_nonneg h0 (by omega)
  have q1 : hi / d ≤ hi := Int.ediv_le_self _ h0
  have hm := Int.emod_add_mul_ediv hi d
  have dv := fun w => div64_any (hi % d) lo d m0 m1 l0 l1 d1 w
  have e : hi * 18446744073709551616 + lo = d * (hi / d * 18446744073709551616) + (hi % d * 18446744073709551616 + lo) := by
    rw [← Int.mul_assoc]
    generalize d * (hi / d) = p at *
    omega
  have s0 : 0 ≤ (hi % d * 18446744073709551616 + lo) / d := Int.ediv_nonneg (by omega) (by omega)
  have s1 : (hi % d * 18446744073709551616 + lo) / d < 18446744073709551616 := by
    rw [Int.ediv_lt_iff_lt_mul d0]
    omega
  have eq : (hi * 18446744073709551616 + lo) / d = hi / d * 18446744073709551616 + (hi % d * 18446744073709551616 + lo) / d := by
    rw [e, Int.add_comm, Int.add_mul_ediv_left _ _ (by omega), Int.add_comm]
  have er : (hi * 18446744073709551616 + lo) % d = (hi % d * 18446744073709551616 + lo) % d := by
    rw [e, Int.add_comm, Int.add_mul_emod_self_left]
  rw [er] at hr
  rw [eq] at ha hb
  have e1 : IntKind.u64.wrap (hi.tdiv d) = hi / d := by
    rw [Int.tdiv_eq_ediv_of_nonneg h0, IntKind.wrap_u64]; omega
  have ea : a = hi / d := by
    rw [← ha]
    generalize hi / d = x at *
    generalize (hi % d * 18446744073709551616 + lo) / d = y at *
    omega
  have eb : b = (hi % d * 18446744073709551616 + lo) / d := by
    rw [← hb]
    generalize hi / d = x at *
    generalize (hi % d * 18446744073709551616 + lo) / d = y at *
    omega
  rw [ea, eb, ← hr]
  exact divide_walk hi lo d _ _ _ _ (by omega) (by simp; omega) h0 e1 rfl w dv
/-- From bounds on a number of 128 bits to bounds on its quotient's halves. -/
theorem halves_of {m d a b r : Int} (m0 : 0 ≤ m) (m1 : m < 170141183460469231731687303715884105728) (d0 : 0 < d) (ha : m / d / 18446744073709551616 = a) (hb : m / d % 18446744073709551616 = b) (hr : m % d = r) :
    0 ≤ a ∧ a < 9223372036854775808 ∧ 0 ≤ b ∧ b < 18446744073709551616 ∧ 0 ≤ r ∧ r < d ∧ m = d * (a * 18446744073709551616 + b) + r ∧ (a * 18446744073709551616 + b) ≤ m ∧ a * 18446744073709551616 + b = m / d := by
  have q0 : 0 ≤ m / d := Int.ediv_nonneg m0 (by omega)
  have q1 : m / d ≤ m := Int.ediv_le_self _ m0
  have hm := Int.emod_add_mul_ediv m d
  have r0 := Int.emod_nonneg m (show d ≠ 0 by omega)
  have r1 := Int.emod_lt_of_pos m d0
  have e : a * 18446744073709551616 + b = m / d := by omega
  rw [e]
  refine ⟨by omega, by omega, by omega, by omega, by omega, by omega, by omega, by omega, rfl⟩
theorem divFloor_bad (n1 : Bool) (h1 l1 d c : Int) (w : World) (c0 : ¬ c = 0)
    (ck : ∀ w : World, Calls Try.prog 107 #[.agg #[.bool n1, .int .u64 h1, .int .u64 l1]] w fun e w' => e = .returned (.int .i64 c) ∧ w' = w.alloc (Obj.cells #[.bool n1, .int .u64 h1, .int .u64 l1] 114)) :
    Calls Try.prog 105 #[.agg #[.bool n1, .int .u64 h1, .int .u64 l1], .int .i64 d] w (Gives (.tuple #[.agg #[.bool false, .int .u64 0, .int .u64 0], .int .i64 0, .int .i64 c]) w) := by
  go_enter Try.func105, Try.ntmps105
  go_wp2_with (go_at_call 107; refine (ck _).mono ?_; rintro e w' ⟨rfl, rfl⟩)
  go_returns
  exact Gives.mk rfl (by repeat' (first | (with_reducible exact Below.refl _ _) | (with_reducible refine Below.alloc ?_ ?_ _) | (with_reducible refine Below.setCell ?_ ?_ _) | (with_reducible refine Below.drew ?_) | (with_reducible refine Below.trans ?_ (Below.mono (by assumption) ?_)) | (simp; done) | (simp; omega) | omega))
theorem divFloor_zero (n1 : Bool) (h1 l1 : Int) (w : World)
    (ck : ∀ w : World, Calls Try.prog 107 #[.agg #[.bool n1, .int .u64 h1, .int .u64 l1]] w fun e w' => e = .returned (.int .i64 0) ∧ w' = w.alloc (Obj.cells #[.bool n1, .int .u64 h1, .int .u64 l1] 114)) :
    Calls Try.prog 105 #[.agg #[.bool n1, .int .u64 h1, .int .u64 l1], .int .i64 0] w (Gives (.tuple #[.agg #[.bool false, .int .u64 0, .int .u64 0], .int .i64 0, .int .i64 18]) w) := by
  go_enter Try.func105, Try.ntmps105
  go_wp2_with (go_at_call 107; refine (ck _).mono ?_; rintro e w' ⟨rfl, rfl⟩)
  go_returns
  exact Gives.mk rfl (by repeat' (first | (with_reducible exact Below.refl _ _) | (with_reducible refine Below.alloc ?_ ?_ _) | (with_reducible refine Below.setCell ?_ ?_ _) | (with_reducible refine Below.drew ?_) | (with_reducible refine Below.trans ?_ (Below.mono (by assumption) ?_)) | (simp; done) | (simp; omega) | omega))
/-- The walk where nothing is added to the quotient of the magnitudes. -/
theorem divFloor_same (n1 : Bool) (h1 l1 d f a b r : Int) (n : Bool) (w : World) (g : (d == 0) = false) (s : Bool) (hs : (n1 != decide (d < 0)) = s) (hz : s = false ∨ r = 0) (rs : Int)
    (hrs : (if d < 0 then -r else r) = rs) (r0 : 0 ≤ r) (r1 : r ≤ 9223372036854775807)
    (ck : ∀ w : World, Calls Try.prog 107 #[.agg #[.bool n1, .int .u64 h1, .int .u64 l1]] w fun e w' => e = .returned (.int .i64 0) ∧ w' = w.alloc (Obj.cells #[.bool n1, .int .u64 h1, .int .u64 l1] 114))
    (ma : ∀ w : World, Calls Try.prog 101 #[.int .i64 d] w fun e w' => e = .returned (.int .u64 f) ∧ w' = w)
    (dv : ∀ w : World, Calls Try.prog 110 #[.int .u64 h1, .int .u64 l1, .int .u64 f] w (Gives (.tuple #[.int .u64 a, .int .u64 b, .int .u64 r]) w))
    (sg : ∀ w : World, Calls Try.prog 102 #[.bool s, .int .u64 a, .int .u64 b] w fun e w' => e = .returned (.agg #[.bool n, .int .u64 a, .int .u64 b]) ∧ w' = w.alloc (Obj.cells #[.bool n, .int .u64 a, .int .u64 b] 114)) :
    Calls Try.prog 105 #[.agg #[.bool n1, .int .u64 h1, .int .u64 l1], .int .i64 d] w (Gives (.tuple #[.agg #[.bool n, .int .u64 a, .int .u64 b], .int .i64 rs, .int .i64 0]) w) := by
  have arms : True := trivial
  by_cases hd : d < 0
  · rw [if_pos hd] at hrs
    subst hrs
    cases n1
    · have hs1 : s = true := by rw [← hs]; simp [hd]
      subst hs1
      have hz1 : r = 0 := by
        rcases hz with h | h
        · simp at h
        · exact h
      subst hz1
      clear hs hz arms
      go_enter Try.func105, Try.ntmps105
      go_wp2_with (first | (go_at_call 107; refine (ck _).mono ?_; rintro e w' ⟨rfl, rfl⟩) | (go_at_call 101; refine (ma _).mono ?_; rintro e w' ⟨rfl, rfl⟩) | (go_at_call 102; refine (sg _).mono ?_; rintro e w' ⟨rfl, rfl⟩) | (go_at_call 110; refine (dv _).mono ?_; rintro e w' ⟨rfl, hb⟩; have pz : w.heap.size < (w').heap.size := Nat.lt_of_lt_of_le (show w.heap.size < _ from (by first | assumption | (simp; done) | (simp; omega) | (dsimp only; omega) | omega)) hb.size; have p0 : (w').cell? ⟨w.heap.size, 0, none⟩ = some (.bool false) := (hb.cell (p := ⟨w.heap.size, 0, none⟩) (by first | assumption | (simp; done) | (simp; omega) | (dsimp only; omega) | omega)).trans (by first | assumption | (simp [go_sem]; done)); have p1 : (w').cell? ⟨w.heap.size, 1, none⟩ = some (.int .u64 h1) := (hb.cell (p := ⟨w.heap.size, 1, none⟩) (by first | assumption | (simp; done) | (simp; omega) | (dsimp only; omega) | omega)).trans (by first | assumption | (simp [go_sem]; done)); have p2 : (w').cell? ⟨w.heap.size, 2, none⟩ = some (.int .u64 l1) := (hb.cell (p := ⟨w.heap.size, 2, none⟩) (by first | assumption | (simp; done) | (simp; omega) | (dsimp only; omega) | omega)).trans (by first | assumption | (simp [go_sem]; done)); have pf : ∀ o, (w').frozen? ⟨w.heap.size, o, none⟩ = false := fun o => (hb.frozen (p := ⟨w.heap.size, o, none⟩) (by first | assumption | (simp; done) | (simp; omega) | (dsimp only; omega) | omega)).trans (by first | (simp [go_sem]; done) | (simp [*]; done)); have xz : w.heap.size + 1 < (w').heap.size := Nat.lt_of_lt_of_le (show w.heap.size + 1 < _ from (by first | assumption | (simp; done) | (simp; omega) | (dsimp only; omega) | omega)) hb.size; have x0 : (w').cell? ⟨w.heap.size + 1, 0, none⟩ = some (.bool false) := (hb.cell (p := ⟨w.heap.size + 1, 0, none⟩) (by first | assumption | (simp; done) | (simp; omega) | (dsimp only; omega) | omega)).trans (by first | assumption | (simp [go_sem]; done)); have x1 : (w').cell? ⟨w.heap.size + 1, 1, none⟩ = some (.int .u64 0) := (hb.cell (p := ⟨w.heap.size + 1, 1, none⟩) (by first | assumption | (simp; done) | (simp; omega) | (dsimp only; omega) | omega)).trans (by first | assumption | (simp [go_sem]; done)); have x2 : (w').cell? ⟨w.heap.size + 1, 2, none⟩ = some (.int .u64 0) := (hb.cell (p := ⟨w.heap.size + 1, 2, none⟩) (by first | assumption | (simp; done) | (simp; omega) | (dsimp only; omega) | omega)).trans (by first | assumption | (simp [go_sem]; done)); have xf : ∀ o, (w').frozen? ⟨w.heap.size + 1, o, none⟩ = false := fun o => (hb.frozen (p := ⟨w.heap.size + 1, o, none⟩) (by first | assumption | (simp; done) | (simp; omega) | (dsimp only; omega) | omega)).trans (by first | (simp [go_sem]; done) | (simp [*]; done))))
      refine bodyPost_ret (v := .tuple #[.agg #[.bool n, .int .u64 a, .int .u64 b], .int .i64 (-0), .int .i64 0]) (by simp [results, Try.results105, go_sem, x0, x1, x2, xz, World.size_setCell]) rfl ?_
      exact Gives.mk rfl (by repeat' (first | (with_reducible exact Below.refl _ _) | (with_reducible refine Below.alloc ?_ ?_ _) | (with_reducible refine Below.setCell ?_ ?_ _) | (with_reducible refine Below.drew ?_) | (with_reducible refine Below.trans ?_ (Below.mono (by assumption) ?_)) | (simp; done) | (simp; omega) | omega))
    · have hs1 : s = false := by rw [← hs]; simp [hd]
      subst hs1
      clear hs hz arms
      go_enter Try.func105, Try.ntmps105
      go_wp2_with (first | (go_at_call 107; refine (ck _).mono ?_; rintro e w' ⟨rfl, rfl⟩) | (go_at_call 101; refine (ma _).mono ?_; rintro e w' ⟨rfl, rfl⟩) | (go_at_call 102; refine (sg _).mono ?_; rintro e w' ⟨rfl, rfl⟩) | (go_at_call 110; refine (dv _).mono ?_; rintro e w' ⟨rfl, hb⟩; have pz : w.heap.size < (w').heap.size := Nat.lt_of_lt_of_le (show w.heap.size < _ from (by first | assumption | (simp; done) | (simp; omega) | (dsimp only; omega) | omega)) hb.size; have p0 : (w').cell? ⟨w.heap.size, 0, none⟩ = some (.bool true) := (hb.cell (p := ⟨w.heap.size, 0, none⟩) (by first | assumption | (simp; done) | (simp; omega) | (dsimp only; omega) | omega)).trans (by first | assumption | (simp [go_sem]; done)); have p1 : (w').cell? ⟨w.heap.size, 1, none⟩ = some (.int .u64 h1) := (hb.cell (p := ⟨w.heap.size, 1, none⟩) (by first | assumption | (simp; done) | (simp; omega) | (dsimp only; omega) | omega)).trans (by first | assumption | (simp [go_sem]; done)); have p2 : (w').cell? ⟨w.heap.size, 2, none⟩ = some (.int .u64 l1) := (hb.cell (p := ⟨w.heap.size, 2, none⟩) (by first | assumption | (simp; done) | (simp; omega) | (dsimp only; omega) | omega)).trans (by first | assumption | (simp [go_sem]; done)); have pf : ∀ o, (w').frozen? ⟨w.heap.size, o, none⟩ = false := fun o => (hb.frozen (p := ⟨w.heap.size, o, none⟩) (by first | assumption | (simp; done) | (simp; omega) | (dsimp only; omega) | omega)).trans (by first | (simp [go_sem]; done) | (simp [*]; done)); have xz : w.heap.size + 1 < (w').heap.size := Nat.lt_of_lt_of_le (show w.heap.size + 1 < _ from (by first | assumption | (simp; done) | (simp; omega) | (dsimp only; omega) | omega)) hb.size; have x0 : (w').cell? ⟨w.heap.size + 1, 0, none⟩ = some (.bool false) := (hb.cell (p := ⟨w.heap.size + 1, 0, none⟩) (by first | assumption | (simp; done) | (simp; omega) | (dsimp only; omega) | omega)).trans (by first | assumption | (simp [go_sem]; done)); have x1 : (w').cell? ⟨w.heap.size + 1, 1, none⟩ = some (.int .u64 0) := (hb.cell (p := ⟨w.heap.size + 1, 1, none⟩) (by first | assumption | (simp; done) | (simp; omega) | (dsimp only; omega) | omega)).trans (by first | assumption | (simp [go_sem]; done)); have x2 : (w').cell? ⟨w.heap.size + 1, 2, none⟩ = some (.int .u64 0) := (hb.cell (p := ⟨w.heap.size + 1, 2, none⟩) (by first | assumption | (simp; done) | (simp; omega) | (dsimp only; omega) | omega)).trans (by first | assumption | (simp [go_sem]; done)); have xf : ∀ o, (w').frozen? ⟨w.heap.size + 1, o, none⟩ = false := fun o => (hb.frozen (p := ⟨w.heap.size + 1, o, none⟩) (by first | assumption | (simp; done) | (simp; omega) | (dsimp only; omega) | omega)).trans (by first | (simp [go_sem]; done) | (simp [*]; done))))
      refine bodyPost_ret (v := .tuple #[.agg #[.bool n, .int .u64 a, .int .u64 b], .int .i64 (-r), .int .i64 0]) (by simp [results, Try.results105, go_sem, x0, x1, x2, xz, World.size_setCell]) rfl ?_
      exact Gives.mk rfl (by repeat' (first | (with_reducible exact Below.refl _ _) | (with_reducible refine Below.alloc ?_ ?_ _) | (with_reducible refine Below.setCell ?_ ?_ _) | (with_reducible refine Below.drew ?_) | (with_reducible refine Below.trans ?_ (Below.mono (by assumption) ?_)) | (simp; done) | (simp; omega) | omega))
  · rw [if_neg hd] at hrs
    subst hrs
    have hdd : decide (d < 0) = false := decide_eq_false hd
    cases n1
    · have hs1 : s = false := by rw [← hs]; simp [hd]
      subst hs1
      clear hs hz arms
      go_enter Try.func105, Try.ntmps105
      go_wp2_with (first | (go_at_call 107; refine (ck _).mono ?_; rintro e w' ⟨rfl, rfl⟩) | (go_at_call 101; refine (ma _).mono ?_; rintro e w' ⟨rfl, rfl⟩) | (go_at_call 102; refine (sg _).mono ?_; rintro e w' ⟨rfl, rfl⟩) | (go_at_call 110; refine (dv _).mono ?_; rintro e w' ⟨rfl, hb⟩; have pz : w.heap.size < (w').heap.size := Nat.lt_of_lt_of_le (show w.heap.size < _ from (by first | assumption | (simp; done) | (simp; omega) | (dsimp only; omega) | omega)) hb.size; have p0 : (w').cell? ⟨w.heap.size, 0, none⟩ = some (.bool false) := (hb.cell (p := ⟨w.heap.size, 0, none⟩) (by first | assumption | (simp; done) | (simp; omega) | (dsimp only; omega) | omega)).trans (by first | assumption | (simp [go_sem]; done)); have p1 : (w').cell? ⟨w.heap.size, 1, none⟩ = some (.int .u64 h1) := (hb.cell (p := ⟨w.heap.size, 1, none⟩) (by first | assumption | (simp; done) | (simp; omega) | (dsimp only; omega) | omega)).trans (by first | assumption | (simp [go_sem]; done)); have p2 : (w').cell? ⟨w.heap.size, 2, none⟩ = some (.int .u64 l1) := (hb.cell (p := ⟨w.heap.size, 2, none⟩) (by first | assumption | (simp; done) | (simp; omega) | (dsimp only; omega) | omega)).trans (by first | assumption | (simp [go_sem]; done)); have pf : ∀ o, (w').frozen? ⟨w.heap.size, o, none⟩ = false := fun o => (hb.frozen (p := ⟨w.heap.size, o, none⟩) (by first | assumption | (simp; done) | (simp; omega) | (dsimp only; omega) | omega)).trans (by first | (simp [go_sem]; done) | (simp [*]; done)); have xz : w.heap.size + 1 < (w').heap.size := Nat.lt_of_lt_of_le (show w.heap.size + 1 < _ from (by first | assumption | (simp; done) | (simp; omega) | (dsimp only; omega) | omega)) hb.size; have x0 : (w').cell? ⟨w.heap.size + 1, 0, none⟩ = some (.bool false) := (hb.cell (p := ⟨w.heap.size + 1, 0, none⟩) (by first | assumption | (simp; done) | (simp; omega) | (dsimp only; omega) | omega)).trans (by first | assumption | (simp [go_sem]; done)); have x1 : (w').cell? ⟨w.heap.size + 1, 1, none⟩ = some (.int .u64 0) := (hb.cell (p := ⟨w.heap.size + 1, 1, none⟩) (by first | assumption | (simp; done) | (simp; omega) | (dsimp only; omega) | omega)).trans (by first | assumption | (simp [go_sem]; done)); have x2 : (w').cell? ⟨w.heap.size + 1, 2, none⟩ = some (.int .u64 0) := (hb.cell (p := ⟨w.heap.size + 1, 2, none⟩) (by first | assumption | (simp; done) | (simp; omega) | (dsimp only; omega) | omega)).trans (by first | assumption | (simp [go_sem]; done)); have xf : ∀ o, (w').frozen? ⟨w.heap.size + 1, o, none⟩ = false := fun o => (hb.frozen (p := ⟨w.heap.size + 1, o, none⟩) (by first | assumption | (simp; done) | (simp; omega) | (dsimp only; omega) | omega)).trans (by first | (simp [go_sem]; done) | (simp [*]; done))))
      refine bodyPost_ret (v := .tuple #[.agg #[.bool n, .int .u64 a, .int .u64 b], .int .i64 r, .int .i64 0]) (by simp [results, Try.results105, go_sem, x0, x1, x2, xz, World.size_setCell]) rfl ?_
      exact Gives.mk rfl (by repeat' (first | (with_reducible exact Below.refl _ _) | (with_reducible refine Below.alloc ?_ ?_ _) | (with_reducible refine Below.setCell ?_ ?_ _) | (with_reducible refine Below.drew ?_) | (with_reducible refine Below.trans ?_ (Below.mono (by assumption) ?_)) | (simp; done) | (simp; omega) | omega))
    · have hs1 : s = true := by rw [← hs]; simp [hd]
      subst hs1
      have hz1 : r = 0 := by
        rcases hz with h | h
        · simp at h
        · exact h
      subst hz1
      clear hs hz arms
      go_enter Try.func105, Try.ntmps105
      go_wp2_with (first | (go_at_call 107; refine (ck _).mono ?_; rintro e w' ⟨rfl, rfl⟩) | (go_at_call 101; refine (ma _).mono ?_; rintro e w' ⟨rfl, rfl⟩) | (go_at_call 102; refine (sg _).mono ?_; rintro e w' ⟨rfl, rfl⟩) | (go_at_call 110; refine (dv _).mono ?_; rintro e w' ⟨rfl, hb⟩; have pz : w.heap.size < (w').heap.size := Nat.lt_of_lt_of_le (show w.heap.size < _ from (by first | assumption | (simp; done) | (simp; omega) | (dsimp only; omega) | omega)) hb.size; have p0 : (w').cell? ⟨w.heap.size, 0, none⟩ = some (.bool true) := (hb.cell (p := ⟨w.heap.size, 0, none⟩) (by first | assumption | (simp; done) | (simp; omega) | (dsimp only; omega) | omega)).trans (by first | assumption | (simp [go_sem]; done)); have p1 : (w').cell? ⟨w.heap.size, 1, none⟩ = some (.int .u64 h1) := (hb.cell (p := ⟨w.heap.size, 1, none⟩) (by first | assumption | (simp; done) | (simp; omega) | (dsimp only; omega) | omega)).trans (by first | assumption | (simp [go_sem]; done)); have p2 : (w').cell? ⟨w.heap.size, 2, none⟩ = some (.int .u64 l1) := (hb.cell (p := ⟨w.heap.size, 2, none⟩) (by first | assumption | (simp; done) | (simp; omega) | (dsimp only; omega) | omega)).trans (by first | assumption | (simp [go_sem]; done)); have pf : ∀ o, (w').frozen? ⟨w.heap.size, o, none⟩ = false := fun o => (hb.frozen (p := ⟨w.heap.size, o, none⟩) (by first | assumption | (simp; done) | (simp; omega) | (dsimp only; omega) | omega)).trans (by first | (simp [go_sem]; done) | (simp [*]; done)); have xz : w.heap.size + 1 < (w').heap.size := Nat.lt_of_lt_of_le (show w.heap.size + 1 < _ from (by first | assumption | (simp; done) | (simp; omega) | (dsimp only; omega) | omega)) hb.size; have x0 : (w').cell? ⟨w.heap.size + 1, 0, none⟩ = some (.bool false) := (hb.cell (p := ⟨w.heap.size + 1, 0, none⟩) (by first | assumption | (simp; done) | (simp; omega) | (dsimp only; omega) | omega)).trans (by first | assumption | (simp [go_sem]; done)); have x1 : (w').cell? ⟨w.heap.size + 1, 1, none⟩ = some (.int .u64 0) := (hb.cell (p := ⟨w.heap.size + 1, 1, none⟩) (by first | assumption | (simp; done) | (simp; omega) | (dsimp only; omega) | omega)).trans (by first | assumption | (simp [go_sem]; done)); have x2 : (w').cell? ⟨w.heap.size + 1, 2, none⟩ = some (.int .u64 0) := (hb.cell (p := ⟨w.heap.size + 1, 2, none⟩) (by first | assumption | (simp; done) | (simp; omega) | (dsimp only; omega) | omega)).trans (by first | assumption | (simp [go_sem]; done)); have xf : ∀ o, (w').frozen? ⟨w.heap.size + 1, o, none⟩ = false := fun o => (hb.frozen (p := ⟨w.heap.size + 1, o, none⟩) (by first | assumption | (simp; done) | (simp; omega) | (dsimp only; omega) | omega)).trans (by first | (simp [go_sem]; done) | (simp [*]; done))))
      refine bodyPost_ret (v := .tuple #[.agg #[.bool n, .int .u64 a, .int .u64 b], .int .i64 0, .int .i64 0]) (by simp [results, Try.results105, go_sem, x0, x1, x2, xz, World.size_setCell]) rfl ?_
      exact Gives.mk rfl (by repeat' (first | (with_reducible exact Below.refl _ _) | (with_reducible refine Below.alloc ?_ ?_ _) | (with_reducible refine Below.setCell ?_ ?_ _) | (with_reducible refine Below.drew ?_) | (with_reducible refine Below.trans ?_ (Below.mono (by assumption) ?_)) | (simp; done) | (simp; omega) | omega))

/-- The walk where the quotient of the magnitudes goes up by one. -/
theorem divFloor_up (n1 : Bool) (h1 l1 d f a b r b' k a' r' : Int) (n : Bool) (w : World) (g : (d == 0) = false) (hs : (n1 != decide (d < 0)) = true) (gr : (r != 0) = true) (rs : Int)
    (hrs : (if d < 0 then -r' else r') = rs) (r0 : 0 ≤ r') (r1 : r' ≤ 9223372036854775807)
    (ck : ∀ w : World, Calls Try.prog 107 #[.agg #[.bool n1, .int .u64 h1, .int .u64 l1]] w fun e w' => e = .returned (.int .i64 0) ∧ w' = w.alloc (Obj.cells #[.bool n1, .int .u64 h1, .int .u64 l1] 114))
    (ma : ∀ w : World, Calls Try.prog 101 #[.int .i64 d] w fun e w' => e = .returned (.int .u64 f) ∧ w' = w)
    (dv : ∀ w : World, Calls Try.prog 110 #[.int .u64 h1, .int .u64 l1, .int .u64 f] w (Gives (.tuple #[.int .u64 a, .int .u64 b, .int .u64 r]) w))
    (ad : ∀ w, (callFunc 111 #[.int .u64 b, .int .u64 1, .int .u64 0]).run Try.prog w = .ok (.value (.tuple #[.int .u64 b', .int .u64 k])) w)
    (ea : IntKind.u64.wrap (a + k) = a') (er : IntKind.u64.wrap (f - r) = r')
    (sg : ∀ w : World, Calls Try.prog 102 #[.bool true, .int .u64 a', .int .u64 b'] w fun e w' => e = .returned (.agg #[.bool n, .int .u64 a', .int .u64 b']) ∧ w' = w.alloc (Obj.cells #[.bool n, .int .u64 a', .int .u64 b'] 114)) :
    Calls Try.prog 105 #[.agg #[.bool n1, .int .u64 h1, .int .u64 l1], .int .i64 d] w (Gives (.tuple #[.agg #[.bool n, .int .u64 a', .int .u64 b'], .int .i64 rs, .int .i64 0]) w) := by
  by_cases hd : d < 0
  · rw [if_pos hd] at hrs
    subst hrs
    have hdd : decide (d < 0) = true := decide_eq_true hd
    cases n1
    · clear hs
      go_enter Try.func105, Try.ntmps105
      go_wp2_with (first | (go_at_call 107; refine (ck _).mono ?_; rintro e w' ⟨rfl, rfl⟩) | (go_at_call 101; refine (ma _).mono ?_; rintro e w' ⟨rfl, rfl⟩) | (go_at_call 102; refine (sg _).mono ?_; rintro e w' ⟨rfl, rfl⟩) | (go_at_call 110; refine (dv _).mono ?_; rintro e w' ⟨rfl, hb⟩; have pz : w.heap.size < (w').heap.size := Nat.lt_of_lt_of_le (show w.heap.size < _ from (by first | assumption | (simp; done) | (simp; omega) | (dsimp only; omega) | omega)) hb.size; have p0 : (w').cell? ⟨w.heap.size, 0, none⟩ = some (.bool false) := (hb.cell (p := ⟨w.heap.size, 0, none⟩) (by first | assumption | (simp; done) | (simp; omega) | (dsimp only; omega) | omega)).trans (by first | assumption | (simp [go_sem]; done)); have p1 : (w').cell? ⟨w.heap.size, 1, none⟩ = some (.int .u64 h1) := (hb.cell (p := ⟨w.heap.size, 1, none⟩) (by first | assumption | (simp; done) | (simp; omega) | (dsimp only; omega) | omega)).trans (by first | assumption | (simp [go_sem]; done)); have p2 : (w').cell? ⟨w.heap.size, 2, none⟩ = some (.int .u64 l1) := (hb.cell (p := ⟨w.heap.size, 2, none⟩) (by first | assumption | (simp; done) | (simp; omega) | (dsimp only; omega) | omega)).trans (by first | assumption | (simp [go_sem]; done)); have pf : ∀ o, (w').frozen? ⟨w.heap.size, o, none⟩ = false := fun o => (hb.frozen (p := ⟨w.heap.size, o, none⟩) (by first | assumption | (simp; done) | (simp; omega) | (dsimp only; omega) | omega)).trans (by first | (simp [go_sem]; done) | (simp [*]; done)); have xz : w.heap.size + 1 < (w').heap.size := Nat.lt_of_lt_of_le (show w.heap.size + 1 < _ from (by first | assumption | (simp; done) | (simp; omega) | (dsimp only; omega) | omega)) hb.size; have x0 : (w').cell? ⟨w.heap.size + 1, 0, none⟩ = some (.bool false) := (hb.cell (p := ⟨w.heap.size + 1, 0, none⟩) (by first | assumption | (simp; done) | (simp; omega) | (dsimp only; omega) | omega)).trans (by first | assumption | (simp [go_sem]; done)); have x1 : (w').cell? ⟨w.heap.size + 1, 1, none⟩ = some (.int .u64 0) := (hb.cell (p := ⟨w.heap.size + 1, 1, none⟩) (by first | assumption | (simp; done) | (simp; omega) | (dsimp only; omega) | omega)).trans (by first | assumption | (simp [go_sem]; done)); have x2 : (w').cell? ⟨w.heap.size + 1, 2, none⟩ = some (.int .u64 0) := (hb.cell (p := ⟨w.heap.size + 1, 2, none⟩) (by first | assumption | (simp; done) | (simp; omega) | (dsimp only; omega) | omega)).trans (by first | assumption | (simp [go_sem]; done)); have xf : ∀ o, (w').frozen? ⟨w.heap.size + 1, o, none⟩ = false := fun o => (hb.frozen (p := ⟨w.heap.size + 1, o, none⟩) (by first | assumption | (simp; done) | (simp; omega) | (dsimp only; omega) | omega)).trans (by first | (simp [go_sem]; done) | (simp [*]; done))))
      refine bodyPost_ret (v := .tuple #[.agg #[.bool n, .int .u64 a', .int .u64 b'], .int .i64 (-r'), .int .i64 0]) (by simp [results, Try.results105, go_sem, x0, x1, x2, xz, World.size_setCell]) rfl ?_
      exact Gives.mk rfl (by repeat' (first | (with_reducible exact Below.refl _ _) | (with_reducible refine Below.alloc ?_ ?_ _) | (with_reducible refine Below.setCell ?_ ?_ _) | (with_reducible refine Below.drew ?_) | (with_reducible refine Below.trans ?_ (Below.mono (by assumption) ?_)) | (simp; done) | (simp; omega) | omega))
    · simp [hd] at hs
  · rw [if_neg hd] at hrs
    subst hrs
    have hdd : decide (d < 0) = false := decide_eq_false hd
    cases n1
    · simp [hd] at hs
    · clear hs
      go_enter Try.func105, Try.ntmps105
      go_wp2_with (first | (go_at_call 107; refine (ck _).mono ?_; rintro e w' ⟨rfl, rfl⟩) | (go_at_call 101; refine (ma _).mono ?_; rintro e w' ⟨rfl, rfl⟩) | (go_at_call 102; refine (sg _).mono ?_; rintro e w' ⟨rfl, rfl⟩) | (go_at_call 110; refine (dv _).mono ?_; rintro e w' ⟨rfl, hb⟩; have pz : w.heap.size < (w').heap.size := Nat.lt_of_lt_of_le (show w.heap.size < _ from (by first | assumption | (simp; done) | (simp; omega) | (dsimp only; omega) | omega)) hb.size; have p0 : (w').cell? ⟨w.heap.size, 0, none⟩ = some (.bool true) := (hb.cell (p := ⟨w.heap.size, 0, none⟩) (by first | assumption | (simp; done) | (simp; omega) | (dsimp only; omega) | omega)).trans (by first | assumption | (simp [go_sem]; done)); have p1 : (w').cell? ⟨w.heap.size, 1, none⟩ = some (.int .u64 h1) := (hb.cell (p := ⟨w.heap.size, 1, none⟩) (by first | assumption | (simp; done) | (simp; omega) | (dsimp only; omega) | omega)).trans (by first | assumption | (simp [go_sem]; done)); have p2 : (w').cell? ⟨w.heap.size, 2, none⟩ = some (.int .u64 l1) := (hb.cell (p := ⟨w.heap.size, 2, none⟩) (by first | assumption | (simp; done) | (simp; omega) | (dsimp only; omega) | omega)).trans (by first | assumption | (simp [go_sem]; done)); have pf : ∀ o, (w').frozen? ⟨w.heap.size, o, none⟩ = false := fun o => (hb.frozen (p := ⟨w.heap.size, o, none⟩) (by first | assumption | (simp; done) | (simp; omega) | (dsimp only; omega) | omega)).trans (by first | (simp [go_sem]; done) | (simp [*]; done)); have xz : w.heap.size + 1 < (w').heap.size := Nat.lt_of_lt_of_le (show w.heap.size + 1 < _ from (by first | assumption | (simp; done) | (simp; omega) | (dsimp only; omega) | omega)) hb.size; have x0 : (w').cell? ⟨w.heap.size + 1, 0, none⟩ = some (.bool false) := (hb.cell (p := ⟨w.heap.size + 1, 0, none⟩) (by first | assumption | (simp; done) | (simp; omega) | (dsimp only; omega) | omega)).trans (by first | assumption | (simp [go_sem]; done)); have x1 : (w').cell? ⟨w.heap.size + 1, 1, none⟩ = some (.int .u64 0) := (hb.cell (p := ⟨w.heap.size + 1, 1, none⟩) (by first | assumption | (simp; done) | (simp; omega) | (dsimp only; omega) | omega)).trans (by first | assumption | (simp [go_sem]; done)); have x2 : (w').cell? ⟨w.heap.size + 1, 2, none⟩ = some (.int .u64 0) := (hb.cell (p := ⟨w.heap.size + 1, 2, none⟩) (by first | assumption | (simp; done) | (simp; omega) | (dsimp only; omega) | omega)).trans (by first | assumption | (simp [go_sem]; done)); have xf : ∀ o, (w').frozen? ⟨w.heap.size + 1, o, none⟩ = false := fun o => (hb.frozen (p := ⟨w.heap.size + 1, o, none⟩) (by first | assumption | (simp; done) | (simp; omega) | (dsimp only; omega) | omega)).trans (by first | (simp [go_sem]; done) | (simp [*]; done))))
      refine bodyPost_ret (v := .tuple #[.agg #[.bool n, .int .u64 a', .int .u64 b'], .int .i64 r', .int .i64 0]) (by simp [results, Try.results105, go_sem, x0, x1, x2, xz, World.size_setCell]) rfl ?_
      exact Gives.mk rfl (by repeat' (first | (with_reducible exact Below.refl _ _) | (with_reducible refine Below.alloc ?_ ?_ _) | (with_reducible refine Below.setCell ?_ ?_ _) | (with_reducible refine Below.drew ?_) | (with_reducible refine Below.trans ?_ (Below.mono (by assumption) ?_)) | (simp; done) | (simp; omega) | omega))
theorem divFloor_any (n1 : Bool) (h1 l1 d : Int) (f1 : Wd.Fits ⟨n1, h1, l1⟩) (d0 : -9223372036854775808 ≤ d) (d1 : d ≤ 9223372036854775807) (n : Bool) (h l rs e : Int)
    (hv : Wd.divS ⟨n1, h1, l1⟩ d = (⟨n, h, l⟩, rs, e)) (w : World) :
    Calls Try.prog 105 #[.agg #[.bool n1, .int .u64 h1, .int .u64 l1], .int .i64 d] w (Gives (.tuple #[.agg #[.bool n, .int .u64 h, .int .u64 l], .int .i64 rs, .int .i64 e]) w) := by
  have F := f1
  obtain ⟨⟨b0, b1⟩, ⟨b2, b3⟩⟩ := f1
  simp only at b0 b1 b2 b3
  obtain ⟨c, hc⟩ : ∃ c, Wd.chk ⟨n1, h1, l1⟩ = c := ⟨_, rfl⟩
  have ck := fun w => check_any n1 h1 l1 w
  rw [hc] at ck
  unfold Wd.divS at hv
  rw [hc] at hv
  by_cases c0 : c = 0
  · subst c0
    rw [if_neg (by omega)] at hv
    by_cases dz : d = 0
    · subst dz
      rw [if_pos rfl] at hv
      obtain ⟨hz, hz2⟩ := Prod.mk.inj hv
      obtain ⟨rfl, rfl⟩ := Prod.mk.inj hz2
      obtain ⟨rfl, rfl, rfl⟩ := Wd.mk.inj hz
      exact divFloor_zero n1 h1 l1 w ck
    · rw [if_neg dz] at hv
      obtain ⟨hz, hz2⟩ := Prod.mk.inj hv
      obtain ⟨hrs, rfl⟩ := Prod.mk.inj hz2
      have g : (d == 0) = false := by simp; exact dz
      have ma := fun w => magnitude_any d d0 d1 w
      have hm0 := Wd.mag_nonneg _ F
      have hmT := Wd.mag_toInt _ F
      have hlt := Wd.toInt_lt _ hc F
      have hsgn := Wd.toInt_neg _ hc F
      simp only at hsgn
      have hmag : Wd.mag ⟨n1, h1, l1⟩ = h1 * 18446744073709551616 + l1 := rfl
      rw [hmag] at hm0 hmT
      obtain ⟨N, hN⟩ : ∃ N, Wd.toInt ⟨n1, h1, l1⟩ = N := ⟨_, rfl⟩
      rw [hN] at hz hrs hmT hlt hsgn
      obtain ⟨f, hf⟩ : ∃ f : Int, (d.natAbs : Int) = f := ⟨_, rfl⟩
      rw [hf] at ma
      obtain ⟨a, ha⟩ : ∃ x, (h1 * 18446744073709551616 + l1) / f / 18446744073709551616 = x := ⟨_, rfl⟩
      obtain ⟨b, hb⟩ : ∃ x, (h1 * 18446744073709551616 + l1) / f % 18446744073709551616 = x := ⟨_, rfl⟩
      obtain ⟨r, hr⟩ : ∃ x, (h1 * 18446744073709551616 + l1) % f = x := ⟨_, rfl⟩
      have dv := fun w => divide_any h1 l1 f b0 b1 b2 b3 (by omega) (by omega) a b r ha hb hr w
      obtain ⟨a0, a1, bb0, bb1, r0, r1, hM, hle, _⟩ := halves_of (r := r) hm0 (by omega) (by omega) ha hb hr
      obtain ⟨q, hq⟩ : ∃ q : Nat, (q : Int) = a * 18446744073709551616 + b := ⟨(a * 18446744073709551616 + b).toNat, by omega⟩
      obtain ⟨r', hr'⟩ : ∃ q : Nat, (q : Int) = r := ⟨r.toNat, by omega⟩
      have hMn : N.natAbs = d.natAbs * q + r' := by
        have : ((N.natAbs : Nat) : Int) = ((d.natAbs * q + r' : Nat) : Int) := by
          rw [Int.natCast_add, Int.natCast_mul, hmT, hf, hq, hr']; exact hM
        exact Int.ofNat.inj this
      have hrn : r' < d.natAbs := by omega
      by_cases hs : decide (N < 0) = decide (d < 0)
      · obtain ⟨e1, e2⟩ := Wd.div_same hMn hrn hs
        rw [e1] at hz
        rw [e2] at hrs
        have m := Wd.mk'_eq false a b a0 bb0 bb1
        have m2 : Wd.sv false (a * 18446744073709551616 + b) = (q : Int) := by rw [← hq]; rfl
        rw [m2, hz] at m
        obtain ⟨_, rfl, rfl⟩ := Wd.mk.inj m
        have sg := fun w => signed_any false a b a0 (by omega) bb0 bb1 n m w
        exact divFloor_same n1 h1 l1 d f a b r n w g false (by rw [hsgn, hs]; simp) (Or.inl rfl) rs (by rw [← hrs, hr']) r0 (by omega) ck ma dv sg
      · by_cases rz : r' = 0
        · subst rz
          have hr0 : r = 0 := by omega
          obtain ⟨e1, e2⟩ := Wd.div_exact (q := q) (by omega) dz hs
          rw [e1] at hz
          rw [e2] at hrs
          have m := Wd.mk'_eq true a b a0 bb0 bb1
          have m2 : Wd.sv true (a * 18446744073709551616 + b) = -(q : Int) := by rw [← hq]; rfl
          rw [m2, hz] at m
          obtain ⟨_, rfl, rfl⟩ := Wd.mk.inj m
          have sg := fun w => signed_any true a b a0 (by omega) bb0 bb1 n m w
          exact divFloor_same n1 h1 l1 d f a b r n w g true (by rw [hsgn]; simp; intro h; exact hs (by simp [h])) (Or.inr hr0) rs (by rw [← hrs, hr0]; simp) r0 (by omega) ck ma dv sg
        · obtain ⟨e1, e2⟩ := Wd.div_up hMn hrn rz hs
          rw [e1] at hz
          rw [e2] at hrs
          obtain ⟨b', hb'⟩ : ∃ x, (b + 1 + 0) % 18446744073709551616 = x := ⟨_, rfl⟩
          obtain ⟨k, hk⟩ : ∃ x, (b + 1 + 0) / 18446744073709551616 = x := ⟨_, rfl⟩
          have ad := fun w => add64_run b 1 0 bb0 (by omega) (by omega) (by omega) w
          rw [hb', hk] at ad
          have f2 : 2 ≤ f := by omega
          have hbig : a * 18446744073709551616 + b < 170141183460469231731687303715884105727 := by
            have h2 : 2 * (a * 18446744073709551616 + b) ≤ f * (a * 18446744073709551616 + b) := Int.mul_le_mul_of_nonneg_right f2 (by omega)
            omega
          have m := Wd.mk'_eq true (a + k) b' (by omega) (by omega) (by omega)
          have m2 : Wd.sv true ((a + k) * 18446744073709551616 + b') = -((q : Int) + 1) := by
            unfold Wd.sv; simp only [if_true]; omega
          rw [m2, hz] at m
          obtain ⟨_, hA, rfl⟩ := Wd.mk.inj m
          subst hA
          have sg := fun w => signed_any true (a + k) b' (by omega) (by omega) (by omega) (by omega) n m w
          exact divFloor_up n1 h1 l1 d f a b r b' k (a + k) (f - r) n w g (by rw [hsgn]; simp; intro h; exact hs (by simp [h])) (by simp; omega) rs (by rw [← hrs, ← hr', ← hf]) (by omega) (by omega) ck ma dv ad
            (by rw [IntKind.wrap_u64]; omega) (by rw [IntKind.wrap_u64]; omega) sg
  · rw [if_pos c0] at hv
    obtain ⟨hz, hz2⟩ := Prod.mk.inj hv
    obtain ⟨rfl, rfl⟩ := Prod.mk.inj hz2
    obtain ⟨rfl, rfl, rfl⟩ := Wd.mk.inj hz
    exact divFloor_bad n1 h1 l1 d c w c0 ck
end Go.Proofs.Ytdimncchejbaaaa
