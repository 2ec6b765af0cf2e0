/-
  FractionNews: New and Int of both packages for every input, and the walk.
-/
import Derived.Test.YtjbnejhpfknfcaaDoorFrnew
import Derived.Test.YtjbnejhpfknfcaaDoorFrounds
namespace Go.Proofs.YtjbnejhpfknfcaaDoor
open Go.RowKit
set_option linter.unusedVariables false
set_option linter.unusedSimpArgs false

theorem rnew_zero (n : Int) (w : World) : Calls Tryd.prog 13 #[.int .i64 n, .int .i64 0] w (Gives (.tuple #[.agg #[.int .i64 0, .int .i64 0], .int .i64 18]) w) := by
  go_enter Tryd.func13, Tryd.ntmps13
  go_wp2
  go_returns
  exact Gives.mk rfl (by repeat' (first | (with_reducible exact Below.refl _ _) | (with_reducible refine Below.alloc ?_ ?_ _) | (with_reducible refine Below.setCell ?_ ?_ _) | (with_reducible refine Below.drew ?_) | (with_reducible refine Below.trans ?_ (Below.mono (by assumption) ?_)) | (simp; done) | (simp; omega) | omega))
theorem wrap_up {x : Int} (x0 : 0 ≤ x) (x1 : x ≤ 9223372036854775808) : (x ≤ 9223372036854775807 ∧ wrap64 x = x) ∨ (x = 9223372036854775808 ∧ wrap64 x = -9223372036854775808) := by
  unfold wrap64
  omega
theorem rnew_any (n d : Int) (n0 : -9223372036854775808 ≤ n) (n1 : n ≤ 9223372036854775807) (d0 : -9223372036854775808 ≤ d) (d1 : d ≤ 9223372036854775807) (x y e : Int) (hv : Sp.newS n d = (x, y, e)) (w : World) :
    Calls Tryd.prog 13 #[.int .i64 n, .int .i64 d] w (Gives (.tuple #[.agg #[.int .i64 x, .int .i64 y], .int .i64 e]) w) := by
  unfold Sp.newS at hv
  by_cases dz : d = 0
  · rw [if_pos dz] at hv
    simp only [Prod.mk.injEq] at hv
    obtain ⟨rfl, rfl, rfl⟩ := hv
    subst dz
    exact rnew_zero n w
  · rw [if_neg dz] at hv
    have gp : 0 < Int.gcd n d := Int.gcd_pos_of_ne_zero_right n dz
    obtain ⟨G, hG⟩ : ∃ G, Int.gcd n d = G := ⟨_, rfl⟩
    have gl : (G : Int) ≤ (d.natAbs : Int) := by
      have h := Nat.le_of_dvd (by omega) (Nat.gcd_dvd_right n.natAbs d.natAbs)
      have h2 : Nat.gcd n.natAbs d.natAbs = G := hG
      omega
    have k1 : Int.gcd (-(n.natAbs : Int)) (-(d.natAbs : Int)) = G := by rw [← hG, Int.neg_gcd, Int.gcd_neg]; simp [Int.gcd]
    rw [hG] at hv gp
    obtain ⟨g, hg⟩ : ∃ g : Int, (G : Int) = g := ⟨_, rfl⟩
    rw [hg] at hv gl
    obtain ⟨N, hN⟩ : ∃ N : Int, (n.natAbs : Int) = N := ⟨_, rfl⟩
    obtain ⟨D, hD⟩ : ∃ D : Int, (d.natAbs : Int) = D := ⟨_, rfl⟩
    rw [hN] at hv k1
    rw [hD] at hv gl k1
    have f1 : (-N).tdiv g = -(N / g) := by rw [Int.neg_tdiv, Int.tdiv_eq_ediv_of_nonneg (by omega)]
    have f2 : (-D).tdiv g = -(D / g) := by rw [Int.neg_tdiv, Int.tdiv_eq_ediv_of_nonneg (by omega)]
    have pb := Sp.div_le_self (n := N) (g := g) (by omega) (by omega)
    have qb := Sp.div_le_self (n := D) (g := g) (by omega) (by omega)
    obtain ⟨p, hp⟩ : ∃ p, N / g = p := ⟨_, rfl⟩
    obtain ⟨q, hq⟩ : ∃ q, D / g = q := ⟨_, rfl⟩
    rw [hp] at hv f1 pb
    rw [hq] at hv f2 qb
    have wp := wrap_up (x := p) (by omega) (by omega)
    have wq := wrap_up (x := q) (by omega) (by omega)
    obtain ⟨p', hp'⟩ : ∃ p', wrap64 p = p' := ⟨_, rfl⟩
    obtain ⟨q', hq'⟩ : ∃ q', wrap64 q = q' := ⟨_, rfl⟩
    rw [hp'] at wp
    rw [hq'] at wq
    have e1 : wrap64 (-(-p)) = p' := by rw [Int.neg_neg]; exact hp'
    have e2 : wrap64 (-(-q)) = q' := by rw [Int.neg_neg]; exact hq'
    have ga : (-g == 0) = false := by simp; omega
    have key : ((p' < 0 ∨ q' < 0 ∨ 1000000000000000 < p' ∨ 1000000000000000 < q') ∧ x = 0 ∧ y = 0 ∧ e = 8) ∨ (0 ≤ p' ∧ 0 ≤ q' ∧ p' ≤ 1000000000000000 ∧ q' ≤ 1000000000000000 ∧ decide (n < 0) = decide (d < 0) ∧ x = p' ∧ y = q' ∧ e = 0) ∨ (0 ≤ p' ∧ 0 ≤ q' ∧ p' ≤ 1000000000000000 ∧ q' ≤ 1000000000000000 ∧ decide (n < 0) = !decide (d < 0) ∧ x = -p' ∧ y = q' ∧ e = 0) := by
      by_cases c : 1000000000000000 < p ∨ 1000000000000000 < q
      · rw [if_pos c] at hv
        simp only [Prod.mk.injEq] at hv
        exact Or.inl ⟨by omega, hv.1.symm, hv.2.1.symm, hv.2.2.symm⟩
      · rw [if_neg c] at hv
        simp only [Prod.mk.injEq] at hv
        obtain ⟨hx, hy, he⟩ := hv
        by_cases s : decide (n < 0) = decide (d < 0)
        · rw [if_pos s] at hx
          exact Or.inr (Or.inl ⟨by omega, by omega, by omega, by omega, s, by omega, by omega, he.symm⟩)
        · rw [if_neg s] at hx
          refine Or.inr (Or.inr ⟨by omega, by omega, by omega, by omega, ?_, by omega, by omega, he.symm⟩)
          revert s
          cases decide (n < 0) <;> cases decide (d < 0) <;> simp
    clear hv wp wq hp' hq' hp hq
    by_cases hn : 0 < n <;> by_cases hdd : 0 < d
    · have h := rnew_walk3 (-N) (-D) g p' q' x y e G w (by omega) (by omega) (by omega) (by omega) (by omega) (by omega) k1 hg (by omega) (by omega) (-p) (-q) f1 f2 e1 e2 ga (by omega) (decide (n < 0)) (by rw [Int.neg_neg, ← hN]; congr 1; simp; omega) (by
        have h0 : decide (d < 0) = false := by simp; omega
        rw [h0] at key; exact key)
      have en : - -N = n := by omega
      have ed : - -D = d := by omega
      rw [en, ed] at h
      exact h
    · have h := rnew_walk2 (-N) (-D) g p' q' x y e G w (by omega) (by omega) (by omega) (by omega) (by omega) k1 hg (by omega) (by omega) (-p) (-q) f1 f2 e1 e2 ga (by omega) (decide (n < 0)) (by rw [Int.neg_neg, ← hN]; congr 1; simp; omega) (by
        have h0 : decide (d < 0) = true := by simp; omega
        rw [h0] at key; exact key)
      have en : - -N = n := by omega
      have ed : -D = d := by omega
      rw [en, ed] at h
      exact h
    · have h := rnew_walk1 (-N) (-D) g p' q' x y e G w (by omega) (by omega) (by omega) (by omega) (by omega) k1 hg (by omega) (by omega) (-p) (-q) f1 f2 e1 e2 ga (by omega) (decide (n < 0)) (by rw [← hN]; congr 1; simp; omega) (by
        have h0 : decide (d < 0) = false := by simp; omega
        rw [h0] at key; exact key)
      have en : -N = n := by omega
      have ed : - -D = d := by omega
      rw [en, ed] at h
      exact h
    · have h := rnew_walk0 (-N) (-D) g p' q' x y e G w (by omega) (by omega) (by omega) (by omega) k1 hg (by omega) (by omega) (-p) (-q) f1 f2 e1 e2 ga (by omega) (decide (n < 0)) (by rw [← hN]; congr 1; simp; omega) (by
        have h0 : decide (d < 0) = true := by simp; omega
        rw [h0] at key; exact key)
      have en : -N = n := by omega
      have ed : -D = d := by omega
      rw [en, ed] at h
      exact h
theorem fint_any (n : Int) (n0 : -9223372036854775808 ≤ n) (n1 : n ≤ 9223372036854775807) (x y e : Int) (hv : Sp.newS n 1 = (x, y, e)) (w : World) :
    Calls Tryd.prog 14 #[.int .i64 n] w (Gives (.tuple #[.agg #[.int .i64 x, .int .i64 y], .int .i64 e]) w) := by
  have nw := fun w => fnew_any n 1 n0 n1 (by omega) (by omega) x y e hv w
  clear hv
  go_enter Tryd.func14, Tryd.ntmps14
  go_wp2_with (go_at_call 12; refine (nw _).mono ?_; rintro _ w1 ⟨rfl, hb⟩; have xz : w.heap.size < (w1).heap.size := Nat.lt_of_lt_of_le (show w.heap.size < _ from (by first | assumption | (simp; done) | (simp; omega) | (dsimp only; omega) | omega)) hb.size; have x0 : (w1).cell? ⟨w.heap.size, 0, none⟩ = some (.int .i64 0) := (hb.cell (p := ⟨w.heap.size, 0, none⟩) (by first | assumption | (simp; done) | (simp; omega) | (dsimp only; omega) | omega)).trans (by first | assumption | (simp [go_sem]; done) | (simp [go_sem, *]; done)); have x1 : (w1).cell? ⟨w.heap.size, 1, none⟩ = some (.int .i64 0) := (hb.cell (p := ⟨w.heap.size, 1, none⟩) (by first | assumption | (simp; done) | (simp; omega) | (dsimp only; omega) | omega)).trans (by first | assumption | (simp [go_sem]; done) | (simp [go_sem, *]; done)); have xf : ∀ o, (w1).frozen? ⟨w.heap.size, o, none⟩ = false := fun o => (hb.frozen (p := ⟨w.heap.size, o, none⟩) (by first | assumption | (simp; done) | (simp; omega) | (dsimp only; omega) | omega)).trans (by first | (simp [go_sem]; done) | (simp [*]; done)))
  refine bodyPost_ret (v := .tuple #[.agg #[.int .i64 x, .int .i64 y], .int .i64 e]) (by simp [results, Tryd.results14, go_sem, x0, x1]) rfl ?_
  exact Gives.mk rfl (by repeat' (first | (with_reducible exact Below.refl _ _) | (with_reducible refine Below.alloc ?_ ?_ _) | (with_reducible refine Below.setCell ?_ ?_ _) | (with_reducible refine Below.drew ?_) | (with_reducible refine below_dn ?_ _) | (with_reducible refine Below.trans ?_ (Below.mono (by assumption) ?_)) | (simp; done) | (simp; omega) | omega))
theorem rint_any (n : Int) (n0 : -9223372036854775808 ≤ n) (n1 : n ≤ 9223372036854775807) (x y e : Int) (hv : Sp.newS n 1 = (x, y, e)) (w : World) :
    Calls Tryd.prog 15 #[.int .i64 n] w (Gives (.tuple #[.agg #[.int .i64 x, .int .i64 y], .int .i64 e]) w) := by
  have nw := fun w => rnew_any n 1 n0 n1 (by omega) (by omega) x y e hv w
  clear hv
  go_enter Tryd.func15, Tryd.ntmps15
  go_wp2_with (go_at_call 13; refine (nw _).mono ?_; rintro _ w1 ⟨rfl, hb⟩; have xz : w.heap.size < (w1).heap.size := Nat.lt_of_lt_of_le (show w.heap.size < _ from (by first | assumption | (simp; done) | (simp; omega) | (dsimp only; omega) | omega)) hb.size; have x0 : (w1).cell? ⟨w.heap.size, 0, none⟩ = some (.int .i64 0) := (hb.cell (p := ⟨w.heap.size, 0, none⟩) (by first | assumption | (simp; done) | (simp; omega) | (dsimp only; omega) | omega)).trans (by first | assumption | (simp [go_sem]; done) | (simp [go_sem, *]; done)); have x1 : (w1).cell? ⟨w.heap.size, 1, none⟩ = some (.int .i64 0) := (hb.cell (p := ⟨w.heap.size, 1, none⟩) (by first | assumption | (simp; done) | (simp; omega) | (dsimp only; omega) | omega)).trans (by first | assumption | (simp [go_sem]; done) | (simp [go_sem, *]; done)); have xf : ∀ o, (w1).frozen? ⟨w.heap.size, o, none⟩ = false := fun o => (hb.frozen (p := ⟨w.heap.size, o, none⟩) (by first | assumption | (simp; done) | (simp; omega) | (dsimp only; omega) | omega)).trans (by first | (simp [go_sem]; done) | (simp [*]; done)))
  refine bodyPost_ret (v := .tuple #[.agg #[.int .i64 x, .int .i64 y], .int .i64 e]) (by simp [results, Tryd.results15, go_sem, x0, x1]) rfl ?_
  exact Gives.mk rfl (by repeat' (first | (with_reducible exact Below.refl _ _) | (with_reducible refine Below.alloc ?_ ?_ _) | (with_reducible refine Below.setCell ?_ ?_ _) | (with_reducible refine Below.drew ?_) | (with_reducible refine below_dn ?_ _) | (with_reducible refine Below.trans ?_ (Below.mono (by assumption) ?_)) | (simp; done) | (simp; omega) | omega))
theorem rsame_true (x y : Int) (w : World) : Calls Tryd.prog 16 #[.agg #[.int .i64 x, .int .i64 y], .agg #[.int .i64 x, .int .i64 y]] w (Gives (.bool true) w) := by
  go_enter Tryd.func16, Tryd.ntmps16
  go_wp2
  go_ret
  exact Gives.mk rfl (by repeat' (first | (with_reducible exact Below.refl _ _) | (with_reducible refine Below.alloc ?_ ?_ _) | (with_reducible refine Below.setCell ?_ ?_ _) | (with_reducible refine Below.drew ?_) | (with_reducible refine Below.trans ?_ (Below.mono (by assumption) ?_)) | (simp; done) | (simp; omega) | omega))
set_option maxRecDepth 100000 in
set_option maxHeartbeats 8000000 in
theorem fnews_walk (a b n d x y e ix iy ie c : Int) (w : World)
    (aw : ∀ W, Below w.heap.size w W → Calls Tryd.prog 11 #[] W (Gives (.bool true) W))
    (n1 : ∀ w : World, Calls Tryd.prog 12 #[.int .i64 a, .int .i64 b] w (Gives (.tuple #[.agg #[.int .i64 x, .int .i64 y], .int .i64 e]) w)) (n2 : ∀ w : World, Calls Tryd.prog 13 #[.int .i64 a, .int .i64 b] w (Gives (.tuple #[.agg #[.int .i64 x, .int .i64 y], .int .i64 e]) w))
    (i1 : ∀ w : World, Calls Tryd.prog 14 #[.int .i64 a] w (Gives (.tuple #[.agg #[.int .i64 ix, .int .i64 iy], .int .i64 ie]) w)) (i2 : ∀ w : World, Calls Tryd.prog 15 #[.int .i64 a] w (Gives (.tuple #[.agg #[.int .i64 ix, .int .i64 iy], .int .i64 ie]) w))
    (k1 : ∀ w : World, Calls Tryd.prog 17 #[.agg #[.int .i64 n, .int .i64 d]] w (Gives (.int .i64 c) w)) (k2 : ∀ w : World, Calls Tryd.prog 18 #[.agg #[.int .i64 n, .int .i64 d]] w (Gives (.int .i64 c) w)) :
    Calls Tryd.prog 3 #[.int .i64 a, .int .i64 b, .agg #[.int .i64 n, .int .i64 d]] w (Gives (.bool true) w) := by
  have s1 := fun w => rsame_true x y w
  have s2 := fun w => rsame_true ix iy w
  go_enter Tryd.func3, Tryd.ntmps3
  go_wp2_with fail
  refine (aw _ (by repeat' (first | (with_reducible exact Below.refl _ _) | (with_reducible refine Below.alloc ?_ ?_ _) | (with_reducible refine Below.setCell ?_ ?_ _) | (with_reducible refine Below.drew ?_) | (with_reducible refine Below.trans ?_ (Below.mono (by assumption) ?_)) | (simp; done) | (simp; omega) | omega))).mono ?_; rintro e v1 ⟨rfl, hb⟩
  have BN : Below w.heap.size w v1 := by repeat' (first | (with_reducible exact Below.refl _ _) | (with_reducible refine Below.alloc ?_ ?_ _) | (with_reducible refine Below.setCell ?_ ?_ _) | (with_reducible refine Below.drew ?_) | (with_reducible refine Below.trans ?_ (Below.mono (by assumption) ?_)) | (simp; done) | (simp; omega) | omega)
  have pfbz : w.heap.size < (v1).heap.size := Nat.lt_of_lt_of_le (show w.heap.size < _ from (by first | assumption | (simp; done) | (simp; omega) | (dsimp only; omega) | omega)) hb.size; have pfb0 : (v1).cell? ⟨w.heap.size, 0, none⟩ = some (.int .i64 (n)) := (hb.cell (p := ⟨w.heap.size, 0, none⟩) (by first | assumption | (simp; done) | (simp; omega) | (dsimp only; omega) | omega)).trans (by first | assumption | (simp [go_sem]; done) | (simp [go_sem, *]; done)); have pfb1 : (v1).cell? ⟨w.heap.size, 1, none⟩ = some (.int .i64 (d)) := (hb.cell (p := ⟨w.heap.size, 1, none⟩) (by first | assumption | (simp; done) | (simp; omega) | (dsimp only; omega) | omega)).trans (by first | assumption | (simp [go_sem]; done) | (simp [go_sem, *]; done))
  have BH := hid BN
  have hsz := BN.size
  clear BN hb
  go_wp2_with fail
  refine (n1 _).mono ?_; rintro e v2 ⟨rfl, hb⟩
  have BB := BH.out
  have BN : Below w.heap.size w v2 := by repeat' (first | (with_reducible exact Below.refl _ _) | (with_reducible refine Below.alloc ?_ ?_ _) | (with_reducible refine Below.setCell ?_ ?_ _) | (with_reducible refine Below.drew ?_) | (with_reducible refine Below.trans ?_ (Below.mono (by assumption) ?_)) | (simp; done) | (simp; omega) | omega)
  have pfaz : w.heap.size < (v2).heap.size := Nat.lt_of_lt_of_le (show w.heap.size < _ from (by first | assumption | (simp; done) | (simp; omega) | (dsimp only; omega) | omega)) hb.size; have pfa0 : (v2).cell? ⟨w.heap.size, 0, none⟩ = some (.int .i64 (n)) := (hb.cell (p := ⟨w.heap.size, 0, none⟩) (by first | assumption | (simp; done) | (simp; omega) | (dsimp only; omega) | omega)).trans (by first | assumption | (simp [go_sem]; done) | (simp [go_sem, *]; done)); have pfa1 : (v2).cell? ⟨w.heap.size, 1, none⟩ = some (.int .i64 (d)) := (hb.cell (p := ⟨w.heap.size, 1, none⟩) (by first | assumption | (simp; done) | (simp; omega) | (dsimp only; omega) | omega)).trans (by first | assumption | (simp [go_sem]; done) | (simp [go_sem, *]; done))
  clear BB BH hsz
  clear pfbz pfb0 pfb1
  have BH := hid BN
  have hsz := BN.size
  clear BN hb
  go_wp2_with fail
  refine (n2 _).mono ?_; rintro e v3 ⟨rfl, hb⟩
  have BB := BH.out
  have BN : Below w.heap.size w v3 := by repeat' (first | (with_reducible exact Below.refl _ _) | (with_reducible refine Below.alloc ?_ ?_ _) | (with_reducible refine Below.setCell ?_ ?_ _) | (with_reducible refine Below.drew ?_) | (with_reducible refine Below.trans ?_ (Below.mono (by assumption) ?_)) | (simp; done) | (simp; omega) | omega)
  have pfbz : w.heap.size < (v3).heap.size := Nat.lt_of_lt_of_le (show w.heap.size < _ from (by first | assumption | (simp; done) | (simp; omega) | (dsimp only; omega) | omega)) hb.size; have pfb0 : (v3).cell? ⟨w.heap.size, 0, none⟩ = some (.int .i64 (n)) := (hb.cell (p := ⟨w.heap.size, 0, none⟩) (by first | assumption | (simp; done) | (simp; omega) | (dsimp only; omega) | omega)).trans (by first | assumption | (simp [go_sem]; done) | (simp [go_sem, *]; done)); have pfb1 : (v3).cell? ⟨w.heap.size, 1, none⟩ = some (.int .i64 (d)) := (hb.cell (p := ⟨w.heap.size, 1, none⟩) (by first | assumption | (simp; done) | (simp; omega) | (dsimp only; omega) | omega)).trans (by first | assumption | (simp [go_sem]; done) | (simp [go_sem, *]; done))
  have tabz : v2.heap.size < (v3).heap.size := Nat.lt_of_lt_of_le (show v2.heap.size < _ from (by first | assumption | (simp; done) | (simp; omega) | (dsimp only; omega) | omega)) hb.size; have tab0 : (v3).cell? ⟨v2.heap.size, 0, none⟩ = some (.int .i64 (x)) := (hb.cell (p := ⟨v2.heap.size, 0, none⟩) (by first | assumption | (simp; done) | (simp; omega) | (dsimp only; omega) | omega)).trans (by first | assumption | (simp [go_sem]; done) | (simp [go_sem, *]; done)); have tab1 : (v3).cell? ⟨v2.heap.size, 1, none⟩ = some (.int .i64 (y)) := (hb.cell (p := ⟨v2.heap.size, 1, none⟩) (by first | assumption | (simp; done) | (simp; omega) | (dsimp only; omega) | omega)).trans (by first | assumption | (simp [go_sem]; done) | (simp [go_sem, *]; done))
  clear BB BH hsz
  clear pfaz pfa0 pfa1
  have BH := hid BN
  have hsz := BN.size
  clear BN hb
  go_wp2_with fail
  refine (i1 _).mono ?_; rintro e v4 ⟨rfl, hb⟩
  have BB := BH.out
  have BN : Below w.heap.size w v4 := by repeat' (first | (with_reducible exact Below.refl _ _) | (with_reducible refine Below.alloc ?_ ?_ _) | (with_reducible refine Below.setCell ?_ ?_ _) | (with_reducible refine Below.drew ?_) | (with_reducible refine Below.trans ?_ (Below.mono (by assumption) ?_)) | (simp; done) | (simp; omega) | omega)
  have pfaz : w.heap.size < (v4).heap.size := Nat.lt_of_lt_of_le (show w.heap.size < _ from (by first | assumption | (simp; done) | (simp; omega) | (dsimp only; omega) | omega)) hb.size; have pfa0 : (v4).cell? ⟨w.heap.size, 0, none⟩ = some (.int .i64 (n)) := (hb.cell (p := ⟨w.heap.size, 0, none⟩) (by first | assumption | (simp; done) | (simp; omega) | (dsimp only; omega) | omega)).trans (by first | assumption | (simp [go_sem]; done) | (simp [go_sem, *]; done)); have pfa1 : (v4).cell? ⟨w.heap.size, 1, none⟩ = some (.int .i64 (d)) := (hb.cell (p := ⟨w.heap.size, 1, none⟩) (by first | assumption | (simp; done) | (simp; omega) | (dsimp only; omega) | omega)).trans (by first | assumption | (simp [go_sem]; done) | (simp [go_sem, *]; done))
  have taaz : v2.heap.size < (v4).heap.size := Nat.lt_of_lt_of_le (show v2.heap.size < _ from (by first | assumption | (simp; done) | (simp; omega) | (dsimp only; omega) | omega)) hb.size; have taa0 : (v4).cell? ⟨v2.heap.size, 0, none⟩ = some (.int .i64 (x)) := (hb.cell (p := ⟨v2.heap.size, 0, none⟩) (by first | assumption | (simp; done) | (simp; omega) | (dsimp only; omega) | omega)).trans (by first | assumption | (simp [go_sem]; done) | (simp [go_sem, *]; done)); have taa1 : (v4).cell? ⟨v2.heap.size, 1, none⟩ = some (.int .i64 (y)) := (hb.cell (p := ⟨v2.heap.size, 1, none⟩) (by first | assumption | (simp; done) | (simp; omega) | (dsimp only; omega) | omega)).trans (by first | assumption | (simp [go_sem]; done) | (simp [go_sem, *]; done))
  have tbaz : v3.heap.size < (v4).heap.size := Nat.lt_of_lt_of_le (show v3.heap.size < _ from (by first | assumption | (simp; done) | (simp; omega) | (dsimp only; omega) | omega)) hb.size; have tba0 : (v4).cell? ⟨v3.heap.size, 0, none⟩ = some (.int .i64 (x)) := (hb.cell (p := ⟨v3.heap.size, 0, none⟩) (by first | assumption | (simp; done) | (simp; omega) | (dsimp only; omega) | omega)).trans (by first | assumption | (simp [go_sem]; done) | (simp [go_sem, *]; done)); have tba1 : (v4).cell? ⟨v3.heap.size, 1, none⟩ = some (.int .i64 (y)) := (hb.cell (p := ⟨v3.heap.size, 1, none⟩) (by first | assumption | (simp; done) | (simp; omega) | (dsimp only; omega) | omega)).trans (by first | assumption | (simp [go_sem]; done) | (simp [go_sem, *]; done))
  clear BB BH hsz
  clear pfbz pfb0 pfb1 tabz tab0 tab1
  have BH := hid BN
  have hsz := BN.size
  clear BN hb
  go_wp2_with fail
  refine (i2 _).mono ?_; rintro e v5 ⟨rfl, hb⟩
  have BB := BH.out
  have BN : Below w.heap.size w v5 := by repeat' (first | (with_reducible exact Below.refl _ _) | (with_reducible refine Below.alloc ?_ ?_ _) | (with_reducible refine Below.setCell ?_ ?_ _) | (with_reducible refine Below.drew ?_) | (with_reducible refine Below.trans ?_ (Below.mono (by assumption) ?_)) | (simp; done) | (simp; omega) | omega)
  have pfbz : w.heap.size < (v5).heap.size := Nat.lt_of_lt_of_le (show w.heap.size < _ from (by first | assumption | (simp; done) | (simp; omega) | (dsimp only; omega) | omega)) hb.size; have pfb0 : (v5).cell? ⟨w.heap.size, 0, none⟩ = some (.int .i64 (n)) := (hb.cell (p := ⟨w.heap.size, 0, none⟩) (by first | assumption | (simp; done) | (simp; omega) | (dsimp only; omega) | omega)).trans (by first | assumption | (simp [go_sem]; done) | (simp [go_sem, *]; done)); have pfb1 : (v5).cell? ⟨w.heap.size, 1, none⟩ = some (.int .i64 (d)) := (hb.cell (p := ⟨w.heap.size, 1, none⟩) (by first | assumption | (simp; done) | (simp; omega) | (dsimp only; omega) | omega)).trans (by first | assumption | (simp [go_sem]; done) | (simp [go_sem, *]; done))
  have tabz : v2.heap.size < (v5).heap.size := Nat.lt_of_lt_of_le (show v2.heap.size < _ from (by first | assumption | (simp; done) | (simp; omega) | (dsimp only; omega) | omega)) hb.size; have tab0 : (v5).cell? ⟨v2.heap.size, 0, none⟩ = some (.int .i64 (x)) := (hb.cell (p := ⟨v2.heap.size, 0, none⟩) (by first | assumption | (simp; done) | (simp; omega) | (dsimp only; omega) | omega)).trans (by first | assumption | (simp [go_sem]; done) | (simp [go_sem, *]; done)); have tab1 : (v5).cell? ⟨v2.heap.size, 1, none⟩ = some (.int .i64 (y)) := (hb.cell (p := ⟨v2.heap.size, 1, none⟩) (by first | assumption | (simp; done) | (simp; omega) | (dsimp only; omega) | omega)).trans (by first | assumption | (simp [go_sem]; done) | (simp [go_sem, *]; done))
  have tbbz : v3.heap.size < (v5).heap.size := Nat.lt_of_lt_of_le (show v3.heap.size < _ from (by first | assumption | (simp; done) | (simp; omega) | (dsimp only; omega) | omega)) hb.size; have tbb0 : (v5).cell? ⟨v3.heap.size, 0, none⟩ = some (.int .i64 (x)) := (hb.cell (p := ⟨v3.heap.size, 0, none⟩) (by first | assumption | (simp; done) | (simp; omega) | (dsimp only; omega) | omega)).trans (by first | assumption | (simp [go_sem]; done) | (simp [go_sem, *]; done)); have tbb1 : (v5).cell? ⟨v3.heap.size, 1, none⟩ = some (.int .i64 (y)) := (hb.cell (p := ⟨v3.heap.size, 1, none⟩) (by first | assumption | (simp; done) | (simp; omega) | (dsimp only; omega) | omega)).trans (by first | assumption | (simp [go_sem]; done) | (simp [go_sem, *]; done))
  have tcbz : v4.heap.size < (v5).heap.size := Nat.lt_of_lt_of_le (show v4.heap.size < _ from (by first | assumption | (simp; done) | (simp; omega) | (dsimp only; omega) | omega)) hb.size; have tcb0 : (v5).cell? ⟨v4.heap.size, 0, none⟩ = some (.int .i64 (ix)) := (hb.cell (p := ⟨v4.heap.size, 0, none⟩) (by first | assumption | (simp; done) | (simp; omega) | (dsimp only; omega) | omega)).trans (by first | assumption | (simp [go_sem]; done) | (simp [go_sem, *]; done)); have tcb1 : (v5).cell? ⟨v4.heap.size, 1, none⟩ = some (.int .i64 (iy)) := (hb.cell (p := ⟨v4.heap.size, 1, none⟩) (by first | assumption | (simp; done) | (simp; omega) | (dsimp only; omega) | omega)).trans (by first | assumption | (simp [go_sem]; done) | (simp [go_sem, *]; done))
  clear BB BH hsz
  clear pfaz pfa0 pfa1 taaz taa0 taa1 tbaz tba0 tba1
  have BH := hid BN
  have hsz := BN.size
  clear BN hb
  go_wp2_with fail
  have q1 : w.heap.size < v5.heap.size + 1 := by omega
  have q2 : v2.heap.size < v5.heap.size + 1 := by omega
  have q3 : v3.heap.size < v5.heap.size + 1 := by omega
  have q4 : v4.heap.size < v5.heap.size + 1 := by omega
  have K : Hid (∀ W', Below (v5.heap.size + 1) (v5.alloc (Obj.cells #[.int .i64 ix, .int .i64 iy] 23)) W' → (Below (v5.heap.size + 1) (v5.alloc (Obj.cells #[.int .i64 ix, .int .i64 iy] 23)) W' ∧ v5.heap.size + 1 ≤ W'.heap.size ∧ W'.cell? ⟨w.heap.size, 0, none⟩ = some (.int .i64 n) ∧ W'.cell? ⟨w.heap.size, 1, none⟩ = some (.int .i64 d) ∧ W'.cell? ⟨v2.heap.size, 0, none⟩ = some (.int .i64 x) ∧ W'.cell? ⟨v2.heap.size, 1, none⟩ = some (.int .i64 y) ∧ W'.cell? ⟨v3.heap.size, 0, none⟩ = some (.int .i64 x) ∧ W'.cell? ⟨v3.heap.size, 1, none⟩ = some (.int .i64 y) ∧ W'.cell? ⟨v4.heap.size, 0, none⟩ = some (.int .i64 ix) ∧ W'.cell? ⟨v4.heap.size, 1, none⟩ = some (.int .i64 iy) ∧ W'.cell? ⟨v5.heap.size, 0, none⟩ = some (.int .i64 ix) ∧ W'.cell? ⟨v5.heap.size, 1, none⟩ = some (.int .i64 iy))) := hid fun W' B => ⟨B, (by simpa using B.size), (B.cell (p := ⟨w.heap.size, 0, none⟩) (by first | assumption | (simp; done) | (simp; omega) | (dsimp only; omega) | omega)).trans (by first | assumption | (simp [go_sem]; done) | (simp [go_sem, *]; done)), (B.cell (p := ⟨w.heap.size, 1, none⟩) (by first | assumption | (simp; done) | (simp; omega) | (dsimp only; omega) | omega)).trans (by first | assumption | (simp [go_sem]; done) | (simp [go_sem, *]; done)), (B.cell (p := ⟨v2.heap.size, 0, none⟩) (by first | assumption | (simp; done) | (simp; omega) | (dsimp only; omega) | omega)).trans (by first | assumption | (simp [go_sem]; done) | (simp [go_sem, *]; done)), (B.cell (p := ⟨v2.heap.size, 1, none⟩) (by first | assumption | (simp; done) | (simp; omega) | (dsimp only; omega) | omega)).trans (by first | assumption | (simp [go_sem]; done) | (simp [go_sem, *]; done)), (B.cell (p := ⟨v3.heap.size, 0, none⟩) (by first | assumption | (simp; done) | (simp; omega) | (dsimp only; omega) | omega)).trans (by first | assumption | (simp [go_sem]; done) | (simp [go_sem, *]; done)), (B.cell (p := ⟨v3.heap.size, 1, none⟩) (by first | assumption | (simp; done) | (simp; omega) | (dsimp only; omega) | omega)).trans (by first | assumption | (simp [go_sem]; done) | (simp [go_sem, *]; done)), (B.cell (p := ⟨v4.heap.size, 0, none⟩) (by first | assumption | (simp; done) | (simp; omega) | (dsimp only; omega) | omega)).trans (by first | assumption | (simp [go_sem]; done) | (simp [go_sem, *]; done)), (B.cell (p := ⟨v4.heap.size, 1, none⟩) (by first | assumption | (simp; done) | (simp; omega) | (dsimp only; omega) | omega)).trans (by first | assumption | (simp [go_sem]; done) | (simp [go_sem, *]; done)), (B.cell (p := ⟨v5.heap.size, 0, none⟩) (by first | assumption | (simp; done) | (simp; omega) | (dsimp only; omega) | omega)).trans (by first | assumption | (simp [go_sem]; done) | (simp [go_sem, *]; done)), (B.cell (p := ⟨v5.heap.size, 1, none⟩) (by first | assumption | (simp; done) | (simp; omega) | (dsimp only; omega) | omega)).trans (by first | assumption | (simp [go_sem]; done) | (simp [go_sem, *]; done))⟩
  go_region_held3 (fun w' => Below (v5.heap.size + 1) (v5.alloc (Obj.cells #[.int .i64 ix, .int .i64 iy] 23)) w' ∧ v5.heap.size + 1 ≤ w'.heap.size ∧ w'.cell? ⟨w.heap.size, 0, none⟩ = some (.int .i64 n) ∧ w'.cell? ⟨w.heap.size, 1, none⟩ = some (.int .i64 d) ∧ w'.cell? ⟨v2.heap.size, 0, none⟩ = some (.int .i64 x) ∧ w'.cell? ⟨v2.heap.size, 1, none⟩ = some (.int .i64 y) ∧ w'.cell? ⟨v3.heap.size, 0, none⟩ = some (.int .i64 x) ∧ w'.cell? ⟨v3.heap.size, 1, none⟩ = some (.int .i64 y) ∧ w'.cell? ⟨v4.heap.size, 0, none⟩ = some (.int .i64 ix) ∧ w'.cell? ⟨v4.heap.size, 1, none⟩ = some (.int .i64 iy) ∧ w'.cell? ⟨v5.heap.size, 0, none⟩ = some (.int .i64 ix) ∧ w'.cell? ⟨v5.heap.size, 1, none⟩ = some (.int .i64 iy)) ((exact K.out _ (by repeat' (first | (with_reducible exact Below.refl _ _) | (with_reducible refine Below.alloc ?_ ?_ _) | (with_reducible refine Below.setCell ?_ ?_ _) | (with_reducible refine Below.drew ?_) | (with_reducible refine below_dn ?_ _) | (with_reducible refine Below.trans ?_ (Below.mono (by assumption) ?_)) | (simp; done) | (simp; omega) | omega))))
    (first | (go_at_call 16; (with_reducible refine (s1 _).mono ?_); rintro _ w5 ⟨rfl, hb2⟩; have hb5 : Below (v5.heap.size + 1) (v5.alloc (Obj.cells #[.int .i64 ix, .int .i64 iy] 23)) w5 := (by repeat' (first | (with_reducible exact Below.refl _ _) | (with_reducible refine Below.alloc ?_ ?_ _) | (with_reducible refine Below.setCell ?_ ?_ _) | (with_reducible refine Below.drew ?_) | (with_reducible refine below_dn ?_ _) | (with_reducible refine Below.trans ?_ (Below.mono (by assumption) ?_)) | (simp; done) | (simp; omega) | omega)); have hz5 : v5.heap.size + 1 ≤ w5.heap.size := (by simpa using hb5.size); clear hb2) | (go_at_call 16; (with_reducible refine (s2 _).mono ?_); rintro _ w5 ⟨rfl, hb2⟩; have hb5 : Below (v5.heap.size + 1) (v5.alloc (Obj.cells #[.int .i64 ix, .int .i64 iy] 23)) w5 := (by repeat' (first | (with_reducible exact Below.refl _ _) | (with_reducible refine Below.alloc ?_ ?_ _) | (with_reducible refine Below.setCell ?_ ?_ _) | (with_reducible refine Below.drew ?_) | (with_reducible refine below_dn ?_ _) | (with_reducible refine Below.trans ?_ (Below.mono (by assumption) ?_)) | (simp; done) | (simp; omega) | omega)); have hz5 : v5.heap.size + 1 ≤ w5.heap.size := (by simpa using hb5.size); clear hb2) | (go_at_call 17; (with_reducible refine (k1 _).mono ?_); rintro _ w5 ⟨rfl, hb2⟩; have hb5 : Below (v5.heap.size + 1) (v5.alloc (Obj.cells #[.int .i64 ix, .int .i64 iy] 23)) w5 := (by repeat' (first | (with_reducible exact Below.refl _ _) | (with_reducible refine Below.alloc ?_ ?_ _) | (with_reducible refine Below.setCell ?_ ?_ _) | (with_reducible refine Below.drew ?_) | (with_reducible refine below_dn ?_ _) | (with_reducible refine Below.trans ?_ (Below.mono (by assumption) ?_)) | (simp; done) | (simp; omega) | omega)); have hz5 : v5.heap.size + 1 ≤ w5.heap.size := (by simpa using hb5.size); clear hb2) | (go_at_call 18; (with_reducible refine (k2 _).mono ?_); rintro _ w5 ⟨rfl, hb2⟩; have hb5 : Below (v5.heap.size + 1) (v5.alloc (Obj.cells #[.int .i64 ix, .int .i64 iy] 23)) w5 := (by repeat' (first | (with_reducible exact Below.refl _ _) | (with_reducible refine Below.alloc ?_ ?_ _) | (with_reducible refine Below.setCell ?_ ?_ _) | (with_reducible refine Below.drew ?_) | (with_reducible refine below_dn ?_ _) | (with_reducible refine Below.trans ?_ (Below.mono (by assumption) ?_)) | (simp; done) | (simp; omega) | omega)); have hz5 : v5.heap.size + 1 ≤ w5.heap.size := (by simpa using hb5.size); clear hb2))
  all_goals
    have BB := BH.out
    go_wp2
    go_ret
    exact Gives.mk rfl (by repeat' (first | (with_reducible exact Below.refl _ _) | (with_reducible refine Below.alloc ?_ ?_ _) | (with_reducible refine Below.setCell ?_ ?_ _) | (with_reducible refine Below.drew ?_) | (with_reducible refine below_dn ?_ _) | (with_reducible refine Below.trans ?_ (Below.mono (by assumption) ?_)) | (simp; done) | (simp; omega) | omega))
theorem fnews_as (a b n d : Int) (A0 : -9223372036854775808 ≤ a) (A1 : a ≤ 9223372036854775807) (B0 : -9223372036854775808 ≤ b) (B1 : b ≤ 9223372036854775807) (N0 : -9223372036854775808 ≤ n) (N1 : n ≤ 9223372036854775807) (D0 : -9223372036854775808 ≤ d) (D1 : d ≤ 9223372036854775807) (w : World) (ht : Lib.TabIs Tryd.prog w "internal/strconv.uint64pow10" .u64 Lib.pow10Tab) :
    Calls Tryd.prog 3 #[.int .i64 a, .int .i64 b, .agg #[.int .i64 n, .int .i64 d]] w (Gives (.bool true) w) := by
  obtain ⟨⟨x, y, e⟩, hv⟩ : ∃ r, Sp.newS a b = r := ⟨_, rfl⟩
  obtain ⟨⟨ix, iy, ie⟩, hi⟩ : ∃ r, Sp.newS a 1 = r := ⟨_, rfl⟩
  exact fnews_walk a b n d x y e ix iy ie _ w (fun W B => fawake_any W (tab_below gPow ht B)) (fun w => fnew_any a b A0 A1 B0 B1 x y e hv w) (fun w => rnew_any a b A0 A1 B0 B1 x y e hv w) (fun w => fint_any a A0 A1 ix iy ie hi w) (fun w => rint_any a A0 A1 ix iy ie hi w)
    (fun w => fcheck_any n d N0 N1 D0 D1 w) (fun w => rfcheck_any n d N0 N1 D0 D1 w)
end Go.Proofs.YtjbnejhpfknfcaaDoor
