/-
  The functions of package couperef01, each by a contract: times, Times, Mul, compare, Compare, Products.
-/
import Derived.Test.YtfdnmlggemonhaaWreftimes
import Derived.Test.YtfdnmlggemonhaaWcmp
import Derived.Test.YtfdnmlggemonhaaWrefadd3
namespace Go.Proofs.Ytfdnmlggemonhaa
open Go.RowKit
set_option linter.unusedVariables false
set_option linter.unusedSimpArgs false

theorem rtimes_any (n1 : Bool) (h1 l1 a : Int) (b0 : 0 ≤ h1) (b1 : h1 < 9223372036854775808) (b2 : 0 ≤ l1) (b3 : l1 < 18446744073709551616) (a0 : -9223372036854775808 ≤ a) (a1 : a ≤ 9223372036854775807) (n : Bool) (h l e : Int)
    (hv : Wd.lim (Wd.sv n1 (h1 * 18446744073709551616 + l1) * a) = (⟨n, h, l⟩, e)) (w : World) :
    Calls Try.prog 93 #[.agg #[.bool n1, .int .u64 h1, .int .u64 l1], .int .i64 a] w (Gives (.tuple #[.agg #[.bool n, .int .u64 h, .int .u64 l], .int .i64 e]) w) := by
  have ma := fun w => size_any a a0 a1 w
  obtain ⟨f, hf⟩ : ∃ f : Int, (a.natAbs : Int) = f := ⟨_, rfl⟩
  have f0 : 0 ≤ f := by omega
  have f1 : f ≤ 9223372036854775808 := by omega
  have hsg := sv_mul n1 (h1 * 18446744073709551616 + l1) a
  rw [hf] at hsg ma
  have p0 : 0 ≤ (h1 * 18446744073709551616 + l1) * f := Int.mul_nonneg (by omega) f0
  have p1 : (h1 * 18446744073709551616 + l1) * f < 6277101735386680763835789423207666416102355444464034512896 := by
    have := Int.mul_le_mul (show h1 * 18446744073709551616 + l1 ≤ 170141183460469231731687303715884105728 by omega) f1 f0 (by omega)
    omega
  rw [← hsg] at hv
  obtain ⟨P, hP⟩ : ∃ P, (h1 * 18446744073709551616 + l1) * f = P := ⟨_, rfl⟩
  rw [hP] at p0 p1 hv
  obtain ⟨z0, hz0⟩ : ∃ z, P % 4294967296 = z := ⟨_, rfl⟩
  obtain ⟨P1, hP1⟩ : ∃ z, P / 4294967296 = z := ⟨_, rfl⟩
  obtain ⟨z1, hz1⟩ : ∃ z, P1 % 4294967296 = z := ⟨_, rfl⟩
  obtain ⟨P2, hP2⟩ : ∃ z, P1 / 4294967296 = z := ⟨_, rfl⟩
  obtain ⟨z2, hz2⟩ : ∃ z, P2 % 4294967296 = z := ⟨_, rfl⟩
  obtain ⟨P3, hP3⟩ : ∃ z, P2 / 4294967296 = z := ⟨_, rfl⟩
  obtain ⟨z3, hz3⟩ : ∃ z, P3 % 4294967296 = z := ⟨_, rfl⟩
  obtain ⟨P4, hP4⟩ : ∃ z, P3 / 4294967296 = z := ⟨_, rfl⟩
  obtain ⟨z4, hz4⟩ : ∃ z, P4 % 4294967296 = z := ⟨_, rfl⟩
  obtain ⟨z5, hz5⟩ : ∃ z, P4 / 4294967296 = z := ⟨_, rfl⟩
  have r0 : 0 ≤ z0 ∧ z0 ≤ 4294967295 := by omega
  have r1 : 0 ≤ z1 ∧ z1 ≤ 4294967295 := by omega
  have r2 : 0 ≤ z2 ∧ z2 ≤ 4294967295 := by omega
  have r3 : 0 ≤ z3 ∧ z3 ≤ 4294967295 := by omega
  have r4 : 0 ≤ z4 ∧ z4 ≤ 4294967295 := by omega
  have s0 : P = z0 + P1 * 4294967296 := by omega
  have s1 : P1 = z1 + P2 * 4294967296 := by omega
  have s2 : P2 = z2 + P3 * 4294967296 := by omega
  have s3 : P3 = z3 + P4 * 4294967296 := by omega
  have s4 : P4 = z4 + z5 * 4294967296 := by omega
  have q1 : 0 ≤ P1 := by omega
  have q2 : 0 ≤ P2 := by omega
  have q3 : 0 ≤ P3 := by omega
  have q4 : 0 ≤ P4 := by omega
  clear hz0 hP1 hz1 hP2 hz2 hP3 hz3 hP4 hz4
  have r5 : 0 ≤ z5 ∧ z5 ≤ 4294967295 := by omega
  clear hz5
  have ez : z0 + z1 * 4294967296 + z2 * 18446744073709551616 + z3 * 79228162514264337593543950336 + z4 * 340282366920938463463374607431768211456 + z5 * 1461501637330902918203684832716283019655932542976 = P := by omega
  have pr := fun w => product_any n1 h1 l1 f b0 (by omega) b2 b3 f0 (by omega) z0 z1 z2 z3 z4 z5 ⟨r0, r1, r2, r3, r4, r5⟩ (by rw [hP]; exact ez) w
  by_cases ov : 0 < z4 ∨ 0 < z5
  · have hx : Wd.lim (Wd.sv (n1 != decide (a < 0)) P) = (Wd.zero, 8) := by
      unfold Wd.lim Wd.sv
      rw [if_neg]
      split <;> omega
    rw [hx] at hv
    obtain ⟨hz, rfl⟩ := Prod.mk.inj hv
    obtain ⟨rfl, rfl, rfl⟩ := Wd.mk.inj hz
    exact rtimes_walk n1 h1 l1 a f z0 z1 z2 z3 z4 z5 false 0 0 false 0 0 8 w (Or.inl ⟨ov, rfl, rfl, rfl, rfl⟩) ma pr
  · have e4 : z4 = 0 := by omega
    have e5 : z5 = 0 := by omega
    obtain ⟨s, hs⟩ : ∃ s, (n1 != decide (a < 0)) = s := ⟨_, rfl⟩
    rw [hs] at hv
    obtain ⟨H, hH⟩ : ∃ H, z3 * 4294967296 + z2 = H := ⟨_, rfl⟩
    obtain ⟨L, hL⟩ : ∃ L, z1 * 4294967296 + z0 = L := ⟨_, rfl⟩
    have ht : H * 18446744073709551616 + L = P := by omega
    have mk := Wd.mk'_eq s H L (by omega) (by omega) (by omega)
    obtain ⟨m, hm⟩ : ∃ m, Wd.mk' s H L = ⟨m, H, L⟩ := ⟨_, rfl⟩
    have e2 : (if 9223372036854775808 ≤ H then (Wd.zero, (8 : Int)) else (⟨m, H, L⟩, 0)) = (⟨n, h, l⟩, e) := by
      rw [← hv]
      unfold Wd.lim
      by_cases c : 9223372036854775808 ≤ H
      · rw [if_pos c, if_neg (by unfold Wd.sv; split <;> omega)]
      · rw [if_neg c, if_pos (by unfold Wd.sv; split <;> omega), ← hm, mk, ht]
    exact rtimes_walk n1 h1 l1 a f z0 z1 z2 z3 z4 z5 m H L n h l e w
      (Or.inr ⟨⟨e4, e5⟩, by rw [hs]; exact fun w => made_any s z0 z1 z2 z3 (by omega) (by omega) (by omega) (by omega) (by omega) (by omega) (by omega) (by omega) m H L hH hL hm w, fun w => rlimited_any m H L n h l e e2 w⟩) ma pr

theorem rwMul_walk (a b : Int) (na : Bool) (ha la : Int) (n : Bool) (h l : Int) (w : World)
    (oo : ∀ w : World, Calls Try.prog 94 #[.int .i64 a] w (Gives (.agg #[.bool na, .int .u64 ha, .int .u64 la]) w))
    (tm : ∀ w : World, Calls Try.prog 93 #[.agg #[.bool na, .int .u64 ha, .int .u64 la], .int .i64 b] w (Gives (.tuple #[.agg #[.bool n, .int .u64 h, .int .u64 l], .int .i64 0]) w)) :
    Calls Try.prog 76 #[.int .i64 a, .int .i64 b] w (Gives (.agg #[.bool n, .int .u64 h, .int .u64 l]) w) := by
  go_enter Try.func76, Try.ntmps76
  go_wp2_with (first | (go_at_call 94; refine (oo _).mono ?_; rintro e w1 ⟨rfl, hb⟩; have yz : w.heap.size < (w1).heap.size := Nat.lt_of_lt_of_le (show w.heap.size < _ from (by first | assumption | (simp; done) | (simp; omega) | (dsimp only; omega) | omega)) hb.size; have y0 : (w1).cell? ⟨w.heap.size, 0, none⟩ = some (.bool false) := (hb.cell (p := ⟨w.heap.size, 0, none⟩) (by first | assumption | (simp; done) | (simp; omega) | (dsimp only; omega) | omega)).trans (by first | assumption | (simp [go_sem]; done)); have y1 : (w1).cell? ⟨w.heap.size, 1, none⟩ = some (.int .u64 0) := (hb.cell (p := ⟨w.heap.size, 1, none⟩) (by first | assumption | (simp; done) | (simp; omega) | (dsimp only; omega) | omega)).trans (by first | assumption | (simp [go_sem]; done)); have y2 : (w1).cell? ⟨w.heap.size, 2, none⟩ = some (.int .u64 0) := (hb.cell (p := ⟨w.heap.size, 2, none⟩) (by first | assumption | (simp; done) | (simp; omega) | (dsimp only; omega) | omega)).trans (by first | assumption | (simp [go_sem]; done)); have yf : ∀ o, (w1).frozen? ⟨w.heap.size, o, none⟩ = false := fun o => (hb.frozen (p := ⟨w.heap.size, o, none⟩) (by first | assumption | (simp; done) | (simp; omega) | (dsimp only; omega) | omega)).trans (by first | (simp [go_sem]; done) | (simp [*]; done))) | (go_at_call 93; refine (tm _).mono ?_; rintro e w2 ⟨rfl, hb2⟩; have xz : w.heap.size < (w2).heap.size := Nat.lt_of_lt_of_le (show w.heap.size < _ from (by first | assumption | (simp; done) | (simp; omega) | (dsimp only; omega) | omega)) hb2.size; have x0 : (w2).cell? ⟨w.heap.size, 0, none⟩ = some (.bool false) := (hb2.cell (p := ⟨w.heap.size, 0, none⟩) (by first | assumption | (simp; done) | (simp; omega) | (dsimp only; omega) | omega)).trans (by first | assumption | (simp [go_sem]; done)); have x1 : (w2).cell? ⟨w.heap.size, 1, none⟩ = some (.int .u64 0) := (hb2.cell (p := ⟨w.heap.size, 1, none⟩) (by first | assumption | (simp; done) | (simp; omega) | (dsimp only; omega) | omega)).trans (by first | assumption | (simp [go_sem]; done)); have x2 : (w2).cell? ⟨w.heap.size, 2, none⟩ = some (.int .u64 0) := (hb2.cell (p := ⟨w.heap.size, 2, none⟩) (by first | assumption | (simp; done) | (simp; omega) | (dsimp only; omega) | omega)).trans (by first | assumption | (simp [go_sem]; done)); have xf : ∀ o, (w2).frozen? ⟨w.heap.size, o, none⟩ = false := fun o => (hb2.frozen (p := ⟨w.heap.size, o, none⟩) (by first | assumption | (simp; done) | (simp; omega) | (dsimp only; omega) | omega)).trans (by first | (simp [go_sem]; done) | (simp [*]; done))))
  have hz1 := hb.size
  have hz2 := hb2.size
  refine bodyPost_ret (v := .agg #[.bool n, .int .u64 h, .int .u64 l]) (by simp [results, Try.results76, go_sem, x0, x1, x2, xz, World.size_setCell]) rfl ?_
  exact Gives.mk rfl (by repeat' (first | (with_reducible exact Below.refl _ _) | (with_reducible refine Below.alloc ?_ ?_ _) | (with_reducible refine Below.setCell ?_ ?_ _) | (with_reducible refine Below.drew ?_) | (with_reducible refine Below.trans ?_ (Below.mono (by assumption) ?_)) | (simp; done) | (simp; omega) | omega))
theorem rwMul_any (a b : Int) (a0 : -9223372036854775808 ≤ a) (a1 : a ≤ 9223372036854775807) (b0 : -9223372036854775808 ≤ b) (b1 : b ≤ 9223372036854775807) (n : Bool) (h l : Int)
    (hv : Wd.ofInt (a * b) = ⟨n, h, l⟩) (w : World) :
    Calls Try.prog 76 #[.int .i64 a, .int .i64 b] w (Gives (.agg #[.bool n, .int .u64 h, .int .u64 l]) w) := by
  have sp := mul_small a0 a1 b0 b1
  have e : Wd.sv (decide (a < 0)) (0 * 18446744073709551616 + (a.natAbs : Int)) = a := by unfold Wd.sv; split <;> simp_all <;> omega
  refine rwMul_walk a b _ _ _ n h l w (fun w => rof_any a a0 a1 w) (fun w => rtimes_any (decide (a < 0)) 0 (a.natAbs : Int) b (by omega) (by omega) (by omega) (by omega) b0 b1 n h l 0 ?_ w)
  rw [e]
  unfold Wd.lim
  rw [if_pos sp, hv]

theorem rcompare_any (n1 n2 : Bool) (h1 l1 h2 l2 : Int) (f1 : Wd.Fits ⟨n1, h1, l1⟩) (f2 : Wd.Fits ⟨n2, h2, l2⟩) (hc : Wd.chk ⟨n1, h1, l1⟩ = 0) (hd : Wd.chk ⟨n2, h2, l2⟩ = 0) (v : Int)
    (hv : Wd.cmpI (Wd.toInt ⟨n1, h1, l1⟩) (Wd.toInt ⟨n2, h2, l2⟩) = v) (w : World) :
    Calls Try.prog 75 #[.agg #[.bool n1, .int .u64 h1, .int .u64 l1], .agg #[.bool n2, .int .u64 h2, .int .u64 l2]] w (Gives (.int .i64 v) w) := by
  have F1 := f1
  have F2 := f2
  obtain ⟨⟨a0, a1⟩, ⟨a2, a3⟩⟩ := f1
  obtain ⟨⟨b0, b1⟩, ⟨b2, b3⟩⟩ := f2
  simp only at a0 a1 a2 a3 b0 b1 b2 b3
  have g1 := Wd.toInt_neg _ hc F1
  have g2 := Wd.toInt_neg _ hd F2
  simp only at g1 g2
  have t1 : Wd.toInt ⟨n1, h1, l1⟩ = Wd.sv n1 (h1 * 18446744073709551616 + l1) := rfl
  have t2 : Wd.toInt ⟨n2, h2, l2⟩ = Wd.sv n2 (h2 * 18446744073709551616 + l2) := rfl
  rw [t1] at hv g1
  rw [t2] at hv g2
  have cm := fun w => order_any n1 n2 h1 l1 h2 l2 a2 a3 b2 b3 w
  clear hc hd t1 t2
  unfold Wd.sv at hv g1 g2
  cases n1 <;> cases n2
  · simp only [Bool.false_eq_true, if_false] at hv
    rw [hv] at cm
    clear hv g1 g2 F1 F2
    go_enter Try.func75, Try.ntmps75
    go_wp2_with (go_at_call 92; refine (cm _).mono ?_; rintro e w' ⟨rfl, rfl⟩)
    go_ret
    exact Gives.mk rfl (by repeat' (first | (with_reducible exact Below.refl _ _) | (with_reducible refine Below.alloc ?_ ?_ _) | (with_reducible refine Below.setCell ?_ ?_ _) | (with_reducible refine Below.drew ?_) | (with_reducible refine Below.trans ?_ (Below.mono (by assumption) ?_)) | (simp; done) | (simp; omega) | omega))
  · have e : v = 1 := by
      rw [← hv]; simp only [Bool.false_eq_true, if_false, if_true]; unfold Wd.cmpI
      simp at g1 g2
      rw [if_neg (by omega), if_neg (by omega)]
    subst e
    clear cm hv g1 g2 F1 F2
    go_enter Try.func75, Try.ntmps75
    go_wp2_with fail
    go_ret
    exact Gives.mk rfl (by repeat' (first | (with_reducible exact Below.refl _ _) | (with_reducible refine Below.alloc ?_ ?_ _) | (with_reducible refine Below.setCell ?_ ?_ _) | (with_reducible refine Below.drew ?_) | (with_reducible refine Below.trans ?_ (Below.mono (by assumption) ?_)) | (simp; done) | (simp; omega) | omega))
  · have e : v = -1 := by
      rw [← hv]; simp only [Bool.false_eq_true, if_false, if_true]; unfold Wd.cmpI
      simp at g1 g2
      rw [if_pos (by omega)]
    subst e
    clear cm hv g1 g2 F1 F2
    go_enter Try.func75, Try.ntmps75
    go_wp2_with fail
    go_ret
    exact Gives.mk rfl (by repeat' (first | (with_reducible exact Below.refl _ _) | (with_reducible refine Below.alloc ?_ ?_ _) | (with_reducible refine Below.setCell ?_ ?_ _) | (with_reducible refine Below.drew ?_) | (with_reducible refine Below.trans ?_ (Below.mono (by assumption) ?_)) | (simp; done) | (simp; omega) | omega))
  · obtain ⟨o, ho⟩ : ∃ o, Wd.cmpI (h1 * 18446744073709551616 + l1) (h2 * 18446744073709551616 + l2) = o := ⟨_, rfl⟩
    have e : v = -o := by
      rw [← hv, ← ho]; simp only [if_true]; unfold Wd.cmpI
      split <;> split <;> (try split) <;> (try split) <;> omega
    have o1 : -1 ≤ o ∧ o ≤ 1 := by
      rw [← ho]; unfold Wd.cmpI
      split
      · omega
      · split <;> omega
    rw [ho] at cm
    have o2 := o1.1
    have o3 := o1.2
    subst e
    clear hv g1 g2 F1 F2 ho o1
    go_enter Try.func75, Try.ntmps75
    go_wp2_with (go_at_call 92; refine (cm _).mono ?_; rintro e w' ⟨rfl, rfl⟩)
    go_ret
    exact Gives.mk rfl (by repeat' (first | (with_reducible exact Below.refl _ _) | (with_reducible refine Below.alloc ?_ ?_ _) | (with_reducible refine Below.setCell ?_ ?_ _) | (with_reducible refine Below.drew ?_) | (with_reducible refine Below.trans ?_ (Below.mono (by assumption) ?_)) | (simp; done) | (simp; omega) | omega))

theorem rwProducts_walk (a b c d : Int) (n1 : Bool) (h1 l1 : Int) (n2 : Bool) (h2 l2 v : Int) (w : World)
    (m1 : ∀ w : World, Calls Try.prog 76 #[.int .i64 a, .int .i64 b] w (Gives (.agg #[.bool n1, .int .u64 h1, .int .u64 l1]) w))
    (m2 : ∀ w : World, Calls Try.prog 76 #[.int .i64 c, .int .i64 d] w (Gives (.agg #[.bool n2, .int .u64 h2, .int .u64 l2]) w))
    (cm : ∀ w : World, Calls Try.prog 75 #[.agg #[.bool n1, .int .u64 h1, .int .u64 l1], .agg #[.bool n2, .int .u64 h2, .int .u64 l2]] w (Gives (.int .i64 v) w)) :
    Calls Try.prog 65 #[.int .i64 a, .int .i64 b, .int .i64 c, .int .i64 d] w (Gives (.int .i64 v) w) := by
  go_enter Try.func65, Try.ntmps65
  go_wp2_with fail
  refine (m1 _).mono ?_; rintro e w1 ⟨rfl, hb1⟩
  go_wp2_with fail
  refine (m2 _).mono ?_; rintro e w2 ⟨rfl, hb2⟩
  go_wp2_with (go_at_call 75; refine (cm _).mono ?_; rintro e w3 ⟨rfl, hb3⟩)
  go_ret
  have hz1 := hb1.size
  have hz2 := hb2.size
  exact Gives.mk rfl (by repeat' (first | (with_reducible exact Below.refl _ _) | (with_reducible refine Below.alloc ?_ ?_ _) | (with_reducible refine Below.setCell ?_ ?_ _) | (with_reducible refine Below.drew ?_) | (with_reducible refine Below.trans ?_ (Below.mono (by assumption) ?_)) | (simp; done) | (simp; omega) | omega))
theorem rwProducts_any (a b c d : Int) (a0 : -9223372036854775808 ≤ a) (a1 : a ≤ 9223372036854775807) (b0 : -9223372036854775808 ≤ b) (b1 : b ≤ 9223372036854775807)
    (c0 : -9223372036854775808 ≤ c) (c1 : c ≤ 9223372036854775807) (d0 : -9223372036854775808 ≤ d) (d1 : d ≤ 9223372036854775807) (w : World) :
    Calls Try.prog 65 #[.int .i64 a, .int .i64 b, .int .i64 c, .int .i64 d] w (Gives (.int .i64 (Wd.cmpI (a * b) (c * d))) w) := by
  have p1 := mul_small a0 a1 b0 b1
  have p2 := mul_small c0 c1 d0 d1
  obtain ⟨⟨n1, h1, l1⟩, hA⟩ : ∃ x, Wd.ofInt (a * b) = x := ⟨_, rfl⟩
  obtain ⟨⟨n2, h2, l2⟩, hB⟩ : ∃ x, Wd.ofInt (c * d) = x := ⟨_, rfl⟩
  have f1 := Wd.fits_ofInt (a * b) (by omega)
  have f2 := Wd.fits_ofInt (c * d) (by omega)
  have k1 := Wd.chk_ofInt (a * b) p1
  have k2 := Wd.chk_ofInt (c * d) p2
  have t1 := Wd.toInt_ofInt (a * b)
  have t2 := Wd.toInt_ofInt (c * d)
  rw [hA] at f1 k1 t1
  rw [hB] at f2 k2 t2
  exact rwProducts_walk a b c d n1 h1 l1 n2 h2 l2 _ w (fun w => rwMul_any a b a0 a1 b0 b1 n1 h1 l1 hA w) (fun w => rwMul_any c d c0 c1 d0 d1 n2 h2 l2 hB w)
    (fun w => rcompare_any n1 n2 h1 l1 h2 l2 f1 f2 k1 k2 _ (by rw [t1, t2]) w)
end Go.Proofs.Ytfdnmlggemonhaa
