/-
  The functions of package couperef01, each by a contract: product of every magnitude, times, Times, Mul.
-/
import Derived.Test.YtfdnmlggemonhaaWrefprod
import Derived.Test.YtfdnmlggemonhaaWrefquo
import Derived.Deep.RegionHeld3
namespace Go.Proofs.Ytfdnmlggemonhaa
open Go.RowKit
set_option linter.unusedVariables false
set_option linter.unusedSimpArgs false

theorem prod_parts (h l n : Int) : 
   ((l % 4294967296) * (n % 4294967296) + (l % 4294967296) * (n / 4294967296) * 4294967296)
 + ((l / 4294967296) * (n % 4294967296) + (l / 4294967296) * (n / 4294967296) * 4294967296) * 4294967296
 + ((h % 4294967296) * (n % 4294967296) + (h % 4294967296) * (n / 4294967296) * 4294967296) * 18446744073709551616
 + ((h / 4294967296) * (n % 4294967296) + (h / 4294967296) * (n / 4294967296) * 4294967296) * 79228162514264337593543950336
 = (h * 18446744073709551616 + l) * n := by
  have row : ∀ p : Int, p * (n % 4294967296) + p * (n / 4294967296) * 4294967296 = p * n := fun p => by
    have e : n = n % 4294967296 + n / 4294967296 * 4294967296 := by omega
    conv => rhs; rw [e, Int.mul_add, ← Int.mul_assoc]
  rw [row, row, row, row]
  have el : l = l % 4294967296 + l / 4294967296 * 4294967296 := by omega
  have eh : h = h % 4294967296 + h / 4294967296 * 4294967296 := by omega
  have e : h * 18446744073709551616 + l = l % 4294967296 + l / 4294967296 * 4294967296 + h % 4294967296 * 18446744073709551616 + h / 4294967296 * 79228162514264337593543950336 := by omega
  rw [e, Int.add_mul, Int.add_mul, Int.add_mul, Int.mul_right_comm (l / 4294967296), Int.mul_right_comm (h % 4294967296), Int.mul_right_comm (h / 4294967296)]
theorem digits_six (o0 o1 o2 o3 o4 o5 z0 z1 z2 z3 z4 z5 P : Int) (ho : (0 ≤ o0 ∧ o0 ≤ 4294967295) ∧ (0 ≤ o1 ∧ o1 ≤ 4294967295) ∧ (0 ≤ o2 ∧ o2 ≤ 4294967295) ∧ (0 ≤ o3 ∧ o3 ≤ 4294967295) ∧ (0 ≤ o4 ∧ o4 ≤ 4294967295) ∧ (0 ≤ o5 ∧ o5 ≤ 4294967295))
   (hz : (0 ≤ z0 ∧ z0 ≤ 4294967295) ∧ (0 ≤ z1 ∧ z1 ≤ 4294967295) ∧ (0 ≤ z2 ∧ z2 ≤ 4294967295) ∧ (0 ≤ z3 ∧ z3 ≤ 4294967295) ∧ (0 ≤ z4 ∧ z4 ≤ 4294967295) ∧ (0 ≤ z5 ∧ z5 ≤ 4294967295))
   (eo : o0 + o1 * 4294967296 + o2 * 18446744073709551616 + o3 * 79228162514264337593543950336 + o4 * 340282366920938463463374607431768211456 + o5 * 1461501637330902918203684832716283019655932542976 = P)
   (ez : z0 + z1 * 4294967296 + z2 * 18446744073709551616 + z3 * 79228162514264337593543950336 + z4 * 340282366920938463463374607431768211456 + z5 * 1461501637330902918203684832716283019655932542976 = P) :
   o0 = z0 ∧ o1 = z1 ∧ o2 = z2 ∧ o3 = z3 ∧ o4 = z4 ∧ o5 = z5 := by
  have e5 : o5 = z5 := by omega
  subst e5
  have e4 : o4 = z4 := by omega
  subst e4
  have e3 : o3 = z3 := by omega
  subst e3
  have e2 : o2 = z2 := by omega
  subst e2
  have e1 : o1 = z1 := by omega
  subst e1
  exact ⟨by omega, rfl, rfl, rfl, rfl, rfl⟩
theorem bound_mul {p q : Int} (p0 : 0 ≤ p) (p1 : p < 4294967296) (q0 : 0 ≤ q) (q1 : q < 4294967296) : 0 ≤ p * q ∧ p * q ≤ 18446744065119617025 := by
  refine ⟨Int.mul_nonneg p0 q0, ?_⟩
  have := Int.mul_le_mul (show p ≤ 4294967295 by omega) (show q ≤ 4294967295 by omega) q0 (by omega)
  omega

theorem product_any (n1 : Bool) (h l n : Int) (h0 : 0 ≤ h) (h1 : h < 18446744073709551616) (l0 : 0 ≤ l) (l1 : l < 18446744073709551616) (n0 : 0 ≤ n) (nn : n < 18446744073709551616) (z0 z1 z2 z3 z4 z5 : Int)
    (hz : (0 ≤ z0 ∧ z0 ≤ 4294967295) ∧ (0 ≤ z1 ∧ z1 ≤ 4294967295) ∧ (0 ≤ z2 ∧ z2 ≤ 4294967295) ∧ (0 ≤ z3 ∧ z3 ≤ 4294967295) ∧ (0 ≤ z4 ∧ z4 ≤ 4294967295) ∧ (0 ≤ z5 ∧ z5 ≤ 4294967295))
    (ez : z0 + z1 * 4294967296 + z2 * 18446744073709551616 + z3 * 79228162514264337593543950336 + z4 * 340282366920938463463374607431768211456 + z5 * 1461501637330902918203684832716283019655932542976 = (h * 18446744073709551616 + l) * n) (w : World) :
    Calls Try.prog 101 #[.agg #[.bool n1, .int .u64 h, .int .u64 l], .int .u64 n] w (Gives (.agg #[.int .u64 z0, .int .u64 z1, .int .u64 z2, .int .u64 z3, .int .u64 z4, .int .u64 z5]) w) := by
  have hp := prod_parts h l n
  have hlt : (h * 18446744073709551616 + l) * n < 6277101735386680763835789423207666416102355444464034512896 := by
    have := Int.mul_le_mul (show h * 18446744073709551616 + l ≤ 340282366920938463463374607431768211455 by omega) (show n ≤ 18446744073709551615 by omega) n0 (by omega)
    omega
  rw [← hp] at hlt ez
  have b (p q : Int) (p0 : 0 ≤ p) (p1 : p < 4294967296) (q0 : 0 ≤ q) (q1 : q < 4294967296) := bound_mul p0 p1 q0 q1
  have b00 := b (l % 4294967296) (n % 4294967296) (by omega) (by omega) (by omega) (by omega)
  have b01 := b (l % 4294967296) (n / 4294967296) (by omega) (by omega) (by omega) (by omega)
  have b10 := b (l / 4294967296) (n % 4294967296) (by omega) (by omega) (by omega) (by omega)
  have b11 := b (l / 4294967296) (n / 4294967296) (by omega) (by omega) (by omega) (by omega)
  have b20 := b (h % 4294967296) (n % 4294967296) (by omega) (by omega) (by omega) (by omega)
  have b21 := b (h % 4294967296) (n / 4294967296) (by omega) (by omega) (by omega) (by omega)
  have b30 := b (h / 4294967296) (n % 4294967296) (by omega) (by omega) (by omega) (by omega)
  have b31 := b (h / 4294967296) (n / 4294967296) (by omega) (by omega) (by omega) (by omega)
  exact product_walk n1 h l n _ _ _ _ _ _ _ _ _ _ _ _ _ _ z0 z1 z2 z3 z4 z5 w (fun w => parts_any h l h0 h1 l0 l1 w) n0 nn rfl rfl
    rfl b00.1 b00.2 rfl b01.1 b01.2 rfl b10.1 b10.2 rfl b11.1 b11.2 rfl b20.1 b20.2 rfl b21.1 b21.2 rfl b30.1 b30.2 rfl b31.1 b31.2 hlt
    (fun o0 o1 o2 o3 o4 o5 ho eo => digits_six o0 o1 o2 o3 o4 o5 z0 z1 z2 z3 z4 z5 _ ho hz eo ez)

/-- Behind the product: its block, whatever it is, and the boxes of the argument and of the result. -/
def TmRel (w : World) (n1 : Bool) (z0 z1 z2 z3 z4 z5 : Int) (v : Value) (wx : World) : Prop :=
  ∃ k : Nat, v = .pointer (some ⟨k, 0, none⟩) ∧ w.heap.size + 1 < k ∧ k < wx.heap.size ∧
    (wx.cell? ⟨k, 0, none⟩ = some (.int .u64 z0) ∧ wx.cell? ⟨k, 1, none⟩ = some (.int .u64 z1) ∧ wx.cell? ⟨k, 2, none⟩ = some (.int .u64 z2) ∧ wx.cell? ⟨k, 3, none⟩ = some (.int .u64 z3) ∧ wx.cell? ⟨k, 4, none⟩ = some (.int .u64 z4) ∧ wx.cell? ⟨k, 5, none⟩ = some (.int .u64 z5)) ∧
    wx.cell? ⟨w.heap.size, 0, none⟩ = some (.bool n1) ∧
    (wx.cell? ⟨w.heap.size + 1, 0, none⟩ = some (.bool false) ∧ wx.cell? ⟨w.heap.size + 1, 1, none⟩ = some (.int .u64 0) ∧ wx.cell? ⟨w.heap.size + 1, 2, none⟩ = some (.int .u64 0) ∧ ∀ o, wx.frozen? ⟨w.heap.size + 1, o, none⟩ = false) ∧
    Below w.heap.size w wx
set_option maxRecDepth 100000 in
set_option maxHeartbeats 8000000 in
theorem rtimes_walk (n1 : Bool) (h1 l1 a f z0 z1 z2 z3 z4 z5 : Int) (m : Bool) (H L : Int) (n : Bool) (h l e : Int) (w : World)
    (hc : ((0 < z4 ∨ 0 < z5) ∧ n = false ∧ h = 0 ∧ l = 0 ∧ e = 8) ∨ ((z4 = 0 ∧ z5 = 0) ∧ (∀ w : World, Calls Try.prog 104 #[.bool (n1 != decide (a < 0)), .agg #[.int .u64 z0, .int .u64 z1, .int .u64 z2, .int .u64 z3]] w (Gives (.agg #[.bool m, .int .u64 H, .int .u64 L]) w)) ∧ (∀ w : World, Calls Try.prog 103 #[.agg #[.bool m, .int .u64 H, .int .u64 L]] w (Gives (.tuple #[.agg #[.bool n, .int .u64 h, .int .u64 l], .int .i64 e]) w))))
    (ma : ∀ w : World, Calls Try.prog 102 #[.int .i64 a] w fun e w' => e = .returned (.int .u64 f) ∧ w' = w)
    (pr : ∀ w : World, Calls Try.prog 101 #[.agg #[.bool n1, .int .u64 h1, .int .u64 l1], .int .u64 f] w (Gives (.agg #[.int .u64 z0, .int .u64 z1, .int .u64 z2, .int .u64 z3, .int .u64 z4, .int .u64 z5]) w)) :
    Calls Try.prog 93 #[.agg #[.bool n1, .int .u64 h1, .int .u64 l1], .int .i64 a] w (Gives (.tuple #[.agg #[.bool n, .int .u64 h, .int .u64 l], .int .i64 e]) w) := by
  have HC := hid hc
  clear hc
  go_enter Try.func93, Try.ntmps93
  go_upto_region 1 with fail
  go_cut [6] (fun v wx => TmRel w n1 z0 z1 z2 z3 z4 z5 v wx)
  case first =>
    go_region_with (first | (go_at_call 102; (with_reducible refine (ma _).mono ?_); rintro e w4 ⟨rfl, rfl⟩) | (go_at_call 101; (with_reducible refine (pr _).mono ?_); rintro e y1 ⟨rfl, hb⟩; have pz : w.heap.size < (y1).heap.size := Nat.lt_of_lt_of_le (show w.heap.size < _ from (by first | assumption | (simp; done) | (simp; omega) | (dsimp only; omega) | omega)) hb.size; have p0 : (y1).cell? ⟨w.heap.size, 0, none⟩ = some (.bool n1) := (hb.cell (p := ⟨w.heap.size, 0, none⟩) (by first | assumption | (simp; done) | (simp; omega) | (dsimp only; omega) | omega)).trans (by first | assumption | (simp [go_sem]; done)); have p1 : (y1).cell? ⟨w.heap.size, 1, none⟩ = some (.int .u64 h1) := (hb.cell (p := ⟨w.heap.size, 1, none⟩) (by first | assumption | (simp; done) | (simp; omega) | (dsimp only; omega) | omega)).trans (by first | assumption | (simp [go_sem]; done)); have p2 : (y1).cell? ⟨w.heap.size, 2, none⟩ = some (.int .u64 l1) := (hb.cell (p := ⟨w.heap.size, 2, none⟩) (by first | assumption | (simp; done) | (simp; omega) | (dsimp only; omega) | omega)).trans (by first | assumption | (simp [go_sem]; done)); have pf : ∀ o, (y1).frozen? ⟨w.heap.size, o, none⟩ = false := fun o => (hb.frozen (p := ⟨w.heap.size, o, none⟩) (by first | assumption | (simp; done) | (simp; omega) | (dsimp only; omega) | omega)).trans (by first | (simp [go_sem]; done) | (simp [*]; done)); have xz : w.heap.size + 1 < (y1).heap.size := Nat.lt_of_lt_of_le (show w.heap.size + 1 < _ from (by first | assumption | (simp; done) | (simp; omega) | (dsimp only; omega) | omega)) hb.size; have x0 : (y1).cell? ⟨w.heap.size + 1, 0, none⟩ = some (.bool false) := (hb.cell (p := ⟨w.heap.size + 1, 0, none⟩) (by first | assumption | (simp; done) | (simp; omega) | (dsimp only; omega) | omega)).trans (by first | assumption | (simp [go_sem]; done)); have x1 : (y1).cell? ⟨w.heap.size + 1, 1, none⟩ = some (.int .u64 0) := (hb.cell (p := ⟨w.heap.size + 1, 1, none⟩) (by first | assumption | (simp; done) | (simp; omega) | (dsimp only; omega) | omega)).trans (by first | assumption | (simp [go_sem]; done)); have x2 : (y1).cell? ⟨w.heap.size + 1, 2, none⟩ = some (.int .u64 0) := (hb.cell (p := ⟨w.heap.size + 1, 2, none⟩) (by first | assumption | (simp; done) | (simp; omega) | (dsimp only; omega) | omega)).trans (by first | assumption | (simp [go_sem]; done)); have xf : ∀ o, (y1).frozen? ⟨w.heap.size + 1, o, none⟩ = false := fun o => (hb.frozen (p := ⟨w.heap.size + 1, o, none⟩) (by first | assumption | (simp; done) | (simp; omega) | (dsimp only; omega) | omega)).trans (by first | (simp [go_sem]; done) | (simp [*]; done)); (first | (have qz : w.heap.size + 1 + 1 < y1.heap.size := Nat.lt_of_lt_of_le (show w.heap.size + 1 + 1 < _ from (by first | assumption | (simp; done) | (simp; omega) | (dsimp only; omega) | omega)) hb.size; have q0 : y1.cell? ⟨w.heap.size + 1 + 1, 0, none⟩ = some (.int .u64 0) := (hb.cell (p := ⟨w.heap.size + 1 + 1, 0, none⟩) (by first | assumption | (simp; done) | (simp; omega) | (dsimp only; omega) | omega)).trans (by first | assumption | (simp [go_sem]; done)); have q1 : y1.cell? ⟨w.heap.size + 1 + 1, 1, none⟩ = some (.int .u64 0) := (hb.cell (p := ⟨w.heap.size + 1 + 1, 1, none⟩) (by first | assumption | (simp; done) | (simp; omega) | (dsimp only; omega) | omega)).trans (by first | assumption | (simp [go_sem]; done)); have q2 : y1.cell? ⟨w.heap.size + 1 + 1, 2, none⟩ = some (.int .u64 0) := (hb.cell (p := ⟨w.heap.size + 1 + 1, 2, none⟩) (by first | assumption | (simp; done) | (simp; omega) | (dsimp only; omega) | omega)).trans (by first | assumption | (simp [go_sem]; done)); have q3 : y1.cell? ⟨w.heap.size + 1 + 1, 3, none⟩ = some (.int .u64 0) := (hb.cell (p := ⟨w.heap.size + 1 + 1, 3, none⟩) (by first | assumption | (simp; done) | (simp; omega) | (dsimp only; omega) | omega)).trans (by first | assumption | (simp [go_sem]; done)); have q4 : y1.cell? ⟨w.heap.size + 1 + 1, 4, none⟩ = some (.int .u64 0) := (hb.cell (p := ⟨w.heap.size + 1 + 1, 4, none⟩) (by first | assumption | (simp; done) | (simp; omega) | (dsimp only; omega) | omega)).trans (by first | assumption | (simp [go_sem]; done)); have q5 : y1.cell? ⟨w.heap.size + 1 + 1, 5, none⟩ = some (.int .u64 0) := (hb.cell (p := ⟨w.heap.size + 1 + 1, 5, none⟩) (by first | assumption | (simp; done) | (simp; omega) | (dsimp only; omega) | omega)).trans (by first | assumption | (simp [go_sem]; done)); have qf : ∀ o, y1.frozen? ⟨w.heap.size + 1 + 1, o, none⟩ = false := fun o => (hb.frozen (p := ⟨w.heap.size + 1 + 1, o, none⟩) (by first | assumption | (simp; done) | (simp; omega) | (dsimp only; omega) | omega)).trans (by first | (simp [go_sem]; done) | (simp [*]; done))) | skip)))
    all_goals
      go_wp2_with fail
      go_meet
      refine ⟨_, rfl, ?_, ?_, ⟨?_, ?_, ?_, ?_, ?_, ?_⟩, ?_, ⟨?_, ?_, ?_, ?_⟩, by repeat' (first | (with_reducible exact Below.refl _ _) | (with_reducible refine Below.alloc ?_ ?_ _) | (with_reducible refine Below.setCell ?_ ?_ _) | (with_reducible refine Below.drew ?_) | (with_reducible refine Below.trans ?_ (Below.mono (by assumption) ?_)) | (simp; done) | (simp; omega) | omega)⟩
      all_goals first | omega | (simp; done) | (simp; omega) | (simp [go_sem]; done) | (simp [go_sem, *]; done)
  case rest =>
    obtain ⟨k, rfl, hk1, hk2, ⟨c0, c1, c2, c3, c4, c5⟩, p0, ⟨x0, x1, x2, xf⟩, hB⟩ := hcut
    have BH := hid hB
    have hsz := hB.size
    clear hB ma pr
    rcases HC.out with ⟨hov, rfl, rfl, rfl, rfl⟩ | ⟨⟨rfl, rfl⟩, md, li⟩
    · clear HC
      by_cases g4 : 0 < z4
      · clear hov
        go_wp2_with fail
        have BB := BH.out
        refine bodyPost_ret (v := .tuple #[.agg #[.bool false, .int .u64 0, .int .u64 0], .int .i64 8]) (by simp [results, Try.results93, go_sem, x0, x1, x2, World.size_setCell]) rfl ?_
        exact Gives.mk rfl (by repeat' (first | (with_reducible exact Below.refl _ _) | (with_reducible refine Below.alloc ?_ ?_ _) | (with_reducible refine Below.setCell ?_ ?_ _) | (with_reducible refine Below.drew ?_) | (with_reducible refine Below.trans ?_ (Below.mono (by assumption) ?_)) | (simp; done) | (simp; omega) | omega))
      · have g5 : 0 < z5 := by omega
        clear hov
        go_wp2_with fail
        have BB := BH.out
        refine bodyPost_ret (v := .tuple #[.agg #[.bool false, .int .u64 0, .int .u64 0], .int .i64 8]) (by simp [results, Try.results93, go_sem, x0, x1, x2, World.size_setCell]) rfl ?_
        exact Gives.mk rfl (by repeat' (first | (with_reducible exact Below.refl _ _) | (with_reducible refine Below.alloc ?_ ?_ _) | (with_reducible refine Below.setCell ?_ ?_ _) | (with_reducible refine Below.drew ?_) | (with_reducible refine Below.trans ?_ (Below.mono (by assumption) ?_)) | (simp; done) | (simp; omega) | omega))
    · clear HC
      go_wp2_with (first | (go_at_call 104; refine (md _).mono ?_; rintro e w1 ⟨rfl, hb⟩; have yz : w.heap.size + 1 < (w1).heap.size := Nat.lt_of_lt_of_le (show w.heap.size + 1 < _ from (by first | assumption | (simp; done) | (simp; omega) | (dsimp only; omega) | omega)) hb.size; have y0 : (w1).cell? ⟨w.heap.size + 1, 0, none⟩ = some (.bool false) := (hb.cell (p := ⟨w.heap.size + 1, 0, none⟩) (by first | assumption | (simp; done) | (simp; omega) | (dsimp only; omega) | omega)).trans (by first | assumption | (simp [go_sem]; done)); have y1 : (w1).cell? ⟨w.heap.size + 1, 1, none⟩ = some (.int .u64 0) := (hb.cell (p := ⟨w.heap.size + 1, 1, none⟩) (by first | assumption | (simp; done) | (simp; omega) | (dsimp only; omega) | omega)).trans (by first | assumption | (simp [go_sem]; done)); have y2 : (w1).cell? ⟨w.heap.size + 1, 2, none⟩ = some (.int .u64 0) := (hb.cell (p := ⟨w.heap.size + 1, 2, none⟩) (by first | assumption | (simp; done) | (simp; omega) | (dsimp only; omega) | omega)).trans (by first | assumption | (simp [go_sem]; done)); have yf : ∀ o, (w1).frozen? ⟨w.heap.size + 1, o, none⟩ = false := fun o => (hb.frozen (p := ⟨w.heap.size + 1, o, none⟩) (by first | assumption | (simp; done) | (simp; omega) | (dsimp only; omega) | omega)).trans (by first | (simp [go_sem]; done) | (simp [*]; done))) | (go_at_call 103; refine (li _).mono ?_; rintro e w2 ⟨rfl, hb2⟩; have vz : w.heap.size + 1 < (w2).heap.size := Nat.lt_of_lt_of_le (show w.heap.size + 1 < _ from (by first | assumption | (simp; done) | (simp; omega) | (dsimp only; omega) | omega)) hb2.size; have v0 : (w2).cell? ⟨w.heap.size + 1, 0, none⟩ = some (.bool false) := (hb2.cell (p := ⟨w.heap.size + 1, 0, none⟩) (by first | assumption | (simp; done) | (simp; omega) | (dsimp only; omega) | omega)).trans (by first | assumption | (simp [go_sem]; done)); have v1 : (w2).cell? ⟨w.heap.size + 1, 1, none⟩ = some (.int .u64 0) := (hb2.cell (p := ⟨w.heap.size + 1, 1, none⟩) (by first | assumption | (simp; done) | (simp; omega) | (dsimp only; omega) | omega)).trans (by first | assumption | (simp [go_sem]; done)); have v2 : (w2).cell? ⟨w.heap.size + 1, 2, none⟩ = some (.int .u64 0) := (hb2.cell (p := ⟨w.heap.size + 1, 2, none⟩) (by first | assumption | (simp; done) | (simp; omega) | (dsimp only; omega) | omega)).trans (by first | assumption | (simp [go_sem]; done)); have vf : ∀ o, (w2).frozen? ⟨w.heap.size + 1, o, none⟩ = false := fun o => (hb2.frozen (p := ⟨w.heap.size + 1, o, none⟩) (by first | assumption | (simp; done) | (simp; omega) | (dsimp only; omega) | omega)).trans (by first | (simp [go_sem]; done) | (simp [*]; done))))
      have BB := BH.out
      refine bodyPost_ret (v := .tuple #[.agg #[.bool n, .int .u64 h, .int .u64 l], .int .i64 e]) (by simp [results, Try.results93, go_sem, v0, v1, v2, World.size_setCell]) rfl ?_
      exact Gives.mk rfl (by repeat' (first | (with_reducible exact Below.refl _ _) | (with_reducible refine Below.alloc ?_ ?_ _) | (with_reducible refine Below.setCell ?_ ?_ _) | (with_reducible refine Below.drew ?_) | (with_reducible refine Below.trans ?_ (Below.mono (by assumption) ?_)) | (simp; done) | (simp; omega) | omega))
end Go.Proofs.Ytfdnmlggemonhaa
