/-
  The exported functions of package wide, each by a contract: products.
-/
import Derived.Test.YthfnblifefnfmaaWtop
import Derived.Deep.RegionWith
namespace Go.Proofs.Ythfnblifefnfmaa
open Go.RowKit
set_option linter.unusedVariables false

theorem mul64_any (x y : Int) (x0 : 0 ≤ x) (x1 : x < 18446744073709551616) (y0 : 0 ≤ y) (y1 : y < 18446744073709551616) (w : World) :
    Calls Try.prog 44 #[.int .u64 x, .int .u64 y] w fun e w' => e = .returned (.tuple #[.int .u64 (x * y / 18446744073709551616), .int .u64 (x * y % 18446744073709551616)]) ∧ w' = w := by
  obtain ⟨x, rfl⟩ := Int.eq_ofNat_of_zero_le x0
  obtain ⟨y, rfl⟩ := Int.eq_ofNat_of_zero_le y0
  refine (Try.bits_Mul64 x y (by omega) (by omega) w).mono fun e w' h => ?_
  simp only [Int.natCast_ediv, Int.natCast_emod, Int.natCast_mul, Int.cast_ofNat_Int] at h
  exact h
theorem nat_mul_sign (a b : Int) : Wd.sv ((decide (a < 0)) != (decide (b < 0))) ((a.natAbs : Int) * (b.natAbs : Int)) = a * b := by
  unfold Wd.sv
  by_cases ha : a < 0 <;> by_cases hb : b < 0
  · have e1 : (a.natAbs : Int) = -a := by omega
    have e2 : (b.natAbs : Int) = -b := by omega
    rw [e1, e2, Int.neg_mul_neg]; simp [ha, hb]
  · have e1 : (a.natAbs : Int) = -a := by omega
    have e2 : (b.natAbs : Int) = b := by omega
    rw [e1, e2, Int.neg_mul]; simp [ha, hb]
  · have e1 : (a.natAbs : Int) = a := by omega
    have e2 : (b.natAbs : Int) = -b := by omega
    rw [e1, e2, Int.mul_neg]; simp [ha, hb]
  · have e1 : (a.natAbs : Int) = a := by omega
    have e2 : (b.natAbs : Int) = b := by omega
    rw [e1, e2]; simp [ha, hb]
theorem sv_mul (n : Bool) (m a : Int) : Wd.sv (n != (decide (a < 0))) (m * (a.natAbs : Int)) = Wd.sv n m * a := by
  unfold Wd.sv
  by_cases ha : a < 0
  · have e1 : (a.natAbs : Int) = -a := by omega
    cases n
    · simp [ha, e1, Int.mul_neg]
    · simp [ha, e1, Int.neg_mul, Int.mul_neg]
  · have e1 : (a.natAbs : Int) = a := by omega
    cases n
    · simp [ha, e1]
    · simp [ha, e1, Int.neg_mul]
theorem nat_mul_le {a b : Int} {c : Int} (ha : a.natAbs ≤ 9223372036854775808) (hb : (b.natAbs : Int) ≤ c) (c0 : 0 ≤ c) : (a.natAbs : Int) * (b.natAbs : Int) ≤ 9223372036854775808 * c :=
  Int.mul_le_mul (by omega) hb (by omega) (by omega)
theorem mul_any (a b : Int) (a0 : -9223372036854775808 ≤ a) (a1 : a ≤ 9223372036854775807) (b0 : -9223372036854775808 ≤ b) (b1 : b ≤ 9223372036854775807) (n : Bool) (h l : Int)
    (hv : Wd.ofInt (a * b) = ⟨n, h, l⟩) (w : World) :
    Calls Try.prog 19 #[.int .i64 a, .int .i64 b] w fun e w' => e = .returned (.agg #[.bool n, .int .u64 h, .int .u64 l]) ∧ w' = (w.alloc (Obj.cells #[.bool n, .int .u64 h, .int .u64 l] 24)).alloc (Obj.cells #[.bool n, .int .u64 h, .int .u64 l] 24) := by
  have hp := nat_mul_le (a := a) (b := b) (c := 9223372036854775808) (by omega) (by omega) (by omega)
  have hp0 : 0 ≤ (a.natAbs : Int) * (b.natAbs : Int) := Int.mul_nonneg (by omega) (by omega)
  have hs := nat_mul_sign a b
  have m64 := fun w => mul64_any (a.natAbs : Int) (b.natAbs : Int) (by omega) (by omega) (by omega) (by omega) w
  generalize (a.natAbs : Int) * (b.natAbs : Int) = p at *
  obtain ⟨hi, hhi⟩ : ∃ x, p / 18446744073709551616 = x := ⟨_, rfl⟩
  obtain ⟨lo, hlo⟩ : ∃ x, p % 18446744073709551616 = x := ⟨_, rfl⟩
  rw [hhi, hlo] at m64
  have e := Wd.mk'_eq ((decide (a < 0)) != (decide (b < 0))) hi lo (by omega) (by omega) (by omega)
  have e1 : hi * 18446744073709551616 + lo = p := by omega
  rw [e1, hs, hv] at e
  obtain ⟨_, rfl, rfl⟩ := Wd.mk.inj e
  have S := hid e
  have sg := fun w => signed_any ((decide (a < 0)) != (decide (b < 0))) hi lo (by omega) (by omega) (by omega) (by omega) n S.out w
  have ma := fun w => magnitude_any a a0 a1 w
  have mb := fun w => magnitude_any b b0 b1 w
  clear hp hp0 hs hhi hlo e hv e1
  go_enter Try.func19, Try.ntmps19
  go_wp2_with (first | (go_at_call 38; refine (magnitude_any _ (by assumption) (by assumption) _).mono ?_; rintro e w' ⟨rfl, rfl⟩) | (go_at_call 44; refine (m64 _).mono ?_; rintro e w' ⟨rfl, rfl⟩) | (go_at_call 37; refine (sg _).mono ?_; rintro e w' ⟨rfl, rfl⟩))
  go_returns
  exact ⟨rfl, rfl⟩

theorem times_ok (n1 : Bool) (h1 l1 a f ov up mi lo hi ca : Int) (n : Bool) (h l e : Int) (w : World)
    (ck : ∀ w : World, Calls Try.prog 10 #[.agg #[.bool n1, .int .u64 h1, .int .u64 l1]] w fun e w' => e = .returned (.int .i64 0) ∧ w' = w.alloc (Obj.cells #[.bool n1, .int .u64 h1, .int .u64 l1] 24))
    (ma : ∀ w : World, Calls Try.prog 38 #[.int .i64 a] w fun e w' => e = .returned (.int .u64 f) ∧ w' = w)
    (m1 : ∀ w : World, Calls Try.prog 44 #[.int .u64 h1, .int .u64 f] w fun e w' => e = .returned (.tuple #[.int .u64 ov, .int .u64 up]) ∧ w' = w)
    (m2 : ∀ w : World, Calls Try.prog 44 #[.int .u64 l1, .int .u64 f] w fun e w' => e = .returned (.tuple #[.int .u64 mi, .int .u64 lo]) ∧ w' = w)
    (ad : ∀ w, (callFunc 45 #[.int .u64 up, .int .u64 mi, .int .u64 0]).run Try.prog w = .ok (.value (.tuple #[.int .u64 hi, .int .u64 ca])) w)
    (orf : (bits .or .u64 ov ca != 0) = false)
    (li : ∀ w : World, Calls Try.prog 46 #[.bool (n1 != decide (a < 0)), .int .u64 hi, .int .u64 lo] w (Gives (.tuple #[.agg #[.bool n, .int .u64 h, .int .u64 l], .int .i64 e]) w)) :
    Calls Try.prog 17 #[.agg #[.bool n1, .int .u64 h1, .int .u64 l1], .int .i64 a] w (Gives (.tuple #[.agg #[.bool n, .int .u64 h, .int .u64 l], .int .i64 e]) w) := by
  go_enter Try.func17, Try.ntmps17
  go_wp2_with (first | (go_at_call 10; refine (ck _).mono ?_; rintro e w' ⟨rfl, rfl⟩) | (go_at_call 38; refine (ma _).mono ?_; rintro e w' ⟨rfl, rfl⟩) | (go_at_call_of 44 (Value.int .u64 h1); refine (m1 _).mono ?_; rintro e w' ⟨rfl, rfl⟩) | (go_at_call_of 44 (Value.int .u64 l1); refine (m2 _).mono ?_; rintro e w' ⟨rfl, rfl⟩) | (go_at_call 46; refine (li _).mono ?_; rintro e w' ⟨rfl, hb⟩; have xz : w.heap.size + 1 < (w').heap.size := Nat.lt_of_lt_of_le (show w.heap.size + 1 < _ from (by first | assumption | (simp; done) | (simp; omega) | (dsimp only; omega) | omega)) hb.size; have x0 : (w').cell? ⟨w.heap.size + 1, 0, none⟩ = some (.bool false) := (hb.cell (p := ⟨w.heap.size + 1, 0, none⟩) (by first | assumption | (simp; done) | (simp; omega) | (dsimp only; omega) | omega)).trans (by first | assumption | (simp [go_sem]; done)); have x1 : (w').cell? ⟨w.heap.size + 1, 1, none⟩ = some (.int .u64 0) := (hb.cell (p := ⟨w.heap.size + 1, 1, none⟩) (by first | assumption | (simp; done) | (simp; omega) | (dsimp only; omega) | omega)).trans (by first | assumption | (simp [go_sem]; done)); have x2 : (w').cell? ⟨w.heap.size + 1, 2, none⟩ = some (.int .u64 0) := (hb.cell (p := ⟨w.heap.size + 1, 2, none⟩) (by first | assumption | (simp; done) | (simp; omega) | (dsimp only; omega) | omega)).trans (by first | assumption | (simp [go_sem]; done)); have xf : ∀ o, (w').frozen? ⟨w.heap.size + 1, o, none⟩ = false := fun o => (hb.frozen (p := ⟨w.heap.size + 1, o, none⟩) (by first | assumption | (simp; done) | (simp; omega) | (dsimp only; omega) | omega)).trans (by first | (simp [go_sem]; done) | (simp [*]; done))))
  refine bodyPost_ret (v := .tuple #[.agg #[.bool n, .int .u64 h, .int .u64 l], .int .i64 e]) (by simp [results, Try.results17, go_sem, x0, x1, x2]) rfl ?_
  exact Gives.mk rfl (by repeat' (first | (with_reducible exact Below.refl _ _) | (with_reducible refine Below.alloc ?_ ?_ _) | (with_reducible refine Below.setCell ?_ ?_ _) | (with_reducible refine Below.drew ?_) | (with_reducible refine Below.trans ?_ (Below.mono (by assumption) ?_)) | (simp; done) | (simp; omega) | omega))
theorem times_over (n1 : Bool) (h1 l1 a f ov up mi lo hi ca : Int) (w : World)
    (ck : ∀ w : World, Calls Try.prog 10 #[.agg #[.bool n1, .int .u64 h1, .int .u64 l1]] w fun e w' => e = .returned (.int .i64 0) ∧ w' = w.alloc (Obj.cells #[.bool n1, .int .u64 h1, .int .u64 l1] 24))
    (ma : ∀ w : World, Calls Try.prog 38 #[.int .i64 a] w fun e w' => e = .returned (.int .u64 f) ∧ w' = w)
    (m1 : ∀ w : World, Calls Try.prog 44 #[.int .u64 h1, .int .u64 f] w fun e w' => e = .returned (.tuple #[.int .u64 ov, .int .u64 up]) ∧ w' = w)
    (m2 : ∀ w : World, Calls Try.prog 44 #[.int .u64 l1, .int .u64 f] w fun e w' => e = .returned (.tuple #[.int .u64 mi, .int .u64 lo]) ∧ w' = w)
    (ad : ∀ w, (callFunc 45 #[.int .u64 up, .int .u64 mi, .int .u64 0]).run Try.prog w = .ok (.value (.tuple #[.int .u64 hi, .int .u64 ca])) w)
    (orf : (bits .or .u64 ov ca != 0) = true) :
    Calls Try.prog 17 #[.agg #[.bool n1, .int .u64 h1, .int .u64 l1], .int .i64 a] w (Gives (.tuple #[.agg #[.bool false, .int .u64 0, .int .u64 0], .int .i64 8]) w) := by
  go_enter Try.func17, Try.ntmps17
  go_wp2_with (first | (go_at_call 10; refine (ck _).mono ?_; rintro e w' ⟨rfl, rfl⟩) | (go_at_call 38; refine (ma _).mono ?_; rintro e w' ⟨rfl, rfl⟩) | (go_at_call_of 44 (Value.int .u64 h1); refine (m1 _).mono ?_; rintro e w' ⟨rfl, rfl⟩) | (go_at_call_of 44 (Value.int .u64 l1); refine (m2 _).mono ?_; rintro e w' ⟨rfl, rfl⟩))
  go_returns
  exact Gives.mk rfl (by repeat' (first | (with_reducible exact Below.refl _ _) | (with_reducible refine Below.alloc ?_ ?_ _) | (with_reducible refine Below.setCell ?_ ?_ _) | (with_reducible refine Below.drew ?_) | (with_reducible refine Below.trans ?_ (Below.mono (by assumption) ?_)) | (simp; done) | (simp; omega) | omega))
theorem times_bad (n1 : Bool) (h1 l1 a c : Int) (w : World) (c0 : ¬ c = 0)
    (ck : ∀ w : World, Calls Try.prog 10 #[.agg #[.bool n1, .int .u64 h1, .int .u64 l1]] w fun e w' => e = .returned (.int .i64 c) ∧ w' = w.alloc (Obj.cells #[.bool n1, .int .u64 h1, .int .u64 l1] 24)) :
    Calls Try.prog 17 #[.agg #[.bool n1, .int .u64 h1, .int .u64 l1], .int .i64 a] w (Gives (.tuple #[.agg #[.bool false, .int .u64 0, .int .u64 0], .int .i64 c]) w) := by
  go_enter Try.func17, Try.ntmps17
  go_wp2_with (go_at_call 10; refine (ck _).mono ?_; rintro e w' ⟨rfl, rfl⟩)
  go_returns
  exact Gives.mk rfl (by repeat' (first | (with_reducible exact Below.refl _ _) | (with_reducible refine Below.alloc ?_ ?_ _) | (with_reducible refine Below.setCell ?_ ?_ _) | (with_reducible refine Below.drew ?_) | (with_reducible refine Below.trans ?_ (Below.mono (by assumption) ?_)) | (simp; done) | (simp; omega) | omega))
theorem times_any (n1 : Bool) (h1 l1 a : Int) (f1 : Wd.Fits ⟨n1, h1, l1⟩) (a0 : -9223372036854775808 ≤ a) (a1 : a ≤ 9223372036854775807) (n : Bool) (h l e : Int)
    (hv : Wd.timesS ⟨n1, h1, l1⟩ a = (⟨n, h, l⟩, e)) (w : World) :
    Calls Try.prog 17 #[.agg #[.bool n1, .int .u64 h1, .int .u64 l1], .int .i64 a] w (Gives (.tuple #[.agg #[.bool n, .int .u64 h, .int .u64 l], .int .i64 e]) w) := by
  obtain ⟨⟨b0, b1⟩, ⟨b2, b3⟩⟩ := f1
  simp only at b0 b1 b2 b3
  obtain ⟨c, hc⟩ : ∃ c, Wd.chk ⟨n1, h1, l1⟩ = c := ⟨_, rfl⟩
  have ck := fun w => check_any n1 h1 l1 w
  rw [hc] at ck
  unfold Wd.timesS at hv
  rw [hc] at hv
  by_cases c0 : c = 0
  · subst c0
    rw [if_neg (by omega)] at hv
    have hh := chk_of hc
    have ma := fun w => magnitude_any a a0 a1 w
    obtain ⟨f, hf⟩ : ∃ f : Int, (a.natAbs : Int) = f := ⟨_, rfl⟩
    have f0 : 0 ≤ f := by omega
    have f1 : f ≤ 9223372036854775808 := by omega
    have hsg := sv_mul n1 (h1 * 18446744073709551616 + l1) a
    rw [hf] at hsg ma
    have hexp : (h1 * 18446744073709551616 + l1) * f = (h1 * f) * 18446744073709551616 + l1 * f := by
      rw [Int.add_mul, Int.mul_right_comm]
    have m1 := fun w => mul64_any h1 f b0 b1 f0 (by omega) w
    have m2 := fun w => mul64_any l1 f b2 b3 f0 (by omega) w
    have p10 : 0 ≤ h1 * f := Int.mul_nonneg b0 f0
    have p20 : 0 ≤ l1 * f := Int.mul_nonneg b2 f0
    have p21 : l1 * f ≤ 170141183460469231722463931679029329920 := Int.le_trans (Int.mul_le_mul (show _ ≤ (18446744073709551615 : Int) by omega) f1 f0 (by omega)) (by omega)
    have p11 : h1 * f ≤ 170141183460469231722463931679029329920 := Int.le_trans (Int.mul_le_mul (show _ ≤ (18446744073709551615 : Int) by omega) f1 f0 (by omega)) (by omega)
    rw [hexp] at hsg
    generalize h1 * f = P1 at *
    generalize l1 * f = P2 at *
    obtain ⟨ov, hov⟩ : ∃ x, P1 / 18446744073709551616 = x := ⟨_, rfl⟩
    obtain ⟨up, hup⟩ : ∃ x, P1 % 18446744073709551616 = x := ⟨_, rfl⟩
    obtain ⟨mi, hmi⟩ : ∃ x, P2 / 18446744073709551616 = x := ⟨_, rfl⟩
    obtain ⟨lo, hlo⟩ : ∃ x, P2 % 18446744073709551616 = x := ⟨_, rfl⟩
    obtain ⟨hi, hhi⟩ : ∃ x, (up + mi + 0) % 18446744073709551616 = x := ⟨_, rfl⟩
    obtain ⟨ca, hca⟩ : ∃ x, (up + mi + 0) / 18446744073709551616 = x := ⟨_, rfl⟩
    rw [hov, hup] at m1
    rw [hmi, hlo] at m2
    have ad := fun w => add64_run up mi 0 (by omega) (by omega) (by omega) (by omega) w
    rw [hhi, hca] at ad
    have or := or_zero (h := ov) (l := ca) (by omega) (by omega) (by omega) (by omega)
    have hti : Wd.toInt ⟨n1, h1, l1⟩ = Wd.sv n1 (h1 * 18446744073709551616 + l1) := rfl
    rw [hti, ← hsg] at hv
    by_cases z : ov = 0 ∧ ca = 0
    · have orf : (bits .or .u64 ov ca != 0) = false := by rw [or]; simp [z]
      have hval : P1 * 18446744073709551616 + P2 = hi * 18446744073709551616 + lo := by omega
      rw [hval] at hv
      have li := fun w => limited_any (n1 != decide (a < 0)) hi lo (by omega) (by omega) (by omega) (by omega) n h l e hv w
      exact times_ok n1 h1 l1 a f ov up mi lo hi ca n h l e w ck ma m1 m2 ad orf li
    · have orf : (bits .or .u64 ov ca != 0) = true := by rw [or]; simp; omega
      have hbig : 340282366920938463463374607431768211456 ≤ P1 * 18446744073709551616 + P2 := by omega
      have hx : Wd.lim (Wd.sv (n1 != decide (a < 0)) (P1 * 18446744073709551616 + P2)) = (Wd.zero, 8) := by
        unfold Wd.lim Wd.sv
        rw [if_neg]
        split <;> omega
      rw [hx] at hv
      obtain ⟨hz, rfl⟩ := Prod.mk.inj hv
      obtain ⟨rfl, rfl, rfl⟩ := Wd.mk.inj hz
      exact times_over n1 h1 l1 a f ov up mi lo hi ca w ck ma m1 m2 ad orf
  · rw [if_pos c0] at hv
    obtain ⟨hz, rfl⟩ := Prod.mk.inj hv
    obtain ⟨rfl, rfl, rfl⟩ := Wd.mk.inj hz
    exact times_bad n1 h1 l1 a c w c0 ck
end Go.Proofs.Ythfnblifefnfmaa
