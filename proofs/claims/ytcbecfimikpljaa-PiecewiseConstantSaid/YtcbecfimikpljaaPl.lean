/-
  Layer 12: PiecewiseLines: a single line with whole coefficients.
-/
import Derived.Test.YtcbecfimikpljaaQb
import Derived.Test.YtcbecfimikpljaaFref
namespace Go.Proofs.Ytcbecfimikpljaa
open Go.RowKit
set_option linter.unusedVariables false
set_option linter.unusedSimpArgs false
namespace Sp
theorem mul_one_of {y x : Int} (y0 : -1000000000000 ≤ y) (y1 : y ≤ 1000000000000) (x0 : -1000000000000 ≤ x) (x1 : x ≤ 1000000000000) (p0 : -1000000000000 ≤ y * x) (p1 : y * x ≤ 1000000000000) : mulF y 1 x 1 = (y * x, 1, 0) := by
  refine mul_of (one_ok (by omega) (by omega)) (one_ok (by omega) (by omega)) ?_
  unfold prodF
  have e : (Int.gcd y 1 : Int) = 1 := by rw [Int.gcd_one]; rfl
  have e2 : (Int.gcd x 1 : Int) = 1 := by rw [Int.gcd_one]; rfl
  rw [e, e2, Int.ediv_one, Int.ediv_one, Int.ediv_one, Int.mul_one]
  generalize y * x = p at *
  unfold limF
  rw [if_neg (by omega)]
theorem add_one_of {y x : Int} (y0 : -1000000000000 ≤ y) (y1 : y ≤ 1000000000000) (x0 : -1000000000000 ≤ x) (x1 : x ≤ 1000000000000) : addF y 1 x 1 = (y + x, 1, 0) := by
  refine add_of (one_ok (by omega) (by omega)) (one_ok (by omega) (by omega)) ?_
  have e : (Int.gcd 1 1 : Int) = 1 := rfl
  have e3 : sumN y 1 x 1 = y + x := by unfold sumN; rw [e]; simp
  have e4 : sumR y 1 x 1 = 1 := by unfold sumR; rw [e3, e, Int.gcd_one]; rfl
  unfold sumF
  rw [e3, e4, e, Int.ediv_one, Int.ediv_one, Int.mul_one]
  unfold limF
  rw [if_neg (by omega)]
theorem cmp_one {y x : Int} (y0 : -1000000000000 ≤ y) (y1 : y ≤ 1000000000000) (x0 : -1000000000000 ≤ x) (x1 : x ≤ 1000000000000) : cmpF y 1 x 1 = Wd.cmpI y x := by
  unfold cmpF
  have b : bothF y 1 x 1 = 0 := bothF_zero.mpr ⟨one_ok (by omega) (by omega), one_ok (by omega) (by omega)⟩
  rw [b, if_neg (fun h => h rfl), Int.mul_one, Int.mul_one]
end Sp
def lnL (A : Option Addr) (a b : Int) : List Sp.Pd := [⟨0, 255, A, 2, [(a, 1), (b, 1)]⟩]
theorem ln_check (A : Option Addr) {a b : Int} (a0 : -32768 ≤ a) (a1 : a ≤ 32767) (b0 : -32768 ≤ b) (b1 : b ≤ 32767) : Sp.pcheck (lnL A a b) = 0 := by
  have f1 : Sp.fchk a 1 = 0 := Sp.one_ok (by omega) (by omega)
  have f2 : Sp.fchk b 1 = 0 := Sp.one_ok (by omega) (by omega)
  have g1 : Sp.bigF (a, 1) = false := by unfold Sp.bigF; simp; omega
  have g2 : Sp.bigF (b, 1) = false := by unfold Sp.bigF; simp; omega
  have c : Sp.coefE [(a, 1), (b, 1)] = 0 := by unfold Sp.coefE Sp.coefE Sp.coefE; simp only [f1, f2]; rfl
  have an : [(a, 1), (b, 1)].any Sp.bigF = false := by simp only [List.any_cons, List.any_nil, g1, g2]; rfl
  have p : Sp.pieceE ⟨0, 255, A, 2, [(a, 1), (b, 1)]⟩ 0 = 0 := by
    unfold Sp.pieceE
    simp only [c, an]
    rfl
  unfold Sp.pcheck lnL Sp.listE Sp.listE
  simp only [List.length_cons, List.length_nil, List.getElem_cons_zero, p]
  rfl
theorem prod_in {b x : Int} (b0 : -32768 ≤ b) (b1 : b ≤ 32767) (x0 : 0 ≤ x) (x1 : x ≤ 3000) : -98304000 ≤ b * x ∧ b * x ≤ 98304000 := by
  have h1 := Int.mul_le_mul_of_nonneg_right b1 x0
  have h2 := Int.mul_le_mul_of_nonneg_right b0 x0
  omega
theorem ln_val (A : Option Addr) {a b x : Int} (a0 : -32768 ≤ a) (a1 : a ≤ 32767) (b0 : -32768 ≤ b) (b1 : b ≤ 32767) (x0 : 0 ≤ x) (x1 : x ≤ 3000) : Sp.valL (lnL A a b) x = (a + b * x, 1, 0) := by
  have po : Sp.pieceO (lnL A a b) x = ⟨0, 255, A, 2, [(a, 1), (b, 1)]⟩ := by
    have h := Sp.pieceO_mem (l := lnL A a b) x (by simp [lnL])
    simpa [lnL] using h
  have pb := prod_in b0 b1 x0 x1
  unfold Sp.valL Sp.valP
  rw [po]
  have e : ([(a, 1), (b, 1)] : List (Int × Int)).reverse = [(b, 1), (a, 1)] := rfl
  simp only [e]
  have m1 : Sp.mulF 0 1 x 1 = (0 * x, 1, 0) := Sp.mul_one_of (by omega) (by omega) (by omega) (by omega) (by simp) (by simp)
  have s1 : Sp.stepF x (0, 1) (b, 1) = (b, 1, 0) := by
    unfold Sp.stepF
    simp only [m1, Int.zero_mul]
    rw [if_neg (fun h => h rfl), Sp.add_one_of (by omega) (by omega) (by omega) (by omega), Int.zero_add]
  have m2 : Sp.mulF b 1 x 1 = (b * x, 1, 0) := Sp.mul_one_of (by omega) (by omega) (by omega) (by omega) (by omega) (by omega)
  have s2 : Sp.stepF x (b, 1) (a, 1) = (b * x + a, 1, 0) := by
    unfold Sp.stepF
    simp only [m2]
    rw [if_neg (fun h => h rfl), Sp.add_one_of (by omega) (by omega) (by omega) (by omega)]
  rw [Sp.hornF_cons, s1]
  simp only [ne_eq, not_true_eq_false, if_false]
  rw [Sp.hornF_cons, s2]
  simp only [ne_eq, not_true_eq_false, if_false]
  unfold Sp.hornF
  rw [Int.add_comm]
theorem ln_ends (A : Option Addr) (a b : Int) : Sp.least (lnL A a b) = 0 ∧ Sp.great (lnL A a b) = 255 := ⟨rfl, rfl⟩
theorem ln_vals (A : Option Addr) {a b x y : Int} (a0 : -32768 ≤ a) (a1 : a ≤ 32767) (b0 : -32768 ≤ b) (b1 : b ≤ 32767) (x0 : 0 ≤ x) (xy : x ≤ y) (y1 : y ≤ 255) : Sp.valsE (lnL A a b) x y = 0 := by
  unfold Sp.valsE
  rw [ln_check A a0 a1 b0 b1, (ln_ends A a b).1, (ln_ends A a b).2, if_neg (fun h => h rfl), if_neg (by omega)]
  refine (Sp.fstE_zero _ _ _).mpr fun i hi => ?_
  rw [ln_val A a0 a1 b0 b1 (by omega) (by omega)]
theorem ln_eval (A : Option Addr) {a b x : Int} (a0 : -32768 ≤ a) (a1 : a ≤ 32767) (b0 : -32768 ≤ b) (b1 : b ≤ 32767) (x0 : 0 ≤ x) (x1 : x ≤ 255) : Sp.evalS (lnL A a b) x = (a + b * x, 1, 0) := by
  unfold Sp.evalS
  rw [ln_vals A a0 a1 b0 b1 x0 (Int.le_refl _) x1, if_neg (fun h => h rfl), ln_val A a0 a1 b0 b1 x0 (by omega)]
theorem ln_inc (A : Option Addr) {a b : Int} (a0 : -32768 ≤ a) (a1 : a ≤ 32767) (b0 : -32768 ≤ b) (b1 : b ≤ 32767) : IncIs (lnL A a b) (decide (0 ≤ b)) 0 := by
  obtain ⟨h1, h2⟩ := ln_ends A a b
  unfold IncIs
  rw [h1, h2]
  refine ⟨(ln_vals A a0 a1 b0 b1 (by omega) (by omega) (by omega)).symm, fun k => absurd rfl k, fun _ => ?_⟩
  have ln : (Sp.valsL (lnL A a b) 0 255).length = 256 := by unfold Sp.valsL; rw [Sp.lstV_len]; rfl
  have at_ : ∀ k (h : k < (Sp.valsL (lnL A a b) 0 255).length), (Sp.valsL (lnL A a b) 0 255)[k] = (a + b * (k : Int), 1) := by
    intro k h
    have h2 : k < 256 := by rw [ln] at h; exact h
    have := Sp.lstV_get (Sp.valL (lnL A a b)) 256 0 k (by rw [Sp.lstV_len]; exact h2)
    rw [ln_val A a0 a1 b0 b1 (by omega) (by omega), Int.zero_add] at this
    exact this
  have st : ∀ k (h : k + 1 < (Sp.valsL (lnL A a b) 0 255).length), cmpP ((Sp.valsL (lnL A a b) 0 255)[k + 1]) ((Sp.valsL (lnL A a b) 0 255)[k]) < 0 ↔ b < 0 := by
    intro k h
    rw [at_ (k + 1) h, at_ k (by omega)]
    unfold cmpP
    have hk : k + 1 < 256 := by rw [ln] at h; exact h
    have p1 := prod_in (x := (k : Int)) b0 b1 (by omega) (by omega)
    have p2 := prod_in (x := ((k + 1 : Nat) : Int)) b0 b1 (by omega) (by omega)
    have e : b * ((k + 1 : Nat) : Int) = b * (k : Int) + b := by rw [Int.natCast_add, Int.mul_add]; simp
    simp only
    rw [Sp.cmp_one (by omega) (by omega) (by omega) (by omega), e]
    unfold Wd.cmpI
    generalize b * (k : Int) = q at *
    split
    · constructor <;> intro _ <;> omega
    · split
      · constructor <;> intro _ <;> omega
      · constructor <;> intro _ <;> omega
  constructor
  · intro h k hk _
    rw [st k hk]
    simp at h
    omega
  · intro h
    have := h 0 (by rw [ln]; omega) (Nat.le_refl _)
    rw [st 0 (by rw [ln]; omega)] at this
    simp
    omega
end Go.Proofs.Ytcbecfimikpljaa
