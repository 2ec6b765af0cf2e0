/-
  The long division of package couperef03, by contract.
-/
import Derived.Test.YtmdaanigkhikfabIref2
import Derived.Test.YtmdaanigkhikfabFcode
namespace Go.Proofs.Ytmdaanigkhikfab
open Go.RowKit
set_option linter.unusedVariables false
set_option linter.unusedSimpArgs false

namespace Qn
theorem qle {x d q r M : Int} (x0 : 0 ≤ x) (xd : x < d) (M0 : 0 ≤ M) (r0 : 0 ≤ r) (h : q * d + r = x * M) : q ≤ M := by
  apply Int.le_of_not_gt
  intro hc
  have h1 : (M + 1) * d ≤ q * d := Int.mul_le_mul_of_nonneg_right (by omega) (by omega)
  have h2 : x * M ≤ d * M := Int.mul_le_mul_of_nonneg_right (by omega) M0
  rw [Int.add_mul, Int.one_mul, Int.mul_comm M d] at h1
  omega
/-- What is done: quotient and rest of the product with what has been taken of n. -/
structure Done (x d q r M : Int) : Prop where
  eq : q * d + r = x * M
  r0 : 0 ≤ r
  r1 : r < d
  q0 : 0 ≤ q
  q1 : q ≤ M
theorem step {x d q r N M b : Int} (x0 : 0 ≤ x) (xd : x < d) (h : Done x d q r N) (hM : M = 2 * N + b) (hb : b = 0 ∨ b = 1) (N0 : 0 ≤ N) (q' r' : Int)
    (hq : q' * d + r' = 2 * (q * d + r) + (if b = 1 then x else 0)) (r0 : 0 ≤ r') (r1 : r' < d) (q0 : 0 ≤ q') : Done x d q' r' M := by
  have e : q' * d + r' = x * M := by
    rw [hq, h.eq, hM, Int.mul_add]
    rcases hb with rfl | rfl
    · simp; rw [Int.mul_left_comm]
    · simp; rw [Int.mul_left_comm]
  exact ⟨e, r0, r1, q0, qle x0 xd (by omega) r0 e⟩
theorem fin {x d q r n : Int} (h : Done x d q r n) : q = x * n / d := by
  have hd : 0 < d := by have := h.r0; have := h.r1; omega
  rw [← h.eq, Int.add_comm, Int.add_mul_ediv_right _ _ (by omega), Int.ediv_eq_zero_of_lt h.r0 h.r1, Int.zero_add]
end Qn
/-- The loop's head: which bit is next, and what is done. -/
def Ql (x n d : Int) (vq vr vb : Value) : Prop :=
  ∃ (q r β : Int), vq = .int .i64 q ∧ vr = .int .i64 r ∧ vb = .int .i64 β ∧ 0 ≤ β ∧ β ≤ 1125899906842624 ∧ ((β = 0 ∧ Qn.Done x d q r n) ∨ (∃ j : Nat, β = (2 : Int) ^ j ∧ Qn.Done x d q r (n / (2 * β))))
theorem half_pow {β : Int} {j : Nat} (h : β = (2 : Int) ^ j) : (β = 1 ∧ β / 2 = 0) ∨ (∃ i : Nat, β / 2 = (2 : Int) ^ i ∧ 2 * (β / 2) = β) := by
  cases j with
  | zero => left; subst h; simp
  | succ i =>
    right
    refine ⟨i, ?_, ?_⟩
    · rw [h, Int.pow_succ, Int.mul_ediv_cancel _ (by omega)]
    · rw [h, Int.pow_succ, Int.mul_ediv_cancel _ (by omega), Int.mul_comm]
/-- It answers the quotient, and some rest. -/
def QuotPost (v : Int) (w : World) (e : Ending) (w' : World) : Prop := ∃ r : Int, e = .returned (.tuple #[.int .i64 v, .int .i64 r]) ∧ w' = w
theorem QuotPost.mk {v v' r : Int} {w : World} (h : v' = v) : QuotPost v w (.returned (.tuple #[.int .i64 v', .int .i64 r])) w := ⟨r, by rw [h], rfl⟩
/-- What floor answers: the floor if it is within the limit, and whether it is. -/
def FloorPost (v : Int) (w : World) (e : Ending) (w' : World) : Prop :=
  ∃ (u : Int) (ok : Bool), e = .returned (.tuple #[.int .i64 u, .bool ok]) ∧ w' = w ∧ ((ok = true ∧ u = v ∧ -1000000000000000 ≤ v ∧ v ≤ 1000000000000000) ∨ (ok = false ∧ ¬ (-1000000000000000 ≤ v ∧ v ≤ 1000000000000000)))
theorem FloorPost.yes {v u : Int} {w : World} (hu : u = v) (h : -1000000000000000 ≤ v ∧ v ≤ 1000000000000000) : FloorPost v w (.returned (.tuple #[.int .i64 u, .bool true])) w := ⟨u, true, rfl, rfl, Or.inl ⟨rfl, hu, h.1, h.2⟩⟩
theorem FloorPost.no {v u : Int} {w : World} (h : ¬ (-1000000000000000 ≤ v ∧ v ≤ 1000000000000000)) : FloorPost v w (.returned (.tuple #[.int .i64 u, .bool false])) w := ⟨u, false, rfl, rfl, Or.inr ⟨rfl, h⟩⟩
theorem FloorPost.lo {v : Int} {w : World} (h : v < -1000000000000000) : FloorPost v w (.returned (.tuple #[.int .i64 v, .bool (decide (-1000000000000000 ≤ v))])) w := ⟨v, _, rfl, rfl, Or.inr ⟨by simp; omega, by omega⟩⟩
theorem floor_split {x n d : Int} (hd : 0 < d) : x * n / d = x / d * n + (x % d) * n / d := by
  have h := Int.emod_add_mul_ediv x d
  have e : x * n = (x % d) * n + (x / d * n) * d := by
    rw [Int.mul_right_comm, ← Int.add_mul, Int.mul_comm (x / d) d, h]
  rw [e, Int.add_mul_ediv_right _ _ (by omega), Int.add_comm]
theorem trunc_big {M n w : Int} (n0 : 0 < n) (M0 : 0 ≤ M) (h : M / n + 1 < w) : M < w * n := by
  have h1 := Int.lt_ediv_add_one_mul_self M n0
  have h2 : (M / n + 1) * n ≤ w * n := Int.mul_le_mul_of_nonneg_right (by omega) (by omega)
  omega
theorem trunc_small {M n w : Int} (n0 : 0 < n) (M0 : 0 ≤ M) (h : w < -(M / n) - 1) : w * n + n < -M := by
  have h1 := Int.lt_ediv_add_one_mul_self M n0
  have h2 : (w + 1) * n ≤ (-(M / n) - 1) * n := Int.mul_le_mul_of_nonneg_right (by omega) (by omega)
  have e : (-(M / n) - 1) * n = -((M / n + 1) * n) := by rw [← Int.neg_mul]; congr 1; omega
  rw [Int.add_mul, Int.one_mul, e] at h2
  omega
theorem within_fits {M n w : Int} (n0 : 0 < n) (n1 : n ≤ 1000000000000000) (M0 : 0 ≤ M) (M1 : M ≤ 1000000000000000) (h0 : -(M / n) - 1 ≤ w) (h1 : w ≤ M / n + 1) : -2000000000000000 ≤ w * n ∧ w * n ≤ 2000000000000000 := by
  have e1 := Int.ediv_mul_le M (show n ≠ 0 by omega)
  have h2 : w * n ≤ (M / n + 1) * n := Int.mul_le_mul_of_nonneg_right h1 (by omega)
  have h3 : (-(M / n) - 1) * n ≤ w * n := Int.mul_le_mul_of_nonneg_right h0 (by omega)
  have e : (-(M / n) - 1) * n = -((M / n + 1) * n) := by rw [← Int.neg_mul]; congr 1; omega
  rw [e] at h3
  rw [Int.add_mul, Int.one_mul] at h2 h3
  omega
end Go.Proofs.Ytmdaanigkhikfab
