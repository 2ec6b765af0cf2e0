/-
  The long division of package couperef03, by contract.
-/
import Derived.Test.YtjeedlglonnngaaIref2
import Derived.Test.YtjeedlglonnngaaFcode
namespace Go.Proofs.Ytjeedlglonnngaa
open Go.RowKit
set_option linter.unusedVariables false
set_option linter.unusedSimpArgs false

namespace Qn
theorem qle {x d q r M : Int} (x0 : 0 ≤ x) (xd : x < d) (M0 : 0 ≤ M) (r0 : 0 ≤ r) (h : q * d + r = x * M) : q ≤ M := by
  apply Int.le_of_not_gt
  intro hc
  have h1 : (M + 1) * d ≤ q * d := Int.mul_le_mul_of_nonneg_right (by omega) (by omega)
  have h2 : x * M ≤ d * M := Int.mul_le_mul_of_nonneg_right (by omega) M0
  rw [Int.add_mul, Int.one_mul, Int.mul_comm M d] at h1
  omega
/-- What is done: quotient and rest of the product with what has been taken of n. -/
structure Done (x d q r M : Int) : Prop where
  eq : q * d + r = x * M
  r0 : 0 ≤ r
  r1 : r < d
  q0 : 0 ≤ q
  q1 : q ≤ M
theorem step {x d q r N M b : Int} (x0 : 0 ≤ x) (xd : x < d) (h : Done x d q r N) (hM : M = 2 * N + b) (hb : b = 0 ∨ b = 1) (N0 : 0 ≤ N) (q' r' : Int)
    (hq : q' * d + r' = 2 * (q * d + r) + (if b = 1 then x else 0)) (r0 : 0 ≤ r') (r1 : r' < d) (q0 : 0 ≤ q') : Done x d q' r' M := by
  have e : q' * d + r' = x * M := by
    rw [hq, h.eq, hM, Int.mul_add]
    rcases hb with rfl | rfl
    · simp; rw [Int.mul_left_comm]
    · simp; rw [Int.mul_left_comm]
  exact ⟨e, r0, r1, q0, qle x0 xd (by omega) r0 e⟩
theorem fin {x d q r n : Int} (h : Done x d q r n) : q = x * n / d := by
  have hd : 0 < d := by have := h.r0; have := h.r1; omega
  rw [← h.eq, Int.add_comm, Int.add_mul_ediv_right _ _ (by omega), Int.ediv_eq_zero_of_lt h.r0 h.r1, Int.zero_add]
end Qn
/-- The loop's head: which bit is next, and what is done. -/
def Ql (x n d : Int) (vq vr vb : Value) : Prop :=
  ∃ (q r β : Int), vq = .int .i64 q ∧ vr = .int .i64 r ∧ vb = .int .i64 β ∧ 0 ≤ β ∧ β ≤ 1125899906842624 ∧ ((β = 0 ∧ Qn.Done x d q r n) ∨ (∃ j : Nat, β = (2 : Int) ^ j ∧ Qn.Done x d q r (n / (2 * β))))
theorem half_pow {β : Int} {j : Nat} (h : β = (2 : Int) ^ j) : (β = 1 ∧ β / 2 = 0) ∨ (∃ i : Nat, β / 2 = (2 : Int) ^ i ∧ 2 * (β / 2) = β) := by
  cases j with
  | zero => left; subst h; simp
  | succ i =>
    right
    refine ⟨i, ?_, ?_⟩
    · rw [h, Int.pow_succ, Int.mul_ediv_cancel _ (by omega)]
    · rw [h, Int.pow_succ, Int.mul_ediv_cancel _ (by omega), Int.mul_comm]
/-- It answers the quotient, and some rest. -/
def QuotPost (v : Int) (w : World) (e : Ending) (w' : World) : Prop := ∃ r : Int, e = .returned (.tuple #[.int .i64 v, .int .i64 r]) ∧ w' = w
theorem QuotPost.mk {v v' r : Int} {w : World} (h : v' = v) : QuotPost v w (.returned (.tuple #[.int .i64 v', .int .i64 r])) w := ⟨r, by rw [h], rfl⟩
set_option maxHeartbeats 4000000 in
theorem quot_any (x n d : Int) (x0 : 0 ≤ x) (xd : x < d) (n0 : 0 ≤ n) (n1 : n ≤ 1000000000000000) (d1 : d ≤ 1000000000000000) (w : World) :
    Calls Try.prog 51 #[.int .i64 x, .int .i64 n, .int .i64 d] w (QuotPost (x * n / d) w) := by
  go_enter Try.func51, Try.ntmps51
  go_wp2_with fail
  go_loop [8, 9, 10] (fun vq vr vb => Ql x n d vq vr vb) (fun _ _ vb => (intOf vb).toNat)
  case atStart =>
    refine ⟨0, 0, 1125899906842624, rfl, rfl, rfl, by omega, by omega, Or.inr ⟨50, by decide, ?_⟩⟩
    have e : n / (2 * 1125899906842624) = 0 := by omega
    rw [e]
    exact ⟨by simp, by omega, by omega, by omega, by omega⟩
  case round =>
    obtain ⟨q, r, β, rfl, rfl, rfl, β0, β1, hcase⟩ := hrel
    rcases hcase with ⟨rfl, hd⟩ | ⟨j, hj, hd⟩
    · have e := Qn.fin hd
      have E := hid e
      clear e hd
      go_wp2
      go_ret2
      exact QuotPost.mk E.out
    · have hpos : 0 < β := by rw [hj]; exact Int.pow_pos (by omega)
      obtain ⟨M, hM⟩ : ∃ M, n / β = M := ⟨_, rfl⟩
      obtain ⟨N, hN⟩ : ∃ N, n / (2 * β) = N := ⟨_, rfl⟩
      have hNM : N = M / 2 := by rw [← hN, ← hM, Int.mul_comm, Int.ediv_ediv_of_nonneg (by omega)]
      have M0 : 0 ≤ M := by rw [← hM]; exact Int.ediv_nonneg n0 (by omega)
      have M1 : M ≤ n := by rw [← hM]; exact Int.ediv_le_self _ n0
      rw [hN] at hd
      have hp := half_pow hj
      obtain ⟨b, hb⟩ : ∃ b, M % 2 = b := ⟨_, rfl⟩
      have hb2 : b = 0 ∨ b = 1 := by omega
      have hMN : M = 2 * N + b := by omega
      have q0 := hd.q0
      have q1 := hd.q1
      have r0 := hd.r0
      have r1 := hd.r1
      have HD := hid hd
      have HP := hid hp
      have HMN := hid hMN
      have HN := hid hN
      have gb : (β == 0) = false := by simp; omega
      have hN0 : 0 ≤ N := by omega
      have hNn : N ≤ n := by omega
      have fin : ∀ q' r' : Int, q' * d + r' = 2 * (q * d + r) + (if b = 1 then x else 0) → 0 ≤ r' → r' < d → 0 ≤ q' → Ql x n d (.int .i64 q') (.int .i64 r') (.int .i64 (β / 2)) := fun q' r' e a1 a2 a3 => by
        have D := Qn.step x0 xd HD.out HMN.out hb2 hN0 q' r' e a1 a2 a3
        refine ⟨q', r', β / 2, rfl, rfl, rfl, by omega, by omega, ?_⟩
        rcases HP.out with ⟨rfl, e0⟩ | ⟨i, e1, e2⟩
        · left
          rw [Int.ediv_one] at hM
          exact ⟨e0, by rw [hM]; exact D⟩
        · right
          exact ⟨i, e1, by rw [e2, hM]; exact D⟩
      have FIN := hid fin
      have HM := hid hM
      have eM : n / β = M := hM
      clear hd hp hMN hN hNM fin hj
      rcases hb2 with rfl | rfl
      · by_cases c1 : d ≤ 2 * r
        · go_wp2
          go_round
          case rel => exact FIN.out (2 * q + 1) (2 * r - d) (by rw [Int.add_mul, Int.mul_add, Int.mul_assoc]; simp; omega) (by omega) (by omega) (by omega)
          case measure => simp [intOf]; omega
        · go_wp2
          go_round
          case rel => exact FIN.out (2 * q) (2 * r) (by rw [Int.mul_add, Int.mul_assoc]; simp) (by omega) (by omega) (by omega)
          case measure => simp [intOf]; omega
      · by_cases c1 : d ≤ 2 * r
        · by_cases c2 : d ≤ 2 * r - d + x
          · go_wp2
            go_round
            case rel => exact FIN.out (2 * q + 1 + 1) (2 * r - d + x - d) (by rw [Int.add_mul, Int.add_mul, Int.mul_add, Int.mul_assoc]; simp; omega) (by omega) (by omega) (by omega)
            case measure => simp [intOf]; omega
          · go_wp2
            go_round
            case rel => exact FIN.out (2 * q + 1) (2 * r - d + x) (by rw [Int.add_mul, Int.mul_add, Int.mul_assoc]; simp; omega) (by omega) (by omega) (by omega)
            case measure => simp [intOf]; omega
        · by_cases c2 : d ≤ 2 * r + x
          · go_wp2
            go_round
            case rel => exact FIN.out (2 * q + 1) (2 * r + x - d) (by rw [Int.add_mul, Int.mul_add, Int.mul_assoc]; simp; omega) (by omega) (by omega) (by omega)
            case measure => simp [intOf]; omega
          · go_wp2
            go_round
            case rel => exact FIN.out (2 * q) (2 * r + x) (by rw [Int.mul_add, Int.mul_assoc]; simp; omega) (by omega) (by omega) (by omega)
            case measure => simp [intOf]; omega
/-- What floor answers: the floor if it is within the limit, and whether it is. -/
def FloorPost (v : Int) (w : World) (e : Ending) (w' : World) : Prop :=
  ∃ (u : Int) (ok : Bool), e = .returned (.tuple #[.int .i64 u, .bool ok]) ∧ w' = w ∧ ((ok = true ∧ u = v ∧ -1000000000000000 ≤ v ∧ v ≤ 1000000000000000) ∨ (ok = false ∧ ¬ (-1000000000000000 ≤ v ∧ v ≤ 1000000000000000)))
theorem FloorPost.yes {v u : Int} {w : World} (hu : u = v) (h : -1000000000000000 ≤ v ∧ v ≤ 1000000000000000) : FloorPost v w (.returned (.tuple #[.int .i64 u, .bool true])) w := ⟨u, true, rfl, rfl, Or.inl ⟨rfl, hu, h.1, h.2⟩⟩
theorem FloorPost.no {v u : Int} {w : World} (h : ¬ (-1000000000000000 ≤ v ∧ v ≤ 1000000000000000)) : FloorPost v w (.returned (.tuple #[.int .i64 u, .bool false])) w := ⟨u, false, rfl, rfl, Or.inr ⟨rfl, h⟩⟩
theorem FloorPost.lo {v : Int} {w : World} (h : v < -1000000000000000) : FloorPost v w (.returned (.tuple #[.int .i64 v, .bool (decide (-1000000000000000 ≤ v))])) w := ⟨v, _, rfl, rfl, Or.inr ⟨by simp; omega, by omega⟩⟩
theorem floor_split {x n d : Int} (hd : 0 < d) : x * n / d = x / d * n + (x % d) * n / d := by
  have h := Int.emod_add_mul_ediv x d
  have e : x * n = (x % d) * n + (x / d * n) * d := by
    rw [Int.mul_right_comm, ← Int.add_mul, Int.mul_comm (x / d) d, h]
  rw [e, Int.add_mul_ediv_right _ _ (by omega), Int.add_comm]
theorem trunc_big {M n w : Int} (n0 : 0 < n) (M0 : 0 ≤ M) (h : M / n + 1 < w) : M < w * n := by
  have h1 := Int.lt_ediv_add_one_mul_self M n0
  have h2 : (M / n + 1) * n ≤ w * n := Int.mul_le_mul_of_nonneg_right (by omega) (by omega)
  omega
theorem trunc_small {M n w : Int} (n0 : 0 < n) (M0 : 0 ≤ M) (h : w < -(M / n) - 1) : w * n + n < -M := by
  have h1 := Int.lt_ediv_add_one_mul_self M n0
  have h2 : (w + 1) * n ≤ (-(M / n) - 1) * n := Int.mul_le_mul_of_nonneg_right (by omega) (by omega)
  have e : (-(M / n) - 1) * n = -((M / n + 1) * n) := by rw [← Int.neg_mul]; congr 1; omega
  rw [Int.add_mul, Int.one_mul, e] at h2
  omega
theorem within_fits {M n w : Int} (n0 : 0 < n) (n1 : n ≤ 1000000000000000) (M0 : 0 ≤ M) (M1 : M ≤ 1000000000000000) (h0 : -(M / n) - 1 ≤ w) (h1 : w ≤ M / n + 1) : -2000000000000000 ≤ w * n ∧ w * n ≤ 2000000000000000 := by
  have e1 := Int.ediv_mul_le M (show n ≠ 0 by omega)
  have h2 : w * n ≤ (M / n + 1) * n := Int.mul_le_mul_of_nonneg_right h1 (by omega)
  have h3 : (-(M / n) - 1) * n ≤ w * n := Int.mul_le_mul_of_nonneg_right h0 (by omega)
  have e : (-(M / n) - 1) * n = -((M / n + 1) * n) := by rw [← Int.neg_mul]; congr 1; omega
  rw [e] at h3
  rw [Int.add_mul, Int.one_mul] at h2 h3
  omega
set_option maxHeartbeats 4000000 in
theorem rfloor_any (x n d : Int) (x0 : -1000000000000000 ≤ x) (x1 : x ≤ 1000000000000000) (n0 : 0 ≤ n) (n1 : n ≤ 1000000000000000) (d0 : 0 < d) (d1 : d ≤ 1000000000000000) (w : World) :
    Calls Try.prog 43 #[.int .i64 x, .int .i64 n, .int .i64 d] w (FloorPost (x * n / d) w) := by
  have hw := Sp.tdiv_floor (n := x) d0
  obtain ⟨t, ht⟩ : ∃ t, x.tmod d = t := ⟨_, rfl⟩
  obtain ⟨q, hq⟩ : ∃ q, x.tdiv d = q := ⟨_, rfl⟩
  have qb : -1000000000000000 ≤ q ∧ q ≤ 1000000000000000 := by
    have e1 := Int.natAbs_tdiv x d
    have e2 := Nat.div_le_self x.natAbs d.natAbs
    rw [hq] at e1
    have e3 : q.natAbs ≤ x.natAbs := by rw [e1]; exact e2
    omega
  have g : (d == 0) = false := by simp; omega
  obtain ⟨W, hW⟩ : ∃ W, x / d = W := ⟨_, rfl⟩
  obtain ⟨R, hR⟩ : ∃ R, x % d = R := ⟨_, rfl⟩
  have hx := Int.emod_add_mul_ediv x d
  have R0 := Int.emod_nonneg x (show d ≠ 0 by omega)
  have R1 := Int.emod_lt_of_pos x d0
  rw [hR, hW] at hx
  rw [hR] at R0 R1
  have eP : W * d = x - R := by rw [Int.mul_comm]; omega
  have qa := fun w => quot_any R n d R0 R1 n0 n1 d1 w
  have hv := floor_split (x := x) (n := n) d0
  rw [hW, hR] at hv
  obtain ⟨Q, hQ⟩ : ∃ Q, R * n / d = Q := ⟨_, rfl⟩
  rw [hQ] at qa hv
  have Q0 : 0 ≤ Q := by rw [← hQ]; exact Int.ediv_nonneg (Int.mul_nonneg R0 n0) (by omega)
  have Q1 : Q ≤ n := by
    rw [← hQ]
    have : R * n / d ≤ d * n / d := Int.ediv_le_ediv d0 (Int.mul_le_mul_of_nonneg_right (by omega) n0)
    rw [Int.mul_ediv_cancel_left _ (by omega)] at this
    exact this
  rw [hv]
  rw [ht, hq, hW] at hw
  have q00 := qb.1
  have q01 := qb.2
  have W0 : W = q - 1 ∧ t < 0 ∨ W = q ∧ 0 ≤ t := by
    split at hw
    · exact Or.inl ⟨hw, by assumption⟩
    · exact Or.inr ⟨hw, by omega⟩
  clear hv hw hx hQ hR hW qb
  obtain ⟨P, hP⟩ : ∃ P, W * n = P := ⟨_, rfl⟩
  obtain ⟨Z, hZ⟩ : ∃ Z, W * d = Z := ⟨_, rfl⟩
  rw [hZ] at eP
  have eR : x - Z = R := by omega
  have zb0 : -2000000000000000 ≤ Z := by omega
  have zb1 : Z ≤ 2000000000000000 := by omega
  clear eP
  rw [hP]
  have QA := hid qa
  clear qa
  by_cases hn : n = 0
  · subst hn
    have P0 : P = 0 := by rw [← hP]; simp
    have Q2 : Q = 0 := by omega
    subst P0 Q2
    clear hP
    rcases W0 with ⟨rfl, ht0⟩ | ⟨rfl, ht0⟩
    all_goals
      go_enter Try.func43, Try.ntmps43
      go_wp2_with fail
      refine (QA.out _).mono ?_; rintro e w' ⟨r, rfl, rfl⟩
      go_wp2_with fail
      go_ret2
      exact FloorPost.yes (by omega) (by omega)
  · obtain ⟨K, hK⟩ : ∃ K, 1000000000000000 / n = K := ⟨_, rfl⟩
    have K0 : 0 ≤ K := by rw [← hK]; exact Int.ediv_nonneg (by omega) n0
    have K1 : K ≤ 1000000000000000 := by rw [← hK]; exact Int.ediv_le_self _ (by omega)
    have hK2 : (-1000000000000000 : Int).tdiv n = -K := by
      rw [show (-1000000000000000 : Int) = -(1000000000000000) from rfl, Int.neg_tdiv, Int.tdiv_eq_ediv_of_nonneg (by omega), hK]
    have gn : (n == 0) = false := by simp; omega
    by_cases e1 : K + 1 < W
    · have big : 1000000000000000 < P := by rw [← hP]; rw [← hK] at e1; exact trunc_big (by omega) (by omega) e1
      clear hP
      rcases W0 with ⟨rfl, ht0⟩ | ⟨rfl, ht0⟩
      all_goals
        go_enter Try.func43, Try.ntmps43
        go_wp2_with fail
        refine (QA.out _).mono ?_; rintro e w' ⟨r, rfl, rfl⟩
        go_wp2_with fail
        go_ret2
        exact FloorPost.no (by omega)
    · by_cases e2 : W < -K - 1
      · have small : P + n < -1000000000000000 := by rw [← hP]; rw [← hK] at e2; exact trunc_small (by omega) (by omega) e2
        clear hP
        rcases W0 with ⟨rfl, ht0⟩ | ⟨rfl, ht0⟩
        all_goals
          go_enter Try.func43, Try.ntmps43
          go_wp2_with fail
          refine (QA.out _).mono ?_; rintro e w' ⟨r, rfl, rfl⟩
          go_wp2_with fail
          go_ret2
          exact FloorPost.no (by omega)
      · have fit : -2000000000000000 ≤ P ∧ P ≤ 2000000000000000 := by
          rw [← hP]
          rw [← hK] at e1 e2
          exact within_fits (M := 1000000000000000) (by omega) n1 (by omega) (by omega) (by omega) (by omega)
        have f0 := fit.1
        have f1 := fit.2
        clear fit
        by_cases c1 : P + Q ≤ 1000000000000000
        · by_cases c2 : -1000000000000000 ≤ P + Q
          · rcases W0 with ⟨rfl, ht0⟩ | ⟨rfl, ht0⟩
            all_goals
              go_enter Try.func43, Try.ntmps43
              go_wp2_with fail
              refine (QA.out _).mono ?_; rintro e w' ⟨r, rfl, rfl⟩
              go_wp2_with fail
              go_ret2
              exact FloorPost.yes rfl ⟨c2, c1⟩
          · rcases W0 with ⟨rfl, ht0⟩ | ⟨rfl, ht0⟩
            all_goals
              go_enter Try.func43, Try.ntmps43
              go_wp2_with fail
              refine (QA.out _).mono ?_; rintro e w' ⟨r, rfl, rfl⟩
              go_wp2_with fail
              go_ret2
              exact FloorPost.lo (by omega)
        · rcases W0 with ⟨rfl, ht0⟩ | ⟨rfl, ht0⟩
          all_goals
            go_enter Try.func43, Try.ntmps43
            go_wp2_with fail
            refine (QA.out _).mono ?_; rintro e w' ⟨r, rfl, rfl⟩
            go_wp2_with fail
            go_ret2
            exact FloorPost.no (by omega)
end Go.Proofs.Ytjeedlglonnngaa
