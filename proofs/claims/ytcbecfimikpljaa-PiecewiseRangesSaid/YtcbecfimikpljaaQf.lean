/-
  The long division and FromFrac of the reference; Range of the reference of layer 12 (Iquot, Pff, Pu as one: tools/merge.py).
-/
import Derived.Test.YtcbecfimikpljaaQe
import Derived.Test.YtcbecfimikpljaaFcode
import Derived.Test.YtcbecfimikpljaaFref
import Derived.Test.YtcbecfimikpljaaQc
import Derived.Test.YtcbecfimikpljaaQd
namespace Go.Proofs.Ytcbecfimikpljaa
open Go.RowKit
set_option linter.unusedVariables false
set_option linter.unusedSimpArgs false

namespace Qn
theorem qle {x d q r M : Int} (x0 : 0 ≤ x) (xd : x < d) (M0 : 0 ≤ M) (r0 : 0 ≤ r) (h : q * d + r = x * M) : q ≤ M := by
  apply Int.le_of_not_gt
  intro hc
  have h1 : (M + 1) * d ≤ q * d := Int.mul_le_mul_of_nonneg_right (by omega) (by omega)
  have h2 : x * M ≤ d * M := Int.mul_le_mul_of_nonneg_right (by omega) M0
  rw [Int.add_mul, Int.one_mul, Int.mul_comm M d] at h1
  omega
/-- What is done: quotient and rest of the product with what has been taken of n. -/
structure Done (x d q r M : Int) : Prop where
  eq : q * d + r = x * M
  r0 : 0 ≤ r
  r1 : r < d
  q0 : 0 ≤ q
  q1 : q ≤ M
theorem step {x d q r N M b : Int} (x0 : 0 ≤ x) (xd : x < d) (h : Done x d q r N) (hM : M = 2 * N + b) (hb : b = 0 ∨ b = 1) (N0 : 0 ≤ N) (q' r' : Int)
    (hq : q' * d + r' = 2 * (q * d + r) + (if b = 1 then x else 0)) (r0 : 0 ≤ r') (r1 : r' < d) (q0 : 0 ≤ q') : Done x d q' r' M := by
  have e : q' * d + r' = x * M := by
    rw [hq, h.eq, hM, Int.mul_add]
    rcases hb with rfl | rfl
    · simp; rw [Int.mul_left_comm]
    · simp; rw [Int.mul_left_comm]
  exact ⟨e, r0, r1, q0, qle x0 xd (by omega) r0 e⟩
theorem fin {x d q r n : Int} (h : Done x d q r n) : q = x * n / d := by
  have hd : 0 < d := by have := h.r0; have := h.r1; omega
  rw [← h.eq, Int.add_comm, Int.add_mul_ediv_right _ _ (by omega), Int.ediv_eq_zero_of_lt h.r0 h.r1, Int.zero_add]
end Qn
/-- The loop's head: which bit is next, and what is done. -/
def Ql (x n d : Int) (vq vr vb : Value) : Prop :=
  ∃ (q r β : Int), vq = .int .i64 q ∧ vr = .int .i64 r ∧ vb = .int .i64 β ∧ 0 ≤ β ∧ β ≤ 1125899906842624 ∧ ((β = 0 ∧ Qn.Done x d q r n) ∨ (∃ j : Nat, β = (2 : Int) ^ j ∧ Qn.Done x d q r (n / (2 * β))))
theorem half_pow {β : Int} {j : Nat} (h : β = (2 : Int) ^ j) : (β = 1 ∧ β / 2 = 0) ∨ (∃ i : Nat, β / 2 = (2 : Int) ^ i ∧ 2 * (β / 2) = β) := by
  cases j with
  | zero => left; subst h; simp
  | succ i =>
    right
    refine ⟨i, ?_, ?_⟩
    · rw [h, Int.pow_succ, Int.mul_ediv_cancel _ (by omega)]
    · rw [h, Int.pow_succ, Int.mul_ediv_cancel _ (by omega), Int.mul_comm]
/-- It answers the quotient, and some rest. -/
def QuotPost (v : Int) (w : World) (e : Ending) (w' : World) : Prop := ∃ r : Int, e = .returned (.tuple #[.int .i64 v, .int .i64 r]) ∧ w' = w
theorem QuotPost.mk {v v' r : Int} {w : World} (h : v' = v) : QuotPost v w (.returned (.tuple #[.int .i64 v', .int .i64 r])) w := ⟨r, by rw [h], rfl⟩
set_option maxHeartbeats 4000000 in
theorem quot_any (x n d : Int) (x0 : 0 ≤ x) (xd : x < d) (n0 : 0 ≤ n) (n1 : n ≤ 1000000000000000) (d1 : d ≤ 1000000000000000) (w : World) :
    Calls Try.prog 87 #[.int .i64 x, .int .i64 n, .int .i64 d] w (QuotPost (x * n / d) w) := by
  go_enter Try.func87, Try.ntmps87
  go_wp2_with fail
  go_loop [8, 9, 10] (fun vq vr vb => Ql x n d vq vr vb) (fun _ _ vb => (intOf vb).toNat)
  case atStart =>
    refine ⟨0, 0, 1125899906842624, rfl, rfl, rfl, by omega, by omega, Or.inr ⟨50, by decide, ?_⟩⟩
    have e : n / (2 * 1125899906842624) = 0 := by omega
    rw [e]
    exact ⟨by simp, by omega, by omega, by omega, by omega⟩
  case round =>
    obtain ⟨q, r, β, rfl, rfl, rfl, β0, β1, hcase⟩ := hrel
    rcases hcase with ⟨rfl, hd⟩ | ⟨j, hj, hd⟩
    · have e := Qn.fin hd
      have E := hid e
      clear e hd
      go_wp2
      go_ret2
      exact QuotPost.mk E.out
    · have hpos : 0 < β := by rw [hj]; exact Int.pow_pos (by omega)
      obtain ⟨M, hM⟩ : ∃ M, n / β = M := ⟨_, rfl⟩
      obtain ⟨N, hN⟩ : ∃ N, n / (2 * β) = N := ⟨_, rfl⟩
      have hNM : N = M / 2 := by rw [← hN, ← hM, Int.mul_comm, Int.ediv_ediv_of_nonneg (by omega)]
      have M0 : 0 ≤ M := by rw [← hM]; exact Int.ediv_nonneg n0 (by omega)
      have M1 : M ≤ n := by rw [← hM]; exact Int.ediv_le_self _ n0
      rw [hN] at hd
      have hp := half_pow hj
      obtain ⟨b, hb⟩ : ∃ b, M % 2 = b := ⟨_, rfl⟩
      have hb2 : b = 0 ∨ b = 1 := by omega
      have hMN : M = 2 * N + b := by omega
      have q0 := hd.q0
      have q1 := hd.q1
      have r0 := hd.r0
      have r1 := hd.r1
      have HD := hid hd
      have HP := hid hp
      have HMN := hid hMN
      have HN := hid hN
      have gb : (β == 0) = false := by simp; omega
      have hN0 : 0 ≤ N := by omega
      have hNn : N ≤ n := by omega
      have fin : ∀ q' r' : Int, q' * d + r' = 2 * (q * d + r) + (if b = 1 then x else 0) → 0 ≤ r' → r' < d → 0 ≤ q' → Ql x n d (.int .i64 q') (.int .i64 r') (.int .i64 (β / 2)) := fun q' r' e a1 a2 a3 => by
        have D := Qn.step x0 xd HD.out HMN.out hb2 hN0 q' r' e a1 a2 a3
        refine ⟨q', r', β / 2, rfl, rfl, rfl, by omega, by omega, ?_⟩
        rcases HP.out with ⟨rfl, e0⟩ | ⟨i, e1, e2⟩
        · left
          rw [Int.ediv_one] at hM
          exact ⟨e0, by rw [hM]; exact D⟩
        · right
          exact ⟨i, e1, by rw [e2, hM]; exact D⟩
      have FIN := hid fin
      have HM := hid hM
      have eM : n / β = M := hM
      clear hd hp hMN hN hNM fin hj
      rcases hb2 with rfl | rfl
      · by_cases c1 : d ≤ 2 * r
        · go_wp2
          go_round
          case rel => exact FIN.out (2 * q + 1) (2 * r - d) (by rw [Int.add_mul, Int.mul_add, Int.mul_assoc]; simp; omega) (by omega) (by omega) (by omega)
          case measure => simp [intOf]; omega
        · go_wp2
          go_round
          case rel => exact FIN.out (2 * q) (2 * r) (by rw [Int.mul_add, Int.mul_assoc]; simp) (by omega) (by omega) (by omega)
          case measure => simp [intOf]; omega
      · by_cases c1 : d ≤ 2 * r
        · by_cases c2 : d ≤ 2 * r - d + x
          · go_wp2
            go_round
            case rel => exact FIN.out (2 * q + 1 + 1) (2 * r - d + x - d) (by rw [Int.add_mul, Int.add_mul, Int.mul_add, Int.mul_assoc]; simp; omega) (by omega) (by omega) (by omega)
            case measure => simp [intOf]; omega
          · go_wp2
            go_round
            case rel => exact FIN.out (2 * q + 1) (2 * r - d + x) (by rw [Int.add_mul, Int.mul_add, Int.mul_assoc]; simp; omega) (by omega) (by omega) (by omega)
            case measure => simp [intOf]; omega
        · by_cases c2 : d ≤ 2 * r + x
          · go_wp2
            go_round
            case rel => exact FIN.out (2 * q + 1) (2 * r + x - d) (by rw [Int.add_mul, Int.mul_add, Int.mul_assoc]; simp; omega) (by omega) (by omega) (by omega)
            case measure => simp [intOf]; omega
          · go_wp2
            go_round
            case rel => exact FIN.out (2 * q) (2 * r + x) (by rw [Int.mul_add, Int.mul_assoc]; simp; omega) (by omega) (by omega) (by omega)
            case measure => simp [intOf]; omega
/-- What floor answers: the floor if it is within the limit, and whether it is. -/
def FloorPost (v : Int) (w : World) (e : Ending) (w' : World) : Prop :=
  ∃ (u : Int) (ok : Bool), e = .returned (.tuple #[.int .i64 u, .bool ok]) ∧ w' = w ∧ ((ok = true ∧ u = v ∧ -1000000000000000 ≤ v ∧ v ≤ 1000000000000000) ∨ (ok = false ∧ ¬ (-1000000000000000 ≤ v ∧ v ≤ 1000000000000000)))
theorem FloorPost.yes {v u : Int} {w : World} (hu : u = v) (h : -1000000000000000 ≤ v ∧ v ≤ 1000000000000000) : FloorPost v w (.returned (.tuple #[.int .i64 u, .bool true])) w := ⟨u, true, rfl, rfl, Or.inl ⟨rfl, hu, h.1, h.2⟩⟩
theorem FloorPost.no {v u : Int} {w : World} (h : ¬ (-1000000000000000 ≤ v ∧ v ≤ 1000000000000000)) : FloorPost v w (.returned (.tuple #[.int .i64 u, .bool false])) w := ⟨u, false, rfl, rfl, Or.inr ⟨rfl, h⟩⟩
theorem FloorPost.lo {v : Int} {w : World} (h : v < -1000000000000000) : FloorPost v w (.returned (.tuple #[.int .i64 v, .bool (decide (-1000000000000000 ≤ v))])) w := ⟨v, _, rfl, rfl, Or.inr ⟨by simp; omega, by omega⟩⟩
theorem floor_split {x n d : Int} (hd : 0 < d) : x * n / d = x / d * n + (x % d) * n / d := by
  have h := Int.emod_add_mul_ediv x d
  have e : x * n = (x % d) * n + (x / d * n) * d := by
    rw [Int.mul_right_comm, ← Int.add_mul, Int.mul_comm (x / d) d, h]
  rw [e, Int.add_mul_ediv_right _ _ (by omega), Int.add_comm]
theorem trunc_big {M n w : Int} (n0 : 0 < n) (M0 : 0 ≤ M) (h : M / n + 1 < w) : M < w * n := by
  have h1 := Int.lt_ediv_add_one_mul_self M n0
  have h2 : (M / n + 1) * n ≤ w * n := Int.mul_le_mul_of_nonneg_right (by omega) (by omega)
  omega
theorem trunc_small {M n w : Int} (n0 : 0 < n) (M0 : 0 ≤ M) (h : w < -(M / n) - 1) : w * n + n < -M := by
  have h1 := Int.lt_ediv_add_one_mul_self M n0
  have h2 : (w + 1) * n ≤ (-(M / n) - 1) * n := Int.mul_le_mul_of_nonneg_right (by omega) (by omega)
  have e : (-(M / n) - 1) * n = -((M / n + 1) * n) := by rw [← Int.neg_mul]; congr 1; omega
  rw [Int.add_mul, Int.one_mul, e] at h2
  omega
theorem within_fits {M n w : Int} (n0 : 0 < n) (n1 : n ≤ 1000000000000000) (M0 : 0 ≤ M) (M1 : M ≤ 1000000000000000) (h0 : -(M / n) - 1 ≤ w) (h1 : w ≤ M / n + 1) : -2000000000000000 ≤ w * n ∧ w * n ≤ 2000000000000000 := by
  have e1 := Int.ediv_mul_le M (show n ≠ 0 by omega)
  have h2 : w * n ≤ (M / n + 1) * n := Int.mul_le_mul_of_nonneg_right h1 (by omega)
  have h3 : (-(M / n) - 1) * n ≤ w * n := Int.mul_le_mul_of_nonneg_right h0 (by omega)
  have e : (-(M / n) - 1) * n = -((M / n + 1) * n) := by rw [← Int.neg_mul]; congr 1; omega
  rw [e] at h3
  rw [Int.add_mul, Int.one_mul] at h2 h3
  omega
set_option maxHeartbeats 4000000 in
theorem rfloor_any (x n d : Int) (x0 : -1000000000000000 ≤ x) (x1 : x ≤ 1000000000000000) (n0 : 0 ≤ n) (n1 : n ≤ 1000000000000000) (d0 : 0 < d) (d1 : d ≤ 1000000000000000) (w : World) :
    Calls Try.prog 67 #[.int .i64 x, .int .i64 n, .int .i64 d] w (FloorPost (x * n / d) w) := by
  have hw := Sp.tdiv_floor (n := x) d0
  obtain ⟨t, ht⟩ : ∃ t, x.tmod d = t := ⟨_, rfl⟩
  obtain ⟨q, hq⟩ : ∃ q, x.tdiv d = q := ⟨_, rfl⟩
  have qb : -1000000000000000 ≤ q ∧ q ≤ 1000000000000000 := by
    have e1 := Int.natAbs_tdiv x d
    have e2 := Nat.div_le_self x.natAbs d.natAbs
    rw [hq] at e1
    have e3 : q.natAbs ≤ x.natAbs := by rw [e1]; exact e2
    omega
  have g : (d == 0) = false := by simp; omega
  obtain ⟨W, hW⟩ : ∃ W, x / d = W := ⟨_, rfl⟩
  obtain ⟨R, hR⟩ : ∃ R, x % d = R := ⟨_, rfl⟩
  have hx := Int.emod_add_mul_ediv x d
  have R0 := Int.emod_nonneg x (show d ≠ 0 by omega)
  have R1 := Int.emod_lt_of_pos x d0
  rw [hR, hW] at hx
  rw [hR] at R0 R1
  have eP : W * d = x - R := by rw [Int.mul_comm]; omega
  have qa := fun w => quot_any R n d R0 R1 n0 n1 d1 w
  have hv := floor_split (x := x) (n := n) d0
  rw [hW, hR] at hv
  obtain ⟨Q, hQ⟩ : ∃ Q, R * n / d = Q := ⟨_, rfl⟩
  rw [hQ] at qa hv
  have Q0 : 0 ≤ Q := by rw [← hQ]; exact Int.ediv_nonneg (Int.mul_nonneg R0 n0) (by omega)
  have Q1 : Q ≤ n := by
    rw [← hQ]
    have : R * n / d ≤ d * n / d := Int.ediv_le_ediv d0 (Int.mul_le_mul_of_nonneg_right (by omega) n0)
    rw [Int.mul_ediv_cancel_left _ (by omega)] at this
    exact this
  rw [hv]
  rw [ht, hq, hW] at hw
  have q00 := qb.1
  have q01 := qb.2
  have W0 : W = q - 1 ∧ t < 0 ∨ W = q ∧ 0 ≤ t := by
    split at hw
    · exact Or.inl ⟨hw, by assumption⟩
    · exact Or.inr ⟨hw, by omega⟩
  clear hv hw hx hQ hR hW qb
  obtain ⟨P, hP⟩ : ∃ P, W * n = P := ⟨_, rfl⟩
  obtain ⟨Z, hZ⟩ : ∃ Z, W * d = Z := ⟨_, rfl⟩
  rw [hZ] at eP
  have eR : x - Z = R := by omega
  have zb0 : -2000000000000000 ≤ Z := by omega
  have zb1 : Z ≤ 2000000000000000 := by omega
  clear eP
  rw [hP]
  have QA := hid qa
  clear qa
  by_cases hn : n = 0
  · subst hn
    have P0 : P = 0 := by rw [← hP]; simp
    have Q2 : Q = 0 := by omega
    subst P0 Q2
    clear hP
    rcases W0 with ⟨rfl, ht0⟩ | ⟨rfl, ht0⟩
    all_goals
      go_enter Try.func67, Try.ntmps67
      go_wp2_with fail
      refine (QA.out _).mono ?_; rintro e w' ⟨r, rfl, rfl⟩
      go_wp2_with fail
      go_ret2
      exact FloorPost.yes (by omega) (by omega)
  · obtain ⟨K, hK⟩ : ∃ K, 1000000000000000 / n = K := ⟨_, rfl⟩
    have K0 : 0 ≤ K := by rw [← hK]; exact Int.ediv_nonneg (by omega) n0
    have K1 : K ≤ 1000000000000000 := by rw [← hK]; exact Int.ediv_le_self _ (by omega)
    have hK2 : (-1000000000000000 : Int).tdiv n = -K := by
      rw [show (-1000000000000000 : Int) = -(1000000000000000) from rfl, Int.neg_tdiv, Int.tdiv_eq_ediv_of_nonneg (by omega), hK]
    have gn : (n == 0) = false := by simp; omega
    by_cases e1 : K + 1 < W
    · have big : 1000000000000000 < P := by rw [← hP]; rw [← hK] at e1; exact trunc_big (by omega) (by omega) e1
      clear hP
      rcases W0 with ⟨rfl, ht0⟩ | ⟨rfl, ht0⟩
      all_goals
        go_enter Try.func67, Try.ntmps67
        go_wp2_with fail
        refine (QA.out _).mono ?_; rintro e w' ⟨r, rfl, rfl⟩
        go_wp2_with fail
        go_ret2
        exact FloorPost.no (by omega)
    · by_cases e2 : W < -K - 1
      · have small : P + n < -1000000000000000 := by rw [← hP]; rw [← hK] at e2; exact trunc_small (by omega) (by omega) e2
        clear hP
        rcases W0 with ⟨rfl, ht0⟩ | ⟨rfl, ht0⟩
        all_goals
          go_enter Try.func67, Try.ntmps67
          go_wp2_with fail
          refine (QA.out _).mono ?_; rintro e w' ⟨r, rfl, rfl⟩
          go_wp2_with fail
          go_ret2
          exact FloorPost.no (by omega)
      · have fit : -2000000000000000 ≤ P ∧ P ≤ 2000000000000000 := by
          rw [← hP]
          rw [← hK] at e1 e2
          exact within_fits (M := 1000000000000000) (by omega) n1 (by omega) (by omega) (by omega) (by omega)
        have f0 := fit.1
        have f1 := fit.2
        clear fit
        by_cases c1 : P + Q ≤ 1000000000000000
        · by_cases c2 : -1000000000000000 ≤ P + Q
          · rcases W0 with ⟨rfl, ht0⟩ | ⟨rfl, ht0⟩
            all_goals
              go_enter Try.func67, Try.ntmps67
              go_wp2_with fail
              refine (QA.out _).mono ?_; rintro e w' ⟨r, rfl, rfl⟩
              go_wp2_with fail
              go_ret2
              exact FloorPost.yes rfl ⟨c2, c1⟩
          · rcases W0 with ⟨rfl, ht0⟩ | ⟨rfl, ht0⟩
            all_goals
              go_enter Try.func67, Try.ntmps67
              go_wp2_with fail
              refine (QA.out _).mono ?_; rintro e w' ⟨r, rfl, rfl⟩
              go_wp2_with fail
              go_ret2
              exact FloorPost.lo (by omega)
        · rcases W0 with ⟨rfl, ht0⟩ | ⟨rfl, ht0⟩
          all_goals
            go_enter Try.func67, Try.ntmps67
            go_wp2_with fail
            refine (QA.out _).mono ?_; rintro e w' ⟨r, rfl, rfl⟩
            go_wp2_with fail
            go_ret2
            exact FloorPost.no (by omega)

set_option maxHeartbeats 1000000 in
theorem rff_any (n d lo hi e : Int) (hn : -9223372036854775808 ≤ n) (hn2 : n ≤ 9223372036854775807) (hd : -9223372036854775808 ≤ d) (hd2 : d ≤ 9223372036854775807) (hv : Sp.ffS n d = (lo, hi, e)) (w : World) :
    Calls Try.prog 45 #[.agg #[.int .i64 n, .int .i64 d]] w (Gives (.tuple #[.agg #[.int .i64 lo, .int .i64 hi], .int .i64 e]) w) := by
  have fk := fun w => rfcheck_any n d hn hn2 hd hd2 w
  unfold Sp.ffS at hv
  by_cases c : Sp.fchk n d = 0
  · rw [if_neg (by omega)] at hv
    obtain ⟨k0, k1, k2, k3, _⟩ := Sp.fchk_zero.1 c
    have f1 := fun w => rfloor_any n 1 d k1 k2 (by omega) (by omega) k0 k3 w
    have f2 := fun w => rfloor_any (-n) 1 d (by omega) (by omega) (by omega) (by omega) k0 k3 w
    rw [Int.mul_one] at f1 f2
    have b1 : (n / d).natAbs ≤ n.natAbs := Int.natAbs_ediv_le_natAbs n d
    have b2 : ((-n) / d).natAbs ≤ (-n).natAbs := Int.natAbs_ediv_le_natAbs (-n) d
    have z1 : -1000000000000000 ≤ n / d ∧ n / d ≤ 1000000000000000 := by omega
    have z2 : -1000000000000000 ≤ (-n) / d ∧ (-n) / d ≤ 1000000000000000 := by omega
    rw [c] at fk
    obtain ⟨x, hx⟩ : ∃ x, n / d = x := ⟨_, rfl⟩
    obtain ⟨y, hy⟩ : ∃ y, (-n) / d = y := ⟨_, rfl⟩
    rw [hx] at f1 hv z1
    rw [hy] at f2 hv z2
    simp only [Prod.mk.injEq] at hv
    obtain ⟨rfl, rfl, rfl⟩ := hv
    have z10 := z1.1; have z11 := z1.2; have z20 := z2.1; have z21 := z2.2
    clear c hx hy b1 b2 z1 z2
    go_enter Try.func45, Try.ntmps45
    go_wp2_with (go_at_call 28; refine (fk _).mono ?_; rintro e w1 ⟨rfl, hb⟩; have pz : w.heap.size < (w1).heap.size := Nat.lt_of_lt_of_le (show w.heap.size < _ from (by first | assumption | (simp; done) | (simp; omega) | (dsimp only; omega) | omega)) hb.size; have p0 : (w1).cell? ⟨w.heap.size, 0, none⟩ = some (.int .i64 n) := (hb.cell (p := ⟨w.heap.size, 0, none⟩) (by first | assumption | (simp; done) | (simp; omega) | (dsimp only; omega) | omega)).trans (by first | assumption | (simp [go_sem]; done) | (simp [go_sem, *]; done)); have p1 : (w1).cell? ⟨w.heap.size, 1, none⟩ = some (.int .i64 d) := (hb.cell (p := ⟨w.heap.size, 1, none⟩) (by first | assumption | (simp; done) | (simp; omega) | (dsimp only; omega) | omega)).trans (by first | assumption | (simp [go_sem]; done) | (simp [go_sem, *]; done)); have pf : ∀ o, (w1).frozen? ⟨w.heap.size, o, none⟩ = false := fun o => (hb.frozen (p := ⟨w.heap.size, o, none⟩) (by first | assumption | (simp; done) | (simp; omega) | (dsimp only; omega) | omega)).trans (by first | (simp [go_sem]; done) | (simp [*]; done)); have rz : w.heap.size + 1 < (w1).heap.size := Nat.lt_of_lt_of_le (show w.heap.size + 1 < _ from (by first | assumption | (simp; done) | (simp; omega) | (dsimp only; omega) | omega)) hb.size; have r0 : (w1).cell? ⟨w.heap.size + 1, 0, none⟩ = some (.int .i64 0) := (hb.cell (p := ⟨w.heap.size + 1, 0, none⟩) (by first | assumption | (simp; done) | (simp; omega) | (dsimp only; omega) | omega)).trans (by first | assumption | (simp [go_sem]; done) | (simp [go_sem, *]; done)); have r1 : (w1).cell? ⟨w.heap.size + 1, 1, none⟩ = some (.int .i64 0) := (hb.cell (p := ⟨w.heap.size + 1, 1, none⟩) (by first | assumption | (simp; done) | (simp; omega) | (dsimp only; omega) | omega)).trans (by first | assumption | (simp [go_sem]; done) | (simp [go_sem, *]; done)); have rf : ∀ o, (w1).frozen? ⟨w.heap.size + 1, o, none⟩ = false := fun o => (hb.frozen (p := ⟨w.heap.size + 1, o, none⟩) (by first | assumption | (simp; done) | (simp; omega) | (dsimp only; omega) | omega)).trans (by first | (simp [go_sem]; done) | (simp [*]; done)))
    refine (f1 _).mono ?_; rintro e1 w2 ⟨u1, ok1, rfl, rfl, h1⟩
    obtain ⟨rfl, rfl⟩ : ok1 = true ∧ u1 = x := by
      rcases h1 with ⟨e1, e2, _⟩ | ⟨_, h⟩
      · exact ⟨e1, e2⟩
      · exact absurd ⟨z10, z11⟩ h
    clear h1
    go_wp2_with fail
    refine (f2 _).mono ?_; rintro e2 w3 ⟨u2, ok2, rfl, rfl, h2⟩
    obtain ⟨rfl, rfl⟩ : ok2 = true ∧ u2 = y := by
      rcases h2 with ⟨e1, e2, _⟩ | ⟨_, h⟩
      · exact ⟨e1, e2⟩
      · exact absurd ⟨z20, z21⟩ h
    clear h2
    go_wp2
    refine bodyPost_ret (v := .tuple #[.agg #[.int .i64 u1, .int .i64 (-u2)], .int .i64 0]) (by simp [results, Try.results45, go_sem, r0, r1]) rfl ?_
    exact Gives.mk rfl (by repeat' (first | (with_reducible exact Below.refl _ _) | (with_reducible refine Below.alloc ?_ ?_ _) | (with_reducible refine Below.setCell ?_ ?_ _) | (with_reducible refine Below.drew ?_) | (with_reducible refine Below.trans ?_ (Below.mono (by assumption) ?_)) | (simp; done) | (simp; omega) | omega))
  · rw [if_pos (by omega)] at hv
    obtain ⟨y, hy⟩ : ∃ y, Sp.fchk n d = y := ⟨_, rfl⟩
    rw [hy] at hv c fk
    obtain ⟨rfl, h2⟩ := Prod.mk.inj hv
    obtain ⟨rfl, rfl⟩ := Prod.mk.inj h2
    clear hv h2 hy
    go_enter Try.func45, Try.ntmps45
    go_wp2_with (go_at_call 28; refine (fk _).mono ?_; rintro e w1 ⟨rfl, hb⟩; have rz : w.heap.size + 1 < (w1).heap.size := Nat.lt_of_lt_of_le (show w.heap.size + 1 < _ from (by first | assumption | (simp; done) | (simp; omega) | (dsimp only; omega) | omega)) hb.size; have r0 : (w1).cell? ⟨w.heap.size + 1, 0, none⟩ = some (.int .i64 0) := (hb.cell (p := ⟨w.heap.size + 1, 0, none⟩) (by first | assumption | (simp; done) | (simp; omega) | (dsimp only; omega) | omega)).trans (by first | assumption | (simp [go_sem]; done) | (simp [go_sem, *]; done)); have r1 : (w1).cell? ⟨w.heap.size + 1, 1, none⟩ = some (.int .i64 0) := (hb.cell (p := ⟨w.heap.size + 1, 1, none⟩) (by first | assumption | (simp; done) | (simp; omega) | (dsimp only; omega) | omega)).trans (by first | assumption | (simp [go_sem]; done) | (simp [go_sem, *]; done)); have rf : ∀ o, (w1).frozen? ⟨w.heap.size + 1, o, none⟩ = false := fun o => (hb.frozen (p := ⟨w.heap.size + 1, o, none⟩) (by first | assumption | (simp; done) | (simp; omega) | (dsimp only; omega) | omega)).trans (by first | (simp [go_sem]; done) | (simp [*]; done)))
    refine bodyPost_ret (v := .tuple #[.agg #[.int .i64 0, .int .i64 0], .int .i64 y]) (by simp [results, Try.results45, go_sem, r0, r1]) rfl ?_
    exact Gives.mk rfl (by repeat' (first | (with_reducible exact Below.refl _ _) | (with_reducible refine Below.alloc ?_ ?_ _) | (with_reducible refine Below.setCell ?_ ?_ _) | (with_reducible refine Below.drew ?_) | (with_reducible refine Below.trans ?_ (Below.mono (by assumption) ?_)) | (simp; done) | (simp; omega) | omega))

/-- The join of the first values. -/
def rgLo (l : List Sp.Pd) (a : Int) : Nat → Int
  | 0 => 0
  | 1 => flQ (vQ l a)
  | j + 2 => min (rgLo l a (j + 1)) (flQ (vQ l (a + ((j + 1 : Nat) : Int))))
def rgHi (l : List Sp.Pd) (a : Int) : Nat → Int
  | 0 => 0
  | 1 => ceQ (vQ l a)
  | j + 2 => max (rgHi l a (j + 1)) (ceQ (vQ l (a + ((j + 1 : Nat) : Int))))
theorem rgLo_is (l : List Sp.Pd) (a : Int) : ∀ j : Nat, (∃ k : Nat, k < j + 1 ∧ rgLo l a (j + 1) = flQ (vQ l (a + (k : Int)))) ∧ ∀ k : Nat, k < j + 1 → rgLo l a (j + 1) ≤ flQ (vQ l (a + (k : Int)))
  | 0 => ⟨⟨0, by omega, by simp [rgLo]⟩, fun k hk => by
      obtain rfl : k = 0 := by omega
      simp [rgLo]⟩
  | j + 1 => by
    obtain ⟨⟨k, k1, k2⟩, k3⟩ := rgLo_is l a j
    have e : rgLo l a (j + 1 + 1) = min (rgLo l a (j + 1)) (flQ (vQ l (a + ((j + 1 : Nat) : Int)))) := rfl
    rw [e]
    refine ⟨?_, fun i hi => ?_⟩
    · by_cases c : rgLo l a (j + 1) ≤ flQ (vQ l (a + ((j + 1 : Nat) : Int)))
      · exact ⟨k, by omega, by rw [← k2]; omega⟩
      · exact ⟨j + 1, by omega, by omega⟩
    · by_cases c : i = j + 1
      · subst c; omega
      · have := k3 i (by omega); omega
theorem rgHi_is (l : List Sp.Pd) (a : Int) : ∀ j : Nat, (∃ k : Nat, k < j + 1 ∧ rgHi l a (j + 1) = ceQ (vQ l (a + (k : Int)))) ∧ ∀ k : Nat, k < j + 1 → ceQ (vQ l (a + (k : Int))) ≤ rgHi l a (j + 1)
  | 0 => ⟨⟨0, by omega, by simp [rgHi]⟩, fun k hk => by
      obtain rfl : k = 0 := by omega
      simp [rgHi]⟩
  | j + 1 => by
    obtain ⟨⟨k, k1, k2⟩, k3⟩ := rgHi_is l a j
    have e : rgHi l a (j + 1 + 1) = max (rgHi l a (j + 1)) (ceQ (vQ l (a + ((j + 1 : Nat) : Int)))) := rfl
    rw [e]
    refine ⟨?_, fun i hi => ?_⟩
    · by_cases c : ceQ (vQ l (a + ((j + 1 : Nat) : Int))) ≤ rgHi l a (j + 1)
      · exact ⟨k, by omega, by rw [← k2]; omega⟩
      · exact ⟨j + 1, by omega, by omega⟩
    · by_cases c : i = j + 1
      · subst c; omega
      · have := k3 i (by omega); omega
theorem rg_whole {l : List Sp.Pd} {a b : Int} {n : Nat} (h : Sp.valsE l a b = 0) (hn : (n : Int) + 1 = b - a + 1) : rgLo l a (n + 1) = flQ (leastV (Sp.valsL l a b)) ∧ rgHi l a (n + 1) = ceQ (greatV (Sp.valsL l a b)) := by
  obtain ⟨⟨k, k1, k2⟩, k3⟩ := rgLo_is l a n
  obtain ⟨⟨m, m1, m2⟩, m3⟩ := rgHi_is l a n
  obtain ⟨⟨x, x1, x2, x3⟩, x4⟩ := ran_lo h
  obtain ⟨⟨y, y1, y2, y3⟩, y4⟩ := ran_hi h
  have a1 := x4 (a + k) (by omega) (by omega)
  have a2 := k3 (x - a).toNat (by omega)
  rw [show a + ((x - a).toNat : Int) = x by omega] at a2
  have b1 := y4 (a + m) (by omega) (by omega)
  have b2 := m3 (y - a).toNat (by omega)
  rw [show a + ((y - a).toNat : Int) = y by omega] at b2
  exact ⟨by omega, by omega⟩
/-- The joins are joins. -/
theorem rg_join {l : List Sp.Pd} {a : Int} {j : Nat} (ok : ∀ k : Nat, k < j + 2 → Sp.okQ (vQ l (a + (k : Int)))) :
    Sp.joinS (rgLo l a (j + 1)) (rgHi l a (j + 1)) (flQ (vQ l (a + ((j + 1 : Nat) : Int)))) (ceQ (vQ l (a + ((j + 1 : Nat) : Int)))) = (rgLo l a (j + 2), rgHi l a (j + 2), 0) := by
  obtain ⟨⟨k, k1, k2⟩, k3⟩ := rgLo_is l a j
  obtain ⟨⟨m, m1, m2⟩, m3⟩ := rgHi_is l a j
  have o1 := ok k (by omega)
  have o2 := ok m (by omega)
  have o3 := ok (j + 1) (by omega)
  have f1 := fl_in o1
  have f2 := ce_in o2
  have f3 := fl_in o3
  have f4 := ce_in o3
  have f5 := fl_ce o3
  have f6 := fl_ce o1
  have f7 := m3 k k1
  have c1 : Sp.chk (rgLo l a (j + 1)) (rgHi l a (j + 1)) = 0 := Sp.chk_zero.mpr ⟨by omega, by omega, by omega⟩
  have c2 : Sp.chk (flQ (vQ l (a + ((j + 1 : Nat) : Int)))) (ceQ (vQ l (a + ((j + 1 : Nat) : Int)))) = 0 := Sp.chk_zero.mpr ⟨f5, f3.1, f4.2⟩
  unfold Sp.joinS
  rw [if_neg (fun k => k (Sp.both_zero.mpr ⟨c1, c2⟩))]
  rfl
theorem ff_ok' {q : Int × Int} (h : Sp.okQ q) : Sp.ffS q.1 q.2 = (flQ q, ceQ q, 0) := by
  unfold Sp.ffS
  rw [if_neg (fun k => k h)]
  rfl
/-- What the loop of Range keeps: the result's box, and g, the box of what is joined. -/
structure RgI (w : World) (g : Nat) (o : Int × Int) (wr : World) : Prop where
  r0 : wr.cell? ⟨w.heap.size, 0, none⟩ = some (.int .i64 0)
  r1 : wr.cell? ⟨w.heap.size, 1, none⟩ = some (.int .i64 0)
  rf : ∀ o, wr.frozen? ⟨w.heap.size, o, none⟩ = false
  g0 : wr.cell? ⟨g, 0, none⟩ = some (.int .i64 o.1)
  g1 : wr.cell? ⟨g, 1, none⟩ = some (.int .i64 o.2)
  gf : ∀ o, wr.frozen? ⟨g, o, none⟩ = false
  bw : Below w.heap.size w wr
  sz : g < wr.heap.size
theorem RgI.below {w W W' : World} {g : Nat} {o : Int × Int} (h : RgI w g o W) (hb : Below W.heap.size W W') (hg : w.heap.size < g) : RgI w g o W' := by
  have s := h.sz
  exact ⟨(hb.cell (p := ⟨w.heap.size, 0, none⟩) (by simp only; omega)).trans h.r0, (hb.cell (p := ⟨w.heap.size, 1, none⟩) (by simp only; omega)).trans h.r1, fun o => (hb.frozen (p := ⟨w.heap.size, o, none⟩) (by simp only; omega)).trans (h.rf o),
    (hb.cell (p := ⟨g, 0, none⟩) s).trans h.g0, (hb.cell (p := ⟨g, 1, none⟩) s).trans h.g1, fun o => (hb.frozen (p := ⟨g, o, none⟩) s).trans (h.gf o), h.bw.trans (hb.mono h.bw.size), Nat.lt_of_lt_of_le s hb.size⟩
theorem RgI.set {w W : World} {g : Nat} {o : Int × Int} (h : RgI w g o W) (hg : w.heap.size < g) (q : Int × Int) : RgI w g q ((W.setCell ⟨g, 0, none⟩ (.int .i64 q.1)).setCell ⟨g, 1, none⟩ (.int .i64 q.2)) := by
  have n1 : ¬ w.heap.size = g := by omega
  exact ⟨by simp [go_sem, n1, h.r0], by simp [go_sem, n1, h.r1], fun o => by simp [go_sem, h.rf], by simp [go_sem, h.g0, h.g1], by simp [go_sem, h.g0, h.g1], fun o => by simp [go_sem, h.gf],
    (h.bw.setCell (p := ⟨g, 0, none⟩) (Nat.le_of_lt hg) _).setCell (p := ⟨g, 1, none⟩) (Nat.le_of_lt hg) _, by simpa using h.sz⟩
theorem RgI.other {w W : World} {g c : Nat} {o : Int × Int} (h : RgI w g o W) (hg : w.heap.size < g) (hc : g < c) (u v : Value) : RgI w g o ((W.setCell ⟨c, 0, none⟩ u).setCell ⟨c, 1, none⟩ v) := by
  have n1 : ¬ w.heap.size = c := by omega
  have n2 : ¬ g = c := by omega
  exact ⟨by simp [go_sem, n1, h.r0], by simp [go_sem, n1, h.r1], fun o => by simp [go_sem, h.rf], by simp [go_sem, n2, h.g0], by simp [go_sem, n2, h.g1], fun o => by simp [go_sem, h.gf],
    (h.bw.setCell (p := ⟨c, 0, none⟩) (by simp only; omega) _).setCell (p := ⟨c, 1, none⟩) (by simp only; omega) _, by simpa using h.sz⟩
def RgRel (w : World) (l : List Sp.Pd) (a : Int) (n : Nat) (E : Int) (g : Nat) (t : Value) (wr : World) : Prop :=
  ∃ (j : Nat), t = .int .i64 (a + j) ∧ j ≤ n ∧ Sp.fstE (Sp.valL l) (n - j) (a + j) = E ∧ (∀ k : Nat, k < j → Sp.okQ (vQ l (a + (k : Int)))) ∧ RgI w g (rgLo l a j, rgHi l a j) wr
set_option maxRecDepth 100000 in
set_option maxHeartbeats 8000000 in
theorem rrange_good (A : Option Addr) (cap : Nat) (l : List Sp.Pd) (a b lo hi E : Int) (w : World) (hz : PcSized l) (hT : Pcs w A l) (hc : Sp.pcheck l = 0) (ga : Sp.least l ≤ a) (gb : b ≤ Sp.great l) (gc : a ≤ b) (hv : RanIs l a b lo hi E) :
    Calls Try.prog 23 #[.slice A l.length cap, .int .i64 a, .int .i64 b] w (Gives (.tuple #[.agg #[.int .i64 lo, .int .i64 hi], .int .i64 E]) w) := by
  obtain ⟨V, hV⟩ : ∃ V, w.alloc (Obj.cells #[.int .i64 0, .int .i64 0] 36) = V := ⟨_, rfl⟩
  have kV : Below w.heap.size w V := by rw [← hV]; exact balloc _ _
  have zV : V.heap.size = w.heap.size + 1 := by rw [← hV]; simp
  have v0 : V.cell? ⟨w.heap.size, 0, none⟩ = some (.int .i64 0) := by rw [← hV]; simp [go_sem]
  have v1 : V.cell? ⟨w.heap.size, 1, none⟩ = some (.int .i64 0) := by rw [← hV]; simp [go_sem]
  have vf : ∀ o, V.frozen? ⟨w.heap.size, o, none⟩ = false := by intro o; rw [← hV]; simp [go_sem]
  have CK := hid (rpcheck_any A cap l V hz (hT.below kV))
  rw [hc] at CK
  have li := least_in hc
  have I1 := hid (fun (W : World) (h : Below V.heap.size V W) => rinside_any A cap l a W hc (hT.below (bthen kV h)))
  have I2 := hid (fun (W : World) (h : Below V.heap.size V W) => rinside_any A cap l b W hc (hT.below (bthen kV h)))
  have e1 : (decide (Sp.least l ≤ a) && decide (a ≤ Sp.great l)) = true := by simp; omega
  have e2 : (decide (Sp.least l ≤ b) && decide (b ≤ Sp.great l)) = true := by simp; omega
  rw [e1] at I1
  rw [e2] at I2
  have VA := hid (fun (x lo hi e : Int) (x0 : 0 ≤ x) (x1 : x ≤ 3000) (hv : Sp.valL l x = (lo, hi, e)) (W : World) (h : Below w.heap.size w W) => rvalue_any A cap l x lo hi e W hc x0 x1 (hT.below h) hv)
  obtain ⟨n, hn⟩ : ∃ n : Nat, (n : Int) = b - a := ⟨(b - a).toNat, by omega⟩
  have VE : Sp.valsE l a b = Sp.fstE (Sp.valL l) (n + 1) a := by
    unfold Sp.valsE
    rw [if_neg (fun h => h hc), if_neg (by omega), show (b - a + 1).toNat = n + 1 by omega]
  have hE : E = Sp.fstE (Sp.valL l) (n + 1) a := by rw [← VE]; exact hv.1
  have HV0 := hid hv.2.1
  have HV1 : Hid (E = 0 → rgLo l a (n + 1) = lo ∧ rgHi l a (n + 1) = hi) := hid (fun z => by
    obtain ⟨k1, k2⟩ := hv.2.2 z
    obtain ⟨m1, m2⟩ := rg_whole (l := l) (a := a) (b := b) (n := n) (by rw [← hv.1]; exact z) (by omega)
    exact ⟨m1.trans k1.symm, m2.trans k2.symm⟩)
  have ok : ∀ x, a ≤ x → x ≤ b → (Sp.valL l x).2.2 = 0 → Sp.okQ (vQ l x) := fun x h1 h2 h3 => by
    rcases Sp.valL_res (l := l) (x := x) hc (by omega) (by omega) with ⟨_, h⟩ | h
    · exact h
    · rw [h] at h3; simp at h3
  have HE := hid hE
  have OK := hid ok
  have NB := hid hn
  have LI := hid (show 0 ≤ a ∧ b ≤ 3000 by omega)
  have HV := hid hV
  have HK := hid (fun (W : World) (h : Below V.heap.size V W) => (⟨(bthen h (balloc W (Obj.cells #[.int .i64 0, .int .i64 0] 36))).cell (p := ⟨w.heap.size, 0, none⟩) (by simp only; omega) |>.trans v0, (bthen h (balloc W (Obj.cells #[.int .i64 0, .int .i64 0] 36))).cell (p := ⟨w.heap.size, 1, none⟩) (by simp only; omega) |>.trans v1, fun o => ((bthen h (balloc W (Obj.cells #[.int .i64 0, .int .i64 0] 36))).frozen (p := ⟨w.heap.size, o, none⟩) (by simp only; omega)).trans (vf o), by simp [go_sem], by simp [go_sem], fun o => by simp [go_sem], bthen kV (bthen h (balloc W _)), by simp⟩ : RgI w W.heap.size (0, 0) (W.alloc (Obj.cells #[.int .i64 0, .int .i64 0] 36))))
  have ng : ¬ b < a := by omega
  have dg : decide (b < a) = false := decide_eq_false ng
  have VZ := hid (show w.heap.size < V.heap.size by omega)
  clear hV kV zV v0 v1 vf hc li e1 e2 hn VE hE ok hv hz hT ga gb
  go_enter Try.func23, Try.ntmps23
  go_upto_region 1 with fail
  rw [HV.out]
  go_wp2_with fail
  refine CK.out.mono ?_
  rintro _ w5 ⟨rfl, hb⟩
  have B5 := hid hb
  clear hb
  go_wp2_with (first
    | (go_at_call 31; (with_reducible refine (I1.out _ B5.out).mono ?_); rintro _ w6 ⟨rfl, hb⟩; have B6 := hid (bthen B5.out hb); clear hb)
    | (go_at_call 31; (with_reducible refine (I2.out _ B6.out).mono ?_); rintro _ w7 ⟨rfl, hb⟩; have B7 := hid (bthen B6.out hb); clear hb))
  have RI := hid (HK.out _ B7.out)
  have wg := hid (show w.heap.size < w7.heap.size by have h1 := VZ.out; have h2 := B7.out.size; omega)
  go_loopw [10] (fun t wr => RgRel w l a (n + 1) E w7.heap.size t wr) (fun t _ => (a + (n + 1 : Nat) - intOf t).toNat)
  case atStart => exact ⟨0, by simp, Nat.zero_le _, by simpa using HE.out.symm, fun k hk => absurd hk (by omega), RI.out⟩
  case round =>
    obtain ⟨j, rfl, hj, hd, hq, hI⟩ := hrel
    have HD := hid hd
    have HQ := hid hq
    have HI := hid hI
    clear hd hq hI
    by_cases hlt : j < n + 1
    · obtain ⟨m, hm⟩ : ∃ m, n + 1 - j = m + 1 := ⟨n - j, by omega⟩
      have hd := HD.out
      rw [hm, Sp.fstE_succ] at hd
      have hle : a + (j : Int) ≤ b := by have := NB.out; omega
      have okx := OK.out (a + j) (by omega) hle
      obtain ⟨⟨x1, x2, y⟩, hr⟩ : ∃ r, Sp.valL l (a + j) = r := ⟨_, rfl⟩
      have vq : vQ l (a + j) = (x1, x2) := by unfold vQ; rw [hr]
      have V1 := hid (VA.out (a + j) x1 x2 y (by have := LI.out; omega) (by have := LI.out; omega) hr _ HI.out.bw)
      rw [hr] at hd okx
      simp only at hd okx
      obtain ⟨x, hx⟩ : ∃ x, a + (j : Int) = x := ⟨_, rfl⟩
      have ej : wrap64 (x + 1) = x + 1 := pw64 _ (by have := LI.out; omega)
      rw [hx] at hd V1 hle
      have HX := hid hx
      have HM := hid hm
      have JN := hid hlt
      have VQ := hid vq
      clear hm hlt hr hx vq
      rw [HX.out]
      by_cases h : y = 0
      · subst h
        have o1 := okx rfl
        have hd2 : Sp.fstE (Sp.valL l) m (x + 1) = E := by simpa using hd
        have HF := hid hd2
        have o2 : Sp.okQ (x1, x2) := by rw [← VQ.out]; exact o1
        have bq := Sp.okQ_bounds o2
        simp only at bq
        have FF := hid (fun W => rff_any x1 x2 (flQ (x1, x2)) (ceQ (x1, x2)) 0 bq.1.1 bq.1.2 bq.2.1 bq.2.2 (ff_ok' o2) W)
        have HQ2 : Hid (∀ k : Nat, k < j + 1 → Sp.okQ (vQ l (a + (k : Int)))) := hid (fun k hk => by
          by_cases c : k = j
          · subst c; exact o1
          · exact HQ.out k (by omega))
        have ms := hid (show (a + (n + 1 : Nat) - intOf (.int .i64 (x + 1))).toNat < (a + (n + 1 : Nat) - intOf (.int .i64 x)).toNat by have h1 := vmeas (n + 1) j a LI.out.1 JN.out; rw [HX.out] at h1; exact h1)
        obtain ⟨fl, hfl⟩ : ∃ fl, flQ (x1, x2) = fl := ⟨_, rfl⟩
        obtain ⟨ce, hce⟩ : ∃ ce, ceQ (x1, x2) = ce := ⟨_, rfl⟩
        rw [hfl, hce] at FF
        have HFL := hid (show flQ (vQ l (a + (j : Int))) = fl by rw [VQ.out]; exact hfl)
        have HCE := hid (show ceQ (vQ l (a + (j : Int))) = ce by rw [VQ.out]; exact hce)
        have wgg := wg.out
        have REL : Hid (∀ wx : World, RgI w w7.heap.size (rgLo l a (j + 1), rgHi l a (j + 1)) wx → RgRel w l a (n + 1) E w7.heap.size (.int .i64 (x + 1)) wx) := hid (fun wx h1 => by
          refine ⟨j + 1, i64_eq (by have := HX.out; push_cast; omega), by have := JN.out; omega, ?_, HQ2.out, h1⟩
          have e1 : n + 1 - (j + 1) = m := by have := HM.out; omega
          have e2 : a + ((j + 1 : Nat) : Int) = x + 1 := by have := HX.out; omega
          rw [e1, e2]; exact HF.out)
        have g0 := HI.out.g0
        have g1 := HI.out.g1
        have gz := HI.out.sz
        simp only at g0 g1
        clear hd hd2 okx o1 o2 bq hfl hce
        by_cases jz : j = 0
        · have nx : ¬ a < x := by have := HX.out; omega
          have dx : decide (a < x) = false := decide_eq_false nx
          have L1 : Hid (rgLo l a (j + 1) = fl ∧ rgHi l a (j + 1) = ce) := hid (by
            subst jz
            have h1 := HFL.out
            have h2 := HCE.out
            simp only [Int.natCast_zero, Int.add_zero] at h1 h2
            exact ⟨h1, h2⟩)
          clear jz g0 g1
          go_wp2_with (first
            | (go_at_call 32; refine V1.out.mono ?_; rintro _ w8 ⟨rfl, hb⟩; have HI8 := hid (HI.out.below hb wgg); clear hb)
            | (go_at_call 45; refine (FF.out _).mono ?_; rintro _ w9 ⟨rfl, hb⟩; have HI9 := hid (HI8.out.below (bthen (balloc w8 _) hb) wgg); have k0 := HI9.out.g0; have k1 := HI9.out.g1; have kf := HI9.out.gf; have kz := HI9.out.sz; have kn : ¬ w7.heap.size = w9.heap.size := (by omega); clear hb))
          go_roundw
          case rel =>
            have e := L1.out
            rw [show wrap64 (x + 1) = x + 1 from ej]
            refine REL.out _ ?_
            rw [e.1, e.2]
            exact (HI9.out.set wgg (fl, ce)).below (balloc _ _) wgg
          case measure => first | exact ms.out | (rw [ej]; exact ms.out)
        · obtain ⟨k, hk⟩ : ∃ k, j = k + 1 := ⟨j - 1, by omega⟩
          have nx : a < x := by have := HX.out; omega
          have JO : Hid (Sp.joinS (rgLo l a j) (rgHi l a j) fl ce = (rgLo l a (j + 1), rgHi l a (j + 1), 0)) := hid (by
            have h1 := HFL.out
            have h2 := HCE.out
            subst hk
            have := rg_join (l := l) (a := a) (j := k) HQ2.out
            rw [h1, h2] at this
            exact this)
          obtain ⟨p1, hp1⟩ : ∃ p, rgLo l a j = p := ⟨_, rfl⟩
          obtain ⟨p2, hp2⟩ : ∃ p, rgHi l a j = p := ⟨_, rfl⟩
          obtain ⟨s1, hs1⟩ : ∃ p, rgLo l a (j + 1) = p := ⟨_, rfl⟩
          obtain ⟨s2, hs2⟩ : ∃ p, rgHi l a (j + 1) = p := ⟨_, rfl⟩
          rw [hp1, hp2, hs1, hs2] at JO
          rw [hs1, hs2] at REL
          have HI2 := HI.out
          rw [hp1, hp2] at HI2
          have HJ2 := hid HI2
          have JN2 := hid (fun W => rjoin_any p1 p2 fl ce s1 s2 0 JO.out W)
          clear jz hk hp1 hp2 hs1 hs2 g0 g1 HI2
          go_wp2_with (first
            | (go_at_call 32; refine V1.out.mono ?_; rintro _ w8 ⟨rfl, hb⟩; have HI8 := hid (HJ2.out.below hb wgg); clear hb)
            | (go_at_call 45; refine (FF.out _).mono ?_; rintro _ w9 ⟨rfl, hb⟩; have HI9 := hid (HI8.out.below (bthen (balloc w8 _) hb) wgg); have k0 := HI9.out.g0; have k1 := HI9.out.g1; have kz := HI9.out.sz; have kn : ¬ w7.heap.size = w9.heap.size := (by omega); clear hb)
            | (go_at_call 46; refine (JN2.out _).mono ?_; rintro _ w10 ⟨rfl, hb⟩; have HI10 := hid (HI9.out.below (bthen (balloc w9 _) hb) wgg); have l0 := HI10.out.g0; have l1 := HI10.out.g1; have lf := HI10.out.gf; have l2 : w10.cell? ⟨w9.heap.size, 0, none⟩ = some (.int .i64 fl) := (hb.cell (p := ⟨w9.heap.size, 0, none⟩) (by simp)).trans (by simp [go_sem]); have l3 : w10.cell? ⟨w9.heap.size, 1, none⟩ = some (.int .i64 ce) := (hb.cell (p := ⟨w9.heap.size, 1, none⟩) (by simp)).trans (by simp [go_sem]); have l4 : ∀ o, w10.frozen? ⟨w9.heap.size, o, none⟩ = false := (fun o => (hb.frozen (p := ⟨w9.heap.size, o, none⟩) (by simp)).trans (by simp [go_sem])); have kn2 : ¬ w9.heap.size = w7.heap.size := (by omega); clear hb k0 k1))
          go_roundw
          case rel =>
            rw [show wrap64 (x + 1) = x + 1 from ej]
            exact REL.out _ ((HI10.out.other wgg kz _ _).set wgg (s1, s2))
          case measure => first | exact ms.out | (rw [ej]; exact ms.out)
      · have hn : (y == 0) = false := by simpa using h
        rw [if_pos h] at hd
        subst hd
        obtain ⟨rfl, rfl⟩ := HV0.out h
        have wgg := wg.out
        go_wp2_with (go_at_call 32; refine V1.out.mono ?_; rintro _ w8 ⟨rfl, hb⟩; have HI8 := hid (HI.out.below hb wgg); have k0 := HI8.out.r0; have k1 := HI8.out.r1; have kf := HI8.out.rf; have kz : w.heap.size < w8.heap.size := (by have := HI8.out.sz; omega); clear hb)
        refine bodyPost_ret (v := .tuple #[.agg #[.int .i64 0, .int .i64 0], .int .i64 y]) (by simp [results, Try.results23, go_sem, k0, k1, kz]) rfl ?_
        exact Gives.mk rfl (by have hB := HI8.out.bw; repeat' (first | (with_reducible exact Below.refl _ _) | (with_reducible refine Below.alloc ?_ ?_ _) | (with_reducible refine Below.setCell ?_ ?_ _) | (with_reducible refine Below.drew ?_) | (with_reducible refine Below.trans ?_ (Below.mono (by assumption) ?_)) | (simp; done) | (simp; omega) | omega))
    · have i1 : ¬ a + (j : Int) ≤ b := by have := NB.out; omega
      have jn : j = n + 1 := by omega
      have hd := HD.out
      rw [jn, Nat.sub_self] at hd
      have z0 : 0 = E := hd
      subst z0
      obtain ⟨h1, h2⟩ := HV1.out rfl
      have HI2 := HI.out
      rw [jn, h1, h2] at HI2
      have HJ2 := hid HI2
      have k0 := HI2.r0
      have k1 := HI2.r1
      have kf := HI2.rf
      have g0 := HI2.g0
      have g1 := HI2.g1
      simp only at g0 g1
      clear hd jn h1 h2 HI2
      go_wp2_with fail
      refine bodyPost_ret (v := .tuple #[.agg #[.int .i64 lo, .int .i64 hi], .int .i64 0]) (by simp [results, Try.results23, go_sem, k0, k1]) rfl ?_
      exact Gives.mk rfl (by have hB := HJ2.out.bw; repeat' (first | (with_reducible exact Below.refl _ _) | (with_reducible refine Below.alloc ?_ ?_ _) | (with_reducible refine Below.setCell ?_ ?_ _) | (with_reducible refine Below.drew ?_) | (with_reducible refine Below.trans ?_ (Below.mono (by assumption) ?_)) | (simp; done) | (simp; omega) | omega))
set_option maxRecDepth 100000 in
set_option maxHeartbeats 4000000 in
theorem rrange_any (A : Option Addr) (cap : Nat) (l : List Sp.Pd) (a b lo hi E : Int) (w : World) (hz : PcSized l) (hT : Pcs w A l) (hv : RanIs l a b lo hi E) :
    Calls Try.prog 23 #[.slice A l.length cap, .int .i64 a, .int .i64 b] w (Gives (.tuple #[.agg #[.int .i64 lo, .int .i64 hi], .int .i64 E]) w) := by
  by_cases hc : Sp.pcheck l = 0
  · by_cases g : a < Sp.least l ∨ Sp.great l < b ∨ b < a
    · have hE : E = 2 := by rw [hv.1]; unfold Sp.valsE; rw [if_neg (fun h => h hc), if_pos g]
      subst hE
      obtain ⟨rfl, rfl⟩ := hv.2.1 (by omega)
      obtain ⟨V, hV⟩ : ∃ V, w.alloc (Obj.cells #[.int .i64 0, .int .i64 0] 36) = V := ⟨_, rfl⟩
      have hI0 : VlI w V := ⟨by rw [← hV]; simp [go_sem], by rw [← hV]; simp [go_sem], fun o => by rw [← hV]; simp [go_sem], by rw [← hV]; exact balloc _ _, by rw [← hV]; simp⟩
      have CK := hid (rpcheck_any A cap l V hz (hT.below hI0.bw))
      rw [hc] at CK
      have I1 := hid (fun (W : World) (h : Below V.heap.size V W) => rinside_any A cap l a W hc (hT.below (bthen hI0.bw h)))
      have I2 := hid (fun (W : World) (h : Below V.heap.size V W) => rinside_any A cap l b W hc (hT.below (bthen hI0.bw h)))
      have HV := hid hV
      have HI := hid hI0
      generalize Sp.least l = L at I1 I2 g
      generalize Sp.great l = G at I1 I2 g
      by_cases c1 : L ≤ a ∧ a ≤ G
      · rw [decide_eq_true c1.1, decide_eq_true c1.2] at I1
        by_cases c2 : L ≤ b ∧ b ≤ G
        · rw [decide_eq_true c2.1, decide_eq_true c2.2] at I2
          have c3 : b < a := by omega
          clear hV hI0 hz hT hc hv g c1 c2
          go_enter Try.func23, Try.ntmps23
          go_upto_region 1 with fail
          rw [HV.out]
          go_wp2_with fail
          refine CK.out.mono ?_
          rintro _ w5 ⟨rfl, hb⟩
          have B5 := hid hb
          clear hb
          go_wp2_with fail
          refine (I1.out _ B5.out).mono ?_
          rintro _ w6 ⟨rfl, hb⟩
          have B6 := hid (bthen B5.out hb)
          clear hb
          go_wp2_with (go_at_call 31; refine (I2.out _ B6.out).mono ?_; rintro _ w7 ⟨rfl, hb⟩; have H7 := hid (HI.out.below (bthen B6.out hb)); have k0 := H7.out.r0; have k1 := H7.out.r1; have kf := H7.out.rf; clear hb)
          refine bodyPost_ret (v := .tuple #[.agg #[.int .i64 0, .int .i64 0], .int .i64 2]) (by simp [results, Try.results23, go_sem, k0, k1]) rfl ?_
          exact Gives.mk rfl (by have hB := H7.out.bw; repeat' (first | (with_reducible exact Below.refl _ _) | (with_reducible refine Below.alloc ?_ ?_ _) | (with_reducible refine Below.setCell ?_ ?_ _) | (with_reducible refine Below.drew ?_) | (with_reducible refine Below.trans ?_ (Below.mono (by assumption) ?_)) | (simp; done) | (simp; omega) | omega))
        · have gf : (decide (L ≤ b) && decide (b ≤ G)) = false := by simp; omega
          rw [gf] at I2
          clear hV hI0 hz hT hc hv g c1 c2 gf
          go_enter Try.func23, Try.ntmps23
          go_upto_region 1 with fail
          rw [HV.out]
          go_wp2_with fail
          refine CK.out.mono ?_
          rintro _ w5 ⟨rfl, hb⟩
          have B5 := hid hb
          clear hb
          go_wp2_with fail
          refine (I1.out _ B5.out).mono ?_
          rintro _ w6 ⟨rfl, hb⟩
          have B6 := hid (bthen B5.out hb)
          clear hb
          go_wp2_with (go_at_call 31; refine (I2.out _ B6.out).mono ?_; rintro _ w7 ⟨rfl, hb⟩; have H7 := hid (HI.out.below (bthen B6.out hb)); have k0 := H7.out.r0; have k1 := H7.out.r1; have kf := H7.out.rf; clear hb)
          refine bodyPost_ret (v := .tuple #[.agg #[.int .i64 0, .int .i64 0], .int .i64 2]) (by simp [results, Try.results23, go_sem, k0, k1]) rfl ?_
          exact Gives.mk rfl (by have hB := H7.out.bw; repeat' (first | (with_reducible exact Below.refl _ _) | (with_reducible refine Below.alloc ?_ ?_ _) | (with_reducible refine Below.setCell ?_ ?_ _) | (with_reducible refine Below.drew ?_) | (with_reducible refine Below.trans ?_ (Below.mono (by assumption) ?_)) | (simp; done) | (simp; omega) | omega))
      · have gf : (decide (L ≤ a) && decide (a ≤ G)) = false := by simp; omega
        rw [gf] at I1
        clear hV hI0 hz hT hc hv g c1 gf
        go_enter Try.func23, Try.ntmps23
        go_upto_region 1 with fail
        rw [HV.out]
        go_wp2_with fail
        refine CK.out.mono ?_
        rintro _ w5 ⟨rfl, hb⟩
        have B5 := hid hb
        clear hb
        go_wp2_with (go_at_call 31; refine (I1.out _ B5.out).mono ?_; rintro _ w7 ⟨rfl, hb⟩; have H7 := hid (HI.out.below (bthen B5.out hb)); have k0 := H7.out.r0; have k1 := H7.out.r1; have kf := H7.out.rf; clear hb)
        refine bodyPost_ret (v := .tuple #[.agg #[.int .i64 0, .int .i64 0], .int .i64 2]) (by simp [results, Try.results23, go_sem, k0, k1]) rfl ?_
        exact Gives.mk rfl (by have hB := H7.out.bw; repeat' (first | (with_reducible exact Below.refl _ _) | (with_reducible refine Below.alloc ?_ ?_ _) | (with_reducible refine Below.setCell ?_ ?_ _) | (with_reducible refine Below.drew ?_) | (with_reducible refine Below.trans ?_ (Below.mono (by assumption) ?_)) | (simp; done) | (simp; omega) | omega))
    · exact rrange_good A cap l a b lo hi E w hz hT hc (by omega) (by omega) (by omega) hv
  · have hE : E = Sp.pcheck l := by rw [hv.1]; unfold Sp.valsE; rw [if_pos hc]
    rw [← hE] at hc
    obtain ⟨rfl, rfl⟩ := hv.2.1 hc
    obtain ⟨V, hV⟩ : ∃ V, w.alloc (Obj.cells #[.int .i64 0, .int .i64 0] 36) = V := ⟨_, rfl⟩
    have hI0 : VlI w V := ⟨by rw [← hV]; simp [go_sem], by rw [← hV]; simp [go_sem], fun o => by rw [← hV]; simp [go_sem], by rw [← hV]; exact balloc _ _, by rw [← hV]; simp⟩
    have CK := hid (rpcheck_any A cap l V hz (hT.below hI0.bw))
    rw [← hE] at CK
    have HV := hid hV
    have HI := hid hI0
    have hn : (E == 0) = false := by simpa using hc
    clear hV hI0 hz hT hc hv hE
    go_enter Try.func23, Try.ntmps23
    go_upto_region 1 with fail
    rw [HV.out]
    go_wp2_with (go_at_call 17; refine CK.out.mono ?_; rintro _ w5 ⟨rfl, hb⟩; have H7 := hid (HI.out.below hb); have k0 := H7.out.r0; have k1 := H7.out.r1; have kf := H7.out.rf; clear hb)
    refine bodyPost_ret (v := .tuple #[.agg #[.int .i64 0, .int .i64 0], .int .i64 E]) (by simp [results, Try.results23, go_sem, k0, k1]) rfl ?_
    exact Gives.mk rfl (by have hB := H7.out.bw; repeat' (first | (with_reducible exact Below.refl _ _) | (with_reducible refine Below.alloc ?_ ?_ _) | (with_reducible refine Below.setCell ?_ ?_ _) | (with_reducible refine Below.drew ?_) | (with_reducible refine Below.trans ?_ (Below.mono (by assumption) ?_)) | (simp; done) | (simp; omega) | omega))
end Go.Proofs.Ytcbecfimikpljaa
