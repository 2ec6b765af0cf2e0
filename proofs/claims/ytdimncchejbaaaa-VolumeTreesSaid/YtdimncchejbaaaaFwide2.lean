/-
  The numbers of two parts of package couperef02: Times, compareSize and Plus, each by a contract.
-/
import Derived.Test.YtdimncchejbaaaaFwide
namespace Go.Proofs.Ytdimncchejbaaaa
open Go.RowKit
set_option linter.unusedVariables false
set_option linter.unusedSimpArgs false

set_option maxRecDepth 100000 in
set_option maxHeartbeats 4000000 in
theorem rtimes_any (a b : Int) (a0 : -1000000000000000 ≤ a) (a1 : a ≤ 1000000000000000) (b0 : -1000000000000000 ≤ b) (b1 : b ≤ 1000000000000000) (V : Int) (hV : (a.natAbs : Int) * (b.natAbs : Int) = V) (n : Bool) (hn : (decide (a < 0) != decide (b < 0)) = n) (w : World) :
    Calls Try.prog 85 #[.int .i64 a, .int .i64 b] w (Gives (.agg #[.bool n, .int .i64 (V / 1000000000000000), .int .i64 (V % 1000000000000000)]) w) := by
  have ma := fun w => rabs_any a (by omega) (by omega) w
  have mb := fun w => rabs_any b (by omega) (by omega) w
  obtain ⟨X, hX⟩ : ∃ X : Int, (a.natAbs : Int) = X := ⟨_, rfl⟩
  obtain ⟨Y, hY⟩ : ∃ Y : Int, (b.natAbs : Int) = Y := ⟨_, rfl⟩
  rw [hX] at ma hV
  rw [hY] at mb hV
  have X0 : 0 ≤ X := by omega
  have X1 : X ≤ 1000000000000000 := by omega
  have Y0 : 0 ≤ Y := by omega
  have Y1 : Y ≤ 1000000000000000 := by omega
  clear hX hY a0 a1 b0 b1
  obtain ⟨x1, hx1⟩ : ∃ t, X / 100000000 = t := ⟨_, rfl⟩
  obtain ⟨x0, hx0⟩ : ∃ t, X % 100000000 = t := ⟨_, rfl⟩
  obtain ⟨y1, hy1⟩ : ∃ t, Y / 100000000 = t := ⟨_, rfl⟩
  obtain ⟨y0, hy0⟩ : ∃ t, Y % 100000000 = t := ⟨_, rfl⟩
  have tx1 : X.tdiv 100000000 = x1 := by rw [Int.tdiv_eq_ediv_of_nonneg X0]; exact hx1
  have tx0 : X.tmod 100000000 = x0 := by rw [Int.tmod_eq_emod_of_nonneg X0]; exact hx0
  have ty1 : Y.tdiv 100000000 = y1 := by rw [Int.tdiv_eq_ediv_of_nonneg Y0]; exact hy1
  have ty0 : Y.tmod 100000000 = y0 := by rw [Int.tmod_eq_emod_of_nonneg Y0]; exact hy0
  have x1a : 0 ≤ x1 := by omega
  have x1b : x1 ≤ 10000000 := by omega
  have x0a : 0 ≤ x0 := by omega
  have x0b : x0 ≤ 99999999 := by omega
  have y1a : 0 ≤ y1 := by omega
  have y1b : y1 ≤ 10000000 := by omega
  have y0a : 0 ≤ y0 := by omega
  have y0b : y0 ≤ 99999999 := by omega
  obtain ⟨P, hP⟩ : ∃ t, x1 * y1 = t := ⟨_, rfl⟩
  obtain ⟨C1, hC1⟩ : ∃ t, x1 * y0 = t := ⟨_, rfl⟩
  obtain ⟨C2, hC2⟩ : ∃ t, x0 * y1 = t := ⟨_, rfl⟩
  obtain ⟨Q, hQ⟩ : ∃ t, x0 * y0 = t := ⟨_, rfl⟩
  have P0 : 0 ≤ P := by rw [← hP]; exact Int.mul_nonneg x1a y1a
  have P1 : P ≤ 100000000000000 := by rw [← hP]; exact Int.mul_le_mul x1b y1b y1a (by omega)
  have C10 : 0 ≤ C1 := by rw [← hC1]; exact Int.mul_nonneg x1a y0a
  have C11 : C1 ≤ 999999990000000 := by rw [← hC1]; exact Int.le_trans (Int.mul_le_mul x1b y0b y0a (by omega)) (by decide)
  have C20 : 0 ≤ C2 := by rw [← hC2]; exact Int.mul_nonneg x0a y1a
  have C21 : C2 ≤ 999999990000000 := by rw [← hC2]; exact Int.le_trans (Int.mul_le_mul x0b y1b y1a (by omega)) (by decide)
  have Q0 : 0 ≤ Q := by rw [← hQ]; exact Int.mul_nonneg x0a y0a
  have Q1 : Q ≤ 9999999800000001 := by rw [← hQ]; exact Int.le_trans (Int.mul_le_mul x0b y0b y0a (by omega)) (by decide)
  have VV : V = P * 10000000000000000 + (C1 + C2) * 100000000 + Q := by
    have e1 : X = x1 * 100000000 + x0 := by omega
    have e2 : Y = y1 * 100000000 + y0 := by omega
    rw [← hV, e1, e2]
    exact Sp.times_parts P (C1 + C2) Q hP (by rw [hC1, hC2]) hQ Q0 (by omega)
  obtain ⟨k1, k2⟩ := Sp.times_high VV Q0 (show 0 ≤ C1 + C2 by omega)
  have K1 := hid k1
  have K2 := hid k2
  clear k1 k2 VV hV
  have HN := hid hn
  clear hn
  go_enter Try.func85, Try.ntmps85
  go_wp2_with (first | (go_at_call 59; refine (ma _).mono ?_; rintro e w' ⟨rfl, rfl⟩) | (go_at_call 59; refine (mb _).mono ?_; rintro e w' ⟨rfl, rfl⟩))
  refine bodyPost_ret (v := .agg #[.bool n, .int .i64 (V / 1000000000000000), .int .i64 (V % 1000000000000000)]) (by simp [results, Try.results85, go_sem, ← K1.out, ← K2.out, ← HN.out]; cases decide (a < 0) <;> cases decide (b < 0) <;> rfl) rfl ?_
  exact Gives.mk rfl (by repeat' (first | (with_reducible exact Below.refl _ _) | (with_reducible refine Below.alloc ?_ ?_ _) | (with_reducible refine Below.setCell ?_ ?_ _) | (with_reducible refine Below.drew ?_) | (with_reducible refine below_dn ?_ _) | (with_reducible refine Below.trans ?_ (Below.mono (by assumption) ?_)) | (simp; done) | (simp; omega) | omega))
namespace Sp
/-- The order of two magnitudes. -/
def cmpV (V W : Int) : Int := if V < W then -1 else if W < V then 1 else 0
/-- The sum of two numbers with signs. -/
def plusN (n : Bool) (V : Int) (m : Bool) (W : Int) : Bool := if n = m then n else if V < W then m else n
def plusV (n : Bool) (V : Int) (m : Bool) (W : Int) : Int := if n = m then V + W else if V < W then W - V else V - W
end Sp
theorem rcmpsize_any (n m : Bool) (H L G M : Int) (H0 : 0 ≤ H) (H1 : H ≤ 9000000000000000000) (L0 : 0 ≤ L) (L1 : L < 1000000000000000) (G0 : 0 ≤ G) (G1 : G ≤ 9000000000000000000) (M0 : 0 ≤ M) (M1 : M < 1000000000000000) (w : World) :
    Calls Try.prog 106 #[.agg #[.bool n, .int .i64 H, .int .i64 L], .agg #[.bool m, .int .i64 G, .int .i64 M]] w (Gives (.int .i64 (Sp.cmpV (H * 1000000000000000 + L) (G * 1000000000000000 + M))) w) := by
  obtain ⟨r, hr⟩ : ∃ r, Sp.cmpV (H * 1000000000000000 + L) (G * 1000000000000000 + M) = r := ⟨_, rfl⟩
  rw [hr]
  unfold Sp.cmpV at hr
  by_cases c1 : H < G
  · rw [if_pos (by omega)] at hr
    subst hr
    go_enter Try.func106, Try.ntmps106
    go_wp2
    go_ret
    exact Gives.mk rfl (by repeat' (first | (with_reducible exact Below.refl _ _) | (with_reducible refine Below.alloc ?_ ?_ _) | (with_reducible refine Below.setCell ?_ ?_ _) | (with_reducible refine Below.drew ?_) | (with_reducible refine Below.trans ?_ (Below.mono (by assumption) ?_)) | (simp; done) | (simp; omega) | omega))
  · by_cases c2 : G < H
    · rw [if_neg (by omega), if_pos (by omega)] at hr
      subst hr
      go_enter Try.func106, Try.ntmps106
      go_wp2
      go_ret
      exact Gives.mk rfl (by repeat' (first | (with_reducible exact Below.refl _ _) | (with_reducible refine Below.alloc ?_ ?_ _) | (with_reducible refine Below.setCell ?_ ?_ _) | (with_reducible refine Below.drew ?_) | (with_reducible refine Below.trans ?_ (Below.mono (by assumption) ?_)) | (simp; done) | (simp; omega) | omega))
    · have e : G = H := by omega
      subst e
      by_cases c3 : L < M
      · rw [if_pos (by omega)] at hr
        subst hr
        go_enter Try.func106, Try.ntmps106
        go_wp2
        go_ret
        exact Gives.mk rfl (by repeat' (first | (with_reducible exact Below.refl _ _) | (with_reducible refine Below.alloc ?_ ?_ _) | (with_reducible refine Below.setCell ?_ ?_ _) | (with_reducible refine Below.drew ?_) | (with_reducible refine Below.trans ?_ (Below.mono (by assumption) ?_)) | (simp; done) | (simp; omega) | omega))
      · by_cases c4 : M < L
        · rw [if_neg (by omega), if_pos (by omega)] at hr
          subst hr
          go_enter Try.func106, Try.ntmps106
          go_wp2
          go_ret
          exact Gives.mk rfl (by repeat' (first | (with_reducible exact Below.refl _ _) | (with_reducible refine Below.alloc ?_ ?_ _) | (with_reducible refine Below.setCell ?_ ?_ _) | (with_reducible refine Below.drew ?_) | (with_reducible refine Below.trans ?_ (Below.mono (by assumption) ?_)) | (simp; done) | (simp; omega) | omega))
        · have e : M = L := by omega
          subst e
          rw [if_neg (by omega), if_neg (by omega)] at hr
          subst hr
          go_enter Try.func106, Try.ntmps106
          go_wp2
          go_ret
          exact Gives.mk rfl (by repeat' (first | (with_reducible exact Below.refl _ _) | (with_reducible refine Below.alloc ?_ ?_ _) | (with_reducible refine Below.setCell ?_ ?_ _) | (with_reducible refine Below.drew ?_) | (with_reducible refine Below.trans ?_ (Below.mono (by assumption) ?_)) | (simp; done) | (simp; omega) | omega))
end Go.Proofs.Ytdimncchejbaaaa
