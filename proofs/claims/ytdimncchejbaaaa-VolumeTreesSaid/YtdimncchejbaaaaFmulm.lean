/-
  Plain mathematics: what the reference's product of fractions reckons. No Go in sight.
-/
import Derived.Test.YtdimncchejbaaaaFrat
namespace Go.Proofs.Ytdimncchejbaaaa
set_option linter.unusedVariables false
set_option linter.unusedSimpArgs false
namespace Sp
theorem abs_parts {a G : Int} (G0 : 0 < G) (h : G ∣ a) : ∃ k : Int, 0 ≤ k ∧ (a.natAbs : Int).tdiv G = k ∧ k ≤ (a.natAbs : Int) ∧ a / G = (if a < 0 then -k else k) := by
  obtain ⟨m, rfl⟩ := h
  have eG : (G.natAbs : Int) = G := by omega
  refine ⟨(m.natAbs : Int), by omega, ?_, ?_, ?_⟩
  · rw [Int.natAbs_mul, Int.natCast_mul, eG, Int.mul_tdiv_cancel_left _ (by omega)]
  · rw [Int.natAbs_mul]
    exact Int.ofNat_le.2 (Nat.le_mul_of_pos_left _ (by omega))
  · rw [Int.mul_ediv_cancel_left _ (by omega)]
    by_cases hm : m < 0
    · have := Int.mul_neg_of_pos_of_neg G0 hm
      rw [if_pos this]; omega
    · have := Int.mul_nonneg (Int.le_of_lt G0) (show 0 ≤ m by omega)
      rw [if_neg (by omega)]; omega
theorem lim_sign {P D : Int} {s : Bool} (P0 : 0 ≤ P) : limF (if s = true then -P else P) D = if 1000000000000000 < P ∨ 1000000000000000 < D then (0, 0, 8) else (if s = true then -P else P, D, 0) := by
  unfold limF
  cases s
  · simp only [Bool.false_eq_true, if_false]
    by_cases c : 1000000000000000 < P ∨ 1000000000000000 < D
    · rw [if_pos c, if_pos (by omega)]
    · rw [if_neg c, if_neg (by omega)]
  · simp only [if_true]
    by_cases c : 1000000000000000 < P ∨ 1000000000000000 < D
    · rw [if_pos c, if_pos (by omega)]
    · rw [if_neg c, if_neg (by omega)]
theorem rmul_math {a b c d : Int} (h1 : fchk a b = 0) (h2 : fchk c d = 0) :
    ∃ G H a' c' b' d' : Int, (Int.gcd (a.natAbs : Int) d : Int) = G ∧ 1 ≤ G ∧ (Int.gcd (c.natAbs : Int) b : Int) = H ∧ 1 ≤ H ∧ (a.natAbs : Int).tdiv G = a' ∧ (c.natAbs : Int).tdiv H = c' ∧ b.tdiv H = b' ∧ d.tdiv G = d' ∧
      0 ≤ a' ∧ a' ≤ 1000000000000000 ∧ 0 ≤ c' ∧ c' ≤ 1000000000000000 ∧ 0 ≤ b' ∧ b' ≤ 1000000000000000 ∧ 0 ≤ d' ∧ d' ≤ 1000000000000000 ∧
      prodF a b c d = (if 1000000000000000 < a' * c' ∨ 1000000000000000 < b' * d' then (0, 0, 8) else (if (decide (a < 0) != decide (c < 0)) = true then -(a' * c') else a' * c', b' * d', 0)) := by
  obtain ⟨b0, g1, am, bm⟩ := valid_of h1
  obtain ⟨d0, g2, cm, dm⟩ := valid_of h2
  have eA : Int.gcd (a.natAbs : Int) d = Int.gcd a d := by simp [Int.gcd]
  have eC : Int.gcd (c.natAbs : Int) b = Int.gcd c b := by simp [Int.gcd]
  have gp : 0 < Int.gcd a d := Int.gcd_pos_of_ne_zero_right a (by omega)
  have hp : 0 < Int.gcd c b := Int.gcd_pos_of_ne_zero_right c (by omega)
  have ga : (Int.gcd a d : Int) ∣ a := Int.gcd_dvd_left a d
  have gd : (Int.gcd a d : Int) ∣ d := Int.gcd_dvd_right a d
  have hc : (Int.gcd c b : Int) ∣ c := Int.gcd_dvd_left c b
  have hb : (Int.gcd c b : Int) ∣ b := Int.gcd_dvd_right c b
  obtain ⟨G, hG⟩ : ∃ G : Int, (Int.gcd a d : Int) = G := ⟨_, rfl⟩
  obtain ⟨H, hH⟩ : ∃ H : Int, (Int.gcd c b : Int) = H := ⟨_, rfl⟩
  rw [hG] at ga gd
  rw [hH] at hc hb
  have G0 : 0 < G := by omega
  have H0 : 0 < H := by omega
  obtain ⟨a', a0, ta, al, ea⟩ := abs_parts G0 ga
  obtain ⟨c', c0, tc, cl, ec⟩ := abs_parts H0 hc
  obtain ⟨tb, _⟩ := div_exact_of H0 hb
  obtain ⟨td, _⟩ := div_exact_of G0 gd
  have b1 := div_le_self H0 (Int.le_of_lt b0)
  have d1 := div_le_self G0 (Int.le_of_lt d0)
  refine ⟨G, H, a', c', b / H, d / G, by rw [eA]; exact hG, by omega, by rw [eC]; exact hH, by omega, ta, tc, tb, td, a0, by omega, c0, by omega, b1.1, by omega, d1.1, by omega, ?_⟩
  unfold prodF
  rw [hG, hH, ea, ec, ← lim_sign (Int.mul_nonneg a0 c0)]
  congr 1
  by_cases k1 : a < 0
  · by_cases k2 : c < 0
    · simp [k1, k2, Int.neg_mul, Int.mul_neg]
    · simp [k1, k2, Int.neg_mul, Int.mul_neg]
  · by_cases k2 : c < 0
    · simp [k1, k2, Int.neg_mul, Int.mul_neg]
    · simp [k1, k2, Int.neg_mul, Int.mul_neg]
end Sp
end Go.Proofs.Ytdimncchejbaaaa
