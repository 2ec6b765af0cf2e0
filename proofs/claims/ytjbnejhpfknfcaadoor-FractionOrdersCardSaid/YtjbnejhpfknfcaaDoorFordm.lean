/-
  Plain mathematics of FractionOrders: adding the same fraction keeps the order; Floor and Ceil of a valid fraction. No Go in sight.
-/
import Derived.Test.YtjbnejhpfknfcaaDoorFrat
namespace Go.Proofs.YtjbnejhpfknfcaaDoor
set_option linter.unusedVariables false
namespace Sp
theorem sum_core_small {a b c d : Int} (A B C D : Nat) (h1 : fchk a b = 0) (h2 : fchk c d = 0) (ha : a.natAbs ≤ A) (hb : b.natAbs ≤ B) (hc : c.natAbs ≤ C) (hd : d.natAbs ≤ D) (hN : A * D + C * B ≤ 1000000000000000) (hD : B * D ≤ 1000000000000000) :
    ∃ x y : Int, sumF a b c d = (x, y, 0) ∧ fchk x y = 0 ∧ x * (b * d) = (a * d + c * b) * y ∧ 0 < y ∧ x.natAbs ≤ A * D + C * B ∧ y.natAbs ≤ B * D := by
  obtain ⟨x, y, e, y0, g, id, ly, lx⟩ := sumF_core h1 h2
  obtain ⟨b0, _, _, _⟩ := valid_of h1
  obtain ⟨d0, _, _, _⟩ := valid_of h2
  have k1 := mul_abs_le ha hd
  have k2 := mul_abs_le hc hb
  have k3 := mul_abs_le hb hd
  have p := Int.mul_pos b0 d0
  have lx2 : x.natAbs ≤ A * D + C * B := by omega
  have ly2 : y.natAbs ≤ B * D := by omega
  exact ⟨x, y, by rw [e, limF_in (by omega) (by omega)], valid_mk y0 g (by omega) (by omega), id, y0, lx2, ly2⟩
theorem sign_scale {K L X Y : Int} (K0 : 0 < K) (L0 : 0 < L) (h : K * X = L * Y) : (X < 0 ↔ Y < 0) ∧ (X = 0 ↔ Y = 0) := by
  rcases Int.lt_trichotomy X 0 with hx | hx | hx <;> rcases Int.lt_trichotomy Y 0 with hy | hy | hy
  · omega
  · have := Int.mul_neg_of_pos_of_neg K0 hx; subst hy; omega
  · have := Int.mul_neg_of_pos_of_neg K0 hx; have := Int.mul_pos L0 hy; omega
  · have := Int.mul_neg_of_pos_of_neg L0 hy; subst hx; omega
  · omega
  · have := Int.mul_pos L0 hy; subst hx; omega
  · have := Int.mul_neg_of_pos_of_neg L0 hy; have := Int.mul_pos K0 hx; omega
  · have := Int.mul_pos K0 hx; subst hy; omega
  · omega
theorem cmp_same {p1 p2 q1 q2 a1 a2 b1 b2 c1 c2 : Int} (P : 0 < p2) (Q : 0 < q2) (A : 0 < a2) (B : 0 < b2) (C : 0 < c2) (h1 : p1 * (a2 * c2) = (a1 * c2 + c1 * a2) * p2) (h2 : q1 * (b2 * c2) = (b1 * c2 + c1 * b2) * q2) :
    Wd.cmpI (p1 * q2) (q1 * p2) = Wd.cmpI (a1 * b2) (b1 * a2) := by
  have K0 : 0 < (a2 * c2) * (b2 * c2) := Int.mul_pos (Int.mul_pos A C) (Int.mul_pos B C)
  have L0 : 0 < (p2 * q2) * (c2 * c2) := Int.mul_pos (Int.mul_pos P Q) (Int.mul_pos C C)
  have e : ((a2 * c2) * (b2 * c2)) * (p1 * q2 - q1 * p2) = ((p2 * q2) * (c2 * c2)) * (a1 * b2 - b1 * a2) := by
    have e1 : ((a2 * c2) * (b2 * c2)) * (p1 * q2 - q1 * p2) = (p1 * (a2 * c2)) * (q2 * (b2 * c2)) - (q1 * (b2 * c2)) * (p2 * (a2 * c2)) := by grind
    rw [e1, h1, h2]
    grind
  obtain ⟨s1, s2⟩ := sign_scale K0 L0 e
  unfold Wd.cmpI
  have t1 : (p1 * q2 < q1 * p2) ↔ (a1 * b2 < b1 * a2) := by omega
  have t2 : (p1 * q2 = q1 * p2) ↔ (a1 * b2 = b1 * a2) := by omega
  simp only [t1, t2]
theorem orders_math {a1 a2 b1 b2 c1 c2 : Int} (ha : fchk a1 a2 = 0) (hb : fchk b1 b2 = 0) (hc : fchk c1 c2 = 0) (A1 : a1.natAbs ≤ 32768) (A2 : a2.natAbs ≤ 256) (B1 : b1.natAbs ≤ 32768) (B2 : b2.natAbs ≤ 256) (C1 : c1.natAbs ≤ 32768) (C2 : c2.natAbs ≤ 256) :
    ∃ p1 p2 q1 q2 : Int, addF a1 a2 c1 c2 = (p1, p2, 0) ∧ addF b1 b2 c1 c2 = (q1, q2, 0) ∧ (p1.natAbs ≤ 1000000000000000 ∧ p2.natAbs ≤ 1000000000000000) ∧ (q1.natAbs ≤ 1000000000000000 ∧ q2.natAbs ≤ 1000000000000000) ∧
      cmpF a1 a2 b1 b2 = Wd.cmpI (a1 * b2) (b1 * a2) ∧ cmpF p1 p2 q1 q2 = Wd.cmpI (a1 * b2) (b1 * a2) := by
  obtain ⟨p1, p2, ep, hp, ip, p0, -, -⟩ := sum_core_small 32768 256 32768 256 ha hc A1 A2 C1 C2 (by omega) (by omega)
  obtain ⟨q1, q2, eq, hq, iq, q0, -, -⟩ := sum_core_small 32768 256 32768 256 hb hc B1 B2 C1 C2 (by omega) (by omega)
  obtain ⟨a0, _, _, _⟩ := valid_of ha
  obtain ⟨b0, _, _, _⟩ := valid_of hb
  obtain ⟨c0, _, _, _⟩ := valid_of hc
  refine ⟨p1, p2, q1, q2, add_of ha hc ep, add_of hb hc eq, fits_of hp, fits_of hq, ?_, ?_⟩
  · unfold cmpF
    rw [if_neg (by have := bothF_zero.2 ⟨ha, hb⟩; omega)]
  · unfold cmpF
    rw [if_neg (by have := bothF_zero.2 ⟨hp, hq⟩; omega)]
    exact cmp_same p0 q0 a0 b0 c0 ip iq
/-- Floor and Ceil of a valid fraction. -/
theorem floor_math {a1 a2 : Int} (ha : fchk a1 a2 = 0) (A1 : a1.natAbs ≤ 32768) (A2 : a2.natAbs ≤ 256) : ∃ n u N M : Int, floorF a1 a2 = n ∧ ceilF a1 a2 = u ∧ n * a2 = N ∧ (n + 1) * a2 = M ∧ N ≤ a1 ∧ a1 < M ∧ -32768 ≤ n ∧ n ≤ 32768 ∧ -40000 ≤ N ∧ M ≤ 40000 ∧ ((u = n ∧ a2 = 1) ∨ (u = n + 1 ∧ ¬ a2 = 1)) := by
  obtain ⟨a0, g, _, _⟩ := valid_of ha
  have h1 := Int.mul_ediv_add_emod a1 a2
  have h2 := Int.emod_nonneg a1 (show a2 ≠ 0 by omega)
  have h3 := Int.emod_lt_of_pos a1 a0
  refine ⟨a1 / a2, -((-a1) / a2), _, _, ?_, ?_, rfl, rfl, ?_⟩
  · unfold floorF; rw [if_neg (by omega)]
  · unfold ceilF; rw [if_neg (by omega)]
  have e1 : (a1 / a2) * a2 = a2 * (a1 / a2) := Int.mul_comm _ _
  have e2 : (a1 / a2 + 1) * a2 = a2 * (a1 / a2) + a2 := by grind
  have hn : -32768 ≤ a1 / a2 ∧ a1 / a2 ≤ 32768 := by
    constructor
    · rw [Int.le_ediv_iff_mul_le a0]
      have := Int.mul_le_mul_of_nonneg_left (show (1 : Int) ≤ a2 from a0) (show (0 : Int) ≤ 32768 by omega)
      omega
    · have := Int.ediv_lt_of_lt_mul (a := a1) (b := 32769) a0 (by
        have := Int.mul_le_mul_of_nonneg_left (show (1 : Int) ≤ a2 from a0) (show (0 : Int) ≤ 32769 by omega)
        omega)
      omega
  have hw : (-((-a1) / a2) = a1 / a2 ∧ a2 = 1) ∨ (-((-a1) / a2) = a1 / a2 + 1 ∧ ¬ a2 = 1) := by
    by_cases hz : a1 % a2 = 0
    · have hd : a2 ∣ a1 := Int.dvd_of_emod_eq_zero hz
      have hg : (Int.gcd a1 a2) = a2.natAbs := Int.gcd_eq_right_iff_dvd (by omega) |>.2 hd |> fun h => by omega
      have : a2 = 1 := by omega
      subst this
      left
      simp
    · right
      refine ⟨?_, ?_⟩
      · have := (Int.ediv_emod_unique (a := -a1) (r := a2 - a1 % a2) (q := -(a1 / a2) - 1) a0).2 ⟨by
          have : a2 * (-(a1 / a2) - 1) = -(a2 * (a1 / a2)) - a2 := by grind
          omega, by omega, by omega⟩
        omega
      · intro h
        subst h
        simp at hz
  refine ⟨by omega, by omega, hn.1, hn.2, by omega, by omega, hw⟩
end Sp
end Go.Proofs.YtjbnejhpfknfcaaDoor
