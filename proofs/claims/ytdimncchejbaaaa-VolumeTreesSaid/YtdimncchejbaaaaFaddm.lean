/-
  Plain mathematics: what the reference's sum of fractions reckons. No Go in sight.
-/
import Derived.Test.YtdimncchejbaaaaFrat
import Derived.Test.YtdimncchejbaaaaFwide2
namespace Go.Proofs.Ytdimncchejbaaaa
set_option linter.unusedVariables false
namespace Sp
/-- Magnitudes and signs: a sum. -/
theorem plus_signed {x y : Int} {n m : Bool} (hn : (n = true → x ≤ 0) ∧ (n = false → 0 ≤ x)) (hm : (m = true → y ≤ 0) ∧ (m = false → 0 ≤ y)) :
    plusV n (x.natAbs : Int) m (y.natAbs : Int) = ((x + y).natAbs : Int) ∧ (plusN n (x.natAbs : Int) m (y.natAbs : Int) = true → x + y ≤ 0) ∧ (plusN n (x.natAbs : Int) m (y.natAbs : Int) = false → 0 ≤ x + y) := by
  obtain ⟨n1, n2⟩ := hn
  obtain ⟨m1, m2⟩ := hm
  unfold plusV plusN
  cases n <;> cases m
  · have := n2 rfl; have := m2 rfl
    rw [if_pos rfl, if_pos rfl]
    exact ⟨by omega, fun h => by simp at h, fun _ => by omega⟩
  · have := n2 rfl; have := m1 rfl
    by_cases c : (x.natAbs : Int) < (y.natAbs : Int)
    · simp only [reduceCtorEq, if_false, if_pos c]
      exact ⟨by omega, fun _ => by omega, fun h => by simp at h⟩
    · simp only [reduceCtorEq, if_false, if_neg c]
      exact ⟨by omega, fun h => by simp at h, fun _ => by omega⟩
  · have := n1 rfl; have := m2 rfl
    by_cases c : (x.natAbs : Int) < (y.natAbs : Int)
    · simp only [reduceCtorEq, if_false, if_pos c]
      exact ⟨by omega, fun h => by simp at h, fun _ => by omega⟩
    · simp only [reduceCtorEq, if_false, if_neg c]
      exact ⟨by omega, fun _ => by omega, fun h => by simp at h⟩
  · have := n1 rfl; have := m1 rfl
    rw [if_pos rfl, if_pos rfl]
    exact ⟨by omega, fun _ => by omega, fun h => by simp at h⟩
/-- The sign of a product with a positive number. -/
theorem times_sign {a k : Int} (k0 : 0 < k) : ((decide (a < 0) != decide (k < 0)) = true → a * k ≤ 0) ∧ ((decide (a < 0) != decide (k < 0)) = false → 0 ≤ a * k) := by
  have hk : decide (k < 0) = false := decide_eq_false (by omega)
  rw [hk]
  by_cases c : a < 0
  · have := Int.mul_neg_of_neg_of_pos c k0
    exact ⟨fun _ => by omega, fun h => by simp [c] at h⟩
  · have := Int.mul_nonneg (show 0 ≤ a by omega) (Int.le_of_lt k0)
    exact ⟨fun h => by simp [c] at h, fun _ => this⟩
/-- The greatest common divisor out of the rest. -/
theorem gcd_rest {N G : Int} (G0 : 0 < G) : Int.gcd ((N.natAbs : Int) % G) G = Int.gcd N G := by
  have e : Int.gcd (N.natAbs : Int) G = Int.gcd N G := by simp [Int.gcd]
  have h := gcd_step (x := (N.natAbs : Int)) (y := G) (by omega) (by omega)
  rw [Int.gcd_comm, h, e]
/-- What the reference's sum gives. -/
theorem radd_math {a b c d : Int} (h1 : fchk a b = 0) (h2 : fchk c d = 0) :
    ∃ G b' d' N R d2 : Int, (Int.gcd b d : Int) = G ∧ 1 ≤ G ∧ G ≤ 1000000000000000 ∧ b.tdiv G = b' ∧ d.tdiv G = d' ∧ 1 ≤ b' ∧ b' ≤ 1000000000000000 ∧ 1 ≤ d' ∧ d' ≤ 1000000000000000 ∧
      a * d' + c * b' = N ∧ (Int.gcd ((N.natAbs : Int) % G) G : Int) = R ∧ 1 ≤ R ∧ R ≤ 1000000000000000 ∧ d.tdiv R = d2 ∧ 1 ≤ d2 ∧ d2 ≤ 1000000000000000 ∧
      sumF a b c d = (if 1000000000000000 < (N.natAbs : Int) / R ∨ 1000000000000000 < b' * d2 then (0, 0, 8) else (if N < 0 then -((N.natAbs : Int) / R) else (N.natAbs : Int) / R, b' * d2, 0)) ∧
      ((N.natAbs : Int) / R = 0 → b' * d2 = 1) := by
  obtain ⟨b0, g1, _, bm⟩ := valid_of h1
  obtain ⟨d0, g2, _, dm⟩ := valid_of h2
  have gp : 0 < Int.gcd b d := Int.gcd_pos_of_ne_zero_right b (by omega)
  have gb : (Int.gcd b d : Int) ∣ b := Int.gcd_dvd_left b d
  have gd : (Int.gcd b d : Int) ∣ d := Int.gcd_dvd_right b d
  obtain ⟨G, hG⟩ : ∃ G : Int, (Int.gcd b d : Int) = G := ⟨_, rfl⟩
  rw [hG] at gb gd
  have G0 : 0 < G := by omega
  have Gb : G ≤ b := Int.le_of_dvd b0 gb
  obtain ⟨tb, mb⟩ := div_exact_of G0 gb
  obtain ⟨td, md⟩ := div_exact_of G0 gd
  have b'0 : 0 < b / G := Int.ediv_pos_of_pos_of_dvd b0 (Int.le_of_lt G0) gb
  have d'0 : 0 < d / G := Int.ediv_pos_of_pos_of_dvd d0 (Int.le_of_lt G0) gd
  have b'1 := (div_le_self G0 (Int.le_of_lt b0)).2
  have d'1 := (div_le_self G0 (Int.le_of_lt d0)).2
  obtain ⟨N, hN⟩ : ∃ N : Int, a * (d / G) + c * (b / G) = N := ⟨_, rfl⟩
  have rp : 0 < Int.gcd N G := Int.gcd_pos_of_ne_zero_right N (by omega)
  have rN : (Int.gcd N G : Int) ∣ N := Int.gcd_dvd_left N G
  have rG : (Int.gcd N G : Int) ∣ G := Int.gcd_dvd_right N G
  obtain ⟨R, hR⟩ : ∃ R : Int, (Int.gcd N G : Int) = R := ⟨_, rfl⟩
  rw [hR] at rN rG
  have R0 : 0 < R := by omega
  have RG : R ≤ G := Int.le_of_dvd G0 rG
  have rd : R ∣ d := Int.dvd_trans rG gd
  obtain ⟨t2, m2⟩ := div_exact_of R0 rd
  have d20 : 0 < d / R := Int.ediv_pos_of_pos_of_dvd d0 (Int.le_of_lt R0) rd
  have d21 := (div_le_self R0 (Int.le_of_lt d0)).2
  obtain ⟨x, hx⟩ := rN
  have ex : N / R = x := by rw [hx]; exact Int.mul_ediv_cancel_left _ (by omega)
  have ea : (N.natAbs : Int) / R = (x.natAbs : Int) := by
    rw [hx, Int.natAbs_mul, Int.natCast_mul]
    have e : (R.natAbs : Int) = R := by omega
    rw [e]
    exact Int.mul_ediv_cancel_left _ (by omega)
  refine ⟨G, b / G, d / G, N, R, d / R, hG, by omega, by omega, tb, td, by omega, by omega, by omega, by omega, hN, by rw [gcd_rest G0]; exact hR, by omega, by omega, t2, by omega, by omega, ?_, ?_⟩
  · have ns : (N < 0 ↔ x < 0) := by
      constructor
      · intro h
        rcases Int.lt_or_le x 0 with h' | h'
        · exact h'
        · have := Int.mul_nonneg (Int.le_of_lt R0) h'; omega
      · intro h
        have := Int.mul_neg_of_pos_of_neg R0 h; omega
    unfold sumF sumR sumN limF
    rw [hG, hN, hR, ex, ea]
    by_cases k : 1000000000000000 < b / G * (d / R)
    · rw [if_pos (Or.inr (Or.inr k)), if_pos (Or.inr k)]
    · by_cases k2 : 1000000000000000 < (x.natAbs : Int)
      · rw [if_pos (by omega), if_pos (Or.inl k2)]
      · rw [if_neg (by omega), if_neg (by omega)]
        congr 1
        by_cases k3 : N < 0
        · rw [if_pos k3]; have := ns.1 k3; omega
        · rw [if_neg k3]
          have : ¬ x < 0 := fun h => k3 (ns.2 h)
          omega
  · intro h
    rw [ea] at h
    have x0 : x = 0 := by omega
    subst x0
    have N0 : N = 0 := by rw [hx]; omega
    subst N0
    have hz : a * d = (-c) * b := by
      have e : (a * (d / G) + c * (b / G)) * G = a * d + c * b := by
        rw [Int.add_mul, Int.mul_assoc, Int.mul_assoc, md, mb]
      rw [hN] at e
      rw [Int.neg_mul]
      omega
    obtain ⟨_, e⟩ := lowest b0 d0 g1 (by rw [Int.neg_gcd]; exact g2) hz
    subst e
    have eG : G = b := by rw [← hG, Int.gcd_self]; omega
    have eR : R = b := by rw [← hR, Int.gcd_zero_left]; omega
    rw [eG, eR, Int.ediv_self (by omega)]
    rfl
end Sp
end Go.Proofs.Ytdimncchejbaaaa
