/-
  Plain mathematics of layer 10: what the masses and the carbon of volumes are; no Go in sight.
-/
import Derived.Test.YtjeedlglonnngaaSy
namespace Go.Proofs.Ytjeedlglonnngaa
set_option linter.unusedVariables false
namespace Sp
theorem fl_mono {x y n d : Int} (n0 : 0 ≤ n) (hd : 0 < d) (h : x ≤ y) : x * n / d ≤ y * n / d := Int.ediv_le_ediv hd (Int.mul_le_mul_of_nonneg_right h n0)
theorem fl_add (x y n : Int) {d : Int} (hd : 0 < d) : x * n / d + y * n / d ≤ (x + y) * n / d ∧ (x + y) * n / d ≤ x * n / d + y * n / d + 1 := by
  rw [Int.add_mul]
  have h1 := Int.ediv_mul_le (x * n) (show d ≠ 0 by omega)
  have h2 := Int.ediv_mul_le (y * n) (show d ≠ 0 by omega)
  have h3 := Int.lt_ediv_add_one_mul_self (x * n) hd
  have h4 := Int.lt_ediv_add_one_mul_self (y * n) hd
  generalize x * n / d = p at *
  generalize y * n / d = q at *
  generalize x * n = X at *
  generalize y * n = Y at *
  constructor
  · apply Int.le_ediv_of_mul_le hd
    rw [Int.add_mul]
    omega
  · have : (X + Y) / d < p + q + 2 := by
      apply Int.ediv_lt_of_lt_mul hd
      have e : (p + q + 2) * d = (p + 1) * d + (q + 1) * d := by rw [← Int.add_mul]; congr 1; omega
      rw [e]
      omega
    omega
theorem fl_neg (x n : Int) {d : Int} (hd : 0 < d) : x * n / d + (-x) * n / d ≤ 0 := by
  have h := (fl_add x (-x) n hd).1
  have e : x + -x = 0 := by omega
  rw [e, Int.zero_mul, Int.zero_ediv] at h
  exact h
theorem fl_zero (n d : Int) : (0 : Int) * n / d = 0 := by rw [Int.zero_mul, Int.zero_ediv]
/-- What a scaled interval is. -/
theorem scl_cases {a b n d : Int} (hc : chk a b = 0) (n0 : 1 ≤ n) (n1 : n ≤ 1000000000000000) (d0 : 1 ≤ d) (d1 : d ≤ 1000000000000000) :
    (scl a b n d = (a * n / d, -((-b) * n / d), 0) ∧ (-1000000000000000 ≤ a * n / d ∧ a * n / d ≤ 1000000000000000) ∧ (-1000000000000000 ≤ (-b) * n / d ∧ (-b) * n / d ≤ 1000000000000000)) ∨
    (scl a b n d = (0, 0, 8) ∧ ¬ ((-1000000000000000 ≤ a * n / d ∧ a * n / d ≤ 1000000000000000) ∧ (-1000000000000000 ≤ (-b) * n / d ∧ (-b) * n / d ≤ 1000000000000000))) := by
  obtain ⟨g, x, y, hN, g0, hn, hd, x0, x1, y0, y1, hg⟩ := newS_small n0 n1 d0 d1
  have hf : fchk x y = 0 := fchk_zero.2 ⟨by omega, by omega, by omega, by omega, hg⟩
  have e : ∀ z : Int, z * x / y = z * n / d := fun z => by
    rw [hn, hd, ← Int.mul_assoc, Int.mul_ediv_mul_of_pos_left _ _ (by omega)]
  unfold scl scaleS flp
  rw [hN]
  simp only
  rw [if_neg (by simpa using hc), if_neg (by simpa using hf), if_neg (by omega), e a, e (-b)]
  clear e hf hN hn hd hg
  generalize a * n / d = p
  generalize (-b) * n / d = q
  by_cases c1 : -1000000000000000 ≤ p ∧ p ≤ 1000000000000000
  · by_cases c2 : -1000000000000000 ≤ q ∧ q ≤ 1000000000000000
    · refine .inl ⟨?_, c1, c2⟩
      simp [if_pos c1, if_pos c2]
    · refine .inr ⟨?_, fun h => c2 h.2⟩
      simp [if_pos c1, if_neg c2]
  · refine .inr ⟨?_, fun h => c1 h.1⟩
    simp [if_neg c1]
theorem chk_mk {a b : Int} (h : a ≤ b) (h0 : -1000000000000000 ≤ a) (h1 : b ≤ 1000000000000000) : chk a b = 0 := chk_zero.2 ⟨h, h0, h1⟩
/-- Mass of a volume, in a checked table. -/
theorem mass_at {l : List Sc} {i a b m0 m1 : Int} (h : massS l i a b = (m0, m1, 0)) : ∃ n c : Int, (1 ≤ n ∧ n ≤ 2000) ∧ (1 ≤ c ∧ c ≤ 1000000) ∧ denOf l i = n ∧ carOf l i = c ∧ tabS l = 0 ∧ (0 ≤ i ∧ i < (l.length : Int)) ∧ chk a b = 0 ∧ 0 ≤ a ∧
    m0 = a * n / 1000 ∧ m1 = -((-b) * n / 1000) ∧ 0 ≤ m0 ∧ m0 ≤ m1 ∧ m1 ≤ 1000000000000000 := by
  obtain ⟨h1, h2, h3, h4, h5⟩ := massS_ok h
  obtain ⟨k, hk, rfl, hn, hc, n01, c01⟩ := row_ok h1 h2
  rw [hn] at h5 ⊢
  rw [hc]
  generalize (l[k]'hk).den = n at *
  generalize (l[k]'hk).car = c at *
  have ab := (chk_zero.1 h3).1
  rcases scl_cases h3 n01.1 (by omega) (show (1 : Int) ≤ 1000 by omega) (by omega) with ⟨e, b1, b2⟩ | ⟨e, _⟩
  · rw [h5] at e
    obtain ⟨e1, e2⟩ := Prod.mk.inj e
    obtain ⟨e2, _⟩ := Prod.mk.inj e2
    have z := fl_mono (n := n) (d := 1000) (by omega) (by omega) h4
    rw [fl_zero] at z
    have y := fl_mono (n := n) (d := 1000) (x := -b) (y := -a) (by omega) (by omega) (by omega)
    have x := fl_neg a n (show (0 : Int) < 1000 by omega)
    exact ⟨n, c, n01, c01, rfl, rfl, h1, h2, h3, h4, e1, e2, by omega, by omega, by omega⟩
  · rw [h5] at e
    simp at e
theorem mass_mk {l : List Sc} {i a b n : Int} (h1 : tabS l = 0) (h2 : 0 ≤ i ∧ i < (l.length : Int)) (h3 : chk a b = 0) (h4 : 0 ≤ a) (hn : denOf l i = n) : massS l i a b = scl a b n 1000 := by
  unfold massS
  rw [if_neg (by simpa using h1), if_neg (by simpa using h2), if_neg (by simpa using h3), if_neg (by omega), hn]
theorem scl_err {a b n d x y e : Int} (hc : chk a b = 0) (n0 : 1 ≤ n) (n1 : n ≤ 1000000000000000) (d0 : 1 ≤ d) (d1 : d ≤ 1000000000000000) (h : scl a b n d = (x, y, e)) : e = 0 ∨ e = 8 := by
  rcases scl_cases hc n0 n1 d0 d1 with ⟨h1, _⟩ | ⟨h1, _⟩
  · rw [h1] at h; simp at h; exact .inl h.2.2.symm
  · rw [h1] at h; simp at h; exact .inr h.2.2.symm
/-- Carbon is at most mass. -/
theorem less {l : List Sc} {i a b m0 m1 : Int} (h : massS l i a b = (m0, m1, 0)) : ∃ c0 c1 : Int, carbS l i a b = (c0, c1, 0) ∧ 0 ≤ c0 ∧ c0 ≤ m0 ∧ c1 ≤ m1 ∧ chk c0 c1 = 0 := by
  obtain ⟨n, c, _, c01, _, hc, _, _, _, _, _, _, q0, q1, q2⟩ := mass_at h
  have hk : chk m0 m1 = 0 := chk_mk q1 (by omega) q2
  unfold carbS
  rw [h]
  simp only
  rw [if_neg (by simp), hc]
  have z := fl_mono (n := c) (d := 1000000) (x := 0) (y := m0) (by omega) (by omega) q0
  rw [fl_zero] at z
  have u : m0 * c / 1000000 ≤ m0 := by
    have : m0 * c ≤ m0 * 1000000 := Int.mul_le_mul_of_nonneg_left c01.2 q0
    omega
  have v : -m1 ≤ (-m1) * c / 1000000 := by
    have : (-m1) * 1000000 ≤ (-m1) * c := by
      have := Int.mul_le_mul_of_nonneg_left c01.2 (show 0 ≤ m1 by omega)
      rw [Int.neg_mul, Int.neg_mul]
      omega
    omega
  have y := fl_mono (n := c) (d := 1000000) (x := -m1) (y := -m0) (by omega) (by omega) (by omega)
  have x := fl_neg m0 c (show (0 : Int) < 1000000 by omega)
  rcases scl_cases hk c01.1 (by omega) (show (1 : Int) ≤ 1000000 by omega) (by omega) with ⟨e, b1, b2⟩ | ⟨e, hh⟩
  · exact ⟨_, _, e, z, u, by omega, chk_mk (by omega) (by omega) (by omega)⟩
  · exact absurd ⟨⟨by omega, by omega⟩, by omega, by omega⟩ hh
/-- The mass of a sum. -/
theorem adds {l : List Sc} {i a0 a1 b0 b1 p0 p1 q0 q1 s0 s1 m0 m1 h t0 t1 j : Int} (ha : massS l i a0 a1 = (p0, p1, 0)) (hb : massS l i b0 b1 = (q0, q1, 0)) (hs : addS a0 a1 b0 b1 = (s0, s1, 0))
    (hm : massS l i s0 s1 = (m0, m1, h)) (ht : addS p0 p1 q0 q1 = (t0, t1, j)) : (h = 0 ∨ h = 8) ∧ (j = 0 ∨ j = 8) ∧ (h = 0 → j = 0 → withinB m0 m1 t0 t1 = true ∧ m0 - 1 ≤ t0 ∧ t1 ≤ m1 + 1) := by
  obtain ⟨n, c, n01, _, hn, _, k1, k2, k3, k4, e1, e2, f0, f1, f2⟩ := mass_at ha
  obtain ⟨n', c', _, _, hn', _, _, _, k5, k6, e3, e4, g0, g1, g2⟩ := mass_at hb
  rw [hn] at hn'
  subst hn'
  have hbs : both a0 a1 b0 b1 = 0 := both_zero.2 ⟨k3, k5⟩
  have hbt : both p0 p1 q0 q1 = 0 := both_zero.2 ⟨chk_mk f1 (by omega) f2, chk_mk g1 (by omega) g2⟩
  unfold addS at hs ht
  rw [if_neg (by simpa using hbs)] at hs
  rw [if_neg (by simpa using hbt)] at ht
  unfold lim at hs ht
  have ka := (chk_zero.1 k3).1
  have kb := (chk_zero.1 k5).1
  have ls : s0 = a0 + b0 ∧ s1 = a1 + b1 ∧ chk s0 s1 = 0 := by
    by_cases cl : a0 + b0 < -1000000000000000 ∨ 1000000000000000 < a1 + b1
    · rw [if_pos cl] at hs; simp at hs
    · rw [if_neg cl] at hs
      simp only [Prod.mk.injEq] at hs
      obtain ⟨rfl, rfl, _⟩ := hs
      exact ⟨rfl, rfl, chk_mk (by omega) (by omega) (by omega)⟩
  obtain ⟨rfl, rfl, k7⟩ := ls
  have hj : (j = 0 ∧ t0 = p0 + q0 ∧ t1 = p1 + q1 ∧ chk t0 t1 = 0) ∨ j = 8 := by
    by_cases cl : p0 + q0 < -1000000000000000 ∨ 1000000000000000 < p1 + q1
    · rw [if_pos cl] at ht; simp at ht; exact .inr ht.2.2.symm
    · rw [if_neg cl] at ht
      simp only [Prod.mk.injEq] at ht
      obtain ⟨rfl, rfl, rfl⟩ := ht
      exact .inl ⟨rfl, rfl, rfl, chk_mk (by omega) (by omega) (by omega)⟩
  have hh : h = 0 ∨ h = 8 := by
    rw [mass_mk k1 k2 k7 (by omega) hn] at hm
    exact scl_err k7 n01.1 (by omega) (by omega) (by omega) hm
  refine ⟨hh, ?_, fun h0 j0 => ?_⟩
  · rcases hj with ⟨h, _⟩ | h
    · exact .inl h
    · exact .inr h
  · subst h0 j0
    rcases hj with ⟨_, rfl, rfl, k8⟩ | hj
    · obtain ⟨n2, c2, _, _, hn2, _, _, _, _, _, e5, e6, v0, v1, v2⟩ := mass_at hm
      rw [hn] at hn2
      subst hn2
      have x1 := fl_add a0 b0 n (show (0 : Int) < 1000 by omega)
      have x2 := fl_add (-a1) (-b1) n (show (0 : Int) < 1000 by omega)
      have e7 : -(a1 + b1) = -a1 + -b1 := by omega
      rw [e7] at e6
      have k9 : chk m0 m1 = 0 := chk_mk v1 (by omega) v2
      refine ⟨?_, by omega, by omega⟩
      unfold withinB
      rw [decide_eq_true]
      exact ⟨both_zero.2 ⟨k9, k8⟩, by omega, by omega⟩
    · cases hj
theorem carb_at {l : List Sc} {i a b c0 c1 : Int} (h : carbS l i a b = (c0, c1, 0)) : ∃ m0 m1, massS l i a b = (m0, m1, 0) ∧ scl m0 m1 (carOf l i) 1000000 = (c0, c1, 0) := by
  unfold carbS at h
  obtain ⟨⟨m0, m1, e⟩, hM⟩ : ∃ M, massS l i a b = M := ⟨_, rfl⟩
  rw [hM] at h
  simp only at h
  by_cases c : e = 0
  · subst c
    rw [if_neg (by simp)] at h
    exact ⟨m0, m1, hM, h⟩
  · rw [if_pos (by simpa using c)] at h
    simp at h
    exact absurd h.2.2 c
/-- A part of a volume has a part of the mass and of the carbon. -/
theorem grows {l : List Sc} {i a0 a1 b0 b1 m0 m1 c0 c1 : Int} (hw : withinB a0 a1 b0 b1 = true) (hm : massS l i b0 b1 = (m0, m1, 0)) (hc : carbS l i b0 b1 = (c0, c1, 0)) :
    ∃ n0 n1 k0 k1, massS l i a0 a1 = (n0, n1, 0) ∧ carbS l i a0 a1 = (k0, k1, 0) ∧ withinB n0 n1 m0 m1 = true ∧ withinB k0 k1 c0 c1 = true := by
  obtain ⟨n, c, n01, c01, hn, hcar, k1, k2, k3, k4, e1, e2, f0, f1, f2⟩ := mass_at hm
  unfold withinB at hw
  obtain ⟨hbo, w1, w2⟩ := of_decide_eq_true hw
  obtain ⟨ha, _⟩ := both_zero.1 hbo
  have ka := (chk_zero.1 ha).1
  have x1 := fl_mono (n := n) (d := 1000) (by omega) (by omega) w1
  have x2 := fl_mono (n := n) (d := 1000) (x := -b1) (y := -a1) (by omega) (by omega) (by omega)
  have x3 := fl_mono (n := n) (d := 1000) (x := -a1) (y := -a0) (by omega) (by omega) (by omega)
  have x4 := fl_neg a0 n (show (0 : Int) < 1000 by omega)
  have hma : massS l i a0 a1 = (a0 * n / 1000, -((-a1) * n / 1000), 0) := by
    rw [mass_mk k1 k2 ha (by omega) hn]
    rcases scl_cases ha n01.1 (by omega) (show (1 : Int) ≤ 1000 by omega) (by omega) with ⟨e, _⟩ | ⟨e, hh⟩
    · exact e
    · exact absurd ⟨⟨by omega, by omega⟩, by omega, by omega⟩ hh
  have hkm : chk m0 m1 = 0 := chk_mk f1 (by omega) f2
  have hkn : chk (a0 * n / 1000) (-((-a1) * n / 1000)) = 0 := chk_mk (by omega) (by omega) (by omega)
  obtain ⟨m0', m1', hm', hcs⟩ := carb_at hc
  rw [hm] at hm'
  simp only [Prod.mk.injEq, and_true] at hm'
  obtain ⟨rfl, rfl⟩ := hm'
  rw [hcar] at hcs
  rcases scl_cases hkm c01.1 (by omega) (show (1 : Int) ≤ 1000000 by omega) (by omega) with ⟨e, g1, g2⟩ | ⟨e, _⟩
  · rw [hcs] at e
    simp only [Prod.mk.injEq, and_true] at e
    obtain ⟨rfl, rfl⟩ := e
    obtain ⟨N0, hN0⟩ : ∃ N, a0 * n / 1000 = N := ⟨_, rfl⟩
    obtain ⟨N1, hN1⟩ : ∃ N, (-a1) * n / 1000 = N := ⟨_, rfl⟩
    rw [hN0, hN1] at hma hkn
    rw [hN0] at x1 x4
    rw [hN1] at x2 x3
    have kn := (chk_zero.1 hkn).1
    have y1 := fl_mono (n := c) (d := 1000000) (x := m0) (y := N0) (by omega) (by omega) (by omega)
    have y2 := fl_mono (n := c) (d := 1000000) (x := -m1) (y := - -N1) (by omega) (by omega) (by omega)
    have y3 := fl_mono (n := c) (d := 1000000) (x := - -N1) (y := -N0) (by omega) (by omega) (by omega)
    have y4 := fl_neg N0 c (show (0 : Int) < 1000000 by omega)
    have y5 := fl_mono (n := c) (d := 1000000) (x := -m1) (y := -m0) (by omega) (by omega) (by omega)
    have y6 := fl_neg m0 c (show (0 : Int) < 1000000 by omega)
    have hca : carbS l i a0 a1 = (N0 * c / 1000000, -((- -N1) * c / 1000000), 0) := by
      unfold carbS
      rw [hma]
      simp only
      rw [if_neg (by simp), hcar]
      rcases scl_cases hkn c01.1 (by omega) (show (1 : Int) ≤ 1000000 by omega) (by omega) with ⟨e, _⟩ | ⟨e, hh⟩
      · exact e
      · exact absurd ⟨⟨by omega, by omega⟩, by omega, by omega⟩ hh
    refine ⟨N0, -N1, _, _, hma, hca, ?_, ?_⟩
    · unfold withinB
      rw [decide_eq_true]
      exact ⟨both_zero.2 ⟨hkn, hkm⟩, by omega, by omega⟩
    · unfold withinB
      rw [decide_eq_true]
      exact ⟨both_zero.2 ⟨chk_mk (by omega) (by omega) (by omega), chk_mk (by omega) (by omega) (by omega)⟩, by omega, by omega⟩
  · rw [hcs] at e
    simp at e
end Sp
end Go.Proofs.Ytjeedlglonnngaa
