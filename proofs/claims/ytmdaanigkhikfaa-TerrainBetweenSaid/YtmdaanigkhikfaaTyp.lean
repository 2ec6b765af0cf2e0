/-
  Layer 15: mathematics of TerrainBetween.
-/
import Derived.Test.YtmdaanigkhikfaaQta
namespace Go.Proofs.Ytmdaanigkhikfaa
set_option linter.unusedVariables false
set_option linter.unusedSimpArgs false
namespace Sp
theorem newS_nn {n d : Int} (n0 : 0 ≤ n) (n1 : n ≤ 1000000000000000) (d0 : 1 ≤ d) (d1 : d ≤ 1000000000000000) :
    ∃ g x y : Int, newS n d = (x, y, 0) ∧ 1 ≤ g ∧ n = x * g ∧ d = y * g ∧ 0 ≤ x ∧ x ≤ n ∧ 1 ≤ y ∧ y ≤ d ∧ fchk x y = 0 := by
  obtain ⟨m, rfl⟩ : ∃ m : Nat, n = (m : Int) := ⟨n.toNat, by omega⟩
  obtain ⟨k, rfl⟩ : ∃ k : Nat, d = (k : Int) := ⟨d.toNat, by omega⟩
  have hg : Int.gcd (m : Int) (k : Int) = Nat.gcd m k := by simp
  have g0 : 0 < Nat.gcd m k := Nat.gcd_pos_of_pos_right _ (by omega)
  obtain ⟨x, hx⟩ := Nat.gcd_dvd_left m k
  obtain ⟨y, hy⟩ := Nat.gcd_dvd_right m k
  have hxd : m / Nat.gcd m k = x := by
    have h2 : Nat.gcd m k * x / Nat.gcd m k = x := Nat.mul_div_cancel_left _ g0
    rw [← hx] at h2
    exact h2
  have hyd : k / Nat.gcd m k = y := by
    have h2 : Nat.gcd m k * y / Nat.gcd m k = y := Nat.mul_div_cancel_left _ g0
    rw [← hy] at h2
    exact h2
  have hcop : Nat.gcd x y = 1 := by
    have h := Nat.gcd_mul_left (Nat.gcd m k) x y
    rw [← hx, ← hy] at h
    exact Nat.eq_of_mul_eq_mul_left g0 (by rw [Nat.mul_one]; exact h.symm)
  have y1 : 1 ≤ y := by
    rcases Nat.eq_zero_or_pos y with h | h
    · rw [h, Nat.mul_zero] at hy; omega
    · exact h
  have xm : x ≤ m := by rw [← hxd]; exact Nat.div_le_self _ _
  have yk : y ≤ k := by rw [← hyd]; exact Nat.div_le_self _ _
  refine ⟨(Nat.gcd m k : Nat), (x : Nat), (y : Nat), ?_, by omega, by rw [← Int.natCast_mul]; congr 1; rw [Nat.mul_comm]; exact hx, by rw [← Int.natCast_mul]; congr 1; rw [Nat.mul_comm]; exact hy, by omega, by omega, by omega, by omega, ?_⟩
  · unfold newS
    have e1 : ((m : Int).natAbs : Int) / (Int.gcd (m : Int) (k : Int) : Int) = (x : Int) := by
      rw [hg, Int.natAbs_natCast, ← Int.natCast_ediv, hxd]
    have e2 : ((k : Int).natAbs : Int) / (Int.gcd (m : Int) (k : Int) : Int) = (y : Int) := by
      rw [hg, Int.natAbs_natCast, ← Int.natCast_ediv, hyd]
    rw [e1, e2, if_neg (by omega), if_neg (by omega), if_pos (by rw [decide_eq_decide]; omega)]
  · rw [fchk_zero]
    refine ⟨by omega, by omega, by omega, by omega, ?_⟩
    have : Int.gcd (x : Int) (y : Int) = Nat.gcd x y := by simp
    omega
/-- A common factor goes out. -/
theorem newS_scale {a b g : Int} (a0 : 0 ≤ a) (b0 : 1 ≤ b) (g0 : 1 ≤ g) (a1 : a * g ≤ 1000000000000000) (b1 : b * g ≤ 1000000000000000) : newS (a * g) (b * g) = newS a b := by
  obtain ⟨m, rfl⟩ : ∃ m : Nat, a = (m : Int) := ⟨a.toNat, by omega⟩
  obtain ⟨k, rfl⟩ : ∃ k : Nat, b = (k : Int) := ⟨b.toNat, by omega⟩
  obtain ⟨h, rfl⟩ : ∃ h : Nat, g = (h : Int) := ⟨g.toNat, by omega⟩
  have hp : 0 < h := by omega
  have e : ∀ p q : Nat, (p : Int) * (q : Int) = ((p * q : Nat) : Int) := fun p q => (Int.natCast_mul p q).symm
  rw [e] at a1 b1
  rw [e, e]
  have G : Nat.gcd (m * h) (k * h) = Nat.gcd m k * h := Nat.gcd_mul_right _ _ _
  have q : ∀ p : Nat, p * h / (Nat.gcd m k * h) = p / Nat.gcd m k := fun p => Nat.mul_div_mul_right _ _ hp
  have mk : k ≤ k * h := Nat.le_mul_of_pos_right _ hp
  have mm : m ≤ m * h := Nat.le_mul_of_pos_right _ hp
  have k1 : 1 ≤ k := by omega
  generalize hmh : m * h = M at *
  generalize hkh : k * h = K at *
  have E1 : ∀ p : Nat, (((p * h : Nat) : Int).natAbs : Int) / (Int.gcd (M : Int) (K : Int) : Int) = ((p / Nat.gcd m k : Nat) : Int) := fun p => by
    rw [Int.natAbs_natCast, show Int.gcd (M : Int) (K : Int) = Nat.gcd M K from rfl, G, ← Int.natCast_ediv, q]
  have E2 : ∀ p : Nat, ((p : Int).natAbs : Int) / (Int.gcd (m : Int) (k : Int) : Int) = ((p / Nat.gcd m k : Nat) : Int) := fun p => by
    rw [Int.natAbs_natCast, show Int.gcd (m : Int) (k : Int) = Nat.gcd m k from rfl, ← Int.natCast_ediv]
  have E3 := E1 m
  have E4 := E1 k
  rw [hmh] at E3
  rw [hkh] at E4
  have f1 : m / Nat.gcd m k ≤ m := Nat.div_le_self _ _
  have f2 : k / Nat.gcd m k ≤ k := Nat.div_le_self _ _
  unfold newS
  rw [E3, E4, E2, E2]
  generalize m / Nat.gcd m k = X at *
  generalize k / Nat.gcd m k = Y at *
  clear E1 E2 E3 E4 q e G hmh hkh
  rw [if_neg (by omega), if_neg (by omega), if_pos (by rw [decide_eq_decide]; omega), if_neg (by omega), if_neg (by omega), if_pos (by rw [decide_eq_decide]; omega)]
/-- A quotient between two bounds, rounded. -/
theorem new_between {n d lo hi : Int} (n0 : 0 ≤ n) (n1 : n ≤ 1000000000000000) (d0 : 1 ≤ d) (d1 : d ≤ 1000000000000000) (l : lo * d ≤ n) (h : n ≤ hi * d) :
    ∃ x y : Int, newS n d = (x, y, 0) ∧ fchk x y = 0 ∧ (0 ≤ x ∧ x ≤ n) ∧ (1 ≤ y ∧ y ≤ d) ∧ lo ≤ floorF x y ∧ ceilF x y ≤ hi := by
  obtain ⟨g, x, y, e, g1, hn, hd, x0, xn, y1, yd, hf⟩ := newS_nn n0 n1 d0 d1
  refine ⟨x, y, e, hf, ⟨x0, xn⟩, ⟨y1, yd⟩, ?_, ?_⟩
  · unfold floorF
    rw [if_neg (by omega)]
    rw [Int.le_ediv_iff_mul_le (by omega)]
    rw [hn, hd, ← Int.mul_assoc] at l
    exact Int.le_of_mul_le_mul_right l (by omega)
  · unfold ceilF
    rw [if_neg (by omega)]
    have : -hi ≤ (-x) / y := by
      rw [Int.le_ediv_iff_mul_le (by omega), Int.neg_mul]
      rw [hn, hd, ← Int.mul_assoc] at h
      have := Int.le_of_mul_le_mul_right h (by omega)
      omega
    omega
theorem lerp {a b u k lo hi : Int} (u0 : 0 ≤ u) (u1 : u ≤ k) (la : lo ≤ a) (lb : lo ≤ b) (ha : a ≤ hi) (hb : b ≤ hi) : lo * k ≤ a * (k - u) + b * u ∧ a * (k - u) + b * u ≤ hi * k := by
  have m := fun (x y v : Int) (v0 : 0 ≤ v) (h : x ≤ y) => Int.mul_le_mul_of_nonneg_right h v0
  have h1 := m lo a (k - u) (by omega) la
  have h2 := m lo b u u0 lb
  have h3 := m a hi (k - u) (by omega) ha
  have h4 := m b hi u u0 hb
  have e1 : lo * (k - u) + lo * u = lo * k := by rw [← Int.mul_add]; congr 1; omega
  have e2 : hi * (k - u) + hi * u = hi * k := by rw [← Int.mul_add]; congr 1; omega
  omega
theorem tdiv_mul_self {a k : Int} (hk : 1 ≤ k) : (a * k).tdiv k = a := Int.mul_tdiv_cancel a (by omega)
/-- The height at a point lies between those of the corners. -/
theorem hgt_between {c r k px py lo hi : Int} {z : List Int} (bc : 2 ≤ c ∧ c ≤ 16) (br : 2 ≤ r ∧ r ≤ 16) (bk : 1 ≤ k ∧ k ≤ 1000) (h5 : ∀ v ∈ z, 0 ≤ v ∧ v ≤ 50000) (x0 : 0 ≤ px) (x1 : px ≤ (c - 1) * k) (y0 : 0 ≤ py) (y1 : py ≤ (r - 1) * k) {C R v0 v1 v2 v3 : Int} (hC : min (px.tdiv k) (c - 2) = C) (hR : min (py.tdiv k) (r - 2) = R)
    (e0 : hz z (R * c + C) = v0) (e1 : hz z (R * c + C + 1) = v1) (e2 : hz z (R * c + C + c + 1) = v2) (e3 : hz z (R * c + C + c) = v3)
    (l0 : lo ≤ v0) (l1 : lo ≤ v1) (l2 : lo ≤ v2) (l3 : lo ≤ v3) (h0 : v0 ≤ hi) (h1 : v1 ≤ hi) (h2 : v2 ≤ hi) (h3 : v3 ≤ hi) :
    ∃ x y : Int, hgt z c r k px py = (x, y, 0) ∧ fchk x y = 0 ∧ (0 ≤ x ∧ x ≤ 1000000000000000) ∧ (1 ≤ y ∧ y ≤ 1000000000000000) ∧ lo ≤ floorF x y ∧ ceilF x y ≤ hi := by
  obtain ⟨a1, a2, a3, a4, a5⟩ := cell1 bk.1 bk.2 bc.1 bc.2 x0 x1
  obtain ⟨b1, b2, b3, b4, b5⟩ := cell1 bk.1 bk.2 br.1 br.2 y0 y1
  unfold hgt
  rw [hC] at a2 a3 a4 a5 ⊢
  rw [hR] at b2 b3 b4 b5 ⊢
  have z0 := hz_in h5 (R * c + C)
  have z1 := hz_in h5 (R * c + C + 1)
  have z2 := hz_in h5 (R * c + C + c + 1)
  have z3 := hz_in h5 (R * c + C + c)
  rw [e0] at z0
  rw [e1] at z1
  rw [e2] at z2
  rw [e3] at z3
  rw [e0, e1, e2, e3]
  obtain ⟨u, hu⟩ : ∃ u, px - C * k = u := ⟨_, rfl⟩
  obtain ⟨v, hv2⟩ : ∃ v, py - R * k = v := ⟨_, rfl⟩
  rw [hu] at a5 ⊢
  rw [hv2] at b5 ⊢
  have A := lerp a5.1 a5.2 l0 l1 h0 h1
  have B := lerp a5.1 a5.2 l3 l2 h3 h2
  have A2 := lerp a5.1 a5.2 z0.1 z1.1 z0.2 z1.2
  have B2 := lerp a5.1 a5.2 z3.1 z2.1 z3.2 z2.2
  generalize v0 * (k - u) + v1 * u = s at *
  generalize v3 * (k - u) + v2 * u = t at *
  have N := lerp b5.1 b5.2 A.1 B.1 A.2 B.2
  have N2 := lerp b5.1 b5.2 A2.1 B2.1 A2.2 B2.2
  rw [Int.mul_assoc, Int.mul_assoc] at N N2
  have dd := pmul (a := k) (b := k) (m := 1000) (n := 1000) (by omega) (by omega) (by omega) (by omega) (by omega)
  have d1 : 1 * 1 ≤ k * k := Int.mul_le_mul (by omega) (by omega) (by omega) (by omega)
  generalize k * k = D at *
  generalize s * (k - v) + t * v = n at *
  obtain ⟨x, y, q1, q2, q3, q4, q5, q6⟩ := new_between (n := n) (d := D) (by omega) (by omega) (by omega) (by omega) N.1 N.2
  exact ⟨x, y, q1, q2, ⟨q3.1, by omega⟩, ⟨q4.1, by omega⟩, q5, q6⟩
theorem newS_whole {v D : Int} (v0 : 0 ≤ v) (v1 : v ≤ 50000) (d0 : 1 ≤ D) (d1 : D ≤ 1000000) : newS (v * D) D = (v, 1, 0) := by
  have m := pmul (a := v) (b := D) (m := 50000) (n := 1000000) v0 v1 (by omega) d1 (by omega)
  have h := newS_scale (a := v) (b := 1) (g := D) v0 (by omega) d0 (by omega) (by omega)
  rw [Int.one_mul] at h
  rw [h]
  obtain ⟨g, x, y, e, g1, hn, hd, x0, xn, y1, yd, hf⟩ := newS_nn (n := v) (d := 1) v0 (by omega) (by omega) (by omega)
  have : y = 1 := by omega
  subst this
  have : g = 1 := by omega
  subst this
  rw [e]
  simp at hn
  rw [hn]
/-- At a node the height is its own. -/
theorem hgt_node {c r k C R v : Int} {z : List Int} (bc : 2 ≤ c ∧ c ≤ 16) (br : 2 ≤ r ∧ r ≤ 16) (bk : 1 ≤ k ∧ k ≤ 1000) (h5 : ∀ v ∈ z, 0 ≤ v ∧ v ≤ 50000) (c0 : 0 ≤ C) (c1 : C ≤ c - 2) (r0 : 0 ≤ R) (r1 : R ≤ r - 2) (e : hz z (R * c + C) = v) : hgt z c r k (C * k) (R * k) = (v, 1, 0) := by
  have zv := hz_in h5 (R * c + C)
  rw [e] at zv
  unfold hgt
  rw [tdiv_mul_self bk.1, tdiv_mul_self bk.1, show min C (c - 2) = C by omega, show min R (r - 2) = R by omega, e, Int.sub_self, Int.sub_self, Int.sub_zero]
  simp only [Int.mul_zero, Int.add_zero]
  rw [Int.mul_assoc]
  have d1 : 1 * 1 ≤ k * k := Int.mul_le_mul (by omega) (by omega) (by omega) (by omega)
  have d2 : k * k ≤ 1000 * 1000 := Int.mul_le_mul (by omega) (by omega) (by omega) (by omega)
  exact newS_whole zv.1 zv.2 (by omega) (by omega)
/-- Halfway along a side the height is the mean of both ends. -/
theorem hgt_half {c r k m C R v2 v3 : Int} {z : List Int} (bc : 2 ≤ c ∧ c ≤ 16) (br : 2 ≤ r ∧ r ≤ 16) (bk : 1 ≤ k ∧ k ≤ 1000) (hk : k = 2 * m) (h5 : ∀ v ∈ z, 0 ≤ v ∧ v ≤ 50000) (c0 : 0 ≤ C) (c1 : C ≤ c - 2) (r0 : 0 ≤ R) (r1 : R ≤ r - 2) (e2 : hz z (R * c + C + c + 1) = v2) (e3 : hz z (R * c + C + c) = v3) :
    hgt z c r k (C * k + m) ((R + 1) * k) = newS (v3 + v2) 2 := by
  have z2 := hz_in h5 (R * c + C + c + 1)
  have z3 := hz_in h5 (R * c + C + c)
  rw [e2] at z2
  rw [e3] at z3
  have tx : (C * k + m).tdiv k = C := by
    have p : 0 ≤ C * k := Int.mul_nonneg c0 (by omega)
    rw [Int.tdiv_eq_ediv_of_nonneg (by omega), Int.add_comm, Int.add_mul_ediv_right _ _ (by omega), Int.ediv_eq_zero_of_lt (by omega) (by omega)]
    omega
  have d1 : 1 * 1 ≤ m * k := Int.mul_le_mul (by omega) (by omega) (by omega) (by omega)
  have d2 : m * k ≤ 500 * 1000 := Int.mul_le_mul (by omega) (by omega) (by omega) (by omega)
  have m1 := pmul (a := v3 + v2) (b := m * k) (m := 100000) (n := 500000) (by omega) (by omega) (by omega) (by omega) (by omega)
  have fin : newS ((v3 * m + v2 * m) * k) (k * k) = newS (v3 + v2) 2 := by
    have E : newS ((v3 + v2) * (m * k)) (2 * (m * k)) = newS (v3 + v2) 2 := newS_scale (by omega) (by omega) (by omega) (by omega) (by omega)
    rw [← Int.add_mul, Int.mul_assoc, show k * k = 2 * (m * k) by rw [← Int.mul_assoc, ← hk]]
    exact E
  unfold hgt
  rw [tx, tdiv_mul_self bk.1, show min C (c - 2) = C by omega, show C * k + m - C * k = m by omega, show k - m = m by omega]
  by_cases g : R + 1 ≤ r - 2
  · rw [show min (R + 1) (r - 2) = R + 1 by omega, Int.sub_self, Int.sub_zero, show (R + 1) * c + C = R * c + C + c by rw [Int.add_mul]; omega, e3, e2]
    simp only [Int.mul_zero, Int.add_zero]
    exact fin
  · rw [show min (R + 1) (r - 2) = R by omega, show (R + 1) * k - R * k = k by rw [Int.add_mul]; omega, Int.sub_self, e3, e2]
    simp only [Int.mul_zero, Int.zero_add]
    exact fin
end Sp
end Go.Proofs.Ytmdaanigkhikfaa
