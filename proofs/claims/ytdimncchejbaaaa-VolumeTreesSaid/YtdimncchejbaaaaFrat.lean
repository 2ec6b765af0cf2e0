/-
  Plain mathematics: what sums and products of valid fractions are, as rational numbers; the field laws of small fractions. No Go in sight.
-/
import Derived.Test.YtdimncchejbaaaaFspec
namespace Go.Proofs.Ytdimncchejbaaaa
set_option linter.unusedVariables false
namespace Sp
theorem cop_mul {a b c : Int} (h1 : Int.gcd a b = 1) (h2 : Int.gcd a c = 1) : Int.gcd a (b * c) = 1 := by
  unfold Int.gcd at *
  rw [Int.natAbs_mul]
  exact Nat.Coprime.mul_right h1 h2
theorem cop_dvd {a a' b : Int} (h : a' ∣ a) (h1 : Int.gcd a b = 1) : Int.gcd a' b = 1 := by
  unfold Int.gcd at *
  exact Nat.Coprime.coprime_dvd_left (Int.natAbs_dvd_natAbs.2 h) h1
theorem cop_symm {a b : Int} (h : Int.gcd a b = 1) : Int.gcd b a = 1 := by rw [Int.gcd_comm]; exact h
theorem cop_scale {k a b : Int} (k0 : 0 < k) (h : (Int.gcd (k * a) (k * b) : Int) = k) : Int.gcd a b = 1 := by
  rw [Int.gcd_mul_left] at h
  have h2 : k * (Int.gcd a b : Int) = k * 1 := by
    rw [Int.natCast_mul] at h
    have e : (k.natAbs : Int) = k := by omega
    rw [e] at h
    omega
  have h3 := Int.eq_of_mul_eq_mul_left (by omega) h2
  omega
/-- A sum with a multiple of the second number. -/
theorem cop_add {a b k : Int} (h : Int.gcd a b = 1) : Int.gcd (a + b * k) b = 1 := by
  rw [Int.gcd_add_mul_left_left]
  exact h
theorem lowest {a b c d : Int} (b0 : 0 < b) (d0 : 0 < d) (h1 : Int.gcd a b = 1) (h2 : Int.gcd c d = 1) (h : a * d = c * b) : a = c ∧ b = d := by
  have k1 : b ∣ a * d := ⟨c, by rw [h, Int.mul_comm]⟩
  have k2 : d ∣ c * b := ⟨a, by rw [← h, Int.mul_comm]⟩
  have m1 : b.natAbs ∣ d.natAbs := by
    have := Int.natAbs_dvd_natAbs.2 k1
    rw [Int.natAbs_mul] at this
    exact Nat.Coprime.dvd_of_dvd_mul_left (Nat.Coprime.symm h1) this
  have m2 : d.natAbs ∣ b.natAbs := by
    have := Int.natAbs_dvd_natAbs.2 k2
    rw [Int.natAbs_mul] at this
    exact Nat.Coprime.dvd_of_dvd_mul_left (Nat.Coprime.symm h2) this
  have e := Nat.dvd_antisymm m1 m2
  have e2 : b = d := by omega
  subst e2
  exact ⟨Int.eq_of_mul_eq_mul_right (by omega) h, rfl⟩
theorem valid_of {n d : Int} (h : fchk n d = 0) : 0 < d ∧ Int.gcd n d = 1 ∧ n.natAbs ≤ 1000000000000000 ∧ d ≤ 1000000000000000 := by
  obtain ⟨d0, n0, n1, d1, g⟩ := fchk_zero.1 h
  have := Int.gcd_pos_of_ne_zero_right n (show d ≠ 0 by omega)
  exact ⟨d0, by omega, by omega, d1⟩
theorem valid_mk {n d : Int} (d0 : 0 < d) (h : Int.gcd n d = 1) (n1 : n.natAbs ≤ 1000000000000000) (d1 : d ≤ 1000000000000000) : fchk n d = 0 := by
  rw [fchk_zero]
  omega
/-- What the sum of two valid fractions is, before the limits. -/
theorem sumF_core {a b c d : Int} (h1 : fchk a b = 0) (h2 : fchk c d = 0) :
    ∃ x y : Int, sumF a b c d = limF x y ∧ 0 < y ∧ Int.gcd x y = 1 ∧ x * (b * d) = (a * d + c * b) * y ∧ y ≤ b * d ∧ x.natAbs ≤ (a * d + c * b).natAbs := by
  obtain ⟨b0, g1, _, _⟩ := valid_of h1
  obtain ⟨d0, g2, _, _⟩ := valid_of h2
  have gp : 0 < Int.gcd b d := Int.gcd_pos_of_ne_zero_right b (by omega)
  obtain ⟨b', hb⟩ : (Int.gcd b d : Int) ∣ b := Int.gcd_dvd_left b d
  obtain ⟨d', hd⟩ : (Int.gcd b d : Int) ∣ d := Int.gcd_dvd_right b d
  unfold sumF sumR sumN
  obtain ⟨G, hG⟩ : ∃ G : Int, (Int.gcd b d : Int) = G := ⟨_, rfl⟩
  rw [hG] at hb hd ⊢
  have G0 : 0 < G := by omega
  have eb : b / G = b' := by rw [hb]; exact Int.mul_ediv_cancel_left _ (by omega)
  have ed : d / G = d' := by rw [hd]; exact Int.mul_ediv_cancel_left _ (by omega)
  rw [eb, ed]
  have cop : Int.gcd b' d' = 1 := cop_scale G0 (by rw [← hb, ← hd]; exact hG)
  have b'0 : 0 < b' := by
    rcases Int.lt_trichotomy b' 0 with h | h | h
    · have := Int.mul_neg_of_pos_of_neg G0 h; omega
    · rw [h] at hb; omega
    · exact h
  have d'0 : 0 < d' := by
    rcases Int.lt_trichotomy d' 0 with h | h | h
    · have := Int.mul_neg_of_pos_of_neg G0 h; omega
    · rw [h] at hd; omega
    · exact h
  obtain ⟨N, hN⟩ : ∃ N : Int, a * d' + c * b' = N := ⟨_, rfl⟩
  rw [hN]
  have rp : 0 < Int.gcd N G := Int.gcd_pos_of_ne_zero_right N (by omega)
  obtain ⟨x, hx⟩ : (Int.gcd N G : Int) ∣ N := Int.gcd_dvd_left N G
  obtain ⟨G', hG'⟩ : (Int.gcd N G : Int) ∣ G := Int.gcd_dvd_right N G
  obtain ⟨R, hR⟩ : ∃ R : Int, (Int.gcd N G : Int) = R := ⟨_, rfl⟩
  rw [hR] at hx hG' ⊢
  have R0 : 0 < R := by omega
  have ex : N / R = x := by rw [hx]; exact Int.mul_ediv_cancel_left _ (by omega)
  have edr : d / R = G' * d' := by rw [hd, hG', Int.mul_assoc]; exact Int.mul_ediv_cancel_left _ (by omega)
  have G'0 : 0 < G' := by
    rcases Int.lt_trichotomy G' 0 with h | h | h
    · have := Int.mul_neg_of_pos_of_neg R0 h; omega
    · rw [h] at hG'; omega
    · exact h
  rw [ex, edr]
  have copx : Int.gcd x G' = 1 := cop_scale R0 (by rw [← hx, ← hG']; exact hR)
  have xN : x ∣ N := ⟨R, by rw [hx, Int.mul_comm]⟩
  have ab' : Int.gcd a b' = 1 := cop_symm (cop_dvd ⟨G, by rw [hb, Int.mul_comm]⟩ (cop_symm g1))
  have cd' : Int.gcd c d' = 1 := cop_symm (cop_dvd ⟨G, by rw [hd, Int.mul_comm]⟩ (cop_symm g2))
  have nb : Int.gcd N b' = 1 := by
    have h := cop_add (a := a * d') (b := b') (k := c) (cop_symm (cop_mul (cop_symm ab') cop))
    rw [Int.mul_comm b' c, hN] at h
    exact h
  have nd : Int.gcd N d' = 1 := by
    have h := cop_add (a := c * b') (b := d') (k := a) (cop_symm (cop_mul (cop_symm cd') (cop_symm cop)))
    rw [Int.mul_comm d' a, Int.add_comm, hN] at h
    exact h
  have id : x * (b * d) = (a * d + c * b) * (b' * (G' * d')) := by
    rw [hb, hd, hG']
    have h : R * x = a * d' + c * b' := by rw [hN]; exact hx.symm
    clear hb hd hG hR hN hx hG' eb ed ex edr
    grind
  refine ⟨x, b' * (G' * d'), rfl, Int.mul_pos b'0 (Int.mul_pos G'0 d'0), cop_mul (cop_dvd xN nb) (cop_mul copx (cop_dvd xN nd)), id, ?_, ?_⟩
  · have e : b * d = R * (G' * R) * (b' * (G' * d')) := by rw [hb, hd, hG']; grind
    rw [e]
    have h1 : 1 ≤ R * (G' * R) := Int.mul_pos R0 (Int.mul_pos G'0 R0)
    have h2 := Int.mul_le_mul_of_nonneg_right h1 (show 0 ≤ b' * (G' * d') from Int.le_of_lt (Int.mul_pos b'0 (Int.mul_pos G'0 d'0)))
    omega
  · have e : a * d + c * b = R * (G' * R) * x := by
      have h : R * x = a * d' + c * b' := by rw [hN]; exact hx.symm
      rw [hb, hd, hG']; grind
    rw [e, Int.natAbs_mul]
    have h1 : 0 < (R * (G' * R)).natAbs := by
      have := Int.mul_pos R0 (Int.mul_pos G'0 R0)
      omega
    exact Nat.le_mul_of_pos_left _ h1
theorem prodF_core {a b c d : Int} (h1 : fchk a b = 0) (h2 : fchk c d = 0) :
    ∃ x y : Int, prodF a b c d = limF x y ∧ 0 < y ∧ Int.gcd x y = 1 ∧ x * (b * d) = (a * c) * y ∧ y ≤ b * d ∧ x.natAbs ≤ (a * c).natAbs := by
  obtain ⟨b0, g1, _, _⟩ := valid_of h1
  obtain ⟨d0, g2, _, _⟩ := valid_of h2
  have gp : 0 < Int.gcd a d := Int.gcd_pos_of_ne_zero_right a (by omega)
  have kp : 0 < Int.gcd c b := Int.gcd_pos_of_ne_zero_right c (by omega)
  obtain ⟨a', ha⟩ : (Int.gcd a d : Int) ∣ a := Int.gcd_dvd_left a d
  obtain ⟨d', hd⟩ : (Int.gcd a d : Int) ∣ d := Int.gcd_dvd_right a d
  obtain ⟨c', hc⟩ : (Int.gcd c b : Int) ∣ c := Int.gcd_dvd_left c b
  obtain ⟨b', hb⟩ : (Int.gcd c b : Int) ∣ b := Int.gcd_dvd_right c b
  unfold prodF
  obtain ⟨G, hG⟩ : ∃ G : Int, (Int.gcd a d : Int) = G := ⟨_, rfl⟩
  obtain ⟨K, hK⟩ : ∃ K : Int, (Int.gcd c b : Int) = K := ⟨_, rfl⟩
  rw [hG] at ha hd ⊢
  rw [hK] at hc hb ⊢
  have G0 : 0 < G := by omega
  have K0 : 0 < K := by omega
  have ea : a / G = a' := by rw [ha]; exact Int.mul_ediv_cancel_left _ (by omega)
  have ed : d / G = d' := by rw [hd]; exact Int.mul_ediv_cancel_left _ (by omega)
  have ec : c / K = c' := by rw [hc]; exact Int.mul_ediv_cancel_left _ (by omega)
  have eb : b / K = b' := by rw [hb]; exact Int.mul_ediv_cancel_left _ (by omega)
  rw [ea, ed, ec, eb]
  have p1 : Int.gcd a' d' = 1 := cop_scale G0 (by rw [← ha, ← hd]; exact hG)
  have p2 : Int.gcd c' b' = 1 := cop_scale K0 (by rw [← hc, ← hb]; exact hK)
  have b'0 : 0 < b' := by
    rcases Int.lt_trichotomy b' 0 with h | h | h
    · have := Int.mul_neg_of_pos_of_neg K0 h; omega
    · rw [h] at hb; omega
    · exact h
  have d'0 : 0 < d' := by
    rcases Int.lt_trichotomy d' 0 with h | h | h
    · have := Int.mul_neg_of_pos_of_neg G0 h; omega
    · rw [h] at hd; omega
    · exact h
  have da : a' ∣ a := ⟨G, by rw [ha, Int.mul_comm]⟩
  have dc : c' ∣ c := ⟨K, by rw [hc, Int.mul_comm]⟩
  have db : b' ∣ b := ⟨K, by rw [hb, Int.mul_comm]⟩
  have dd : d' ∣ d := ⟨G, by rw [hd, Int.mul_comm]⟩
  have p3 : Int.gcd a' b' = 1 := cop_dvd da (cop_symm (cop_dvd db (cop_symm g1)))
  have p4 : Int.gcd c' d' = 1 := cop_dvd dc (cop_symm (cop_dvd dd (cop_symm g2)))
  refine ⟨a' * c', b' * d', rfl, Int.mul_pos b'0 d'0, cop_mul (cop_symm (cop_mul (cop_symm p3) (cop_symm p2))) (cop_symm (cop_mul (cop_symm p1) (cop_symm p4))), ?_, ?_, ?_⟩
  · rw [ha, hb, hc, hd]
    clear ha hb hc hd ea eb ec ed hG hK
    grind
  · have e : b * d = K * G * (b' * d') := by rw [hb, hd]; grind
    rw [e]
    have h1 : 1 ≤ K * G := Int.mul_pos K0 G0
    have h2 := Int.mul_le_mul_of_nonneg_right h1 (show 0 ≤ b' * d' from Int.le_of_lt (Int.mul_pos b'0 d'0))
    omega
  · have e : a * c = G * K * (a' * c') := by rw [ha, hc]; grind
    rw [e, Int.natAbs_mul (G * K)]
    have h1 : 0 < (G * K).natAbs := by
      have := Int.mul_pos G0 K0
      omega
    exact Nat.le_mul_of_pos_left _ h1

/-- The number that a fraction is. -/
def val (n d : Int) : Rat := (n : Rat) / (d : Rat)
theorem cast_ne {b : Int} (h : 0 < b) : (b : Rat) ≠ 0 := by
  intro h0
  have : b = 0 := by exact_mod_cast h0
  omega
theorem val_unique {a b c d : Int} (h1 : fchk a b = 0) (h2 : fchk c d = 0) (h : val a b = val c d) : a = c ∧ b = d := by
  obtain ⟨b0, g1, _, _⟩ := valid_of h1
  obtain ⟨d0, g2, _, _⟩ := valid_of h2
  have hb := cast_ne b0
  have hd := cast_ne d0
  unfold val at h
  have e : (a : Rat) * (d : Rat) = (c : Rat) * (b : Rat) := by grind
  exact lowest b0 d0 g1 g2 (by exact_mod_cast e)
theorem limF_in {x y : Int} (h1 : x.natAbs ≤ 1000000000000000) (h2 : y ≤ 1000000000000000) : limF x y = (x, y, 0) := by
  unfold limF
  rw [if_neg (by omega)]
theorem mul_abs_le {a b : Int} {A B : Nat} (h1 : a.natAbs ≤ A) (h2 : b.natAbs ≤ B) : (a * b).natAbs ≤ A * B := by
  rw [Int.natAbs_mul]; exact Nat.mul_le_mul h1 h2
theorem sum_small {a b c d : Int} (A B C D : Nat) (h1 : fchk a b = 0) (h2 : fchk c d = 0) (ha : a.natAbs ≤ A) (hb : b.natAbs ≤ B) (hc : c.natAbs ≤ C) (hd : d.natAbs ≤ D) (hN : A * D + C * B ≤ 1000000000000000) (hD : B * D ≤ 1000000000000000) :
    ∃ x y : Int, sumF a b c d = (x, y, 0) ∧ fchk x y = 0 ∧ val x y = val a b + val c d ∧ x.natAbs ≤ A * D + C * B ∧ y.natAbs ≤ B * D := by
  obtain ⟨x, y, e, y0, g, id, ly, lx⟩ := sumF_core h1 h2
  obtain ⟨b0, _, _, _⟩ := valid_of h1
  obtain ⟨d0, _, _, _⟩ := valid_of h2
  have k1 := mul_abs_le ha hd
  have k2 := mul_abs_le hc hb
  have k3 := mul_abs_le hb hd
  have p := Int.mul_pos b0 d0
  have lx2 : x.natAbs ≤ A * D + C * B := by omega
  have ly2 : y.natAbs ≤ B * D := by omega
  refine ⟨x, y, by rw [e, limF_in (by omega) (by omega)], valid_mk y0 g (by omega) (by omega), ?_, lx2, ly2⟩
  have hy := cast_ne y0
  have hb' := cast_ne b0
  have hd' := cast_ne d0
  have id2 : (x : Rat) * ((b : Rat) * (d : Rat)) = ((a : Rat) * (d : Rat) + (c : Rat) * (b : Rat)) * (y : Rat) := by exact_mod_cast id
  unfold val
  grind
theorem prod_small {a b c d : Int} (A B C D : Nat) (h1 : fchk a b = 0) (h2 : fchk c d = 0) (ha : a.natAbs ≤ A) (hb : b.natAbs ≤ B) (hc : c.natAbs ≤ C) (hd : d.natAbs ≤ D) (hN : A * C ≤ 1000000000000000) (hD : B * D ≤ 1000000000000000) :
    ∃ x y : Int, prodF a b c d = (x, y, 0) ∧ fchk x y = 0 ∧ val x y = val a b * val c d ∧ x.natAbs ≤ A * C ∧ y.natAbs ≤ B * D := by
  obtain ⟨x, y, e, y0, g, id, ly, lx⟩ := prodF_core h1 h2
  obtain ⟨b0, _, _, _⟩ := valid_of h1
  obtain ⟨d0, _, _, _⟩ := valid_of h2
  have k1 := mul_abs_le ha hc
  have k3 := mul_abs_le hb hd
  have p := Int.mul_pos b0 d0
  have lx2 : x.natAbs ≤ A * C := by omega
  have ly2 : y.natAbs ≤ B * D := by omega
  refine ⟨x, y, by rw [e, limF_in (by omega) (by omega)], valid_mk y0 g (by omega) (by omega), ?_, lx2, ly2⟩
  have hy := cast_ne y0
  have hb' := cast_ne b0
  have hd' := cast_ne d0
  have id2 : (x : Rat) * ((b : Rat) * (d : Rat)) = ((a : Rat) * (c : Rat)) * (y : Rat) := by exact_mod_cast id
  unfold val
  grind
end Sp
namespace Sp
theorem fits_of {n d : Int} (h : fchk n d = 0) : n.natAbs ≤ 1000000000000000 ∧ d.natAbs ≤ 1000000000000000 := by
  obtain ⟨d0, n0, n1, d1, _⟩ := fchk_zero.1 h
  omega
theorem fchk_neg {n d : Int} (h : fchk n d = 0) : fchk (-n) d = 0 := by
  rw [fchk_zero] at h ⊢
  rw [Int.neg_gcd]; omega
theorem val_neg (n d : Int) : val (-n) d = -val n d := by
  unfold val
  rw [Rat.intCast_neg]
  grind
theorem add_of {a b c d : Int} {r : Int × Int × Int} (h1 : fchk a b = 0) (h2 : fchk c d = 0) (h : sumF a b c d = r) : addF a b c d = r := by
  unfold addF
  rw [if_neg (by have := bothF_zero.2 ⟨h1, h2⟩; omega)]; exact h
theorem sub_of {a b c d : Int} {r : Int × Int × Int} (h1 : fchk a b = 0) (h2 : fchk c d = 0) (h : sumF a b (-c) d = r) : subF a b c d = r := by
  unfold subF
  rw [if_neg (by have := bothF_zero.2 ⟨h1, h2⟩; omega)]; exact h
theorem mul_of {a b c d : Int} {r : Int × Int × Int} (h1 : fchk a b = 0) (h2 : fchk c d = 0) (h : prodF a b c d = r) : mulF a b c d = r := by
  unfold mulF
  rw [if_neg (by have := bothF_zero.2 ⟨h1, h2⟩; omega)]; exact h
theorem div_back {a1 a2 b1 b2 y1 y2 : Int} (ha : fchk a1 a2 = 0) (hb : fchk b1 b2 = 0) (hy : fchk y1 y2 = 0) (vy : val y1 y2 = val b1 b2 * val a1 a2) (Y1 : y1.natAbs ≤ 1073741824) (Y2 : y2.natAbs ≤ 65536) (B1 : b1.natAbs ≤ 32768) (B2 : b2.natAbs ≤ 256) (h0 : ¬ b1 = 0) :
    divF y1 y2 b1 b2 = (a1, a2, 0) := by
  unfold divF
  rw [if_neg (by have := bothF_zero.2 ⟨hy, hb⟩; omega), if_neg h0]
  obtain ⟨b0, g1, k1, k2⟩ := valid_of hb
  have hb2 := cast_ne b0
  by_cases hn : b1 < 0
  · rw [if_pos hn]
    have hr : fchk (-b2) (-b1) = 0 := by
      rw [fchk_zero] at hb ⊢
      rw [Int.gcd_comm, Int.neg_gcd, Int.gcd_neg]; omega
    have hb1 := cast_ne (show 0 < -b1 by omega)
    have E1 : ((-b1 : Int) : Rat) = -(b1 : Rat) := Rat.intCast_neg b1
    have E2 : ((-b2 : Int) : Rat) = -(b2 : Rat) := Rat.intCast_neg b2
    obtain ⟨m, hm⟩ : ∃ m : Int, -b2 = m := ⟨_, rfl⟩
    obtain ⟨n, hnn⟩ : ∃ n : Int, -b1 = n := ⟨_, rfl⟩
    rw [hm] at hr E2 ⊢
    rw [hnn] at hr hb1 E1 ⊢
    have M1 : m.natAbs ≤ 256 := by omega
    have M2 : n.natAbs ≤ 32768 := by omega
    obtain ⟨q1, q2, eq, hq, vq, -, -⟩ := prod_small 1073741824 65536 256 32768 hy hr Y1 Y2 M1 M2 (by decide) (by decide)
    obtain ⟨rfl, rfl⟩ := val_unique hq ha (by
      rw [vq, vy]
      unfold val
      rw [E1, E2]
      rw [E1] at hb1
      clear hm hnn
      grind)
    exact eq
  · rw [if_neg hn]
    have hr : fchk b2 b1 = 0 := by
      rw [fchk_zero] at hb ⊢
      rw [Int.gcd_comm]; omega
    obtain ⟨q1, q2, eq, hq, vq, -, -⟩ := prod_small 1073741824 65536 256 32768 hy hr Y1 Y2 B2 B1 (by decide) (by decide)
    have hb1 := cast_ne (show 0 < b1 by omega)
    obtain ⟨rfl, rfl⟩ := val_unique hq ha (by
      rw [vq, vy]
      unfold val
      grind)
    exact eq
/-- What FractionLaws computes, for three small fractions. -/
structure LawVals (a1 a2 b1 b2 c1 c2 p1 p2 s1 s2 l1 l2 x1 x2 y1 y2 z1 z2 : Int) : Prop where
  ab : addF a1 a2 b1 b2 = (p1, p2, 0)
  ba : addF b1 b2 a1 a2 = (p1, p2, 0)
  le : addF p1 p2 c1 c2 = (l1, l2, 0)
  bc : addF b1 b2 c1 c2 = (s1, s2, 0)
  ri : addF a1 a2 s1 s2 = (l1, l2, 0)
  mx : mulF a1 a2 s1 s2 = (x1, x2, 0)
  my : mulF a1 a2 b1 b2 = (y1, y2, 0)
  mz : mulF a1 a2 c1 c2 = (z1, z2, 0)
  aw : addF y1 y2 z1 z2 = (x1, x2, 0)
  mv : mulF b1 b2 a1 a2 = (y1, y2, 0)
  su : subF p1 p2 b1 b2 = (a1, a2, 0)
  dz : b1 = 0 → divF y1 y2 b1 b2 = (0, 0, 18)
  dn : ¬ b1 = 0 → divF y1 y2 b1 b2 = (a1, a2, 0)
  fp : p1.natAbs ≤ 1000000000000000 ∧ p2.natAbs ≤ 1000000000000000
  fs : s1.natAbs ≤ 1000000000000000 ∧ s2.natAbs ≤ 1000000000000000
  fy : y1.natAbs ≤ 1000000000000000 ∧ y2.natAbs ≤ 1000000000000000
  fz : z1.natAbs ≤ 1000000000000000 ∧ z2.natAbs ≤ 1000000000000000
set_option maxHeartbeats 800000 in
theorem laws_math {a1 a2 b1 b2 c1 c2 : Int} (ha : fchk a1 a2 = 0) (hb : fchk b1 b2 = 0) (hc : fchk c1 c2 = 0) (A1 : a1.natAbs ≤ 32768) (A2 : a2.natAbs ≤ 256) (B1 : b1.natAbs ≤ 32768) (B2 : b2.natAbs ≤ 256) (C1 : c1.natAbs ≤ 32768) (C2 : c2.natAbs ≤ 256) :
    ∃ p1 p2 s1 s2 l1 l2 x1 x2 y1 y2 z1 z2, LawVals a1 a2 b1 b2 c1 c2 p1 p2 s1 s2 l1 l2 x1 x2 y1 y2 z1 z2 := by
  obtain ⟨p1, p2, ep, hp, vp, lp1, lp2⟩ := sum_small 32768 256 32768 256 ha hb A1 A2 B1 B2 (by omega) (by omega)
  obtain ⟨p1', p2', ep', hp', vp', -, -⟩ := sum_small 32768 256 32768 256 hb ha B1 B2 A1 A2 (by omega) (by omega)
  obtain ⟨s1, s2, es, hs, vs, ls1, ls2⟩ := sum_small 32768 256 32768 256 hb hc B1 B2 C1 C2 (by omega) (by omega)
  obtain ⟨l1, l2, el, hl, vl, -, -⟩ := sum_small 16777216 65536 32768 256 hp hc (by omega) (by omega) C1 C2 (by omega) (by omega)
  obtain ⟨l1', l2', el', hl', vl', -, -⟩ := sum_small 32768 256 16777216 65536 ha hs A1 A2 (by omega) (by omega) (by omega) (by omega)
  obtain ⟨x1, x2, ex, hx, vx, -, -⟩ := prod_small 32768 256 16777216 65536 ha hs A1 A2 (by omega) (by omega) (by omega) (by omega)
  obtain ⟨y1, y2, ey, hy, vy, ly1, ly2⟩ := prod_small 32768 256 32768 256 ha hb A1 A2 B1 B2 (by omega) (by omega)
  obtain ⟨y1', y2', ey', hy', vy', -, -⟩ := prod_small 32768 256 32768 256 hb ha B1 B2 A1 A2 (by omega) (by omega)
  obtain ⟨z1, z2, ez, hz, vz, lz1, lz2⟩ := prod_small 32768 256 32768 256 ha hc A1 A2 C1 C2 (by omega) (by omega)
  obtain ⟨w1, w2, ew, hw, vw, -, -⟩ := sum_small 1073741824 65536 1073741824 65536 hy hz (by omega) (by omega) (by omega) (by omega) (by omega) (by omega)
  obtain ⟨m, hm⟩ : ∃ m : Int, m = -b1 := ⟨_, rfl⟩
  have hmb : fchk m b2 = 0 := by rw [hm]; exact fchk_neg hb
  have M1 : m.natAbs ≤ 32768 := by omega
  obtain ⟨u1, u2, eu, hu, vu, -, -⟩ := sum_small 16777216 65536 32768 256 hp hmb (by omega) (by omega) M1 B2 (by omega) (by omega)
  obtain ⟨rfl, rfl⟩ := val_unique hp' hp (by rw [vp, vp']; grind)
  obtain ⟨rfl, rfl⟩ := val_unique hl' hl (by rw [vl, vl', vs, vp']; grind)
  obtain ⟨rfl, rfl⟩ := val_unique hy' hy (by rw [vy, vy']; grind)
  obtain ⟨rfl, rfl⟩ := val_unique hw hx (by rw [vw, vx, vs, vy', vz]; grind)
  obtain ⟨rfl, rfl⟩ := val_unique hu ha (by rw [vu, vp', hm, val_neg]; grind)
  refine ⟨_, _, s1, s2, _, _, _, _, _, _, z1, z2, ⟨add_of ha hb ep, add_of hb ha ep', add_of hp hc el, add_of hb hc es, add_of ha hs el', mul_of ha hs ex, mul_of ha hb ey, mul_of ha hc ez, add_of hy hz ew, mul_of hb ha ey', sub_of hp hb (by rw [← hm]; exact eu), fun h0 => ?_, fun h0 => ?_, fits_of hp, fits_of hs, fits_of hy, fits_of hz⟩⟩
  · unfold divF
    rw [if_neg (by have := bothF_zero.2 ⟨hy, hb⟩; omega), if_pos h0]
  · exact div_back ha hb hy vy' (by omega) (by omega) B1 B2 h0
end Sp
end Go.Proofs.Ytdimncchejbaaaa
