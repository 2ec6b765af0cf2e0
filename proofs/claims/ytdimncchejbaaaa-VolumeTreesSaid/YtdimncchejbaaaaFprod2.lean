/-
  The functions of package fraction, each by a contract: sum of every two valid fractions.
-/
import Derived.Test.YtdimncchejbaaaaFprod1
import Derived.Test.YtdimncchejbaaaaFsum
namespace Go.Proofs.Ytdimncchejbaaaa
open Go.RowKit
set_option linter.unusedVariables false

theorem fsum_any (a b c d : Int) (h1 : Sp.fchk a b = 0) (h2 : Sp.fchk c d = 0) (x y e : Int) (hv : Sp.sumF a b c d = (x, y, e)) (w : World) :
    Calls Try.prog 97 #[.agg #[.int .i64 a, .int .i64 b], .agg #[.int .i64 c, .int .i64 d]] w (Gives (.tuple #[.agg #[.int .i64 x, .int .i64 y], .int .i64 e]) w) := by
  obtain ⟨b0, a0, a1, b1, _⟩ := Sp.fchk_zero.1 h1
  obtain ⟨d0, c0, c1, d1, _⟩ := Sp.fchk_zero.1 h2
  unfold Sp.sumF at hv
  have gp : 0 < Int.gcd b d := Int.gcd_pos_of_ne_zero_right b (by omega)
  have g1 : (Int.gcd b d : Int) ∣ b := Int.gcd_dvd_left b d
  have g2 : (Int.gcd b d : Int) ∣ d := Int.gcd_dvd_right b d
  have gl : (Int.gcd b d : Int) ≤ d := Int.le_of_dvd d0 g2
  have hN : Sp.sumN a b c d = a * (d / (Int.gcd b d : Int)) + c * (b / (Int.gcd b d : Int)) := rfl
  have hR : Sp.sumR a b c d = (Int.gcd (Sp.sumN a b c d) (Int.gcd b d : Int) : Int) := rfl
  have rp : 0 < Int.gcd (Sp.sumN a b c d) (Int.gcd b d : Int) := Int.gcd_pos_of_ne_zero_right _ (by omega)
  have r1 : (Int.gcd (Sp.sumN a b c d) (Int.gcd b d : Int) : Int) ∣ Sp.sumN a b c d := Int.gcd_dvd_left _ _
  have r2 : (Int.gcd (Sp.sumN a b c d) (Int.gcd b d : Int) : Int) ∣ (Int.gcd b d : Int) := Int.gcd_dvd_right _ _
  rw [← hR] at r1 r2
  have rl : Sp.sumR a b c d ≤ (Int.gcd b d : Int) := Int.le_of_dvd (by omega) r2
  have rp2 : 0 < Sp.sumR a b c d := by rw [hR]; omega
  have gcS : Int.gcd (Sp.sumN a b c d) (Int.gcd b d : Int) = (Sp.sumR a b c d).natAbs := by rw [hR]; simp
  clear hR rp
  generalize Sp.sumN a b c d = N at *
  generalize Sp.sumR a b c d = R at *
  obtain ⟨G, hG⟩ : ∃ G, Int.gcd b d = G := ⟨_, rfl⟩
  rw [hG] at gp g1 g2 gl hv hN r2 rl gcS
  have dv := fun w => fdivisor_any b d (by omega) (by omega) (by omega) (by omega) G hG w
  obtain ⟨g, hg⟩ : ∃ g : Int, (G : Int) = g := ⟨_, rfl⟩
  rw [hg] at g1 g2 gl hv hN r2 rl gcS
  simp only [hg] at dv
  have qd := quo_facts (by omega) g2 (show d.natAbs ≤ 1000000000000000 by omega)
  have qb := quo_facts (by omega) g1 (show b.natAbs ≤ 1000000000000000 by omega)
  have qr := quo_facts rp2 (Int.dvd_trans r2 g2) (show d.natAbs ≤ 1000000000000000 by omega)
  have nb := Int.ediv_nonneg (show 0 ≤ b by omega) (show 0 ≤ g by omega)
  have nr := Int.ediv_nonneg (show 0 ≤ d by omega) (show 0 ≤ R by omega)
  generalize d / g = d' at *
  generalize b / g = b' at *
  generalize d / R = d2 at *
  have s1 := mul_fits (show a.natAbs ≤ 1000000000000000 by omega) qd.2.2
  have s2 := mul_fits (show c.natAbs ≤ 1000000000000000 by omega) qb.2.2
  have s3 := mul_fits qb.2.2 qr.2.2
  have s4 : 0 ≤ b' * d2 := Int.mul_nonneg nb nr
  have eN := Sp.div_exact_of rp2 r1
  have bN := Sp.div_abs_le rp2 r1
  have fd : N.fdiv R = N / R := Int.fdiv_eq_ediv_of_nonneg _ (by omega)
  obtain ⟨⟨nx, hx, lx⟩, hX⟩ : ∃ q, Wd.ofInt (a * d') = q := ⟨_, rfl⟩
  obtain ⟨⟨ny, hy, ly⟩, hY⟩ : ∃ q, Wd.ofInt (c * b') = q := ⟨_, rfl⟩
  obtain ⟨⟨nn, hn, ln⟩, hNN⟩ : ∃ q, Wd.ofInt N = q := ⟨_, rfl⟩
  obtain ⟨⟨nQ, hQ, lQ⟩, hQQ⟩ : ∃ q, Wd.ofInt (N / R) = q := ⟨_, rfl⟩
  obtain ⟨⟨nd, hd, ld⟩, hD⟩ : ∃ q, Wd.ofInt (b' * d2) = q := ⟨_, rfl⟩
  have kN : N.natAbs < 170141183460469231731687303715884105728 := by omega
  have fX := Wd.fits_ofInt (a * d') (by omega)
  have fY := Wd.fits_ofInt (c * b') (by omega)
  have fN := Wd.fits_ofInt N (by omega)
  have kX := Wd.chk_ofInt (a * d') (by omega)
  have kY := Wd.chk_ofInt (c * b') (by omega)
  have kN2 := Wd.chk_ofInt N kN
  have tX := Wd.toInt_ofInt (a * d')
  have tY := Wd.toInt_ofInt (c * b')
  have tN := Wd.toInt_ofInt N
  have mN := Wd.mag_ofInt N
  rw [hX] at fX kX tX
  rw [hY] at fY kY tY
  rw [hNN] at fN kN2 tN mN
  have hadd : Wd.addS ⟨nx, hx, lx⟩ ⟨ny, hy, ly⟩ = (⟨nn, hn, ln⟩, 0) := by
    unfold Wd.addS
    rw [kX, kY, tX, tY, if_neg (by simp), if_neg (by simp), ← hN]
    unfold Wd.lim
    rw [if_pos kN, hNN]
  have hgcd : Wd.gcdS ⟨nn, hn, ln⟩ g = (R, 0) := by
    unfold Wd.gcdS
    have e1 : Int.gcd (Wd.mag ⟨nn, hn, ln⟩) g = R.natAbs := by
      rw [mN, ← gcS]; simp [Int.gcd]
    rw [kN2, if_neg (by simp), e1, if_pos (by omega)]
    simp; omega
  have hdiv : Wd.divS ⟨nn, hn, ln⟩ R = (⟨nQ, hQ, lQ⟩, N.fmod R, 0) := by
    unfold Wd.divS
    rw [kN2, tN, if_neg (by simp), if_neg (by omega), fd, hQQ]
  exact fsum_walk a b c d g b' d' R d2 nx hx lx ny hy ly nn hn ln nQ hQ lQ (N.fmod R) nd hd ld x y e w (by simp; omega) (by omega) (by omega) (wrap_in (by omega)) (by simp; omega) (by omega) (by omega)
    qd.1 qd.2.1 qb.1 qb.2.1 qr.1 qr.2.1 (fun w => fmag_pos b (by omega) (by omega) w) (fun w => fmag_pos d (by omega) (by omega) w) dv
    (fun w => mul_any a d' (by omega) (by omega) (by omega) (by omega) nx hx lx hX w) (fun w => mul_any c b' (by omega) (by omega) (by omega) (by omega) ny hy ly hY w)
    (fun w => add_any _ _ _ _ _ _ fX fY _ _ _ _ hadd w) (fun w => gcd_any _ _ _ _ fN (by omega) (by omega) _ _ hgcd w) (fun w => divFloor_any _ _ _ _ fN (by omega) (by omega) _ _ _ _ _ hdiv w)
    (fun w => mul_any b' d2 (by omega) (by omega) (by omega) (by omega) nd hd ld hD w)
    (fun w => flimited_any _ _ s4 (by omega) (by omega) nQ hQ lQ nd hd ld hQQ hD x y e hv w)
end Go.Proofs.Ytdimncchejbaaaa
