/-
  The functions of package fraction, each by a contract: product of every two valid fractions.
-/
import Derived.Test.YtdimncchejbaaaaFprod
namespace Go.Proofs.Ytdimncchejbaaaa
open Go.RowKit
set_option linter.unusedVariables false

theorem fmag_pos (b : Int) (b0 : 0 ≤ b) (b1 : b ≤ 9223372036854775807) (w : World) : Calls Try.prog 75 #[.int .i64 b] w fun e w' => e = .returned (.int .u64 b) ∧ w' = w := by
  have h := fmag_any b (by omega) b1 w
  have e : (b.natAbs : Int) = b := by omega
  rw [e] at h
  exact h
theorem wrap_in {x : Int} (h : x.natAbs ≤ 1000000000000000) : IntKind.i64.wrap x = x := IntWalk.i64_in _ (by omega)
/-- An exact quotient by a common divisor. -/
theorem quo_facts {n g : Int} (g0 : 0 < g) (h : g ∣ n) (hn : n.natAbs ≤ 1000000000000000) : n.tdiv g = n / g ∧ IntKind.i64.wrap (n / g) = n / g ∧ (n / g).natAbs ≤ 1000000000000000 := by
  have e := Sp.div_exact_of g0 h
  have b := Sp.div_abs_le g0 h
  exact ⟨e.1, wrap_in (by omega), by omega⟩
theorem mul_fits {x y : Int} (hx : x.natAbs ≤ 1000000000000000) (hy : y.natAbs ≤ 1000000000000000) : (x * y).natAbs ≤ 1000000000000000000000000000000 := by
  rw [Int.natAbs_mul]
  have := Nat.mul_le_mul hx hy
  omega
theorem fprod_any (a b c d : Int) (h1 : Sp.fchk a b = 0) (h2 : Sp.fchk c d = 0) (x y e : Int) (hv : Sp.prodF a b c d = (x, y, e)) (w : World) :
    Calls Try.prog 81 #[.agg #[.int .i64 a, .int .i64 b], .agg #[.int .i64 c, .int .i64 d]] w (Gives (.tuple #[.agg #[.int .i64 x, .int .i64 y], .int .i64 e]) w) := by
  obtain ⟨b0, a0, a1, b1, _⟩ := Sp.fchk_zero.1 h1
  obtain ⟨d0, c0, c1, d1, _⟩ := Sp.fchk_zero.1 h2
  unfold Sp.prodF at hv
  have gp : 0 < Int.gcd a d := Int.gcd_pos_of_ne_zero_right a (by omega)
  have kp : 0 < Int.gcd c b := Int.gcd_pos_of_ne_zero_right c (by omega)
  have g1 : (Int.gcd a d : Int) ∣ a := Int.gcd_dvd_left a d
  have g2 : (Int.gcd a d : Int) ∣ d := Int.gcd_dvd_right a d
  have k1 : (Int.gcd c b : Int) ∣ c := Int.gcd_dvd_left c b
  have k2 : (Int.gcd c b : Int) ∣ b := Int.gcd_dvd_right c b
  have gl : (Int.gcd a d : Int) ≤ d := Int.le_of_dvd d0 g2
  have kl : (Int.gcd c b : Int) ≤ b := Int.le_of_dvd b0 k2
  obtain ⟨G, hG⟩ : ∃ G, Int.gcd a d = G := ⟨_, rfl⟩
  obtain ⟨K, hK⟩ : ∃ K, Int.gcd c b = K := ⟨_, rfl⟩
  have hG2 : Int.gcd (a.natAbs : Int) d = G := by rw [← hG]; simp [Int.gcd]
  have hK2 : Int.gcd (c.natAbs : Int) b = K := by rw [← hK]; simp [Int.gcd]
  rw [hG] at gp g1 g2 gl hv
  rw [hK] at kp k1 k2 kl hv
  have dv := fun w => fdivisor_any (a.natAbs : Int) d (by omega) (by omega) (by omega) (by omega) G hG2 w
  have dv2 := fun w => fdivisor_any (c.natAbs : Int) b (by omega) (by omega) (by omega) (by omega) K hK2 w
  obtain ⟨g, hg⟩ : ∃ g : Int, (G : Int) = g := ⟨_, rfl⟩
  obtain ⟨k, hk⟩ : ∃ k : Int, (K : Int) = k := ⟨_, rfl⟩
  rw [hg] at g1 g2 gl hv
  rw [hk] at k1 k2 kl hv
  simp only [hg] at dv
  simp only [hk] at dv2
  have qa := quo_facts (by omega) g1 (show a.natAbs ≤ 1000000000000000 by omega)
  have qd := quo_facts (by omega) g2 (show d.natAbs ≤ 1000000000000000 by omega)
  have qc := quo_facts (by omega) k1 (show c.natAbs ≤ 1000000000000000 by omega)
  have qb := quo_facts (by omega) k2 (show b.natAbs ≤ 1000000000000000 by omega)
  have nd := Int.ediv_nonneg (show 0 ≤ d by omega) (show 0 ≤ g by omega)
  have nb := Int.ediv_nonneg (show 0 ≤ b by omega) (show 0 ≤ k by omega)
  generalize a / g = a' at *
  generalize c / k = c' at *
  generalize b / k = b' at *
  generalize d / g = d' at *
  have s1 := mul_fits qa.2.2 qc.2.2
  have s2 := mul_fits qb.2.2 qd.2.2
  have s3 : 0 ≤ b' * d' := Int.mul_nonneg nb nd
  obtain ⟨⟨nx, hx, lx⟩, hX⟩ : ∃ q, Wd.ofInt (a' * c') = q := ⟨_, rfl⟩
  obtain ⟨⟨ny, hy, ly⟩, hY⟩ : ∃ q, Wd.ofInt (b' * d') = q := ⟨_, rfl⟩
  exact fprod_walk a b c d _ _ g k a' c' b' d' nx hx lx ny hy ly x y e w (by simp; omega) (by omega) (wrap_in (by omega)) (by simp; omega) (by omega) (wrap_in (by omega)) (by omega) (by omega)
    qa.1 qa.2.1 qc.1 qc.2.1 qb.1 qb.2.1 qd.1 qd.2.1 (fun w => fmag_any a (by omega) (by omega) w) (fun w => fmag_pos b (by omega) (by omega) w) (fun w => fmag_any c (by omega) (by omega) w) (fun w => fmag_pos d (by omega) (by omega) w) dv dv2
    (fun w => mul_any a' c' (by omega) (by omega) (by omega) (by omega) nx hx lx hX w) (fun w => mul_any b' d' (by omega) (by omega) (by omega) (by omega) ny hy ly hY w)
    (fun w => flimited_any _ _ s3 (by omega) (by omega) nx hx lx ny hy ly hX hY x y e hv w)
end Go.Proofs.Ytdimncchejbaaaa
