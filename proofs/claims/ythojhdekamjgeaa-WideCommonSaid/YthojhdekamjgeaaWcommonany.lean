/-
  WideCommon: its numbers.
-/
import Derived.Test.YthojhdekamjgeaaWcommon
namespace Go.Proofs.Ythojhdekamjgeaa
open Go.RowKit
set_option linter.unusedVariables false

theorem fdiv_bound {N d : Int} (hd : d ≠ 0) : (N.fdiv d).natAbs ≤ N.natAbs + 1 := by
  have h := Int.fmod_add_mul_fdiv N d
  have hr : (N.fmod d).natAbs < d.natAbs := by
    rcases Int.lt_or_gt_of_ne hd with h1 | h1
    · have h2 := ((Int.fdiv_fmod_unique' h1).1 ⟨rfl, rfl⟩ : N.fmod d + d * N.fdiv d = N ∧ d < N.fmod d ∧ N.fmod d ≤ 0)
      omega
    · have h2 := ((Int.fdiv_fmod_unique h1).1 ⟨rfl, rfl⟩ : N.fmod d + d * N.fdiv d = N ∧ 0 ≤ N.fmod d ∧ N.fmod d < d)
      omega
  have hm : (d * N.fdiv d).natAbs = d.natAbs * (N.fdiv d).natAbs := Int.natAbs_mul _ _
  apply Nat.le_of_not_lt
  intro hc
  have h3 : d.natAbs * (N.natAbs + 2) ≤ d.natAbs * (N.fdiv d).natAbs := Nat.mul_le_mul_left _ hc
  have h4 : 1 * N.natAbs ≤ d.natAbs * N.natAbs := Nat.mul_le_mul_right _ (by omega)
  rw [Nat.mul_add] at h3
  omega
theorem fmod_sign {N d : Int} (hd : d ≠ 0) : N.fmod d = 0 ∨ ((N.fmod d == 0) = false ∧ decide (N.fmod d < 0) = decide (d < 0)) := by
  by_cases h0 : N.fmod d = 0
  · exact Or.inl h0
  · refine Or.inr ⟨by simp; exact h0, ?_⟩
    rcases Int.lt_or_gt_of_ne hd with h1 | h1
    · have h2 := ((Int.fdiv_fmod_unique' h1).1 ⟨rfl, rfl⟩ : N.fmod d + d * N.fdiv d = N ∧ d < N.fmod d ∧ N.fmod d ≤ 0)
      rw [decide_eq_true (show N.fmod d < 0 by omega), decide_eq_true h1]
    · have h2 := ((Int.fdiv_fmod_unique h1).1 ⟨rfl, rfl⟩ : N.fmod d + d * N.fdiv d = N ∧ 0 ≤ N.fmod d ∧ N.fmod d < d)
      rw [decide_eq_false (show ¬ N.fmod d < 0 by omega), decide_eq_false (by omega)]
theorem fmod_range {N d : Int} (hd : d ≠ 0) (d0 : -9223372036854775808 ≤ d) (d1 : d ≤ 9223372036854775807) : -9223372036854775808 ≤ N.fmod d ∧ N.fmod d ≤ 9223372036854775807 := by
  rcases Int.lt_or_gt_of_ne hd with h1 | h1
  · have h2 := ((Int.fdiv_fmod_unique' h1).1 ⟨rfl, rfl⟩ : N.fmod d + d * N.fdiv d = N ∧ d < N.fmod d ∧ N.fmod d ≤ 0)
    omega
  · have h2 := ((Int.fdiv_fmod_unique h1).1 ⟨rfl, rfl⟩ : N.fmod d + d * N.fdiv d = N ∧ 0 ≤ N.fmod d ∧ N.fmod d < d)
    omega
theorem form_of {z : Int} {n : Bool} {h l : Int} (hz : z.natAbs < 170141183460469231731687303715884105728) (he : Wd.ofInt z = ⟨n, h, l⟩) : Wd.Fits ⟨n, h, l⟩ ∧ Wd.chk ⟨n, h, l⟩ = 0 ∧ Wd.toInt ⟨n, h, l⟩ = z := by
  rw [← he]; exact ⟨Wd.fits_ofInt z (by omega), Wd.chk_ofInt z hz, Wd.toInt_ofInt z⟩
theorem common_any (a b d : Int) (a0 : -9223372036854775808 ≤ a) (a1 : a ≤ 9223372036854775807) (b0 : -9223372036854775808 ≤ b) (b1 : b ≤ 9223372036854775807) (d0 : -9223372036854775808 ≤ d) (d1 : d ≤ 9223372036854775807) (w : World) :
    Calls Try.prog 9 #[.int .i64 a, .int .i64 b, .int .i64 d] w (Gives (.bool true) w) := by
  obtain ⟨⟨nx, hx, lx⟩, hX⟩ : ∃ x, Wd.ofInt (a * b) = x := ⟨_, rfl⟩
  have hbig := nat_mul_le (a := a) (b := b) (c := 9223372036854775808) (by omega) (by omega) (by omega)
  rw [← Int.natCast_mul, ← Int.natAbs_mul] at hbig
  have mab := fun w => mul_any a b a0 a1 b0 b1 nx hx lx hX w
  generalize a * b = N at *
  obtain ⟨fx, kx, tx⟩ := form_of (z := N) (by omega) hX
  by_cases dz : d = 0
  · subst dz
    refine common_zero a b nx hx lx w mab (fun w => divFloor_any nx hx lx 0 fx (by omega) (by omega) false 0 0 0 18 ?_ w)
    unfold Wd.divS; rw [kx, if_neg (by omega), if_pos rfl]; rfl
  · obtain ⟨r0, r1⟩ := fmod_range (N := N) dz d0 d1
    have hq := fdiv_bound (N := N) dz
    have hsum := Int.fmod_add_mul_fdiv N d
    have hsg := fmod_sign (N := N) dz
    have hdS : Wd.divS ⟨nx, hx, lx⟩ d = (Wd.ofInt (N.fdiv d), N.fmod d, 0) := by unfold Wd.divS; rw [kx, tx, if_neg (by omega), if_neg dz]
    generalize N.fdiv d = q at *
    generalize N.fmod d = r at *
    obtain ⟨⟨nq, hq', lq⟩, hQ⟩ : ∃ x, Wd.ofInt q = x := ⟨_, rfl⟩
    obtain ⟨⟨nr, hr, lr⟩, hR⟩ : ∃ x, Wd.ofInt r = x := ⟨_, rfl⟩
    obtain ⟨fq, kq, tq⟩ := form_of (z := q) (by omega) hQ
    obtain ⟨fr, kr, tr⟩ := form_of (z := r) (by omega) hR
    rw [hQ] at hdS
    have limX : Wd.lim N = (⟨nx, hx, lx⟩, 0) := by unfold Wd.lim; rw [if_pos (by omega), hX]
    have limR : Wd.lim r = (⟨nr, hr, lr⟩, 0) := by unfold Wd.lim; rw [if_pos (by omega), hR]
    have gS : ∃ c h : Int, Wd.gcdS ⟨nx, hx, lx⟩ d = (c, h) ∧ ((h = 0 ∧ 1 ≤ c ∧ c ≤ 9223372036854775807 ∧ d.tmod c = 0 ∧ N.fmod c = 0) ∨ (h = 8 ∧ c = 0)) := by
      have hmag : Wd.mag ⟨nx, hx, lx⟩ = (N.natAbs : Int) := by rw [← Wd.mag_toInt _ fx, tx]
      have hg : Int.gcd (N.natAbs : Int) d = Int.gcd N d := by simp [Int.gcd]
      unfold Wd.gcdS
      rw [kx, if_neg (by omega), hmag, hg]
      have pos : 0 < Int.gcd N d := Int.gcd_pos_of_ne_zero_right N dz
      by_cases hs : Int.gcd N d < 9223372036854775808
      · rw [if_pos hs]
        exact ⟨_, _, rfl, Or.inl ⟨rfl, by omega, by omega, Int.tmod_eq_zero_of_dvd (Int.gcd_dvd_right _ _), Int.fmod_eq_zero_of_dvd (Int.gcd_dvd_left _ _)⟩⟩
      · rw [if_neg hs]; exact ⟨_, _, rfl, Or.inr ⟨rfl, rfl⟩⟩
    obtain ⟨c, h, hG, hGc⟩ := gS
    have hc3 : (h = 0 ∧ 1 ≤ c ∧ d.tmod c = 0) ∨ h = 8 := by
      rcases hGc with ⟨x1, x2, _, x4, _⟩ | ⟨x, _⟩
      · exact Or.inl ⟨x1, x2, x4⟩
      · exact Or.inr x
    obtain ⟨⟨ny, hy, ly⟩, hY⟩ : ∃ x, Wd.ofInt (N.fdiv c) = x := ⟨_, rfl⟩
    have gd : (d == 0) = false := by simp; exact dz
    have dv := fun w => divFloor_any nx hx lx d fx d0 d1 nq hq' lq r 0 hdS w
    have orr := fun w => of_any r r0 r1 nr hr lr hR w
    have gc := fun w => gcd_any nx hx lx d fx d0 d1 c h hG w
    have dc : 1 ≤ c → ∀ w : World, Calls Try.prog 33 #[.agg #[.bool nx, .int .u64 hx, .int .u64 lx], .int .i64 c] w (Gives (.tuple #[.agg #[.bool ny, .int .u64 hy, .int .u64 ly], .int .i64 0, .int .i64 0]) w) := fun c1 w => by
      rcases hGc with ⟨_, _, x3, _, x5⟩ | ⟨_, x⟩
      · refine divFloor_any nx hx lx c fx (by omega) x3 ny hy ly 0 0 ?_ w
        unfold Wd.divS; rw [kx, tx, if_neg (by omega), if_neg (by omega), hY, x5]
      · omega
    have qd : q * d + r = N := by rw [Int.mul_comm]; omega
    by_cases hP : (q * d).natAbs < 170141183460469231731687303715884105728
    · obtain ⟨⟨np, hp, lp⟩, hPP⟩ : ∃ x, Wd.ofInt (q * d) = x := ⟨_, rfl⟩
      obtain ⟨fp, kp, tp⟩ := form_of hP hPP
      have tm := fun w => times_any nq hq' lq d fq d0 d1 np hp lp 0 (by unfold Wd.timesS Wd.lim; rw [kq, tq, if_neg (by omega), if_pos hP, hPP]) w
      have ad := fun w => add_any np nr hp lp hr lr fp fr nx hx lx 0 (by unfold Wd.addS; rw [kp, kr, tp, tr, if_neg (by omega), if_neg (by omega), qd]; exact limX) w
      exact common_walk a b d gd nx hx lx nq hq' lq r np hp lp 0 nr hr lr nx hx lx c h ny hy ly w (Or.inl ⟨rfl, rfl, rfl, rfl⟩) hsg hc3 mab dv tm orr ad gc dc
    · have tm := fun w => times_any nq hq' lq d fq d0 d1 false 0 0 8 (by unfold Wd.timesS Wd.lim; rw [kq, tq, if_neg (by omega), if_neg hP]; rfl) w
      have ad := fun w => add_any false nr 0 0 hr lr (by unfold Wd.Fits; simp) fr nr hr lr 0 (by
        have k0 : Wd.chk ⟨false, 0, 0⟩ = 0 := by decide
        have t0 : Wd.toInt ⟨false, 0, 0⟩ = 0 := by decide
        unfold Wd.addS; rw [k0, kr, t0, tr, if_neg (by omega), if_neg (by omega), Int.zero_add]; exact limR) w
      exact common_walk a b d gd nx hx lx nq hq' lq r false 0 0 8 nr hr lr nr hr lr c h ny hy ly w (Or.inr rfl) hsg hc3 mab dv tm orr ad gc dc
end Go.Proofs.Ythojhdekamjgeaa
