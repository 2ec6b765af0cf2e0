/-
  couperef02: New and Int of every input; Same of equal fractions.
-/
import Derived.Test.YtmdaanigkhikfabFrnewS
namespace Go.Proofs.Ytmdaanigkhikfab
open Go.RowKit
set_option linter.unusedVariables false
set_option linter.unusedSimpArgs false
theorem rnew_zero (n : Int) (w : World) : Calls Try.prog 44 #[.int .i64 n, .int .i64 0] w (Gives (.tuple #[.agg #[.int .i64 0, .int .i64 0], .int .i64 18]) w) := by
  go_enter Try.func44, Try.ntmps44
  go_wp2
  go_returns
  exact Gives.mk rfl (by repeat' (first | (with_reducible exact Below.refl _ _) | (with_reducible refine Below.alloc ?_ ?_ _) | (with_reducible refine Below.setCell ?_ ?_ _) | (with_reducible refine Below.drew ?_) | (with_reducible refine Below.trans ?_ (Below.mono (by assumption) ?_)) | (simp; done) | (simp; omega) | omega))
theorem wrap_up {x : Int} (x0 : 0 ≤ x) (x1 : x ≤ 9223372036854775808) : (x ≤ 9223372036854775807 ∧ wrap64 x = x) ∨ (x = 9223372036854775808 ∧ wrap64 x = -9223372036854775808) := by
  unfold wrap64
  omega
theorem rnew_any (n d : Int) (n0 : -9223372036854775808 ≤ n) (n1 : n ≤ 9223372036854775807) (d0 : -9223372036854775808 ≤ d) (d1 : d ≤ 9223372036854775807) (x y e : Int) (hv : Sp.newS n d = (x, y, e)) (w : World) :
    Calls Try.prog 44 #[.int .i64 n, .int .i64 d] w (Gives (.tuple #[.agg #[.int .i64 x, .int .i64 y], .int .i64 e]) w) := by
  unfold Sp.newS at hv
  by_cases dz : d = 0
  · rw [if_pos dz] at hv
    simp only [Prod.mk.injEq] at hv
    obtain ⟨rfl, rfl, rfl⟩ := hv
    subst dz
    exact rnew_zero n w
  · rw [if_neg dz] at hv
    have gp : 0 < Int.gcd n d := Int.gcd_pos_of_ne_zero_right n dz
    obtain ⟨G, hG⟩ : ∃ G, Int.gcd n d = G := ⟨_, rfl⟩
    have gl : (G : Int) ≤ (d.natAbs : Int) := by
      have h := Nat.le_of_dvd (by omega) (Nat.gcd_dvd_right n.natAbs d.natAbs)
      have h2 : Nat.gcd n.natAbs d.natAbs = G := hG
      omega
    have k1 : Int.gcd (-(n.natAbs : Int)) (-(d.natAbs : Int)) = G := by rw [← hG, Int.neg_gcd, Int.gcd_neg]; simp [Int.gcd]
    rw [hG] at hv gp
    obtain ⟨g, hg⟩ : ∃ g : Int, (G : Int) = g := ⟨_, rfl⟩
    rw [hg] at hv gl
    obtain ⟨N, hN⟩ : ∃ N : Int, (n.natAbs : Int) = N := ⟨_, rfl⟩
    obtain ⟨D, hD⟩ : ∃ D : Int, (d.natAbs : Int) = D := ⟨_, rfl⟩
    rw [hN] at hv k1
    rw [hD] at hv gl k1
    have f1 : (-N).tdiv g = -(N / g) := by rw [Int.neg_tdiv, Int.tdiv_eq_ediv_of_nonneg (by omega)]
    have f2 : (-D).tdiv g = -(D / g) := by rw [Int.neg_tdiv, Int.tdiv_eq_ediv_of_nonneg (by omega)]
    have pb := Sp.div_le_self (n := N) (g := g) (by omega) (by omega)
    have qb := Sp.div_le_self (n := D) (g := g) (by omega) (by omega)
    obtain ⟨p, hp⟩ : ∃ p, N / g = p := ⟨_, rfl⟩
    obtain ⟨q, hq⟩ : ∃ q, D / g = q := ⟨_, rfl⟩
    rw [hp] at hv f1 pb
    rw [hq] at hv f2 qb
    have wp := wrap_up (x := p) (by omega) (by omega)
    have wq := wrap_up (x := q) (by omega) (by omega)
    obtain ⟨p', hp'⟩ : ∃ p', wrap64 p = p' := ⟨_, rfl⟩
    obtain ⟨q', hq'⟩ : ∃ q', wrap64 q = q' := ⟨_, rfl⟩
    rw [hp'] at wp
    rw [hq'] at wq
    have e1 : wrap64 (-(-p)) = p' := by rw [Int.neg_neg]; exact hp'
    have e2 : wrap64 (-(-q)) = q' := by rw [Int.neg_neg]; exact hq'
    have ga : (-g == 0) = false := by simp; omega
    have key : ((p' < 0 ∨ q' < 0 ∨ 1000000000000000 < p' ∨ 1000000000000000 < q') ∧ x = 0 ∧ y = 0 ∧ e = 8) ∨ (0 ≤ p' ∧ 0 ≤ q' ∧ p' ≤ 1000000000000000 ∧ q' ≤ 1000000000000000 ∧ decide (n < 0) = decide (d < 0) ∧ x = p' ∧ y = q' ∧ e = 0) ∨ (0 ≤ p' ∧ 0 ≤ q' ∧ p' ≤ 1000000000000000 ∧ q' ≤ 1000000000000000 ∧ decide (n < 0) = !decide (d < 0) ∧ x = -p' ∧ y = q' ∧ e = 0) := by
      by_cases c : 1000000000000000 < p ∨ 1000000000000000 < q
      · rw [if_pos c] at hv
        simp only [Prod.mk.injEq] at hv
        exact Or.inl ⟨by omega, hv.1.symm, hv.2.1.symm, hv.2.2.symm⟩
      · rw [if_neg c] at hv
        simp only [Prod.mk.injEq] at hv
        obtain ⟨hx, hy, he⟩ := hv
        by_cases s : decide (n < 0) = decide (d < 0)
        · rw [if_pos s] at hx
          exact Or.inr (Or.inl ⟨by omega, by omega, by omega, by omega, s, by omega, by omega, he.symm⟩)
        · rw [if_neg s] at hx
          refine Or.inr (Or.inr ⟨by omega, by omega, by omega, by omega, ?_, by omega, by omega, he.symm⟩)
          revert s
          cases decide (n < 0) <;> cases decide (d < 0) <;> simp
    clear hv wp wq hp' hq' hp hq
    by_cases hn : 0 < n <;> by_cases hdd : 0 < d
    · have h := rnew_walk3 (-N) (-D) g p' q' x y e G w (by omega) (by omega) (by omega) (by omega) (by omega) (by omega) k1 hg (by omega) (by omega) (-p) (-q) f1 f2 e1 e2 ga (by omega) (decide (n < 0)) (by rw [Int.neg_neg, ← hN]; congr 1; simp; omega) (by
        have h0 : decide (d < 0) = false := by simp; omega
        rw [h0] at key; exact key)
      have en : - -N = n := by omega
      have ed : - -D = d := by omega
      rw [en, ed] at h
      exact h
    · have h := rnew_walk2 (-N) (-D) g p' q' x y e G w (by omega) (by omega) (by omega) (by omega) (by omega) k1 hg (by omega) (by omega) (-p) (-q) f1 f2 e1 e2 ga (by omega) (decide (n < 0)) (by rw [Int.neg_neg, ← hN]; congr 1; simp; omega) (by
        have h0 : decide (d < 0) = true := by simp; omega
        rw [h0] at key; exact key)
      have en : - -N = n := by omega
      have ed : -D = d := by omega
      rw [en, ed] at h
      exact h
    · have h := rnew_walk1 (-N) (-D) g p' q' x y e G w (by omega) (by omega) (by omega) (by omega) (by omega) k1 hg (by omega) (by omega) (-p) (-q) f1 f2 e1 e2 ga (by omega) (decide (n < 0)) (by rw [← hN]; congr 1; simp; omega) (by
        have h0 : decide (d < 0) = false := by simp; omega
        rw [h0] at key; exact key)
      have en : -N = n := by omega
      have ed : - -D = d := by omega
      rw [en, ed] at h
      exact h
    · have h := rnew_walk0 (-N) (-D) g p' q' x y e G w (by omega) (by omega) (by omega) (by omega) k1 hg (by omega) (by omega) (-p) (-q) f1 f2 e1 e2 ga (by omega) (decide (n < 0)) (by rw [← hN]; congr 1; simp; omega) (by
        have h0 : decide (d < 0) = true := by simp; omega
        rw [h0] at key; exact key)
      have en : -N = n := by omega
      have ed : -D = d := by omega
      rw [en, ed] at h
      exact h
end Go.Proofs.Ytmdaanigkhikfab
