/-
  The functions of package fraction, each by a contract: New, Int, limited, firstError of two.
-/
import Derived.Test.YtmdaanigkhikfabFspec
import Derived.Test.YtmdaanigkhikfabFcode
import Derived.Test.YtmdaanigkhikfabWquo
namespace Go.Proofs.Ytmdaanigkhikfab
open Go.RowKit
set_option linter.unusedVariables false
set_option linter.unusedSimpArgs false

set_option maxHeartbeats 2000000 in
theorem fnew_walk (n d N D G p q : Int) (w : World) (g : (d == 0) = false) (gg : (G == 0) = false) (G1 : 1 ≤ G) (N0 : 0 ≤ N) (D0 : 0 ≤ D)
    (mg : ∀ w : World, Calls Try.prog 59 #[.int .i64 n] w fun e w' => e = .returned (.int .u64 N) ∧ w' = w) (mg2 : ∀ w : World, Calls Try.prog 59 #[.int .i64 d] w fun e w' => e = .returned (.int .u64 D) ∧ w' = w)
    (dv : ∀ w : World, Calls Try.prog 60 #[.int .u64 N, .int .u64 D] w (Quiet (.int .u64 G) w))
    (e1 : IntKind.u64.wrap (N.tdiv G) = p) (e2 : IntKind.u64.wrap (D.tdiv G) = q) (p0 : 0 ≤ p) (q0 : 0 ≤ q) (x y e : Int)
    (hc : (1000000000000000 < p ∧ x = 0 ∧ y = 0 ∧ e = 8) ∨ (p ≤ 1000000000000000 ∧ 1000000000000000 < q ∧ x = 0 ∧ y = 0 ∧ e = 8) ∨
      (p ≤ 1000000000000000 ∧ q ≤ 1000000000000000 ∧ decide (n < 0) = decide (d < 0) ∧ x = p ∧ y = q ∧ e = 0) ∨ (p ≤ 1000000000000000 ∧ q ≤ 1000000000000000 ∧ (decide (n < 0) != decide (d < 0)) = true ∧ x = -p ∧ y = q ∧ e = 0)) :
    Calls Try.prog 43 #[.int .i64 n, .int .i64 d] w (Gives (.tuple #[.agg #[.int .i64 x, .int .i64 y], .int .i64 e]) w) := by
  rcases hc with ⟨h1, rfl, rfl, rfl⟩ | ⟨h1, h2, rfl, rfl, rfl⟩ | ⟨h1, h2, h3, rfl, rfl, rfl⟩ | ⟨h1, h2, h3, rfl, rfl, rfl⟩
  · go_enter Try.func43, Try.ntmps43
    go_wp2_with (first | (go_at_call 59; (with_reducible refine (mg _).mono ?_); rintro e w' ⟨rfl, rfl⟩) | (go_at_call 59; (with_reducible refine (mg2 _).mono ?_); rintro e w' ⟨rfl, rfl⟩) | (go_at_call 60; refine (dv _).mono ?_; rintro e w1 ⟨rfl, qd, rfl⟩))
    go_quiet (fail)
    go_wp2
    all_goals
     refine bodyPost_ret (v := .tuple #[.agg #[.int .i64 0, .int .i64 0], .int .i64 8]) (by simp [results, Try.results43, go_sem]) rfl ?_
     exact Gives.mk rfl (by repeat' (first | (with_reducible exact Below.refl _ _) | (with_reducible refine Below.alloc ?_ ?_ _) | (with_reducible refine Below.setCell ?_ ?_ _) | (with_reducible refine Below.drew ?_) | (with_reducible refine below_dn ?_ _) | (with_reducible refine Below.trans ?_ (Below.mono (by assumption) ?_)) | (simp; done) | (simp; omega) | omega))
  · go_enter Try.func43, Try.ntmps43
    go_wp2_with (first | (go_at_call 59; (with_reducible refine (mg _).mono ?_); rintro e w' ⟨rfl, rfl⟩) | (go_at_call 59; (with_reducible refine (mg2 _).mono ?_); rintro e w' ⟨rfl, rfl⟩) | (go_at_call 60; refine (dv _).mono ?_; rintro e w1 ⟨rfl, qd, rfl⟩))
    go_quiet (fail)
    go_wp2
    all_goals
     refine bodyPost_ret (v := .tuple #[.agg #[.int .i64 0, .int .i64 0], .int .i64 8]) (by simp [results, Try.results43, go_sem]) rfl ?_
     exact Gives.mk rfl (by repeat' (first | (with_reducible exact Below.refl _ _) | (with_reducible refine Below.alloc ?_ ?_ _) | (with_reducible refine Below.setCell ?_ ?_ _) | (with_reducible refine Below.drew ?_) | (with_reducible refine below_dn ?_ _) | (with_reducible refine Below.trans ?_ (Below.mono (by assumption) ?_)) | (simp; done) | (simp; omega) | omega))
  · go_enter Try.func43, Try.ntmps43
    go_wp2_with (first | (go_at_call 59; (with_reducible refine (mg _).mono ?_); rintro e w' ⟨rfl, rfl⟩) | (go_at_call 59; (with_reducible refine (mg2 _).mono ?_); rintro e w' ⟨rfl, rfl⟩) | (go_at_call 60; refine (dv _).mono ?_; rintro e w1 ⟨rfl, qd, rfl⟩))
    go_quiet (fail)
    go_wp2
    all_goals
     refine bodyPost_ret (v := .tuple #[.agg #[.int .i64 x, .int .i64 y], .int .i64 0]) (by simp [results, Try.results43, go_sem]) rfl ?_
     exact Gives.mk rfl (by repeat' (first | (with_reducible exact Below.refl _ _) | (with_reducible refine Below.alloc ?_ ?_ _) | (with_reducible refine Below.setCell ?_ ?_ _) | (with_reducible refine Below.drew ?_) | (with_reducible refine below_dn ?_ _) | (with_reducible refine Below.trans ?_ (Below.mono (by assumption) ?_)) | (simp; done) | (simp; omega) | omega))
  · by_cases hn : n < 0
    · have hd : ¬ d < 0 := by intro hd; simp [hn, hd] at h3
      have hnn : decide (n < 0) = true := decide_eq_true hn
      have hdd : decide (d < 0) = false := decide_eq_false hd
      clear h3
      go_enter Try.func43, Try.ntmps43
      go_wp2_with (first | (go_at_call 59; (with_reducible refine (mg _).mono ?_); rintro e w' ⟨rfl, rfl⟩) | (go_at_call 59; (with_reducible refine (mg2 _).mono ?_); rintro e w' ⟨rfl, rfl⟩) | (go_at_call 60; refine (dv _).mono ?_; rintro e w1 ⟨rfl, qd, rfl⟩))
      go_quiet (fail)
      go_wp2
      all_goals
       refine bodyPost_ret (v := .tuple #[.agg #[.int .i64 (-p), .int .i64 y], .int .i64 0]) (by simp [results, Try.results43, go_sem]) rfl ?_
       exact Gives.mk rfl (by repeat' (first | (with_reducible exact Below.refl _ _) | (with_reducible refine Below.alloc ?_ ?_ _) | (with_reducible refine Below.setCell ?_ ?_ _) | (with_reducible refine Below.drew ?_) | (with_reducible refine below_dn ?_ _) | (with_reducible refine Below.trans ?_ (Below.mono (by assumption) ?_)) | (simp; done) | (simp; omega) | omega))
    · have hd : d < 0 := by
        apply Classical.byContradiction
        intro hd
        simp [hn, hd] at h3
      have hnn : decide (n < 0) = false := decide_eq_false hn
      have hdd : decide (d < 0) = true := decide_eq_true hd
      clear h3
      go_enter Try.func43, Try.ntmps43
      go_wp2_with (first | (go_at_call 59; (with_reducible refine (mg _).mono ?_); rintro e w' ⟨rfl, rfl⟩) | (go_at_call 59; (with_reducible refine (mg2 _).mono ?_); rintro e w' ⟨rfl, rfl⟩) | (go_at_call 60; refine (dv _).mono ?_; rintro e w1 ⟨rfl, qd, rfl⟩))
      go_quiet (fail)
      go_wp2
      all_goals
       refine bodyPost_ret (v := .tuple #[.agg #[.int .i64 (-p), .int .i64 y], .int .i64 0]) (by simp [results, Try.results43, go_sem]) rfl ?_
       exact Gives.mk rfl (by repeat' (first | (with_reducible exact Below.refl _ _) | (with_reducible refine Below.alloc ?_ ?_ _) | (with_reducible refine Below.setCell ?_ ?_ _) | (with_reducible refine Below.drew ?_) | (with_reducible refine below_dn ?_ _) | (with_reducible refine Below.trans ?_ (Below.mono (by assumption) ?_)) | (simp; done) | (simp; omega) | omega))
theorem fnew_zero (n : Int) (w : World) : Calls Try.prog 43 #[.int .i64 n, .int .i64 0] w (Gives (.tuple #[.agg #[.int .i64 0, .int .i64 0], .int .i64 18]) w) := by
  go_enter Try.func43, Try.ntmps43
  go_wp2
  go_returns
  exact Gives.mk rfl (by repeat' (first | (with_reducible exact Below.refl _ _) | (with_reducible refine Below.alloc ?_ ?_ _) | (with_reducible refine Below.setCell ?_ ?_ _) | (with_reducible refine Below.drew ?_) | (with_reducible refine Below.trans ?_ (Below.mono (by assumption) ?_)) | (simp; done) | (simp; omega) | omega))
theorem fnew_any (n d : Int) (n0 : -9223372036854775808 ≤ n) (n1 : n ≤ 9223372036854775807) (d0 : -9223372036854775808 ≤ d) (d1 : d ≤ 9223372036854775807) (x y e : Int) (hv : Sp.newS n d = (x, y, e)) (w : World) :
    Calls Try.prog 43 #[.int .i64 n, .int .i64 d] w (Gives (.tuple #[.agg #[.int .i64 x, .int .i64 y], .int .i64 e]) w) := by
  unfold Sp.newS at hv
  by_cases dz : d = 0
  · rw [if_pos dz] at hv
    simp only [Prod.mk.injEq] at hv
    obtain ⟨rfl, rfl, rfl⟩ := hv
    subst dz
    exact fnew_zero n w
  · rw [if_neg dz] at hv
    have gp : 0 < Int.gcd n d := Int.gcd_pos_of_ne_zero_right n dz
    obtain ⟨G, hG⟩ : ∃ G, Int.gcd n d = G := ⟨_, rfl⟩
    have hG2 : Int.gcd (n.natAbs : Int) (d.natAbs : Int) = G := by rw [← hG]; simp [Int.gcd]
    rw [hG] at hv gp
    have mg := fun w => fmag_any n n0 n1 w
    have mg2 := fun w => fmag_any d d0 d1 w
    obtain ⟨N, hN⟩ : ∃ N : Int, (n.natAbs : Int) = N := ⟨_, rfl⟩
    obtain ⟨D, hD⟩ : ∃ D : Int, (d.natAbs : Int) = D := ⟨_, rfl⟩
    rw [hN] at mg hG2 hv
    rw [hD] at mg2 hG2 hv
    have N0 : 0 ≤ N := by omega
    have D0 : 0 ≤ D := by omega
    have dv := fun w => fdivisor_any N D (by omega) (by omega) (by omega) (by omega) G hG2 w
    have pb := Sp.div_le_self (n := N) (g := (G : Int)) (by omega) N0
    have qb := Sp.div_le_self (n := D) (g := (G : Int)) (by omega) D0
    have e1 : IntKind.u64.wrap (N.tdiv (G : Int)) = N / (G : Int) := by
      rw [Int.tdiv_eq_ediv_of_nonneg N0, IntKind.wrap_u64]; omega
    have e2 : IntKind.u64.wrap (D.tdiv (G : Int)) = D / (G : Int) := by
      rw [Int.tdiv_eq_ediv_of_nonneg D0, IntKind.wrap_u64]; omega
    obtain ⟨p, hp⟩ : ∃ p, N / (G : Int) = p := ⟨_, rfl⟩
    obtain ⟨q, hq⟩ : ∃ q, D / (G : Int) = q := ⟨_, rfl⟩
    rw [hp] at hv e1 pb
    rw [hq] at hv e2 qb
    have gi : ((G : Int) == 0) = false := by simp; omega
    obtain ⟨g, hg⟩ : ∃ g : Int, (G : Int) = g := ⟨_, rfl⟩
    have g1 : 1 ≤ g := by omega
    rw [hg] at e1 e2 gi
    simp only [hg] at dv
    refine fnew_walk n d N D g p q w (by simp; exact dz) gi g1 N0 D0 mg mg2 dv e1 e2 pb.1 qb.1 x y e ?_
    by_cases c : 1000000000000000 < p ∨ 1000000000000000 < q
    · rw [if_pos c] at hv
      simp only [Prod.mk.injEq] at hv
      obtain ⟨rfl, rfl, rfl⟩ := hv
      by_cases c1 : 1000000000000000 < p
      · exact Or.inl ⟨c1, rfl, rfl, rfl⟩
      · exact Or.inr (Or.inl ⟨by omega, by omega, rfl, rfl, rfl⟩)
    · rw [if_neg c] at hv
      simp only [Prod.mk.injEq] at hv
      obtain ⟨hx, rfl, rfl⟩ := hv
      by_cases s : decide (n < 0) = decide (d < 0)
      · rw [if_pos s] at hx
        exact Or.inr (Or.inr (Or.inl ⟨by omega, by omega, s, hx.symm, rfl, rfl⟩))
      · rw [if_neg s] at hx
        exact Or.inr (Or.inr (Or.inr ⟨by omega, by omega, by simpa using s, hx.symm, rfl, rfl⟩))
end Go.Proofs.Ytmdaanigkhikfab
