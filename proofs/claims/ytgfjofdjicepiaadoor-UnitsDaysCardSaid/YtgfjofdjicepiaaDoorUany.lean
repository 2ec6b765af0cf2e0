/-
  Packages units and couperef04: what works with numbers, for every input.
-/
import Derived.Test.YtgfjofdjicepiaaDoorUhect
import Derived.Test.YtgfjofdjicepiaaDoorUm
import Derived.Test.YtgfjofdjicepiaaDoorFref
import Derived.Test.YtgfjofdjicepiaaDoorFnewsa
import Derived.Test.YtgfjofdjicepiaaDoorFcnt3
namespace Go.Proofs.YtgfjofdjicepiaaDoor
open Go.RowKit
set_option linter.unusedVariables false
set_option linter.unusedSimpArgs false
namespace Sp
def nearS (n d : Int) (up : Bool) : Int := if d < 2 * (n - n / d * d) ∨ (2 * (n - n / d * d) = d ∧ up = true) then n / d + 1 else n / d
def roundS (n d way : Int) : Int × Int :=
  if fchk n d ≠ 0 then (0, fchk n d) else if way = 1 then (n / d, 0) else if way = 2 then (-((-n) / d), 0) else if way = 3 then (nearS n d true, 0) else if way = 4 then (nearS n d (decide (¬ (n / d).tmod 2 = 0)), 0) else (0, 1)
def hectS (a : Int) : Int × Int × Int := if a < 0 then (0, 0, 2) else if 1000000000000000 < a then (0, 0, 8) else newS a 2000000
def perhS (n a : Int) : Int × Int × Int := if a < 0 then (0, 0, 2) else if (newS n a).2.2 ≠ 0 then (0, 0, (newS n a).2.2) else mulF (newS n a).1 (newS n a).2.1 2000000 1
def weekS (k : Int) : Int × Int := if 0 ≤ k ∧ k ≤ 100000 then (k.tmod 7, 0) else (0, 2)
theorem uvalid {n d : Int} (h : fchk n d = 0) : 0 < d ∧ -1000000000000000 ≤ n ∧ n ≤ 1000000000000000 ∧ d ≤ 1000000000000000 := by
  obtain ⟨a, b, c, e, _⟩ := fchk_zero.1 h
  exact ⟨a, by omega, by omega, by omega⟩
/-- What the walks want of a floor. -/
theorem floor_nums {n d : Int} (h : fchk n d = 0) : ∃ fl N D T : Int, n / d = fl ∧ fl * d = N ∧ n - N = D ∧ 2 * D = T ∧ -4000000000000000 ≤ N ∧ N ≤ 4000000000000000 ∧ -4000000000000000 ≤ D ∧ D ≤ 4000000000000000 ∧ -4000000000000000 ≤ fl ∧ fl ≤ 4000000000000000 ∧ -8000000000000000 ≤ T ∧ T ≤ 8000000000000000 ∧ 0 ≤ D ∧ D < d ∧ D = n % d := by
  obtain ⟨d0, n0, n1, d1⟩ := uvalid h
  have e := Int.mul_ediv_add_emod n d
  have m0 := Int.emod_nonneg n (show d ≠ 0 by omega)
  have m1 := Int.emod_lt_of_pos n d0
  have c : n / d * d = d * (n / d) := Int.mul_comm _ _
  refine ⟨_, _, _, _, rfl, rfl, rfl, rfl, by omega, by omega, by omega, by omega, ?_, ?_, by omega, by omega, by omega, by omega, by omega⟩
  · have : -2000000000000000 ≤ n / d := by
      rw [Int.le_ediv_iff_mul_le d0]
      have := Int.mul_le_mul_of_nonneg_left (show (1 : Int) ≤ d from d0) (show (0 : Int) ≤ 2000000000000000 by omega)
      omega
    omega
  · have : n / d < 2000000000000000 := by
      refine Int.ediv_lt_of_lt_mul d0 ?_
      have := Int.mul_le_mul_of_nonneg_left (show (1 : Int) ≤ d from d0) (show (0 : Int) ≤ 2000000000000000 by omega)
      omega
    omega
theorem ceil_of_floor {n d : Int} (d0 : 0 < d) : -((-n) / d) = if n % d = 0 then n / d else n / d + 1 := by
  have e := Int.mul_ediv_add_emod n d
  have m0 := Int.emod_nonneg n (show d ≠ 0 by omega)
  have m1 := Int.emod_lt_of_pos n d0
  by_cases hz : n % d = 0
  · rw [if_pos hz]
    have := (Int.ediv_emod_unique (a := -n) (r := 0) (q := -(n / d)) d0).2 ⟨by
      have : d * (-(n / d)) = -(d * (n / d)) := Int.mul_neg _ _
      omega, by omega, by omega⟩
    omega
  · rw [if_neg hz]
    have := (Int.ediv_emod_unique (a := -n) (r := d - n % d) (q := -(n / d) - 1) d0).2 ⟨by
      have : d * (-(n / d) - 1) = -(d * (n / d)) - d := by rw [Int.mul_sub, Int.mul_neg, Int.mul_one]
      omega, by omega, by omega⟩
    omega
theorem tmod2 (a : Int) : a.tmod 2 = 0 ↔ a % 2 = 0 := ⟨fun h => Int.emod_eq_zero_of_dvd (Int.dvd_of_tmod_eq_zero h), fun h => Int.tmod_eq_zero_of_dvd (Int.dvd_of_emod_eq_zero h)⟩
theorem newS_fits {n d x y : Int} (h : newS n d = (x, y, 0)) : -1000000000000000 ≤ x ∧ x ≤ 1000000000000000 ∧ -1000000000000000 ≤ y ∧ y ≤ 1000000000000000 := by
  unfold newS at h
  have a0 : 0 ≤ (n.natAbs : Int) / (Int.gcd n d : Int) := Int.ediv_nonneg (by omega) (by omega)
  have b0 : 0 ≤ (d.natAbs : Int) / (Int.gcd n d : Int) := Int.ediv_nonneg (by omega) (by omega)
  generalize (n.natAbs : Int) / (Int.gcd n d : Int) = A at h a0
  generalize (d.natAbs : Int) / (Int.gcd n d : Int) = B at h b0
  by_cases dz : d = 0
  · rw [if_pos dz] at h; simp at h
  · rw [if_neg dz] at h
    by_cases c : 1000000000000000 < A ∨ 1000000000000000 < B
    · rw [if_pos c] at h; simp at h
    · rw [if_neg c] at h
      simp only [Prod.mk.injEq, and_true] at h
      obtain ⟨h1, h2⟩ := h
      subst h2
      by_cases s : decide (n < 0) = decide (d < 0)
      · rw [if_pos s] at h1; omega
      · rw [if_neg s] at h1; omega
end Sp
theorem unear_any (n d : Int) (up : Bool) (h : Sp.fchk n d = 0) (w : World) : Calls Tryd.prog 50 #[.agg #[.int .i64 n, .int .i64 d], .bool up] w (Gives (.int .i64 (Sp.nearS n d up)) w) := by
  obtain ⟨fl, N, D, T, e1, e2, e3, e4, b1, b2, b3, b4, b5, b6, b7, b8, D0, D1, _⟩ := Sp.floor_nums h
  obtain ⟨d0, n0, n1, d1⟩ := Sp.uvalid h
  have hfl := fun w => ffloor_any n d h w
  rw [e1] at hfl
  unfold Sp.nearS
  rw [e1, e2, e3, e4]
  rcases Int.lt_trichotomy T d with c | c | c
  · rw [if_neg (by omega)]
    exact unear_lt n d fl N D T up hfl e2 e3 e4 b1 b2 b3 b4 b5 b6 b7 b8 c w
  · cases up with
    | true =>
      rw [if_pos (.inr ⟨c, rfl⟩)]
      exact unear_yes n d fl N D T hfl e2 e3 e4 b1 b2 b3 b4 b5 b6 b7 b8 c w
    | false =>
      rw [if_neg (by rintro (h | h); omega; exact absurd h.2 (by simp))]
      exact unear_no n d fl N D T hfl e2 e3 e4 b1 b2 b3 b4 b5 b6 b7 b8 c w
  · rw [if_pos (.inl c)]
    exact unear_gt n d fl N D T up hfl e2 e3 e4 b1 b2 b3 b4 b5 b6 b7 b8 c w
theorem uround_any (n d way : Int) (n0 : -9223372036854775808 ≤ n) (n1 : n ≤ 9223372036854775807) (d0 : -9223372036854775808 ≤ d) (d1 : d ≤ 9223372036854775807) (w : World) :
    Calls Tryd.prog 20 #[.agg #[.int .i64 n, .int .i64 d], .int .i64 way] w (Gives (.tuple #[.int .i64 (Sp.roundS n d way).1, .int .i64 (Sp.roundS n d way).2]) w) := by
  have ck := fun w => fcheck_any n d n0 n1 d0 d1 w
  unfold Sp.roundS
  by_cases h : Sp.fchk n d = 0
  · rw [if_neg (by omega)]
    rw [h] at ck
    have hfl := fun w => ffloor_any n d h w
    have hce := fun w => fceil_any n d h w
    by_cases h1 : way = 1
    · subst h1; exact uround_1 n d _ ck hfl w
    · rw [if_neg h1]
      by_cases h2 : way = 2
      · subst h2; exact uround_2 n d _ ck hce w
      · rw [if_neg h2]
        by_cases h3 : way = 3
        · subst h3; exact uround_3 n d _ ck (fun w => unear_any n d true h w) w
        · rw [if_neg h3]
          by_cases h4 : way = 4
          · subst h4
            exact uround_4 n d _ _ ck _ _ hfl rfl (by by_cases q : (n / d).tmod 2 = 0 <;> simp [q]) (fun w => unear_any n d _ h w) w
          · rw [if_neg h4]
            exact uround_other n d 0 ck way h1 h2 h3 h4 w
  · rw [if_pos h]
    exact uround_bad n d _ way h ck w
theorem rround4_any (n d way : Int) (n0 : -9223372036854775808 ≤ n) (n1 : n ≤ 9223372036854775807) (d0 : -9223372036854775808 ≤ d) (d1 : d ≤ 9223372036854775807) (w : World) :
    Calls Tryd.prog 21 #[.agg #[.int .i64 n, .int .i64 d], .int .i64 way] w (Gives (.tuple #[.int .i64 (Sp.roundS n d way).1, .int .i64 (Sp.roundS n d way).2]) w) := by
  have ck := fun w => rfcheck_any n d n0 n1 d0 d1 w
  unfold Sp.roundS
  by_cases h : Sp.fchk n d = 0
  · rw [if_neg (by omega)]
    rw [h] at ck
    obtain ⟨fl, N, D, T, e1, e2, e3, e4, b1, b2, b3, b4, b5, b6, b7, b8, D0, D1, eD⟩ := Sp.floor_nums h
    obtain ⟨dp, _, _, _⟩ := Sp.uvalid h
    have hfl := fun w => rfloor_any n d n0 n1 d0 d1 w
    have hce := fun w => rceil_any n d n0 n1 d0 d1 w
    have hc := Sp.ceil_of_floor (n := n) dp
    unfold Sp.floorF at hfl
    unfold Sp.ceilF at hce
    rw [if_neg (by omega)] at hfl hce
    unfold Sp.nearS
    rw [e1] at hfl hc ⊢
    rw [e2, e3, e4]
    rw [← eD] at hc
    generalize -((-n) / d) = ce at hc hce ⊢
    by_cases h1 : way = 1
    · subst h1; exact rround4_1 n d fl ce N D T ck hfl hce e2 e3 e4 b1 b2 b3 b4 b5 b6 b7 b8 w
    · rw [if_neg h1]
      by_cases h2 : way = 2
      · subst h2; exact rround4_2 n d fl ce N D T ck hfl hce e2 e3 e4 b1 b2 b3 b4 b5 b6 b7 b8 w
      · rw [if_neg h2]
        by_cases h3 : way = 3
        · subst h3
          rcases Int.lt_or_le T d with c | c
          · rw [if_pos rfl, if_neg (by rintro (h | h) <;> omega)]
            exact rround4_3_down n d fl ce N D T ck hfl hce e2 e3 e4 b1 b2 b3 b4 b5 b6 b7 b8 c w
          · rw [if_pos rfl, if_pos (by simp; omega)]
            rw [if_neg (by omega)] at hc
            subst hc
            exact rround4_3_up n d fl _ N D T ck hfl hce e2 e3 e4 b1 b2 b3 b4 b5 b6 b7 b8 c w
        · rw [if_neg h3]
          by_cases h4 : way = 4
          · subst h4
            rw [if_pos rfl]
            rcases Int.lt_trichotomy T d with c | c | c
            · rw [if_neg (by omega)]
              exact rround4_4_lt n d fl ce N D T ck hfl hce e2 e3 e4 b1 b2 b3 b4 b5 b6 b7 b8 c w
            · rw [if_neg (by omega)] at hc
              have par : (fl + 1).tmod 2 = 0 ↔ ¬ fl.tmod 2 = 0 := by rw [Sp.tmod2, Sp.tmod2]; omega
              by_cases q : (fl + 1).tmod 2 = 0
              · rw [if_pos (.inr ⟨c, by simp [par.1 q]⟩)]
                subst hc
                exact rround4_4_yes n d fl _ N D T ck hfl hce e2 e3 e4 b1 b2 b3 b4 b5 b6 b7 b8 c _ rfl q w
              · rw [if_neg (by
                  rintro (h | h)
                  · omega
                  · exact q (par.2 (of_decide_eq_true h.2)))]
                subst hc
                exact rround4_4_no n d fl _ N D T ck hfl hce e2 e3 e4 b1 b2 b3 b4 b5 b6 b7 b8 c _ rfl q w
            · rw [if_pos (.inl c)]
              rw [if_neg (by omega)] at hc
              subst hc
              exact rround4_4_gt n d fl _ N D T ck hfl hce e2 e3 e4 b1 b2 b3 b4 b5 b6 b7 b8 c w
          · rw [if_neg h4]
            exact rround4_other n d fl ce N D T ck hfl hce e2 e3 e4 b1 b2 b3 b4 b5 b6 b7 b8 way h1 h2 h3 h4 w
  · rw [if_pos h]
    exact rround4_bad n d _ way h ck w
theorem uhect_any (a lo hi e : Int) (a0 : -9223372036854775808 ≤ a) (a1 : a ≤ 9223372036854775807) (hv : Sp.hectS a = (lo, hi, e)) (w : World) : Calls Tryd.prog 22 #[.int .i64 a] w (Gives (.tuple #[.agg #[.int .i64 lo, .int .i64 hi], .int .i64 e]) w) := by
  unfold Sp.hectS at hv
  by_cases h : a < 0
  · rw [if_pos h] at hv
    simp only [Prod.mk.injEq] at hv
    obtain ⟨rfl, rfl, rfl⟩ := hv
    exact uhect_bad a 2 (.inl ⟨h, rfl⟩) w
  · rw [if_neg h] at hv
    by_cases h2 : 1000000000000000 < a
    · rw [if_pos h2] at hv
      simp only [Prod.mk.injEq] at hv
      obtain ⟨rfl, rfl, rfl⟩ := hv
      exact uhect_bad a 8 (.inr ⟨h2, rfl⟩) w
    · rw [if_neg h2] at hv
      exact uhect_good a lo hi e (by omega) (by omega) (fun w => fnew_any a 2000000 a0 a1 (by omega) (by omega) lo hi e hv w) w
theorem rhect_any (a lo hi e : Int) (a0 : -9223372036854775808 ≤ a) (a1 : a ≤ 9223372036854775807) (hv : Sp.hectS a = (lo, hi, e)) (w : World) : Calls Tryd.prog 23 #[.int .i64 a] w (Gives (.tuple #[.agg #[.int .i64 lo, .int .i64 hi], .int .i64 e]) w) := by
  unfold Sp.hectS at hv
  by_cases h : a < 0
  · rw [if_pos h] at hv
    simp only [Prod.mk.injEq] at hv
    obtain ⟨rfl, rfl, rfl⟩ := hv
    exact rhect_bad a 2 (.inl ⟨h, rfl⟩) w
  · rw [if_neg h] at hv
    by_cases h2 : 1000000000000000 < a
    · rw [if_pos h2] at hv
      simp only [Prod.mk.injEq] at hv
      obtain ⟨rfl, rfl, rfl⟩ := hv
      exact rhect_bad a 8 (.inr ⟨h2, rfl⟩) w
    · rw [if_neg h2] at hv
      exact rhect_good a lo hi e (by omega) (by omega) (fun w => rnew_any a 2000000 a0 a1 (by omega) (by omega) lo hi e hv w) w
theorem uperh_any (n a lo hi e : Int) (n0 : -9223372036854775808 ≤ n) (n1 : n ≤ 9223372036854775807) (a0 : -9223372036854775808 ≤ a) (a1 : a ≤ 9223372036854775807) (hv : Sp.perhS n a = (lo, hi, e)) (w : World) : Calls Tryd.prog 24 #[.int .i64 n, .int .i64 a] w (Gives (.tuple #[.agg #[.int .i64 lo, .int .i64 hi], .int .i64 e]) w) := by
  unfold Sp.perhS at hv
  by_cases h : a < 0
  · rw [if_pos h] at hv
    simp only [Prod.mk.injEq] at hv
    obtain ⟨rfl, rfl, rfl⟩ := hv
    exact uperh_bad n a h w
  · rw [if_neg h] at hv
    obtain ⟨⟨x, y, g⟩, hn⟩ : ∃ p, Sp.newS n a = p := ⟨_, rfl⟩
    rw [hn] at hv
    simp only at hv
    have nw := fun w => fnew_any n a n0 n1 a0 a1 x y g hn w
    by_cases g0 : g = 0
    · subst g0
      rw [if_neg (by omega)] at hv
      obtain ⟨x0, x1, y0, y1⟩ := Sp.newS_fits hn
      exact uperh_good n a x y lo hi e (by omega) nw (fun w => fmul_any x y 2000000 1 lo hi e (by omega) (by omega) (by omega) (by omega) (by omega) (by omega) (by omega) (by omega) hv w) w
    · rw [if_pos g0] at hv
      simp only [Prod.mk.injEq] at hv
      obtain ⟨rfl, rfl, rfl⟩ := hv
      exact uperh_err n a x y g (by omega) g0 nw w
theorem rperh_any (n a lo hi e : Int) (n0 : -9223372036854775808 ≤ n) (n1 : n ≤ 9223372036854775807) (a0 : -9223372036854775808 ≤ a) (a1 : a ≤ 9223372036854775807) (hv : Sp.perhS n a = (lo, hi, e)) (w : World) : Calls Tryd.prog 25 #[.int .i64 n, .int .i64 a] w (Gives (.tuple #[.agg #[.int .i64 lo, .int .i64 hi], .int .i64 e]) w) := by
  unfold Sp.perhS at hv
  by_cases h : a < 0
  · rw [if_pos h] at hv
    simp only [Prod.mk.injEq] at hv
    obtain ⟨rfl, rfl, rfl⟩ := hv
    exact rperh_bad n a h w
  · rw [if_neg h] at hv
    obtain ⟨⟨x, y, g⟩, hn⟩ : ∃ p, Sp.newS n a = p := ⟨_, rfl⟩
    rw [hn] at hv
    simp only at hv
    have nw := fun w => rnew_any n a n0 n1 a0 a1 x y g hn w
    by_cases g0 : g = 0
    · subst g0
      rw [if_neg (by omega)] at hv
      obtain ⟨x0, x1, y0, y1⟩ := Sp.newS_fits hn
      exact rperh_good n a x y lo hi e (by omega) nw (fun w => rint_any 2000000 (by omega) (by omega) 2000000 1 0 (by decide) w) (fun w => rmul_any x y 2000000 1 lo hi e (by omega) (by omega) (by omega) (by omega) (by omega) (by omega) (by omega) (by omega) hv w) w
    · rw [if_pos g0] at hv
      simp only [Prod.mk.injEq] at hv
      obtain ⟨rfl, rfl, rfl⟩ := hv
      exact rperh_err n a x y g (by omega) g0 nw w
theorem uweek_all (k : Int) (w : World) : Calls Tryd.prog 27 #[.int .i64 k] w (Gives (.tuple #[.int .i64 (Sp.weekS k).1, .int .i64 (Sp.weekS k).2]) w) := by
  unfold Sp.weekS
  by_cases h : 0 ≤ k ∧ k ≤ 100000
  · rw [if_pos h]; exact uweek_any k _ _ (.inr ⟨h, rfl, rfl⟩) w
  · rw [if_neg h]; exact uweek_any k _ _ (.inl ⟨h, rfl, rfl⟩) w
theorem rweek_all (k : Int) (w : World) : Calls Tryd.prog 28 #[.int .i64 k] w (Gives (.tuple #[.int .i64 (Sp.weekS k).1, .int .i64 (Sp.weekS k).2]) w) := by
  unfold Sp.weekS
  by_cases h : 0 ≤ k ∧ k ≤ 100000
  · rw [if_pos h]; exact rweek_any k _ _ (.inr ⟨h, rfl, rfl⟩) w
  · rw [if_neg h]; exact rweek_any k _ _ (.inl ⟨h, rfl, rfl⟩) w
end Go.Proofs.YtgfjofdjicepiaaDoor
