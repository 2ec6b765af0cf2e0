/-
  Layer 14: mathematics of VolumeAdds: two sections that meet, and the section of both.
-/
import Derived.Test.YtdimncchejbaaaaQvc
namespace Go.Proofs.Ytdimncchejbaaaa
open Go.RowKit
set_option linter.unusedVariables false
set_option linter.unusedSimpArgs false
namespace Sp
theorem fe_zero_iff (g : Int → Int × Int) : ∀ (n : Nat) (a : Int), fe g n a = 0 ↔ ∀ i : Nat, i < n → (g (a + (i : Int))).2 = 0
  | 0, a => by simp [fe]
  | n + 1, a => by
    unfold fe
    constructor
    · intro h
      by_cases c : (g a).2 = 0
      · rw [if_neg (fun k => k c)] at h
        have ih := (fe_zero_iff g n (a + 1)).1 h
        intro i hi
        match i with
        | 0 => simpa using c
        | i + 1 =>
          have := ih i (by omega)
          have e : a + ((i + 1 : Nat) : Int) = a + 1 + (i : Int) := by push_cast; omega
          rw [e]; exact this
      · rw [if_pos c] at h; exact absurd h c
    · intro h
      have c : (g a).2 = 0 := by simpa using h 0 (by omega)
      rw [if_neg (fun k => k c)]
      exact (fe_zero_iff g n (a + 1)).2 (fun i hi => by
        have := h (i + 1) (by omega)
        have e : a + ((i + 1 : Nat) : Int) = a + 1 + (i : Int) := by push_cast; omega
        rw [e] at this; exact this)
/-- n pairs of neighbours from a on. -/
def pg (g : Int → Int × Int) (n : Nat) (a : Int) : List (Int × Int) := (List.range n).map (fun i : Nat => ((g (a + (i : Int))).1, (g (a + (i : Int) + 1)).1))
theorem pr_pg (g : Int → Int × Int) (n : Nat) (a : Int) : prU (fl g (n + 1) a) n = pg g n a := by
  unfold prU pg
  apply List.map_congr_left
  intro i hi
  have hi' : i < n := List.mem_range.1 hi
  have e1 : (fl g (n + 1) a)[i]?.getD 0 = (g (a + (i : Int))).1 := by
    rw [List.getElem?_eq_getElem (by rw [fl_len]; omega)]; simp [fl]
  have e2 : (fl g (n + 1) a)[i + 1]?.getD 0 = (g (a + (i : Int) + 1)).1 := by
    rw [List.getElem?_eq_getElem (by rw [fl_len]; omega)]
    have e : a + ((i + 1 : Nat) : Int) = a + (i : Int) + 1 := by push_cast; omega
    simp only [fl, List.getElem_map, List.getElem_range, Option.getD_some, e]
  rw [e1, e2]
theorem pg_add (g : Int → Int × Int) (n m : Nat) (a : Int) : pg g (n + m) a = pg g n a ++ pg g m (a + (n : Int)) := by
  unfold pg
  rw [List.range_add, List.map_append, List.map_map]
  congr 1
  apply List.map_congr_left
  intro i _
  simp only [Function.comp]
  have e : a + ((n + i : Nat) : Int) = a + (n : Int) + (i : Int) := by push_cast; omega
  rw [e]
theorem lo_app (l m : List (Int × Int)) : loS (l ++ m) = loS l + loS m := by simp [loS]
theorem hi_app (l m : List (Int × Int)) : hiS (l ++ m) = hiS l + hiS m := by simp [hiS]
theorem pg_ok (g : Int → Int × Int) (h : ∀ z, 0 ≤ (g z).1 ∧ (g z).1 ≤ 3000) (n : Nat) (a : Int) : ∀ p ∈ pg g n a, okB p := by
  intro p hp
  simp only [pg, List.mem_map] at hp
  obtain ⟨i, -, rfl⟩ := hp
  exact ⟨h _, h _⟩
theorem pg_len (g : Int → Int × Int) (n : Nat) (a : Int) : (pg g n a).length = n := by simp [pg]
theorem lo_le_hi : ∀ (l : List (Int × Int)), (∀ p ∈ l, okB p) → loS l ≤ hiS l
  | [], _ => by simp [loS, hiS]
  | p :: l, h => by
    have ih := lo_le_hi l (fun q hq => h q (List.mem_cons_of_mem _ hq))
    obtain ⟨⟨a0, a1⟩, b0, b1⟩ := h p List.mem_cons_self
    have e1 : loS (p :: l) = min p.1 p.2 * min p.1 p.2 + loS l := by simp [loS]
    have e2 : hiS (p :: l) = max p.1 p.2 * max p.1 p.2 + hiS l := by simp [hiS]
    have m : min p.1 p.2 * min p.1 p.2 ≤ max p.1 p.2 * max p.1 p.2 := Int.mul_le_mul (by omega) (by omega) (by omega) (by omega)
    rw [e1, e2]
    omega
/-- A section without an error, by its sums. -/
theorem sec_good {h : List Pd} {f : Int} {t : List Pd} {d x a b lo hi : Int} (e : secS h f t d x a b = (lo, hi, 0)) :
    stemE h f t d x = 0 ∧ 0 ≤ a ∧ a ≤ b ∧ b ≤ x ∧ fe (diaS t d x) ((b - a).toNat + 1) a = 0 ∧
    lo = (785398 * loS (pg (diaS t d x) (b - a).toNat a)).tdiv 10000000000 ∧ hi = (785399 * hiS (pg (diaS t d x) (b - a).toNat a) + 10000000000 - 1).tdiv 10000000000 := by
  unfold secS at e
  by_cases c1 : stemP h f t d x [a, b] = 0
  · rw [if_neg (fun k => k c1)] at e
    obtain ⟨k1, k2⟩ := stemP_zero c1
    obtain ⟨z5, z6, k3⟩ := plE_cons k2
    obtain ⟨z7, z8, -⟩ := plE_cons k3
    by_cases c2 : b < a
    · rw [if_pos c2] at e
      obtain ⟨-, e2⟩ := Prod.mk.inj e
      obtain ⟨-, e3⟩ := Prod.mk.inj e2
      exact absurd e3 (by decide)
    · rw [if_neg c2] at e
      have hn : (b - a + 1).toNat = (b - a).toNat + 1 := by omega
      rw [hn] at e
      by_cases c3 : fe (diaS t d x) ((b - a).toNat + 1) a = 0
      · rw [if_neg (fun k => k c3), Nat.add_sub_cancel, pr_pg] at e
        obtain ⟨e1, e2⟩ := Prod.mk.inj e
        obtain ⟨e2, -⟩ := Prod.mk.inj e2
        exact ⟨k1, z5, by omega, z8, c3, e1.symm, e2.symm⟩
      · rw [if_pos c3] at e
        obtain ⟨-, e2⟩ := Prod.mk.inj e
        obtain ⟨-, e3⟩ := Prod.mk.inj e2
        exact absurd e3 c3
  · rw [if_pos c1] at e
    obtain ⟨-, e2⟩ := Prod.mk.inj e
    obtain ⟨-, e3⟩ := Prod.mk.inj e2
    exact absurd e3 c1
theorem sec_of {h : List Pd} {f : Int} {t : List Pd} {d x a b : Int} (hs : stemE h f t d x = 0) (h0 : 0 ≤ a) (h1 : a ≤ b) (h2 : b ≤ x) (he : fe (diaS t d x) ((b - a).toNat + 1) a = 0) :
    secS h f t d x a b = ((785398 * loS (pg (diaS t d x) (b - a).toNat a)).tdiv 10000000000, (785399 * hiS (pg (diaS t d x) (b - a).toNat a) + 10000000000 - 1).tdiv 10000000000, 0) := by
  unfold secS stemP
  rw [hs]
  have e : plE x [a, b] = 0 := by
    unfold plE
    rw [if_neg (by simp; omega)]
    unfold plE
    rw [if_neg (by simp; omega)]
    rfl
  rw [e]
  have hn : (b - a + 1).toNat = (b - a).toNat + 1 := by omega
  simp only [ne_eq, not_true_eq_false, if_false]
  rw [if_neg (by omega), hn, if_neg (fun k => k he), Nat.add_sub_cancel, pr_pg]
/-- Two sections that meet. -/
theorem sec_adds {h : List Pd} {f : Int} {t : List Pd} {d x a b c lo hi : Int} (e : secS h f t d x a c = (lo, hi, 0)) (h1 : a ≤ b) (h2 : b ≤ c) (h3 : c ≤ 1000) :
    ∃ lo1 hi1 lo2 hi2, secS h f t d x a b = (lo1, hi1, 0) ∧ secS h f t d x b c = (lo2, hi2, 0) ∧ addS lo1 hi1 lo2 hi2 = (lo1 + lo2, hi1 + hi2, 0) ∧ withinB lo hi (lo1 + lo2) (hi1 + hi2) = true ∧
      lo - 1 ≤ lo1 + lo2 ∧ hi1 + hi2 ≤ hi + 1 ∧ (0 ≤ lo ∧ lo ≤ 1000000000 ∧ 0 ≤ hi ∧ hi ≤ 1000000000) := by
  obtain ⟨k1, a0, -, cx, k2, rfl, rfl⟩ := sec_good e
  have g3 := diaS_in t d x
  have k3 := (fe_zero_iff _ _ _).1 k2
  have f1 : fe (diaS t d x) ((b - a).toNat + 1) a = 0 := (fe_zero_iff _ _ _).2 (fun i hi => k3 i (by omega))
  have f2 : fe (diaS t d x) ((c - b).toNat + 1) b = 0 := (fe_zero_iff _ _ _).2 (fun i hi => by
    have := k3 ((b - a).toNat + i) (by omega)
    have e : a + (((b - a).toNat + i : Nat) : Int) = b + (i : Int) := by push_cast; omega
    rw [e] at this; exact this)
  have hs : (c - a).toNat = (b - a).toNat + (c - b).toNat := by omega
  have hb : a + ((b - a).toNat : Int) = b := by omega
  obtain ⟨⟨l0, l1⟩, m0, m1⟩ := lohi_bound _ (pg_ok _ g3 (b - a).toNat a)
  obtain ⟨⟨p0, p1⟩, q0, q1⟩ := lohi_bound _ (pg_ok _ g3 (c - b).toNat b)
  have lm := lo_le_hi _ (pg_ok _ g3 (b - a).toNat a)
  have pq := lo_le_hi _ (pg_ok _ g3 (c - b).toNat b)
  rw [pg_len] at l1 m1 p1 q1
  rw [hs, pg_add, hb, lo_app, hi_app]
  refine ⟨_, _, _, _, sec_of k1 a0 h1 (by omega) f1, sec_of k1 (by omega) h2 cx f2, ?_⟩
  have n1 : ((b - a).toNat : Int) ≤ 1000 := by omega
  have n2 : ((c - b).toNat : Int) ≤ 1000 := by omega
  generalize loS (pg (diaS t d x) (b - a).toNat a) = L1 at l0 l1 lm
  generalize hiS (pg (diaS t d x) (b - a).toNat a) = H1 at m0 m1 lm
  generalize loS (pg (diaS t d x) (c - b).toNat b) = L2 at p0 p1 pq
  generalize hiS (pg (diaS t d x) (c - b).toNat b) = H2 at q0 q1 pq
  clear k1 k2 k3 f1 f2 g3 e
  rw [Int.tdiv_eq_ediv_of_nonneg (by omega), Int.tdiv_eq_ediv_of_nonneg (by omega), Int.tdiv_eq_ediv_of_nonneg (by omega), Int.tdiv_eq_ediv_of_nonneg (by omega), Int.tdiv_eq_ediv_of_nonneg (by omega), Int.tdiv_eq_ediv_of_nonneg (by omega)]
  obtain ⟨A, hA⟩ : ∃ A, 785398 * L1 / 10000000000 = A := ⟨_, rfl⟩
  obtain ⟨B, hB⟩ : ∃ B, (785399 * H1 + 10000000000 - 1) / 10000000000 = B := ⟨_, rfl⟩
  obtain ⟨C, hC⟩ : ∃ C, 785398 * L2 / 10000000000 = C := ⟨_, rfl⟩
  obtain ⟨D, hD⟩ : ∃ D, (785399 * H2 + 10000000000 - 1) / 10000000000 = D := ⟨_, rfl⟩
  obtain ⟨X, hX⟩ : ∃ X, 785398 * (L1 + L2) / 10000000000 = X := ⟨_, rfl⟩
  obtain ⟨Y, hY⟩ : ∃ Y, (785399 * (H1 + H2) + 10000000000 - 1) / 10000000000 = Y := ⟨_, rfl⟩
  rw [hA, hB, hC, hD, hX, hY]
  have b1 : 0 ≤ A ∧ A ≤ B ∧ B ≤ 1000000 := by omega
  have b2 : 0 ≤ C ∧ C ≤ D ∧ D ≤ 1000000 := by omega
  have b3 : A + C ≤ X ∧ X ≤ A + C + 1 ∧ Y ≤ B + D ∧ B + D ≤ Y + 1 ∧ X ≤ Y ∧ 0 ≤ X ∧ Y ≤ 2000000 := by omega
  clear hA hB hC hD hX hY l0 l1 m0 m1 p0 p1 q0 q1 lm pq
  have c1 : chk A B = 0 := chk_zero.2 ⟨by omega, by omega, by omega⟩
  have c2 : chk C D = 0 := chk_zero.2 ⟨by omega, by omega, by omega⟩
  have c3 : chk X Y = 0 := chk_zero.2 ⟨by omega, by omega, by omega⟩
  have c4 : chk (A + C) (B + D) = 0 := chk_zero.2 ⟨by omega, by omega, by omega⟩
  refine ⟨?_, ?_, by omega, by omega, by omega, by omega, by omega, by omega⟩
  · unfold addS both
    rw [if_neg (fun k => k (by rw [if_neg (fun k => k c1)]; exact c2))]
    unfold lim
    rw [if_neg (by omega)]
  · unfold withinB both
    rw [decide_eq_true_eq, if_neg (fun k => k c3)]
    exact ⟨c4, by omega, by omega⟩
end Sp
end Go.Proofs.Ytdimncchejbaaaa
