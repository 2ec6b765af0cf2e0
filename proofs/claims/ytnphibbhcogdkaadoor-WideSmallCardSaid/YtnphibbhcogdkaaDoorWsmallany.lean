/-
  WideSmall: its numbers.
-/
import Derived.Test.YtnphibbhcogdkaaDoorWsmall
namespace Go.Proofs.YtnphibbhcogdkaaDoor
open Go.RowKit
set_option linter.unusedVariables false

theorem prod_small {x y : Int} (x0 : -2147483648 ≤ x) (x1 : x ≤ 2147483647) (y0 : -2147483648 ≤ y) (y1 : y ≤ 2147483647) : -4611686018427387904 ≤ x * y ∧ x * y ≤ 4611686018427387904 := by
  have h : (x * y).natAbs ≤ 2147483648 * 2147483648 := by
    rw [Int.natAbs_mul]
    exact Nat.mul_le_mul (by omega) (by omega)
  omega
theorem form_of {z : Int} {n : Bool} {h l : Int} (hz : z.natAbs < 170141183460469231731687303715884105728) (he : Wd.ofInt z = ⟨n, h, l⟩) : Wd.Fits ⟨n, h, l⟩ ∧ Wd.chk ⟨n, h, l⟩ = 0 ∧ Wd.toInt ⟨n, h, l⟩ = z := by
  rw [← he]; exact ⟨Wd.fits_ofInt z (by omega), Wd.chk_ofInt z hz, Wd.toInt_ofInt z⟩
theorem intS_of {z : Int} {n : Bool} {h l : Int} (z0 : -9223372036854775808 ≤ z) (z1 : z ≤ 9223372036854775807) (he : Wd.ofInt z = ⟨n, h, l⟩) : Wd.intS ⟨n, h, l⟩ = (z, 0) := by
  obtain ⟨f, k, t⟩ := form_of (by omega) he
  unfold Wd.intS; rw [k, t, if_neg (by omega), if_pos ⟨z0, z1⟩]
theorem small_any (x y z : Int) (x0 : -2147483648 ≤ x) (x1 : x ≤ 2147483647) (y0 : -2147483648 ≤ y) (y1 : y ≤ 2147483647) (z0 : -2147483648 ≤ z) (z1 : z ≤ 2147483647) (w : World) (ht : Lib.TabIs Tryd.prog w "internal/strconv.uint64pow10" .u64 Lib.pow10Tab) :
    Calls Tryd.prog 3 #[.int .i32 x, .int .i32 y, .int .i32 z] w (Gives (.bool true) w) := by
  obtain ⟨P0, P1⟩ := prod_small x0 x1 y0 y1
  obtain ⟨P, hP⟩ : ∃ P, x * y = P := ⟨_, rfl⟩
  rw [hP] at P0 P1
  obtain ⟨⟨nx, hx, lx⟩, hX⟩ : ∃ r, Wd.ofInt (x * y) = r := ⟨_, rfl⟩
  obtain ⟨⟨nz, hz, lz⟩, hZ⟩ : ∃ r, Wd.ofInt z = r := ⟨_, rfl⟩
  obtain ⟨⟨ns, hs, ls⟩, hS⟩ : ∃ r, Wd.ofInt (P + z) = r := ⟨_, rfl⟩
  obtain ⟨⟨nd, hd, ld⟩, hD⟩ : ∃ r, Wd.ofInt (P - z) = r := ⟨_, rfl⟩
  obtain ⟨⟨na, ha, la⟩, hA⟩ : ∃ r, Wd.ofInt x = r := ⟨_, rfl⟩
  obtain ⟨⟨nb, hb, lb⟩, hB⟩ : ∃ r, Wd.ofInt y = r := ⟨_, rfl⟩
  have hX' := hX
  rw [hP] at hX'
  obtain ⟨fX, kX, tX⟩ := form_of (by omega) hX'
  obtain ⟨fZ, kZ, tZ⟩ := form_of (by omega) hZ
  obtain ⟨fS, kS, tS⟩ := form_of (by omega) hS
  obtain ⟨fD, kD, tD⟩ := form_of (by omega) hD
  obtain ⟨fA, kA, tA⟩ := form_of (by omega) hA
  obtain ⟨fB, kB, tB⟩ := form_of (by omega) hB
  have F : SmallFirst w x y z P nx hx lx nz hz lz ns hs ls nd hd ld ⟨(Lib.itoa (P + z)).toArray⟩ := {
    mu := fun w => mul_any x y (by omega) (by omega) (by omega) (by omega) _ _ _ hX w
    oz := fun w => of_any z (by omega) (by omega) _ _ _ hZ w
    ad := fun w => add_any _ _ _ _ _ _ fX fZ _ _ _ _ (by unfold Wd.addS; rw [kX, kZ, tX, tZ, if_neg (by omega), if_neg (by omega)]; unfold Wd.lim; rw [if_pos (by omega), hS]) w
    i1 := fun w => int_any _ _ _ fS _ _ (intS_of (by omega) (by omega) hS) w
    su := fun w => sub_any _ _ _ _ _ _ fX fZ _ _ _ _ (by unfold Wd.subS; rw [kX, kZ, tX, tZ, if_neg (by omega), if_neg (by omega)]; unfold Wd.lim; rw [if_pos (by omega), hD]) w
    i2 := fun w => int_any _ _ _ fD _ _ (intS_of (by omega) (by omega) hD) w
    tx := fun w => text_any _ _ _ fS kS _ (by rw [tS]) w
    it := fun W hW => itoa_gives (P + z) (by omega) (by omega) W (tab_below (g := 2) (by kernel_rfl) ht hW) _ rfl }
  obtain ⟨v, hv⟩ : ∃ v, Wd.cmpI x y = v := ⟨_, rfl⟩
  have G : SmallLast x y na ha la nb hb lb v := {
    ox := fun w => of_any x (by omega) (by omega) _ _ _ hA w
    oy := fun w => of_any y (by omega) (by omega) _ _ _ hB w
    cm := fun w => compare_any _ _ _ _ _ _ fA fB v (by unfold Wd.cmpS; rw [kA, kB, tA, tB, if_neg (by omega)]; exact hv) w }
  have hc : decide (v < 0) = decide (x < y) := by
    rw [← hv]; unfold Wd.cmpI
    by_cases h : x < y
    · rw [if_pos h]; simp [h]
    · rw [if_neg h]; split <;> simp [h]
  by_cases hz0 : z = 0
  · exact small_zero x y z P nx hx lx nz hz lz ns hs ls nd hd ld _ na ha la nb hb lb v w x0 x1 y0 y1 z0 z1 P0 P1 hP hc F G (by simp [hz0])
  · obtain ⟨⟨nq, hq, lq⟩, hQ⟩ : ∃ r, Wd.ofInt (x.fdiv z) = r := ⟨_, rfl⟩
    have e := Int.fmod_add_mul_fdiv x z
    have qb : -2147483648 ≤ x.fdiv z ∧ x.fdiv z ≤ 2147483648 := by
      have h1 : (x.fdiv z).natAbs ≤ x.natAbs + 1 := by
        by_cases hp : 0 < z
        · rw [Int.fdiv_eq_ediv_of_nonneg _ (by omega)]
          have := Int.natAbs_ediv_le_natAbs x z
          omega
        · have e2 : x.fdiv z = (-x).fdiv (-z) := (Int.neg_fdiv_neg x z).symm
          rw [e2, Int.fdiv_eq_ediv_of_nonneg _ (by omega)]
          have := Int.natAbs_ediv_le_natAbs (-x) (-z)
          omega
      have hl := h1
      by_cases hm : x = -2147483648
      · have hle : (x.fdiv z).natAbs ≤ x.natAbs := by
          by_cases hp : 0 < z
          · rw [Int.fdiv_eq_ediv_of_nonneg _ (by omega)]; exact Int.natAbs_ediv_le_natAbs x z
          · have e2 : x.fdiv z = (-x).fdiv (-z) := (Int.neg_fdiv_neg x z).symm
            rw [e2, Int.fdiv_eq_ediv_of_nonneg _ (by omega)]
            have := Int.natAbs_ediv_le_natAbs (-x) (-z)
            omega
        omega
      · omega
    have fQ := (form_of (z := x.fdiv z) (by omega) hQ).1
    have D : SmallDiv x z na ha la nq hq lq (x.fdiv z) (x.fmod z) := {
      dv := fun w => divFloor_any _ _ _ z fA (by omega) (by omega) _ _ _ _ _ (by unfold Wd.divS; rw [kA, tA, if_neg (by omega), if_neg hz0, hQ]) w
      i3 := fun w => int_any _ _ _ fQ _ _ (intS_of (by omega) (by omega) hQ) w }
    have ek : x.fdiv z * z = x - x.fmod z := by rw [Int.mul_comm]; omega
    by_cases hp : 0 < z
    · exact small_pos x y z P nx hx lx nz hz lz ns hs ls nd hd ld _ na ha la nb hb lb v w x0 x1 y0 y1 z0 z1 P0 P1 hP hc F G nq hq lq _ _ _ D ek (by omega) hp (Int.fmod_nonneg_of_pos x hp) (Int.fmod_lt_of_pos x hp) (by simp [hz0])
    · have hn : z < 0 := by omega
      have em : x.fmod z = -((-x).fmod (-z)) := by rw [Int.neg_fmod_neg]; omega
      have m0 := Int.fmod_nonneg_of_pos (-x) (show 0 < -z by omega)
      have m1 := Int.fmod_lt_of_pos (-x) (show 0 < -z by omega)
      exact small_neg x y z P nx hx lx nz hz lz ns hs ls nd hd ld _ na ha la nb hb lb v w x0 x1 y0 y1 z0 z1 P0 P1 hP hc F G nq hq lq _ _ _ D ek (by omega) hn (by omega) (by omega) (by simp [hz0])
end Go.Proofs.YtnphibbhcogdkaaDoor
