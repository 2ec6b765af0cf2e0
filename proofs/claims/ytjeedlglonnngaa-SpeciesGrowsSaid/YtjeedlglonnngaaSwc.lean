/-
  Layer 10: SpeciesAdds, SpeciesGrows: the walks.
-/
import Derived.Test.YtjeedlglonnngaaSv
import Derived.Test.YtjeedlglonnngaaSn
namespace Go.Proofs.Ytjeedlglonnngaa
open Go.RowKit
set_option linter.unusedVariables false
set_option linter.unusedSimpArgs false

theorem Sp.adds_bounds {m0 m1 t0 t1 : Int} (h : Sp.withinB m0 m1 t0 t1 = true) : t0 ≤ m0 ∧ m1 ≤ t1 ∧ (-1000000000000000 ≤ m0 ∧ m0 ≤ 1000000000000000) ∧ (-1000000000000000 ≤ m1 ∧ m1 ≤ 1000000000000000) := by
  unfold Sp.withinB at h
  obtain ⟨hb, h1, h2⟩ := of_decide_eq_true h
  have := Sp.both_ok hb
  exact ⟨h1, h2, ⟨by omega, by omega⟩, by omega, by omega⟩
set_option maxRecDepth 100000 in
set_option maxHeartbeats 4000000 in
theorem adds_as (i : Int) (i0 : -9223372036854775808 ≤ i) (i1 : i ≤ 9223372036854775807) (A : Option Addr) (c : Nat) (l : List Sp.Sc) (x0 x1 x2 x3 : Int) (w : World) (hc : l.length ≤ c) (hS : Sized l) (hT : Tab w A l) :
    Calls Try.prog 8 #[.slice A l.length c, .int .i64 i, .agg #[.int .i64 x0, .int .i64 x1, .int .i64 x2, .int .i64 x3]] w (Gives (.bool true) w) := by
  clear i0 i1
  obtain ⟨⟨p0, p1, pe⟩, hp⟩ : ∃ p, Sp.massS l i x0 x1 = p := ⟨_, rfl⟩
  obtain ⟨⟨q0, q1, qe⟩, hq⟩ : ∃ p, Sp.massS l i x2 x3 = p := ⟨_, rfl⟩
  obtain ⟨⟨s0, s1, se⟩, hs⟩ : ∃ p, Sp.addS x0 x1 x2 x3 = p := ⟨_, rfl⟩
  obtain ⟨⟨m0, m1, me⟩, hm⟩ : ∃ p, Sp.massS l i s0 s1 = p := ⟨_, rfl⟩
  obtain ⟨⟨t0, t1, te⟩, ht⟩ : ∃ p, Sp.addS p0 p1 q0 q1 = p := ⟨_, rfl⟩
  have ms := fun (W : World) (hT : Tab W A l) => smass_any A c l i x0 x1 p0 p1 pe W hc hS hT hp
  have ns := fun (W : World) (hT : Tab W A l) => smass_any A c l i x2 x3 q0 q1 qe W hc hS hT hq
  have ad := fun W => iadd_any x0 x1 x2 x3 s0 s1 se hs W
  have ks := fun (W : World) (hT : Tab W A l) => smass_any A c l i s0 s1 m0 m1 me W hc hS hT hm
  have ad2 := fun W => iadd_any p0 p1 q0 q1 t0 t1 te ht W
  have HP := hid hp
  have HQ := hid hq
  have HS := hid hs
  have HM := hid hm
  have HT2 := hid ht
  clear hp hq hs hm ht
  obtain ⟨V0, hV0⟩ : ∃ V : World, w.alloc (Obj.cells #[.int .i64 x0, .int .i64 x1, .int .i64 x2, .int .i64 x3] 39) = V := ⟨_, rfl⟩
  have bV0 : Below w.heap.size w V0 := by rw [← hV0]; exact (Below.refl _ _).alloc (Nat.le_refl _) _
  have zV0 : V0.heap.size = w.heap.size + 1 := by rw [← hV0]; simp
  have v0 : V0.cell? ⟨w.heap.size, 0, none⟩ = some (.int .i64 x0) := by rw [← hV0]; simp [go_sem]
  have v1 : V0.cell? ⟨w.heap.size, 1, none⟩ = some (.int .i64 x1) := by rw [← hV0]; simp [go_sem]
  have v2 : V0.cell? ⟨w.heap.size, 2, none⟩ = some (.int .i64 x2) := by rw [← hV0]; simp [go_sem]
  have v3 : V0.cell? ⟨w.heap.size, 3, none⟩ = some (.int .i64 x3) := by rw [← hV0]; simp [go_sem]
  have vz : w.heap.size < V0.heap.size := by omega
  have HV0 := hid hV0
  have B0 := hid bV0
  have T0 := hid (hT.below bV0)
  have fw := sfew_any A c l V0 T0.out
  have SZ := hid hS
  have CP := hid hc
  clear hV0 bV0 zV0 hT hS hc
  go_enter Try.func8, Try.ntmps8
  go_wp2_with fail
  rw [HV0.out]
  refine fw.mono ?_
  rintro _ u0 ⟨b, rfl, hb⟩
  have v0 := (hb.cell (p := ⟨w.heap.size, 0, none⟩) vz).trans v0
  have v1 := (hb.cell (p := ⟨w.heap.size, 1, none⟩) vz).trans v1
  have v2 := (hb.cell (p := ⟨w.heap.size, 2, none⟩) vz).trans v2
  have v3 := (hb.cell (p := ⟨w.heap.size, 3, none⟩) vz).trans v3
  have vz : w.heap.size < u0.heap.size := Nat.lt_of_lt_of_le vz hb.size
  have C0 := hid (B0.out.trans (hb.mono B0.out.size))
  have S0 := hid (T0.out.below hb)
  clear hb fw
  cases b
  · go_wp2_with (go_at_call 11; refine (sawake_any _).mono ?_; rintro _ wz ⟨rfl, hz⟩)
    go_ret
    exact Gives.mk rfl (C0.out.trans (hz.mono C0.out.size))
  · go_wp2_with fail
    refine (ms u0 S0.out).mono ?_
    rintro _ u1 ⟨rfl, hb⟩
    obtain ⟨V1, hV⟩ : ∃ V : World, u1.alloc (Obj.cells #[.int .i64 p0, .int .i64 p1] 30) = V := ⟨_, rfl⟩
    have bV : Below u1.heap.size u1 V1 := by rw [← hV]; exact (Below.refl _ _).alloc (Nat.le_refl _) _
    have zV : V1.heap.size = u1.heap.size + 1 := by rw [← hV]; simp
    have da0 : V1.cell? ⟨u1.heap.size, 0, none⟩ = some (.int .i64 (p0)) := by rw [← hV]; simp [go_sem]
    have da1 : V1.cell? ⟨u1.heap.size, 1, none⟩ = some (.int .i64 (p1)) := by rw [← hV]; simp [go_sem]
    have daz : u1.heap.size < V1.heap.size := by omega
    have HV1 := hid hV
    have bk := hb.trans (bV.mono hb.size)
    have v0 := (bk.cell (p := ⟨w.heap.size, 0, none⟩) vz).trans v0
    have v1 := (bk.cell (p := ⟨w.heap.size, 1, none⟩) vz).trans v1
    have v2 := (bk.cell (p := ⟨w.heap.size, 2, none⟩) vz).trans v2
    have v3 := (bk.cell (p := ⟨w.heap.size, 3, none⟩) vz).trans v3
    have vz : w.heap.size < V1.heap.size := Nat.lt_of_lt_of_le vz bk.size
    have B1 := hid (C0.out.trans (bk.mono C0.out.size))
    have T1 := hid (S0.out.below bk)
    clear hb hV bV zV bk
    go_upto_region 4 with fail
    rw [HV1.out]
    go_wp2_with fail
    refine (ns V1 T1.out).mono ?_
    rintro _ u2 ⟨rfl, hb⟩
    obtain ⟨V2, hV⟩ : ∃ V : World, u2.alloc (Obj.cells #[.int .i64 q0, .int .i64 q1] 30) = V := ⟨_, rfl⟩
    have bV : Below u2.heap.size u2 V2 := by rw [← hV]; exact (Below.refl _ _).alloc (Nat.le_refl _) _
    have zV : V2.heap.size = u2.heap.size + 1 := by rw [← hV]; simp
    have db0 : V2.cell? ⟨u2.heap.size, 0, none⟩ = some (.int .i64 (q0)) := by rw [← hV]; simp [go_sem]
    have db1 : V2.cell? ⟨u2.heap.size, 1, none⟩ = some (.int .i64 (q1)) := by rw [← hV]; simp [go_sem]
    have dbz : u2.heap.size < V2.heap.size := by omega
    have HV2 := hid hV
    have bk := hb.trans (bV.mono hb.size)
    have v0 := (bk.cell (p := ⟨w.heap.size, 0, none⟩) vz).trans v0
    have v1 := (bk.cell (p := ⟨w.heap.size, 1, none⟩) vz).trans v1
    have v2 := (bk.cell (p := ⟨w.heap.size, 2, none⟩) vz).trans v2
    have v3 := (bk.cell (p := ⟨w.heap.size, 3, none⟩) vz).trans v3
    have vz : w.heap.size < V2.heap.size := Nat.lt_of_lt_of_le vz bk.size
    have da0 := (bk.cell (p := ⟨u1.heap.size, 0, none⟩) daz).trans da0
    have da1 := (bk.cell (p := ⟨u1.heap.size, 1, none⟩) daz).trans da1
    have daz : u1.heap.size < V2.heap.size := Nat.lt_of_lt_of_le daz bk.size
    have B2 := hid (B1.out.trans (bk.mono B1.out.size))
    have T2 := hid (T1.out.below bk)
    clear hb hV bV zV bk
    go_upto_region 5 with fail
    rw [HV2.out]
    go_wp2_with fail
    refine (ad V2).mono ?_
    rintro _ u3 ⟨rfl, hb⟩
    obtain ⟨V3, hV⟩ : ∃ V : World, u3.alloc (Obj.cells #[.int .i64 s0, .int .i64 s1] 30) = V := ⟨_, rfl⟩
    have bV : Below u3.heap.size u3 V3 := by rw [← hV]; exact (Below.refl _ _).alloc (Nat.le_refl _) _
    have zV : V3.heap.size = u3.heap.size + 1 := by rw [← hV]; simp
    have dc0 : V3.cell? ⟨u3.heap.size, 0, none⟩ = some (.int .i64 (s0)) := by rw [← hV]; simp [go_sem]
    have dc1 : V3.cell? ⟨u3.heap.size, 1, none⟩ = some (.int .i64 (s1)) := by rw [← hV]; simp [go_sem]
    have dcz : u3.heap.size < V3.heap.size := by omega
    have HV3 := hid hV
    have bk := hb.trans (bV.mono hb.size)
    have v0 := (bk.cell (p := ⟨w.heap.size, 0, none⟩) vz).trans v0
    have v1 := (bk.cell (p := ⟨w.heap.size, 1, none⟩) vz).trans v1
    have v2 := (bk.cell (p := ⟨w.heap.size, 2, none⟩) vz).trans v2
    have v3 := (bk.cell (p := ⟨w.heap.size, 3, none⟩) vz).trans v3
    have vz : w.heap.size < V3.heap.size := Nat.lt_of_lt_of_le vz bk.size
    have da0 := (bk.cell (p := ⟨u1.heap.size, 0, none⟩) daz).trans da0
    have da1 := (bk.cell (p := ⟨u1.heap.size, 1, none⟩) daz).trans da1
    have daz : u1.heap.size < V3.heap.size := Nat.lt_of_lt_of_le daz bk.size
    have db0 := (bk.cell (p := ⟨u2.heap.size, 0, none⟩) dbz).trans db0
    have db1 := (bk.cell (p := ⟨u2.heap.size, 1, none⟩) dbz).trans db1
    have dbz : u2.heap.size < V3.heap.size := Nat.lt_of_lt_of_le dbz bk.size
    have B3 := hid (B2.out.trans (bk.mono B2.out.size))
    have T3 := hid (T2.out.below bk)
    clear hb hV bV zV bk
    go_upto_region 6 with fail
    rw [HV3.out]
    clear ms ns ad
    by_cases cp : pe = 0
    · subst cp
      by_cases cq : qe = 0
      · subst cq
        by_cases cs : se = 0
        · subst cs
          obtain ⟨f1, f2, f3⟩ := Sp.adds HP.out HQ.out HS.out HM.out HT2.out
          have F1 := hid f1
          have F2 := hid f2
          have F3 := hid f3
          clear f1 f2 f3
          go_wp2_with fail
          refine (ks V3 T3.out).mono ?_
          rintro _ u4 ⟨rfl, hb⟩
          obtain ⟨V4, hV⟩ : ∃ V : World, u4.alloc (Obj.cells #[.int .i64 m0, .int .i64 m1] 30) = V := ⟨_, rfl⟩
          have bV : Below u4.heap.size u4 V4 := by rw [← hV]; exact (Below.refl _ _).alloc (Nat.le_refl _) _
          have zV : V4.heap.size = u4.heap.size + 1 := by rw [← hV]; simp
          have dd0 : V4.cell? ⟨u4.heap.size, 0, none⟩ = some (.int .i64 (m0)) := by rw [← hV]; simp [go_sem]
          have dd1 : V4.cell? ⟨u4.heap.size, 1, none⟩ = some (.int .i64 (m1)) := by rw [← hV]; simp [go_sem]
          have ddz : u4.heap.size < V4.heap.size := by omega
          have HV4 := hid hV
          have bk := hb.trans (bV.mono hb.size)
          have v0 := (bk.cell (p := ⟨w.heap.size, 0, none⟩) vz).trans v0
          have v1 := (bk.cell (p := ⟨w.heap.size, 1, none⟩) vz).trans v1
          have v2 := (bk.cell (p := ⟨w.heap.size, 2, none⟩) vz).trans v2
          have v3 := (bk.cell (p := ⟨w.heap.size, 3, none⟩) vz).trans v3
          have vz : w.heap.size < V4.heap.size := Nat.lt_of_lt_of_le vz bk.size
          have da0 := (bk.cell (p := ⟨u1.heap.size, 0, none⟩) daz).trans da0
          have da1 := (bk.cell (p := ⟨u1.heap.size, 1, none⟩) daz).trans da1
          have daz : u1.heap.size < V4.heap.size := Nat.lt_of_lt_of_le daz bk.size
          have db0 := (bk.cell (p := ⟨u2.heap.size, 0, none⟩) dbz).trans db0
          have db1 := (bk.cell (p := ⟨u2.heap.size, 1, none⟩) dbz).trans db1
          have dbz : u2.heap.size < V4.heap.size := Nat.lt_of_lt_of_le dbz bk.size
          have dc0 := (bk.cell (p := ⟨u3.heap.size, 0, none⟩) dcz).trans dc0
          have dc1 := (bk.cell (p := ⟨u3.heap.size, 1, none⟩) dcz).trans dc1
          have dcz : u3.heap.size < V4.heap.size := Nat.lt_of_lt_of_le dcz bk.size
          have B4 := hid (B3.out.trans (bk.mono B3.out.size))
          have T4 := hid (T3.out.below bk)
          clear hb hV bV zV bk
          go_upto_region 9 with fail
          rw [HV4.out]
          go_wp2_with fail
          refine (ad2 V4).mono ?_
          rintro _ u5 ⟨rfl, hb⟩
          obtain ⟨V5, hV⟩ : ∃ V : World, u5.alloc (Obj.cells #[.int .i64 t0, .int .i64 t1] 30) = V := ⟨_, rfl⟩
          have bV : Below u5.heap.size u5 V5 := by rw [← hV]; exact (Below.refl _ _).alloc (Nat.le_refl _) _
          have zV : V5.heap.size = u5.heap.size + 1 := by rw [← hV]; simp
          have de0 : V5.cell? ⟨u5.heap.size, 0, none⟩ = some (.int .i64 (t0)) := by rw [← hV]; simp [go_sem]
          have de1 : V5.cell? ⟨u5.heap.size, 1, none⟩ = some (.int .i64 (t1)) := by rw [← hV]; simp [go_sem]
          have dez : u5.heap.size < V5.heap.size := by omega
          have HV5 := hid hV
          have bk := hb.trans (bV.mono hb.size)
          have v0 := (bk.cell (p := ⟨w.heap.size, 0, none⟩) vz).trans v0
          have v1 := (bk.cell (p := ⟨w.heap.size, 1, none⟩) vz).trans v1
          have v2 := (bk.cell (p := ⟨w.heap.size, 2, none⟩) vz).trans v2
          have v3 := (bk.cell (p := ⟨w.heap.size, 3, none⟩) vz).trans v3
          have vz : w.heap.size < V5.heap.size := Nat.lt_of_lt_of_le vz bk.size
          have da0 := (bk.cell (p := ⟨u1.heap.size, 0, none⟩) daz).trans da0
          have da1 := (bk.cell (p := ⟨u1.heap.size, 1, none⟩) daz).trans da1
          have daz : u1.heap.size < V5.heap.size := Nat.lt_of_lt_of_le daz bk.size
          have db0 := (bk.cell (p := ⟨u2.heap.size, 0, none⟩) dbz).trans db0
          have db1 := (bk.cell (p := ⟨u2.heap.size, 1, none⟩) dbz).trans db1
          have dbz : u2.heap.size < V5.heap.size := Nat.lt_of_lt_of_le dbz bk.size
          have dc0 := (bk.cell (p := ⟨u3.heap.size, 0, none⟩) dcz).trans dc0
          have dc1 := (bk.cell (p := ⟨u3.heap.size, 1, none⟩) dcz).trans dc1
          have dcz : u3.heap.size < V5.heap.size := Nat.lt_of_lt_of_le dcz bk.size
          have dd0 := (bk.cell (p := ⟨u4.heap.size, 0, none⟩) ddz).trans dd0
          have dd1 := (bk.cell (p := ⟨u4.heap.size, 1, none⟩) ddz).trans dd1
          have ddz : u4.heap.size < V5.heap.size := Nat.lt_of_lt_of_le ddz bk.size
          have B5 := hid (B4.out.trans (bk.mono B4.out.size))
          have T5 := hid (T4.out.below bk)
          clear hb hV bV zV bk
          go_upto_region 10 with fail
          rw [HV5.out]
          clear ks ad2
          by_cases cm : me = 0
          · subst cm
            by_cases ct : te = 0
            · subst ct
              obtain ⟨hw, g0, g1⟩ := F3.out rfl rfl
              have wi := fun W => iwithin_any m0 m1 t0 t1 W
              rw [hw] at wi
              obtain ⟨-, -, w1, w2⟩ := Sp.adds_bounds hw
              obtain ⟨w3, w4⟩ := w1
              obtain ⟨w5, w6⟩ := w2
              have g2 : m0 - 1 ≤ t0 := g0
              clear hw F1 F2 F3 HP HQ HS HM HT2
              go_wp2_with fail
              refine (wi _).mono ?_
              rintro _ u9 ⟨rfl, hb⟩
              have v0 := (hb.cell (p := ⟨w.heap.size, 0, none⟩) vz).trans v0
              have v1 := (hb.cell (p := ⟨w.heap.size, 1, none⟩) vz).trans v1
              have v2 := (hb.cell (p := ⟨w.heap.size, 2, none⟩) vz).trans v2
              have v3 := (hb.cell (p := ⟨w.heap.size, 3, none⟩) vz).trans v3
              have vz : w.heap.size < u9.heap.size := Nat.lt_of_lt_of_le vz hb.size
              have da0 := (hb.cell (p := ⟨u1.heap.size, 0, none⟩) daz).trans da0
              have da1 := (hb.cell (p := ⟨u1.heap.size, 1, none⟩) daz).trans da1
              have daz : u1.heap.size < u9.heap.size := Nat.lt_of_lt_of_le daz hb.size
              have db0 := (hb.cell (p := ⟨u2.heap.size, 0, none⟩) dbz).trans db0
              have db1 := (hb.cell (p := ⟨u2.heap.size, 1, none⟩) dbz).trans db1
              have dbz : u2.heap.size < u9.heap.size := Nat.lt_of_lt_of_le dbz hb.size
              have dc0 := (hb.cell (p := ⟨u3.heap.size, 0, none⟩) dcz).trans dc0
              have dc1 := (hb.cell (p := ⟨u3.heap.size, 1, none⟩) dcz).trans dc1
              have dcz : u3.heap.size < u9.heap.size := Nat.lt_of_lt_of_le dcz hb.size
              have dd0 := (hb.cell (p := ⟨u4.heap.size, 0, none⟩) ddz).trans dd0
              have dd1 := (hb.cell (p := ⟨u4.heap.size, 1, none⟩) ddz).trans dd1
              have ddz : u4.heap.size < u9.heap.size := Nat.lt_of_lt_of_le ddz hb.size
              have de0 := (hb.cell (p := ⟨u5.heap.size, 0, none⟩) dez).trans de0
              have de1 := (hb.cell (p := ⟨u5.heap.size, 1, none⟩) dez).trans de1
              have dez : u5.heap.size < u9.heap.size := Nat.lt_of_lt_of_le dez hb.size
              have B9 := hid (B5.out.trans (hb.mono B5.out.size))
              clear hb wi
              go_wp2_with (go_at_call 11; refine (sawake_any _).mono ?_; rintro _ wz ⟨rfl, hz⟩)
              go_ret
              exact Gives.mk rfl (B9.out.trans (hz.mono B9.out.size))
            · have e8 : te = 8 := F2.out.resolve_left ct
              subst e8
              clear ct F1 F2 F3
              go_wp2_with (go_at_call 11; refine (sawake_any _).mono ?_; rintro _ wz ⟨rfl, hz⟩)
              go_ret
              exact Gives.mk rfl (B5.out.trans (hz.mono B5.out.size))
          · have e8 : me = 8 := F1.out.resolve_left cm
            subst e8
            have f2 := F2.out
            clear cm F1 F2 F3
            rcases f2 with rfl | rfl
            · go_wp2_with (go_at_call 11; refine (sawake_any _).mono ?_; rintro _ wz ⟨rfl, hz⟩)
              go_ret
              exact Gives.mk rfl (B5.out.trans (hz.mono B5.out.size))
            · go_wp2_with (go_at_call 11; refine (sawake_any _).mono ?_; rintro _ wz ⟨rfl, hz⟩)
              go_ret
              exact Gives.mk rfl (B5.out.trans (hz.mono B5.out.size))
        · have e1 : (se != 0) = true := by simpa using cs
          clear cs
          go_wp2_with (go_at_call 11; refine (sawake_any _).mono ?_; rintro _ wz ⟨rfl, hz⟩)
          go_ret
          exact Gives.mk rfl (B3.out.trans (hz.mono B3.out.size))
      · have e1 : (qe != 0) = true := by simpa using cq
        clear cq
        go_wp2_with (go_at_call 11; refine (sawake_any _).mono ?_; rintro _ wz ⟨rfl, hz⟩)
        go_ret
        exact Gives.mk rfl (B3.out.trans (hz.mono B3.out.size))
    · have e1 : (pe != 0) = true := by simpa using cp
      clear cp
      go_wp2_with (go_at_call 11; refine (sawake_any _).mono ?_; rintro _ wz ⟨rfl, hz⟩)
      go_ret
      exact Gives.mk rfl (B3.out.trans (hz.mono B3.out.size))
set_option maxRecDepth 100000 in
set_option maxHeartbeats 4000000 in
theorem grows_as (i : Int) (i0 : -9223372036854775808 ≤ i) (i1 : i ≤ 9223372036854775807) (A : Option Addr) (c : Nat) (l : List Sp.Sc) (x0 x1 x2 x3 : Int) (w : World) (hc : l.length ≤ c) (hS : Sized l) (hT : Tab w A l) :
    Calls Try.prog 9 #[.slice A l.length c, .int .i64 i, .agg #[.int .i64 x0, .int .i64 x1, .int .i64 x2, .int .i64 x3]] w (Gives (.bool true) w) := by
  clear i0 i1
  obtain ⟨⟨p0, p1, pe⟩, hp⟩ : ∃ p, Sp.carbS l i x0 x1 = p := ⟨_, rfl⟩
  obtain ⟨⟨q0, q1, qe⟩, hq⟩ : ∃ p, Sp.carbS l i x2 x3 = p := ⟨_, rfl⟩
  obtain ⟨⟨m0, m1, me⟩, hm⟩ : ∃ p, Sp.massS l i x0 x1 = p := ⟨_, rfl⟩
  obtain ⟨⟨t0, t1, te⟩, ht⟩ : ∃ p, Sp.massS l i x2 x3 = p := ⟨_, rfl⟩
  have ca := fun (W : World) (hT : Tab W A l) => scarb_any A c l i x0 x1 p0 p1 pe W hc hS hT hp
  have cb := fun (W : World) (hT : Tab W A l) => scarb_any A c l i x2 x3 q0 q1 qe W hc hS hT hq
  have ma := fun (W : World) (hT : Tab W A l) => smass_any A c l i x0 x1 m0 m1 me W hc hS hT hm
  have mb := fun (W : World) (hT : Tab W A l) => smass_any A c l i x2 x3 t0 t1 te W hc hS hT ht
  have wi := fun W => iwithin_any x0 x1 x2 x3 W
  have HP := hid hp
  have HQ := hid hq
  have HM := hid hm
  have HT2 := hid ht
  clear hp hq hm ht
  obtain ⟨bw, hbw⟩ : ∃ b, Sp.withinB x0 x1 x2 x3 = b := ⟨_, rfl⟩
  rw [hbw] at wi
  have HW := hid hbw
  clear hbw
  obtain ⟨V0, hV0⟩ : ∃ V : World, w.alloc (Obj.cells #[.int .i64 x0, .int .i64 x1, .int .i64 x2, .int .i64 x3] 39) = V := ⟨_, rfl⟩
  have bV0 : Below w.heap.size w V0 := by rw [← hV0]; exact (Below.refl _ _).alloc (Nat.le_refl _) _
  have zV0 : V0.heap.size = w.heap.size + 1 := by rw [← hV0]; simp
  have v0 : V0.cell? ⟨w.heap.size, 0, none⟩ = some (.int .i64 x0) := by rw [← hV0]; simp [go_sem]
  have v1 : V0.cell? ⟨w.heap.size, 1, none⟩ = some (.int .i64 x1) := by rw [← hV0]; simp [go_sem]
  have v2 : V0.cell? ⟨w.heap.size, 2, none⟩ = some (.int .i64 x2) := by rw [← hV0]; simp [go_sem]
  have v3 : V0.cell? ⟨w.heap.size, 3, none⟩ = some (.int .i64 x3) := by rw [← hV0]; simp [go_sem]
  have vz : w.heap.size < V0.heap.size := by omega
  have HV0 := hid hV0
  have B0 := hid bV0
  have T0 := hid (hT.below bV0)
  have fw := sfew_any A c l V0 T0.out
  have SZ := hid hS
  have CP := hid hc
  clear hV0 bV0 zV0 hT hS hc
  go_enter Try.func9, Try.ntmps9
  go_wp2_with fail
  rw [HV0.out]
  refine fw.mono ?_
  rintro _ u0 ⟨b, rfl, hb⟩
  have v0 := (hb.cell (p := ⟨w.heap.size, 0, none⟩) vz).trans v0
  have v1 := (hb.cell (p := ⟨w.heap.size, 1, none⟩) vz).trans v1
  have v2 := (hb.cell (p := ⟨w.heap.size, 2, none⟩) vz).trans v2
  have v3 := (hb.cell (p := ⟨w.heap.size, 3, none⟩) vz).trans v3
  have vz : w.heap.size < u0.heap.size := Nat.lt_of_lt_of_le vz hb.size
  have C0 := hid (B0.out.trans (hb.mono B0.out.size))
  have S0 := hid (T0.out.below hb)
  clear hb fw
  cases b
  · go_wp2_with (go_at_call 11; refine (sawake_any _).mono ?_; rintro _ wz ⟨rfl, hz⟩)
    go_ret
    exact Gives.mk rfl (C0.out.trans (hz.mono C0.out.size))
  · go_wp2_with fail
    refine (wi _).mono ?_
    rintro _ ub ⟨rfl, hb⟩
    have v0 := (hb.cell (p := ⟨w.heap.size, 0, none⟩) vz).trans v0
    have v1 := (hb.cell (p := ⟨w.heap.size, 1, none⟩) vz).trans v1
    have v2 := (hb.cell (p := ⟨w.heap.size, 2, none⟩) vz).trans v2
    have v3 := (hb.cell (p := ⟨w.heap.size, 3, none⟩) vz).trans v3
    have vz : w.heap.size < ub.heap.size := Nat.lt_of_lt_of_le vz hb.size
    have CB := hid (C0.out.trans (hb.mono C0.out.size))
    have SB := hid (S0.out.below hb)
    clear hb wi
    cases bw
    · go_wp2_with (go_at_call 11; refine (sawake_any _).mono ?_; rintro _ wz ⟨rfl, hz⟩)
      go_ret
      exact Gives.mk rfl (CB.out.trans (hz.mono CB.out.size))
    · go_wp2_with fail
      refine (ca ub SB.out).mono ?_
      rintro _ u1 ⟨rfl, hb⟩
      obtain ⟨V1, hV⟩ : ∃ V : World, u1.alloc (Obj.cells #[.int .i64 p0, .int .i64 p1] 30) = V := ⟨_, rfl⟩
      have bV : Below u1.heap.size u1 V1 := by rw [← hV]; exact (Below.refl _ _).alloc (Nat.le_refl _) _
      have zV : V1.heap.size = u1.heap.size + 1 := by rw [← hV]; simp
      have da0 : V1.cell? ⟨u1.heap.size, 0, none⟩ = some (.int .i64 (p0)) := by rw [← hV]; simp [go_sem]
      have da1 : V1.cell? ⟨u1.heap.size, 1, none⟩ = some (.int .i64 (p1)) := by rw [← hV]; simp [go_sem]
      have daz : u1.heap.size < V1.heap.size := by omega
      have HV1 := hid hV
      have bk := hb.trans (bV.mono hb.size)
      have v0 := (bk.cell (p := ⟨w.heap.size, 0, none⟩) vz).trans v0
      have v1 := (bk.cell (p := ⟨w.heap.size, 1, none⟩) vz).trans v1
      have v2 := (bk.cell (p := ⟨w.heap.size, 2, none⟩) vz).trans v2
      have v3 := (bk.cell (p := ⟨w.heap.size, 3, none⟩) vz).trans v3
      have vz : w.heap.size < V1.heap.size := Nat.lt_of_lt_of_le vz bk.size
      have B1 := hid (CB.out.trans (bk.mono CB.out.size))
      have T1 := hid (SB.out.below bk)
      clear hb hV bV zV bk
      go_upto_region 4 with fail
      rw [HV1.out]
      go_wp2_with fail
      refine (cb V1 T1.out).mono ?_
      rintro _ u2 ⟨rfl, hb⟩
      obtain ⟨V2, hV⟩ : ∃ V : World, u2.alloc (Obj.cells #[.int .i64 q0, .int .i64 q1] 30) = V := ⟨_, rfl⟩
      have bV : Below u2.heap.size u2 V2 := by rw [← hV]; exact (Below.refl _ _).alloc (Nat.le_refl _) _
      have zV : V2.heap.size = u2.heap.size + 1 := by rw [← hV]; simp
      have db0 : V2.cell? ⟨u2.heap.size, 0, none⟩ = some (.int .i64 (q0)) := by rw [← hV]; simp [go_sem]
      have db1 : V2.cell? ⟨u2.heap.size, 1, none⟩ = some (.int .i64 (q1)) := by rw [← hV]; simp [go_sem]
      have dbz : u2.heap.size < V2.heap.size := by omega
      have HV2 := hid hV
      have bk := hb.trans (bV.mono hb.size)
      have v0 := (bk.cell (p := ⟨w.heap.size, 0, none⟩) vz).trans v0
      have v1 := (bk.cell (p := ⟨w.heap.size, 1, none⟩) vz).trans v1
      have v2 := (bk.cell (p := ⟨w.heap.size, 2, none⟩) vz).trans v2
      have v3 := (bk.cell (p := ⟨w.heap.size, 3, none⟩) vz).trans v3
      have vz : w.heap.size < V2.heap.size := Nat.lt_of_lt_of_le vz bk.size
      have da0 := (bk.cell (p := ⟨u1.heap.size, 0, none⟩) daz).trans da0
      have da1 := (bk.cell (p := ⟨u1.heap.size, 1, none⟩) daz).trans da1
      have daz : u1.heap.size < V2.heap.size := Nat.lt_of_lt_of_le daz bk.size
      have B2 := hid (B1.out.trans (bk.mono B1.out.size))
      have T2 := hid (T1.out.below bk)
      clear hb hV bV zV bk
      go_upto_region 5 with fail
      rw [HV2.out]
      go_wp2_with fail
      refine (ma V2 T2.out).mono ?_
      rintro _ u3 ⟨rfl, hb⟩
      obtain ⟨V3, hV⟩ : ∃ V : World, u3.alloc (Obj.cells #[.int .i64 m0, .int .i64 m1] 30) = V := ⟨_, rfl⟩
      have bV : Below u3.heap.size u3 V3 := by rw [← hV]; exact (Below.refl _ _).alloc (Nat.le_refl _) _
      have zV : V3.heap.size = u3.heap.size + 1 := by rw [← hV]; simp
      have dc0 : V3.cell? ⟨u3.heap.size, 0, none⟩ = some (.int .i64 (m0)) := by rw [← hV]; simp [go_sem]
      have dc1 : V3.cell? ⟨u3.heap.size, 1, none⟩ = some (.int .i64 (m1)) := by rw [← hV]; simp [go_sem]
      have dcz : u3.heap.size < V3.heap.size := by omega
      have HV3 := hid hV
      have bk := hb.trans (bV.mono hb.size)
      have v0 := (bk.cell (p := ⟨w.heap.size, 0, none⟩) vz).trans v0
      have v1 := (bk.cell (p := ⟨w.heap.size, 1, none⟩) vz).trans v1
      have v2 := (bk.cell (p := ⟨w.heap.size, 2, none⟩) vz).trans v2
      have v3 := (bk.cell (p := ⟨w.heap.size, 3, none⟩) vz).trans v3
      have vz : w.heap.size < V3.heap.size := Nat.lt_of_lt_of_le vz bk.size
      have da0 := (bk.cell (p := ⟨u1.heap.size, 0, none⟩) daz).trans da0
      have da1 := (bk.cell (p := ⟨u1.heap.size, 1, none⟩) daz).trans da1
      have daz : u1.heap.size < V3.heap.size := Nat.lt_of_lt_of_le daz bk.size
      have db0 := (bk.cell (p := ⟨u2.heap.size, 0, none⟩) dbz).trans db0
      have db1 := (bk.cell (p := ⟨u2.heap.size, 1, none⟩) dbz).trans db1
      have dbz : u2.heap.size < V3.heap.size := Nat.lt_of_lt_of_le dbz bk.size
      have B3 := hid (B2.out.trans (bk.mono B2.out.size))
      have T3 := hid (T2.out.below bk)
      clear hb hV bV zV bk
      go_upto_region 6 with fail
      rw [HV3.out]
      go_wp2_with fail
      refine (mb V3 T3.out).mono ?_
      rintro _ u4 ⟨rfl, hb⟩
      obtain ⟨V4, hV⟩ : ∃ V : World, u4.alloc (Obj.cells #[.int .i64 t0, .int .i64 t1] 30) = V := ⟨_, rfl⟩
      have bV : Below u4.heap.size u4 V4 := by rw [← hV]; exact (Below.refl _ _).alloc (Nat.le_refl _) _
      have zV : V4.heap.size = u4.heap.size + 1 := by rw [← hV]; simp
      have dd0 : V4.cell? ⟨u4.heap.size, 0, none⟩ = some (.int .i64 (t0)) := by rw [← hV]; simp [go_sem]
      have dd1 : V4.cell? ⟨u4.heap.size, 1, none⟩ = some (.int .i64 (t1)) := by rw [← hV]; simp [go_sem]
      have ddz : u4.heap.size < V4.heap.size := by omega
      have HV4 := hid hV
      have bk := hb.trans (bV.mono hb.size)
      have v0 := (bk.cell (p := ⟨w.heap.size, 0, none⟩) vz).trans v0
      have v1 := (bk.cell (p := ⟨w.heap.size, 1, none⟩) vz).trans v1
      have v2 := (bk.cell (p := ⟨w.heap.size, 2, none⟩) vz).trans v2
      have v3 := (bk.cell (p := ⟨w.heap.size, 3, none⟩) vz).trans v3
      have vz : w.heap.size < V4.heap.size := Nat.lt_of_lt_of_le vz bk.size
      have da0 := (bk.cell (p := ⟨u1.heap.size, 0, none⟩) daz).trans da0
      have da1 := (bk.cell (p := ⟨u1.heap.size, 1, none⟩) daz).trans da1
      have daz : u1.heap.size < V4.heap.size := Nat.lt_of_lt_of_le daz bk.size
      have db0 := (bk.cell (p := ⟨u2.heap.size, 0, none⟩) dbz).trans db0
      have db1 := (bk.cell (p := ⟨u2.heap.size, 1, none⟩) dbz).trans db1
      have dbz : u2.heap.size < V4.heap.size := Nat.lt_of_lt_of_le dbz bk.size
      have dc0 := (bk.cell (p := ⟨u3.heap.size, 0, none⟩) dcz).trans dc0
      have dc1 := (bk.cell (p := ⟨u3.heap.size, 1, none⟩) dcz).trans dc1
      have dcz : u3.heap.size < V4.heap.size := Nat.lt_of_lt_of_le dcz bk.size
      have B4 := hid (B3.out.trans (bk.mono B3.out.size))
      have T4 := hid (T3.out.below bk)
      clear hb hV bV zV bk
      go_upto_region 7 with fail
      rw [HV4.out]
      clear ca cb ma mb
      by_cases cq : qe = 0
      · subst cq
        by_cases ct : te = 0
        · subst ct
          obtain ⟨y0, y1, y2, y3, hma, hca, hw1, hw2⟩ := Sp.grows HW.out HT2.out HQ.out
          rw [HM.out] at hma
          rw [HP.out] at hca
          simp only [Prod.mk.injEq] at hma hca
          obtain ⟨rfl, rfl, rfl⟩ := hma
          obtain ⟨rfl, rfl, rfl⟩ := hca
          have wa := fun W => iwithin_any p0 p1 q0 q1 W
          have wb := fun W => iwithin_any m0 m1 t0 t1 W
          rw [hw2] at wa
          rw [hw1] at wb
          clear hw1 hw2 HP HQ HM HT2 HW
          go_wp2_with fail
          refine (wa _).mono ?_
          rintro _ u8 ⟨rfl, hb⟩
          have v0 := (hb.cell (p := ⟨w.heap.size, 0, none⟩) vz).trans v0
          have v1 := (hb.cell (p := ⟨w.heap.size, 1, none⟩) vz).trans v1
          have v2 := (hb.cell (p := ⟨w.heap.size, 2, none⟩) vz).trans v2
          have v3 := (hb.cell (p := ⟨w.heap.size, 3, none⟩) vz).trans v3
          have vz : w.heap.size < u8.heap.size := Nat.lt_of_lt_of_le vz hb.size
          have da0 := (hb.cell (p := ⟨u1.heap.size, 0, none⟩) daz).trans da0
          have da1 := (hb.cell (p := ⟨u1.heap.size, 1, none⟩) daz).trans da1
          have daz : u1.heap.size < u8.heap.size := Nat.lt_of_lt_of_le daz hb.size
          have db0 := (hb.cell (p := ⟨u2.heap.size, 0, none⟩) dbz).trans db0
          have db1 := (hb.cell (p := ⟨u2.heap.size, 1, none⟩) dbz).trans db1
          have dbz : u2.heap.size < u8.heap.size := Nat.lt_of_lt_of_le dbz hb.size
          have dc0 := (hb.cell (p := ⟨u3.heap.size, 0, none⟩) dcz).trans dc0
          have dc1 := (hb.cell (p := ⟨u3.heap.size, 1, none⟩) dcz).trans dc1
          have dcz : u3.heap.size < u8.heap.size := Nat.lt_of_lt_of_le dcz hb.size
          have dd0 := (hb.cell (p := ⟨u4.heap.size, 0, none⟩) ddz).trans dd0
          have dd1 := (hb.cell (p := ⟨u4.heap.size, 1, none⟩) ddz).trans dd1
          have ddz : u4.heap.size < u8.heap.size := Nat.lt_of_lt_of_le ddz hb.size
          have B8 := hid (B4.out.trans (hb.mono B4.out.size))
          clear hb
          go_wp2_with fail
          refine (wb _).mono ?_
          rintro _ u9 ⟨rfl, hb⟩
          have B9 := hid (B8.out.trans (hb.mono B8.out.size))
          clear hb wa wb
          go_wp2_with (go_at_call 11; refine (sawake_any _).mono ?_; rintro _ wz ⟨rfl, hz⟩)
          go_ret
          exact Gives.mk rfl (B9.out.trans (hz.mono B9.out.size))
        · have e1 : (te != 0) = true := by simpa using ct
          clear ct
          go_wp2_with (go_at_call 11; refine (sawake_any _).mono ?_; rintro _ wz ⟨rfl, hz⟩)
          go_ret
          exact Gives.mk rfl (B4.out.trans (hz.mono B4.out.size))
      · have e1 : (qe != 0) = true := by simpa using cq
        clear cq
        go_wp2_with (go_at_call 11; refine (sawake_any _).mono ?_; rintro _ wz ⟨rfl, hz⟩)
        go_ret
        exact Gives.mk rfl (B4.out.trans (hz.mono B4.out.size))
end Go.Proofs.Ytjeedlglonnngaa
