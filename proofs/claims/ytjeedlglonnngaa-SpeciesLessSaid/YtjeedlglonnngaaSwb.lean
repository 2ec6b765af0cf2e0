/-
  Layer 10: SpeciesMasses, SpeciesLess: the walks.
-/
import Derived.Test.YtjeedlglonnngaaSv
import Derived.Test.YtjeedlglonnngaaSn
namespace Go.Proofs.Ytjeedlglonnngaa
open Go.RowKit
set_option linter.unusedVariables false
set_option linter.unusedSimpArgs false

set_option maxRecDepth 100000 in
set_option maxHeartbeats 4000000 in
theorem masses_as (i a b : Int) (i0 : -9223372036854775808 ≤ i) (i1 : i ≤ 9223372036854775807) (a0 : -9223372036854775808 ≤ a) (a1 : a ≤ 9223372036854775807) (b0 : -9223372036854775808 ≤ b) (b1 : b ≤ 9223372036854775807) (A : Option Addr) (c : Nat) (l : List Sp.Sc) (w : World) (hc : l.length ≤ c) (hS : Sized l) (hT : Tab w A l) :
    Calls Try.prog 4 #[.slice A l.length c, .int .i64 i, .agg #[.int .i64 a, .int .i64 b]] w (Gives (.bool true) w) := by
  clear i0 i1 a0 a1 b0 b1
  obtain ⟨⟨p0, p1, pe⟩, hp⟩ : ∃ p, Sp.massS l i a b = p := ⟨_, rfl⟩
  obtain ⟨⟨q0, q1, qe⟩, hq⟩ : ∃ p, Sp.carbS l i a b = p := ⟨_, rfl⟩
  have ms := fun (W : World) (hT : Tab W A l) => smass_any A c l i a b p0 p1 pe W hc hS hT hp
  have rms := fun (W : World) (hT : Tab W A l) => rsmass_any A c l i a b p0 p1 pe W hc hS hT hp
  have cb := fun (W : World) (hT : Tab W A l) => scarb_any A c l i a b q0 q1 qe W hc hS hT hq
  have rcb := fun (W : World) (hT : Tab W A l) => rscarb_any A c l i a b q0 q1 qe W hc hS hT hq
  clear hp hq
  obtain ⟨V0, hV0⟩ : ∃ V : World, w.alloc (Obj.cells #[.int .i64 a, .int .i64 b] 30) = V := ⟨_, rfl⟩
  have bV0 : Below w.heap.size w V0 := by rw [← hV0]; exact (Below.refl _ _).alloc (Nat.le_refl _) _
  have zV0 : V0.heap.size = w.heap.size + 1 := by rw [← hV0]; simp
  have v0 : V0.cell? ⟨w.heap.size, 0, none⟩ = some (.int .i64 a) := by rw [← hV0]; simp [go_sem]
  have v1 : V0.cell? ⟨w.heap.size, 1, none⟩ = some (.int .i64 b) := by rw [← hV0]; simp [go_sem]
  have vz : w.heap.size < V0.heap.size := by omega
  have HV0 := hid hV0
  have B0 := hid bV0
  have T0 := hid (hT.below bV0)
  have fw := sfew_any A c l V0 T0.out
  have SZ := hid hS
  have CP := hid hc
  clear hV0 bV0 zV0 hT hS hc
  go_enter Try.func4, Try.ntmps4
  go_wp2_with fail
  rw [HV0.out]
  refine fw.mono ?_
  rintro _ u0 ⟨b, rfl, hb⟩
  have v0 := (hb.cell (p := ⟨w.heap.size, 0, none⟩) vz).trans v0
  have v1 := (hb.cell (p := ⟨w.heap.size, 1, none⟩) vz).trans v1
  have vz : w.heap.size < u0.heap.size := Nat.lt_of_lt_of_le vz hb.size
  have C0 := hid (B0.out.trans (hb.mono B0.out.size))
  have S0 := hid (T0.out.below hb)
  clear hb fw
  cases b
  · go_wp2_with (go_at_call 11; refine (sawake_any _).mono ?_; rintro _ wz ⟨rfl, hz⟩)
    go_ret
    exact Gives.mk rfl (C0.out.trans (hz.mono C0.out.size))
  · go_wp2_with fail
    refine (ms u0 S0.out).mono ?_
    rintro _ u1 ⟨rfl, hb⟩
    obtain ⟨V1, hV⟩ : ∃ V : World, u1.alloc (Obj.cells #[.int .i64 p0, .int .i64 p1] 30) = V := ⟨_, rfl⟩
    have bV : Below u1.heap.size u1 V1 := by rw [← hV]; exact (Below.refl _ _).alloc (Nat.le_refl _) _
    have zV : V1.heap.size = u1.heap.size + 1 := by rw [← hV]; simp
    have m0 : V1.cell? ⟨u1.heap.size, 0, none⟩ = some (.int .i64 (p0)) := by rw [← hV]; simp [go_sem]
    have m1 : V1.cell? ⟨u1.heap.size, 1, none⟩ = some (.int .i64 (p1)) := by rw [← hV]; simp [go_sem]
    have mz : u1.heap.size < V1.heap.size := by omega
    have HV1 := hid hV
    have bk := hb.trans (bV.mono hb.size)
    have v0 := (bk.cell (p := ⟨w.heap.size, 0, none⟩) vz).trans v0
    have v1 := (bk.cell (p := ⟨w.heap.size, 1, none⟩) vz).trans v1
    have vz : w.heap.size < V1.heap.size := Nat.lt_of_lt_of_le vz bk.size
    have B1 := hid (C0.out.trans (bk.mono C0.out.size))
    have T1 := hid (S0.out.below bk)
    clear hb hV bV zV bk
    go_upto_region 4 with fail
    rw [HV1.out]
    go_wp2_with fail
    refine (rms V1 T1.out).mono ?_
    rintro _ u2 ⟨rfl, hb⟩
    obtain ⟨V2, hV⟩ : ∃ V : World, u2.alloc (Obj.cells #[.int .i64 p0, .int .i64 p1] 30) = V := ⟨_, rfl⟩
    have bV : Below u2.heap.size u2 V2 := by rw [← hV]; exact (Below.refl _ _).alloc (Nat.le_refl _) _
    have zV : V2.heap.size = u2.heap.size + 1 := by rw [← hV]; simp
    have n0 : V2.cell? ⟨u2.heap.size, 0, none⟩ = some (.int .i64 (p0)) := by rw [← hV]; simp [go_sem]
    have n1 : V2.cell? ⟨u2.heap.size, 1, none⟩ = some (.int .i64 (p1)) := by rw [← hV]; simp [go_sem]
    have nz : u2.heap.size < V2.heap.size := by omega
    have HV2 := hid hV
    have bk := hb.trans (bV.mono hb.size)
    have v0 := (bk.cell (p := ⟨w.heap.size, 0, none⟩) vz).trans v0
    have v1 := (bk.cell (p := ⟨w.heap.size, 1, none⟩) vz).trans v1
    have vz : w.heap.size < V2.heap.size := Nat.lt_of_lt_of_le vz bk.size
    have m0 := (bk.cell (p := ⟨u1.heap.size, 0, none⟩) mz).trans m0
    have m1 := (bk.cell (p := ⟨u1.heap.size, 1, none⟩) mz).trans m1
    have mz : u1.heap.size < V2.heap.size := Nat.lt_of_lt_of_le mz bk.size
    have B2 := hid (B1.out.trans (bk.mono B1.out.size))
    have T2 := hid (T1.out.below bk)
    clear hb hV bV zV bk
    go_upto_region 5 with fail
    rw [HV2.out]
    go_wp2_with fail
    refine (cb V2 T2.out).mono ?_
    rintro _ u3 ⟨rfl, hb⟩
    obtain ⟨V3, hV⟩ : ∃ V : World, u3.alloc (Obj.cells #[.int .i64 q0, .int .i64 q1] 30) = V := ⟨_, rfl⟩
    have bV : Below u3.heap.size u3 V3 := by rw [← hV]; exact (Below.refl _ _).alloc (Nat.le_refl _) _
    have zV : V3.heap.size = u3.heap.size + 1 := by rw [← hV]; simp
    have k0 : V3.cell? ⟨u3.heap.size, 0, none⟩ = some (.int .i64 (q0)) := by rw [← hV]; simp [go_sem]
    have k1 : V3.cell? ⟨u3.heap.size, 1, none⟩ = some (.int .i64 (q1)) := by rw [← hV]; simp [go_sem]
    have kz : u3.heap.size < V3.heap.size := by omega
    have HV3 := hid hV
    have bk := hb.trans (bV.mono hb.size)
    have v0 := (bk.cell (p := ⟨w.heap.size, 0, none⟩) vz).trans v0
    have v1 := (bk.cell (p := ⟨w.heap.size, 1, none⟩) vz).trans v1
    have vz : w.heap.size < V3.heap.size := Nat.lt_of_lt_of_le vz bk.size
    have m0 := (bk.cell (p := ⟨u1.heap.size, 0, none⟩) mz).trans m0
    have m1 := (bk.cell (p := ⟨u1.heap.size, 1, none⟩) mz).trans m1
    have mz : u1.heap.size < V3.heap.size := Nat.lt_of_lt_of_le mz bk.size
    have n0 := (bk.cell (p := ⟨u2.heap.size, 0, none⟩) nz).trans n0
    have n1 := (bk.cell (p := ⟨u2.heap.size, 1, none⟩) nz).trans n1
    have nz : u2.heap.size < V3.heap.size := Nat.lt_of_lt_of_le nz bk.size
    have B3 := hid (B2.out.trans (bk.mono B2.out.size))
    have T3 := hid (T2.out.below bk)
    clear hb hV bV zV bk
    go_upto_region 6 with fail
    rw [HV3.out]
    go_wp2_with fail
    refine (rcb V3 T3.out).mono ?_
    rintro _ u4 ⟨rfl, hb⟩
    obtain ⟨V4, hV⟩ : ∃ V : World, u4.alloc (Obj.cells #[.int .i64 q0, .int .i64 q1] 30) = V := ⟨_, rfl⟩
    have bV : Below u4.heap.size u4 V4 := by rw [← hV]; exact (Below.refl _ _).alloc (Nat.le_refl _) _
    have zV : V4.heap.size = u4.heap.size + 1 := by rw [← hV]; simp
    have r0 : V4.cell? ⟨u4.heap.size, 0, none⟩ = some (.int .i64 (q0)) := by rw [← hV]; simp [go_sem]
    have r1 : V4.cell? ⟨u4.heap.size, 1, none⟩ = some (.int .i64 (q1)) := by rw [← hV]; simp [go_sem]
    have rz : u4.heap.size < V4.heap.size := by omega
    have HV4 := hid hV
    have bk := hb.trans (bV.mono hb.size)
    have v0 := (bk.cell (p := ⟨w.heap.size, 0, none⟩) vz).trans v0
    have v1 := (bk.cell (p := ⟨w.heap.size, 1, none⟩) vz).trans v1
    have vz : w.heap.size < V4.heap.size := Nat.lt_of_lt_of_le vz bk.size
    have m0 := (bk.cell (p := ⟨u1.heap.size, 0, none⟩) mz).trans m0
    have m1 := (bk.cell (p := ⟨u1.heap.size, 1, none⟩) mz).trans m1
    have mz : u1.heap.size < V4.heap.size := Nat.lt_of_lt_of_le mz bk.size
    have n0 := (bk.cell (p := ⟨u2.heap.size, 0, none⟩) nz).trans n0
    have n1 := (bk.cell (p := ⟨u2.heap.size, 1, none⟩) nz).trans n1
    have nz : u2.heap.size < V4.heap.size := Nat.lt_of_lt_of_le nz bk.size
    have k0 := (bk.cell (p := ⟨u3.heap.size, 0, none⟩) kz).trans k0
    have k1 := (bk.cell (p := ⟨u3.heap.size, 1, none⟩) kz).trans k1
    have kz : u3.heap.size < V4.heap.size := Nat.lt_of_lt_of_le kz bk.size
    have B4 := hid (B3.out.trans (bk.mono B3.out.size))
    have T4 := hid (T3.out.below bk)
    clear hb hV bV zV bk
    go_upto_region 7 with fail
    rw [HV4.out]
    clear ms rms cb rcb
    go_wp2_with (go_at_call 11; refine (sawake_any _).mono ?_; rintro _ wz ⟨rfl, hz⟩)
    go_ret
    exact Gives.mk rfl (B4.out.trans (hz.mono B4.out.size))
set_option maxRecDepth 100000 in
set_option maxHeartbeats 4000000 in
theorem less_as (i a b : Int) (i0 : -9223372036854775808 ≤ i) (i1 : i ≤ 9223372036854775807) (a0 : -9223372036854775808 ≤ a) (a1 : a ≤ 9223372036854775807) (b0 : -9223372036854775808 ≤ b) (b1 : b ≤ 9223372036854775807) (A : Option Addr) (c : Nat) (l : List Sp.Sc) (w : World) (hc : l.length ≤ c) (hS : Sized l) (hT : Tab w A l) :
    Calls Try.prog 7 #[.slice A l.length c, .int .i64 i, .agg #[.int .i64 a, .int .i64 b]] w (Gives (.bool true) w) := by
  clear i0 i1 a0 a1 b0 b1
  obtain ⟨⟨p0, p1, pe⟩, hp⟩ : ∃ p, Sp.massS l i a b = p := ⟨_, rfl⟩
  obtain ⟨⟨q0, q1, qe⟩, hq⟩ : ∃ p, Sp.carbS l i a b = p := ⟨_, rfl⟩
  have ms := fun (W : World) (hT : Tab W A l) => smass_any A c l i a b p0 p1 pe W hc hS hT hp
  have cb := fun (W : World) (hT : Tab W A l) => scarb_any A c l i a b q0 q1 qe W hc hS hT hq
  have HP := hid hp
  have HQ := hid hq
  clear hp hq
  obtain ⟨V0, hV0⟩ : ∃ V : World, w.alloc (Obj.cells #[.int .i64 a, .int .i64 b] 30) = V := ⟨_, rfl⟩
  have bV0 : Below w.heap.size w V0 := by rw [← hV0]; exact (Below.refl _ _).alloc (Nat.le_refl _) _
  have zV0 : V0.heap.size = w.heap.size + 1 := by rw [← hV0]; simp
  have v0 : V0.cell? ⟨w.heap.size, 0, none⟩ = some (.int .i64 a) := by rw [← hV0]; simp [go_sem]
  have v1 : V0.cell? ⟨w.heap.size, 1, none⟩ = some (.int .i64 b) := by rw [← hV0]; simp [go_sem]
  have vz : w.heap.size < V0.heap.size := by omega
  have HV0 := hid hV0
  have B0 := hid bV0
  have T0 := hid (hT.below bV0)
  have fw := sfew_any A c l V0 T0.out
  have SZ := hid hS
  have CP := hid hc
  clear hV0 bV0 zV0 hT hS hc
  go_enter Try.func7, Try.ntmps7
  go_wp2_with fail
  rw [HV0.out]
  refine fw.mono ?_
  rintro _ u0 ⟨b, rfl, hb⟩
  have v0 := (hb.cell (p := ⟨w.heap.size, 0, none⟩) vz).trans v0
  have v1 := (hb.cell (p := ⟨w.heap.size, 1, none⟩) vz).trans v1
  have vz : w.heap.size < u0.heap.size := Nat.lt_of_lt_of_le vz hb.size
  have C0 := hid (B0.out.trans (hb.mono B0.out.size))
  have S0 := hid (T0.out.below hb)
  clear hb fw
  cases b
  · go_wp2_with (go_at_call 11; refine (sawake_any _).mono ?_; rintro _ wz ⟨rfl, hz⟩)
    go_ret
    exact Gives.mk rfl (C0.out.trans (hz.mono C0.out.size))
  · go_wp2_with fail
    refine (ms u0 S0.out).mono ?_
    rintro _ u1 ⟨rfl, hb⟩
    obtain ⟨V1, hV⟩ : ∃ V : World, u1.alloc (Obj.cells #[.int .i64 p0, .int .i64 p1] 30) = V := ⟨_, rfl⟩
    have bV : Below u1.heap.size u1 V1 := by rw [← hV]; exact (Below.refl _ _).alloc (Nat.le_refl _) _
    have zV : V1.heap.size = u1.heap.size + 1 := by rw [← hV]; simp
    have m0 : V1.cell? ⟨u1.heap.size, 0, none⟩ = some (.int .i64 (p0)) := by rw [← hV]; simp [go_sem]
    have m1 : V1.cell? ⟨u1.heap.size, 1, none⟩ = some (.int .i64 (p1)) := by rw [← hV]; simp [go_sem]
    have mz : u1.heap.size < V1.heap.size := by omega
    have HV1 := hid hV
    have bk := hb.trans (bV.mono hb.size)
    have v0 := (bk.cell (p := ⟨w.heap.size, 0, none⟩) vz).trans v0
    have v1 := (bk.cell (p := ⟨w.heap.size, 1, none⟩) vz).trans v1
    have vz : w.heap.size < V1.heap.size := Nat.lt_of_lt_of_le vz bk.size
    have B1 := hid (C0.out.trans (bk.mono C0.out.size))
    have T1 := hid (S0.out.below bk)
    clear hb hV bV zV bk
    go_upto_region 4 with fail
    rw [HV1.out]
    go_wp2_with fail
    refine (cb V1 T1.out).mono ?_
    rintro _ u2 ⟨rfl, hb⟩
    obtain ⟨V2, hV⟩ : ∃ V : World, u2.alloc (Obj.cells #[.int .i64 q0, .int .i64 q1] 30) = V := ⟨_, rfl⟩
    have bV : Below u2.heap.size u2 V2 := by rw [← hV]; exact (Below.refl _ _).alloc (Nat.le_refl _) _
    have zV : V2.heap.size = u2.heap.size + 1 := by rw [← hV]; simp
    have k0 : V2.cell? ⟨u2.heap.size, 0, none⟩ = some (.int .i64 (q0)) := by rw [← hV]; simp [go_sem]
    have k1 : V2.cell? ⟨u2.heap.size, 1, none⟩ = some (.int .i64 (q1)) := by rw [← hV]; simp [go_sem]
    have kz : u2.heap.size < V2.heap.size := by omega
    have HV2 := hid hV
    have bk := hb.trans (bV.mono hb.size)
    have v0 := (bk.cell (p := ⟨w.heap.size, 0, none⟩) vz).trans v0
    have v1 := (bk.cell (p := ⟨w.heap.size, 1, none⟩) vz).trans v1
    have vz : w.heap.size < V2.heap.size := Nat.lt_of_lt_of_le vz bk.size
    have m0 := (bk.cell (p := ⟨u1.heap.size, 0, none⟩) mz).trans m0
    have m1 := (bk.cell (p := ⟨u1.heap.size, 1, none⟩) mz).trans m1
    have mz : u1.heap.size < V2.heap.size := Nat.lt_of_lt_of_le mz bk.size
    have B2 := hid (B1.out.trans (bk.mono B1.out.size))
    have T2 := hid (T1.out.below bk)
    clear hb hV bV zV bk
    go_upto_region 5 with fail
    rw [HV2.out]
    clear ms cb
    by_cases ce : pe = 0
    · subst ce
      obtain ⟨c0, c1, hcb, f0, f1, f2, f3⟩ := Sp.less HP.out
      rw [HQ.out] at hcb
      simp only [Prod.mk.injEq] at hcb
      obtain ⟨rfl, rfl, rfl⟩ := hcb
      have ic := fun W => icheck_any q0 q1 W
      rw [f3] at ic
      have BI := hid (B2.out.trans ((Below.refl _ _).alloc (Nat.le_refl _) (Obj.cells #[.int .i64 q0, .int .i64 q1] 30) |>.mono B2.out.size))
      clear f3
      go_wp2_with fail
      refine (ic _).mono ?_
      rintro _ _ ⟨rfl, rfl⟩
      go_wp2_with (go_at_call 11; refine (sawake_any _).mono ?_; rintro _ wz ⟨rfl, hz⟩)
      go_ret
      exact Gives.mk rfl (BI.out.trans (hz.mono BI.out.size))
    · have e1 : (pe != 0) = true := by simpa using ce
      have hcb : (q0, q1, qe) = ((0 : Int), (0 : Int), pe) := by rw [← HQ.out]; unfold Sp.carbS; rw [HP.out]; simp only; rw [if_pos ce]
      simp only [Prod.mk.injEq] at hcb
      obtain ⟨-, -, rfl⟩ := hcb
      clear ce
      go_wp2_with (go_at_call 11; refine (sawake_any _).mono ?_; rintro _ wz ⟨rfl, hz⟩)
      go_ret
      exact Gives.mk rfl (B2.out.trans (hz.mono B2.out.size))
end Go.Proofs.Ytjeedlglonnngaa
