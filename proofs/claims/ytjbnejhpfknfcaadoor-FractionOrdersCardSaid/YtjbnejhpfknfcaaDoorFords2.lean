/-
  FractionOrders, put together.
-/
import Derived.Test.YtjbnejhpfknfcaaDoorFords
import Derived.Test.YtjbnejhpfknfcaaDoorFordm
import Derived.Test.YtjbnejhpfknfcaaDoorFlaws2
namespace Go.Proofs.YtjbnejhpfknfcaaDoor
open Go.RowKit
set_option linter.unusedVariables false
theorem mulb {x y : Int} (hx : x.natAbs ≤ 32768) (hy : y.natAbs ≤ 256) : -9000000 ≤ x * y ∧ x * y ≤ 9000000 := by
  have h := Nat.mul_le_mul hx hy
  rw [← Int.natAbs_mul] at h
  generalize x * y = z at h
  omega
theorem cmp_want (X Y : Int) : (X < Y ∧ Wd.cmpI X Y = -1) ∨ (X = Y ∧ Wd.cmpI X Y = 0) ∨ (Y < X ∧ Wd.cmpI X Y = 1) := by
  unfold Wd.cmpI
  rcases Int.lt_trichotomy X Y with h | h | h
  · rw [if_pos h]; exact .inl ⟨h, rfl⟩
  · rw [if_neg (by omega), if_pos h]; exact .inr (.inl ⟨h, rfl⟩)
  · rw [if_neg (by omega), if_neg (by omega)]; exact .inr (.inr ⟨h, rfl⟩)
set_option maxRecDepth 100000 in
set_option maxHeartbeats 4000000 in
theorem fords_as (m0 m1 m2 d0 d1 d2 : Int) (M0 : -32768 ≤ m0) (M0' : m0 ≤ 32767) (M1 : -32768 ≤ m1) (M1' : m1 ≤ 32767) (M2 : -32768 ≤ m2) (M2' : m2 ≤ 32767) (E0 : 0 ≤ d0) (E0' : d0 ≤ 255) (E1 : 0 ≤ d1) (E1' : d1 ≤ 255) (E2 : 0 ≤ d2) (E2' : d2 ≤ 255) (w : World) (ht : Lib.TabIs Tryd.prog w "internal/strconv.uint64pow10" .u64 Lib.pow10Tab) :
    Calls Tryd.prog 9 #[.agg #[.int .i16 m0, .int .i16 m1, .int .i16 m2], .agg #[.int .u8 d0, .int .u8 d1, .int .u8 d2]] w (Gives (.bool true) w) := by
  obtain ⟨a1, a2, va, A1, A2, s1⟩ := small_any m0 d0 M0 M0' E0 E0'
  obtain ⟨b1, b2, vb, B1, B2, s2⟩ := small_any m1 d1 M1 M1' E1 E1'
  obtain ⟨c1, c2, vc, C1, C2, s3⟩ := small_any m2 d2 M2 M2' E2 E2'
  obtain ⟨p1, p2, q1, q2, hp, hq, fp, fq, e1, e2⟩ := Sp.orders_math va vb vc A1 A2 B1 B2 C1 C2
  obtain ⟨fl, up, N, M, hf, hu, hN, hM, N1, M0x, f0, f1, N0, M1x, hw⟩ := Sp.floor_math va A1 A2
  have hcm := fun w => fcmp_any a1 a2 b1 b2 (in32 A1).1 (in32 A1).2 (in256 A2).1 (in256 A2).2 (in32 B1).1 (in32 B1).2 (in256 B2).1 (in256 B2).2 w
  have hcn := fun w => fcmp_any p1 p2 q1 q2 (in15 fp.1).1 (in15 fp.1).2 (in15 fp.2).1 (in15 fp.2).2 (in15 fq.1).1 (in15 fq.1).2 (in15 fq.2).1 (in15 fq.2).2 w
  have hfl := fun w => ffloor_all a1 a2 (in32 A1).1 (in32 A1).2 (in256 A2).1 (in256 A2).2 w
  have hce := fun w => fceil_all a1 a2 (in32 A1).1 (in32 A1).2 (in256 A2).1 (in256 A2).2 w
  rw [e1] at hcm
  rw [e2] at hcn
  rw [hf] at hfl
  rw [hu] at hce
  have X := mulb A1 B2
  have Y := mulb B1 A2
  exact fords_walk m0 m1 m2 d0 d1 d2 a1 a2 b1 b2 c1 c2 p1 p2 q1 q2 fl up _ _ _ N M w (fun W h => fawake_any W (tab_below gPow ht h)) s1 s2 s3
    (fun w => fadd_any _ _ _ _ _ _ _ (in32 A1).1 (in32 A1).2 (in256 A2).1 (in256 A2).2 (in32 C1).1 (in32 C1).2 (in256 C2).1 (in256 C2).2 hp w) (fun w => fadd_any _ _ _ _ _ _ _ (in32 B1).1 (in32 B1).2 (in256 B2).1 (in256 B2).2 (in32 C1).1 (in32 C1).2 (in256 C2).1 (in256 C2).2 hq w) hfl hce hcm hcn rfl rfl X.1 X.2 Y.1 Y.2 hN hM N0 N1 M0x M1x f0 f1 (cmp_want _ _) hw
end Go.Proofs.YtjbnejhpfknfcaaDoor
