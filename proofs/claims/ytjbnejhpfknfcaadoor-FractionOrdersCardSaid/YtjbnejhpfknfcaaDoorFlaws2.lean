/-
  FractionLaws, put together.
-/
import Derived.Test.YtjbnejhpfknfcaaDoorFlaws
import Derived.Test.YtjbnejhpfknfcaaDoorFarr3
namespace Go.Proofs.YtjbnejhpfknfcaaDoor
open Go.RowKit
set_option linter.unusedVariables false
set_option linter.unusedSimpArgs false
theorem in32 {x : Int} (h : x.natAbs ≤ 32768) : -9223372036854775808 ≤ x ∧ x ≤ 9223372036854775807 := by omega
theorem in256 {x : Int} (h : x.natAbs ≤ 256) : -9223372036854775808 ≤ x ∧ x ≤ 9223372036854775807 := by omega
theorem in15 {x : Int} (h : x.natAbs ≤ 1000000000000000) : -9223372036854775808 ≤ x ∧ x ≤ 9223372036854775807 := by omega
set_option maxRecDepth 100000 in
set_option maxHeartbeats 4000000 in
theorem flaws_as (m0 m1 m2 d0 d1 d2 : Int) (M0 : -32768 ≤ m0) (M0' : m0 ≤ 32767) (M1 : -32768 ≤ m1) (M1' : m1 ≤ 32767) (M2 : -32768 ≤ m2) (M2' : m2 ≤ 32767) (E0 : 0 ≤ d0) (E0' : d0 ≤ 255) (E1 : 0 ≤ d1) (E1' : d1 ≤ 255) (E2 : 0 ≤ d2) (E2' : d2 ≤ 255) (w : World) (ht : Lib.TabIs Tryd.prog w "internal/strconv.uint64pow10" .u64 Lib.pow10Tab) :
    Calls Tryd.prog 8 #[.agg #[.int .i16 m0, .int .i16 m1, .int .i16 m2], .agg #[.int .u8 d0, .int .u8 d1, .int .u8 d2]] w (Gives (.bool true) w) := by
  obtain ⟨a1, a2, va, A1, A2, s1⟩ := small_any m0 d0 M0 M0' E0 E0'
  obtain ⟨b1, b2, vb, B1, B2, s2⟩ := small_any m1 d1 M1 M1' E1 E1'
  obtain ⟨c1, c2, vc, C1, C2, s3⟩ := small_any m2 d2 M2 M2' E2 E2'
  obtain ⟨p1, p2, t1, t2, l1, l2, x1, x2, y1, y2, z1, z2, L⟩ := Sp.laws_math va vb vc A1 A2 B1 B2 C1 C2
  have fp := L.fp
  have fs := L.fs
  have fy := L.fy
  have fz := L.fz
  obtain ⟨⟨r1, r2, f⟩, hd⟩ : ∃ r, Sp.divF y1 y2 b1 b2 = r := ⟨_, rfl⟩
  have hfin : (b1 = 0 ∧ f = 18) ∨ (¬ b1 = 0 ∧ f = 0 ∧ r1 = a1 ∧ r2 = a2) := by
    by_cases h : b1 = 0
    · have e := L.dz h
      rw [hd] at e
      simp only [Prod.mk.injEq] at e
      exact .inl ⟨h, e.2.2⟩
    · have e := L.dn h
      rw [hd] at e
      simp only [Prod.mk.injEq] at e
      exact .inr ⟨h, e.2.2, e.1, e.2.1⟩
  exact flaws_walk m0 m1 m2 d0 d1 d2 a1 a2 b1 b2 c1 c2 p1 p2 l1 l2 t1 t2 x1 x2 y1 y2 z1 z2 r1 r2 f w (fun W h => fawake_any W (tab_below gPow ht h)) s1 s2 s3
    (fun w => fadd_any _ _ _ _ _ _ _ (in32 A1).1 (in32 A1).2 (in256 A2).1 (in256 A2).2 (in32 B1).1 (in32 B1).2 (in256 B2).1 (in256 B2).2 L.ab w)
    (fun w => fadd_any _ _ _ _ _ _ _ (in32 B1).1 (in32 B1).2 (in256 B2).1 (in256 B2).2 (in32 A1).1 (in32 A1).2 (in256 A2).1 (in256 A2).2 L.ba w)
    (fun w => fadd_any _ _ _ _ _ _ _ (in15 fp.1).1 (in15 fp.1).2 (in15 fp.2).1 (in15 fp.2).2 (in32 C1).1 (in32 C1).2 (in256 C2).1 (in256 C2).2 L.le w)
    (fun w => fadd_any _ _ _ _ _ _ _ (in32 B1).1 (in32 B1).2 (in256 B2).1 (in256 B2).2 (in32 C1).1 (in32 C1).2 (in256 C2).1 (in256 C2).2 L.bc w)
    (fun w => fadd_any _ _ _ _ _ _ _ (in32 A1).1 (in32 A1).2 (in256 A2).1 (in256 A2).2 (in15 fs.1).1 (in15 fs.1).2 (in15 fs.2).1 (in15 fs.2).2 L.ri w)
    (fun w => fmul_any _ _ _ _ _ _ _ (in32 A1).1 (in32 A1).2 (in256 A2).1 (in256 A2).2 (in15 fs.1).1 (in15 fs.1).2 (in15 fs.2).1 (in15 fs.2).2 L.mx w)
    (fun w => fmul_any _ _ _ _ _ _ _ (in32 A1).1 (in32 A1).2 (in256 A2).1 (in256 A2).2 (in32 B1).1 (in32 B1).2 (in256 B2).1 (in256 B2).2 L.my w)
    (fun w => fmul_any _ _ _ _ _ _ _ (in32 A1).1 (in32 A1).2 (in256 A2).1 (in256 A2).2 (in32 C1).1 (in32 C1).2 (in256 C2).1 (in256 C2).2 L.mz w)
    (fun w => fadd_any _ _ _ _ _ _ _ (in15 fy.1).1 (in15 fy.1).2 (in15 fy.2).1 (in15 fy.2).2 (in15 fz.1).1 (in15 fz.1).2 (in15 fz.2).1 (in15 fz.2).2 L.aw w)
    (fun w => fmul_any _ _ _ _ _ _ _ (in32 B1).1 (in32 B1).2 (in256 B2).1 (in256 B2).2 (in32 A1).1 (in32 A1).2 (in256 A2).1 (in256 A2).2 L.mv w)
    (fun w => fsub_any _ _ _ _ _ _ _ (in15 fp.1).1 (in15 fp.1).2 (in15 fp.2).1 (in15 fp.2).2 (in32 B1).1 (in32 B1).2 (in256 B2).1 (in256 B2).2 L.su w)
    (fun w => fdiv_any _ _ _ _ _ _ _ (in15 fy.1).1 (in15 fy.1).2 (in15 fy.2).1 (in15 fy.2).2 (in32 B1).1 (in32 B1).2 (in256 B2).1 (in256 B2).2 hd w)
    hfin
end Go.Proofs.YtjbnejhpfknfcaaDoor
