/-
  Layer 16: the law's example and awake, by contract.
-/
import Derived.Test.YtmdaanigkhikfabLg
import Derived.Test.YtmdaanigkhikfabLc
import Derived.Test.YtmdaanigkhikfabShelf
namespace Go.Proofs.Ytmdaanigkhikfab
open Go.RowKit
set_option linter.unusedVariables false
set_option linter.unusedSimpArgs false
/-- Equal lists of ints are found equal. -/
theorem leq_any (A B : Option Addr) (ca cb : Nat) (l : List Int) (w : World) (hl : l.length ≤ 1000000) (hA : Ints w A l) (hB : Ints w B l) :
    Calls Try.prog 26 #[.slice A l.length ca, .slice B l.length cb] w (Gives (.bool true) w) := by
  by_cases h0 : 0 < l.length
  · obtain ⟨b, off, rfl, bl, q⟩ := hA h0
    obtain ⟨b', off', rfl, bl', q'⟩ := hB h0
    have H := Try.slices_Equal_int b off l.length ca b' off' l.length cb l l w (Nat.le_refl _) (Nat.le_refl _) (by omega) (by omega) (fun j hj => by rw [q j hj]; simp [List.getD, List.getElem?_eq_getElem hj]) (fun j hj => by rw [q' j hj]; simp [List.getD, List.getElem?_eq_getElem hj])
    refine H.mono ?_
    rintro e w' ⟨rfl, n, rfl⟩
    exact Gives.mk (by simp) (below_dn (Below.refl _ _) n)
  · have e : l = [] := List.eq_nil_of_length_eq_zero (by omega)
    subst e
    refine (Try.slices_Equal_int_empty A B ca 0 cb w (by omega)).mono ?_
    rintro e w' ⟨rfl, rfl⟩
    exact Gives.mk (by simp) (Below.refl _ _)
def exL : List Sp.Te := [⟨0, 100, 0, 0⟩, ⟨1, 300, 0, 0⟩, ⟨0, 200, 0, 0⟩, ⟨0, 300, 0, 0⟩]
def exS : List Sp.Sc := [⟨⟨#[115, 112]⟩, 430, 500000, 1500⟩, ⟨⟨#[98, 101]⟩, 680, 480000, 1200⟩]
theorem exS_sized : Sized exS := ⟨by decide, fun c hc => by
  rcases List.mem_cons.1 hc with rfl | hc
  · decide
  · rcases List.mem_cons.1 hc with rfl | hc
    · decide
    · simp at hc⟩
theorem exL_sq : Sp.sqS exL = (230000, 0) := by kernel_rfl
theorem exL_me : Sp.meanE exL = 0 := by kernel_rfl
theorem exL_m : Sp.IsM (exL.length : Int) (Sp.sqS exL).1 239 := ⟨by decide, by rw [exL_sq]; decide, by rw [exL_sq]; decide⟩
theorem exL_or : Sp.ordL (Sp.keyC (Sp.dia exL)) exL.length = [1, 3, 2, 0] := by kernel_rfl
theorem exL_to : Sp.newS (Sp.sumD exL (([1, 3, 2, 0] : List Int).take 3)) ((3 : Nat) : Int) = (800, 3, 0) := by kernel_rfl
theorem exL_sE : Sp.shaE exS exL = 0 := by kernel_rfl
theorem exL_sL : Sp.shaL exS exL = [608696, 391304] := by kernel_rfl
theorem exL_ck : Sp.chkT exS exL = (-1, 0) := by kernel_rfl
set_option maxRecDepth 100000 in
set_option maxHeartbeats 2000000 in
theorem lex_any (w : World) : Calls Try.prog 32 #[] w fun e w' => ∃ A B, e = .returned (.tuple #[.slice A exS.length 2, .slice B exL.length 4]) ∧ Tab w' A exS ∧ Trs w' B exL ∧ Below w.heap.size w w' := by
  go_enter Try.func32, Try.ntmps32
  go_wp2_with fail
  go_ret2
  refine ⟨_, _, rfl, fun _ => ⟨_, 0, rfl, by first | (simp; done) | (simp; omega), fun j hj => ?_⟩, fun _ => ⟨_, 0, rfl, by first | (simp; done) | (simp; omega), fun j hj => ?_⟩, by repeat' (first | (with_reducible exact Below.refl _ _) | (with_reducible refine Below.alloc ?_ ?_ _) | (with_reducible refine Below.setCell ?_ ?_ _) | (with_reducible refine Below.drew ?_) | (with_reducible refine Below.trans ?_ (Below.mono (by assumption) ?_)) | (simp; done) | (simp; omega) | omega)⟩
  · have hj2 : j < 2 := hj
    have h01 : j = 0 ∨ j = 1 := by omega
    rcases h01 with rfl | rfl
    · exact ⟨by simp [go_sem, exS], by simp [go_sem, exS], by simp [go_sem, exS], by simp [go_sem, exS]⟩
    · exact ⟨by simp [go_sem, exS], by simp [go_sem, exS], by simp [go_sem, exS], by simp [go_sem, exS]⟩
  · have hj2 : j < 4 := hj
    have h01 : j = 0 ∨ j = 1 ∨ j = 2 ∨ j = 3 := by omega
    rcases h01 with rfl | rfl | rfl | rfl
    · exact ⟨by simp [go_sem, exL], by simp [go_sem, exL], by simp [go_sem, exL], by simp [go_sem, exL]⟩
    · exact ⟨by simp [go_sem, exL], by simp [go_sem, exL], by simp [go_sem, exL], by simp [go_sem, exL]⟩
    · exact ⟨by simp [go_sem, exL], by simp [go_sem, exL], by simp [go_sem, exL], by simp [go_sem, exL]⟩
    · exact ⟨by simp [go_sem, exL], by simp [go_sem, exL], by simp [go_sem, exL], by simp [go_sem, exL]⟩
set_option maxRecDepth 100000 in
set_option maxHeartbeats 4000000 in
theorem lawake_any (w : World) : Calls Try.prog 13 #[] w (Gives (.bool true) w) := by
  go_enter Try.func13, Try.ntmps13
  go_wp2_with fail
  refine (lex_any _).mono ?_
  rintro _ u1 ⟨A, B, rfl, hA, hB, hb⟩
  have B1 := hid hb
  have TA := hid (fun W (h : Below u1.heap.size u1 W) => hA.below h)
  have TB := hid (fun W (h : Below u1.heap.size u1 W) => hB.below h)
  clear hb hA hB
  go_wp2_with fail
  refine (lsquares_any B 4 exL 230000 0 u1 (by decide) (TB.out _ (Below.refl _ _)) exL_sq).mono ?_
  rintro _ u2 ⟨rfl, hb⟩
  have B2 := hid hb
  clear hb
  go_wp2_with fail
  refine (lmean_any B 4 exL 239 u2 (by decide) (TB.out _ B2.out) (fun _ => exL_m)).mono ?_
  rintro _ u3 ⟨rfl, hb⟩
  have B3 := hid (bthen B2.out hb)
  clear hb
  rw [show Sp.meanV exL 239 = 239 by unfold Sp.meanV; rw [exL_me]; rfl, exL_me]
  go_wp2_with fail
  refine (lorder_any B 4 exL u3 (by decide) (TB.out _ B3.out) (by rw [exL_sq])).mono ?_
  rintro _ u4 ⟨hb, C, cc, rfl, -, hI⟩
  have B4 := hid (bthen B3.out hb)
  rw [exL_or] at hI
  have IC := hid (fun W (h : Below u4.heap.size u4 W) => hI.below h)
  clear hb hI
  go_wp2_with fail
  refine (ltop_any B 4 exL 3 [1, 3, 2, 0] 800 3 0 u4 (by decide) (TB.out _ B4.out) (by rw [exL_sq]) (by decide) (by decide) exL_or (by decide) exL_to).mono ?_
  rintro _ u5 ⟨rfl, hb⟩
  obtain ⟨V5, hV5⟩ : ∃ V5, u5.alloc (Obj.cells #[.int .i64 800, .int .i64 3] 35) = V5 := ⟨_, rfl⟩
  have k5 : Below u5.heap.size u5 V5 := by rw [← hV5]; exact balloc _ _
  have f0 : V5.cell? ⟨u5.heap.size, 0, none⟩ = some (.int .i64 800) := by rw [← hV5]; simp [go_sem]
  have f1 : V5.cell? ⟨u5.heap.size, 1, none⟩ = some (.int .i64 3) := by rw [← hV5]; simp [go_sem]
  have fz : u5.heap.size < V5.heap.size := by rw [← hV5]; simp
  have KF := hid (fun W (h : Below V5.heap.size V5 W) => (⟨(h.cell (p := ⟨u5.heap.size, 0, none⟩) fz).trans f0, (h.cell (p := ⟨u5.heap.size, 1, none⟩) fz).trans f1⟩ : W.cell? ⟨u5.heap.size, 0, none⟩ = some (.int .i64 800) ∧ W.cell? ⟨u5.heap.size, 1, none⟩ = some (.int .i64 3)))
  have D5 := hid (bthen hb k5)
  have B5 := hid (bthen B4.out D5.out)
  have HV5 := hid hV5
  clear hb k5 hV5 f0 f1 fz
  go_upto_region 6 with fail
  rw [HV5.out]
  go_wp2_with fail
  refine (lshares_any A 2 exS B 4 exL V5 (by decide) exS_sized (TA.out _ B5.out) (by decide) (TB.out _ B5.out)).mono ?_
  rw [exL_sE, exL_sL]
  rintro _ u6 ⟨hb, ⟨h0, -⟩ | ⟨-, D, dc, rfl, hD⟩⟩
  · exact absurd rfl h0
  have D6 := hid hb
  have B6 := hid (bthen B5.out hb)
  have ID := hid (fun W (h : Below u6.heap.size u6 W) => hD.below h)
  clear hb hD
  go_wp2_with fail
  refine (lcheck_any A 2 exS B 4 exL (-1) 0 u6 (by decide) exS_sized (TA.out _ B6.out) (by decide) (TB.out _ B6.out) exL_ck).mono ?_
  rintro _ u7 ⟨rfl, hb⟩
  have D7 := hid hb
  have B7 := hid (bthen B6.out hb)
  clear hb
  obtain ⟨X7, hX7⟩ : ∃ X7, u7.alloc (.cells #[.int .i64 1, .int .i64 3, .int .i64 2, .int .i64 0] 3) = X7 := ⟨_, rfl⟩
  have x7 : Below u7.heap.size u7 X7 := by rw [← hX7]; exact balloc _ _
  have J1 : Ints X7 (some ⟨u7.heap.size, 0, none⟩) [1, 3, 2, 0] := fun _ => ⟨u7.heap.size, 0, rfl, by rw [← hX7]; simp, fun j hj => by
    have hj2 : j < 4 := hj
    have h01 : j = 0 ∨ j = 1 ∨ j = 2 ∨ j = 3 := by omega
    rw [← hX7]
    rcases h01 with rfl | rfl | rfl | rfl <;> simp [go_sem]⟩
  have E1 := hid (leq_any C (some ⟨u7.heap.size, 0, none⟩) cc 4 [1, 3, 2, 0] X7 (by decide) (IC.out _ (bthen D5.out (bthen D6.out (bthen D7.out x7)))) J1)
  have HX7 := hid hX7
  have BX := hid (bthen D6.out (bthen D7.out x7))
  have DX := hid (bthen D7.out x7)
  clear hX7 x7 J1
  go_wp2_with fail
  rw [HX7.out]
  refine E1.out.mono ?_
  rintro _ u8 ⟨rfl, hb⟩
  have D8 := hid (bthen BX.out hb)
  have DY := hid (bthen DX.out hb)
  clear hb
  obtain ⟨g0, g1⟩ := KF.out _ D8.out
  obtain ⟨X8, hX8⟩ : ∃ X8, u8.alloc (.cells #[.int .i64 608696, .int .i64 391304] 3) = X8 := ⟨_, rfl⟩
  have x8 : Below u8.heap.size u8 X8 := by rw [← hX8]; exact balloc _ _
  have J2 : Ints X8 (some ⟨u8.heap.size, 0, none⟩) [608696, 391304] := fun _ => ⟨u8.heap.size, 0, rfl, by rw [← hX8]; simp, fun j hj => by
    have hj2 : j < 2 := hj
    have h01 : j = 0 ∨ j = 1 := by omega
    rw [← hX8]
    rcases h01 with rfl | rfl <;> simp [go_sem]⟩
  have E2 := hid (leq_any D (some ⟨u8.heap.size, 0, none⟩) dc 2 [608696, 391304] X8 (by decide) (ID.out _ (bthen DY.out x8)) J2)
  have HX8 := hid hX8
  have B8 := hid (bthen B5.out (bthen D8.out x8))
  clear hX8 x8 J2
  go_wp2_with fail
  rw [HX8.out]
  refine E2.out.mono ?_
  rintro _ u9 ⟨rfl, hb⟩
  have B9 := hid (bthen B1.out (bthen B8.out hb))
  clear hb g0 g1
  go_wp2_with fail
  go_ret
  exact Gives.mk rfl B9.out
end Go.Proofs.Ytmdaanigkhikfab
