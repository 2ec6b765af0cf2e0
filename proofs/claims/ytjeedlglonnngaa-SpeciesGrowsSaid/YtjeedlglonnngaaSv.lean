/-
  Layer 10: Few and Allowed of the reference, the examples, by contract.
-/
import Derived.Test.YtjeedlglonnngaaSz
namespace Go.Proofs.Ytjeedlglonnngaa
open Go.RowKit
set_option linter.unusedVariables false
set_option linter.unusedSimpArgs false

def FwRel (w : World) (n : Nat) (t : Value) (wr : World) : Prop := ∃ j : Nat, t = .int .i64 (j : Int) ∧ j ≤ n ∧ Below w.heap.size w wr
set_option maxRecDepth 100000 in
set_option maxHeartbeats 1000000 in
theorem sfew_any (A : Option Addr) (cap : Nat) (l : List Sp.Sc) (w : World) (hT : Tab w A l) :
    Calls Try.prog 10 #[.slice A l.length cap] w fun e w' => ∃ b : Bool, e = .returned (.bool b) ∧ Below w.heap.size w w' := by
  by_cases c : (20 : Int) < (l.length : Int)
  · clear hT
    go_enter Try.func10, Try.ntmps10
    go_wp2_with fail
    go_ret
    exact ⟨_, rfl, Below.refl _ _⟩
  · have HT := hid hT
    have l20 : (l.length : Int) ≤ 20 := by omega
    clear hT
    go_enter Try.func10, Try.ntmps10
    go_wp2_with fail
    go_loopw [10] (fun t wr => FwRel w l.length t wr) (fun t _ => l.length - (intOf t).toNat)
    case atStart => exact ⟨0, rfl, Nat.zero_le _, Below.refl _ _⟩
    case round =>
      obtain ⟨j, rfl, hj, hB⟩ := hrel
      have HB := hid hB
      clear hB
      by_cases hlt : j < l.length
      · obtain ⟨b, off, rfl, bl, q0, q1, q2, q3⟩ := HT.out.at_ HB.out hlt
        obtain ⟨c1, hc1⟩ : ∃ c1, l[j]'hlt = c1 := ⟨_, rfl⟩
        rw [hc1] at q0 q1 q2 q3
        have i0 : (0 : Int) ≤ (j : Int) := by omega
        have i1 : (j : Int) < (l.length : Int) := by omega
        have bw : b < wr.heap.size := Nat.lt_of_lt_of_le bl HB.out.size
        have HJ := hid hlt
        have B5 := hid (HB.out.trans ((Below.refl _ _).alloc (Nat.le_refl _) (Obj.cells #[.string (c1).s, .int .i64 (c1).den, .int .i64 (c1).car, .int .i64 (c1).lim] 36) |>.mono HB.out.size))
        clear hc1
        by_cases h : (20 : Int) < (c1.s.size : Int)
        · go_wp2_with fail
          go_ret
          exact ⟨_, rfl, B5.out⟩
        · go_wp2_with fail
          go_roundw
          case rel => exact ⟨j + 1, by go_num, HJ.out, B5.out⟩
          case measure => exact smeas _ _ HJ.out
      · have i1 : ¬ (j : Int) < (l.length : Int) := by omega
        go_wp2_with fail
        go_ret
        first | exact ⟨.inr rfl, HB.out⟩ | exact ⟨_, rfl, HB.out⟩
set_option maxRecDepth 100000 in
set_option maxHeartbeats 1000000 in
theorem rsallow_any (A : Option Addr) (cap : Nat) (l : List Sp.Sc) (i d : Int) (w : World) (hc : l.length ≤ cap) (hS : Sized l) (hT : Tab w A l) :
    Calls Try.prog 21 #[.slice A l.length cap, .int .i64 i, .int .i64 d] w (Gives (.bool (Sp.allowS l i d)) w) := by
  have ck := rscheck_any A cap l w hc hS hT
  unfold Sp.allowS
  obtain ⟨q, hq⟩ : ∃ q, Sp.tabS l = q := ⟨_, rfl⟩
  rw [hq] at ck ⊢
  by_cases c : q = 0
  · subst c
    by_cases h0 : 0 ≤ i
    · by_cases h1 : i < (l.length : Int)
      · rw [decide_eq_true ⟨rfl, h0, h1⟩, Bool.true_and]
        obtain ⟨k, rfl⟩ : ∃ k : Nat, i = (k : Int) := ⟨i.toNat, by omega⟩
        have hk : k < l.length := by omega
        have hlim : Sp.limOf l (k : Int) = (l[k]'hk).lim := by unfold Sp.limOf; simp [hk]
        rw [hlim]
        obtain ⟨b, off, hA, hl, hcell⟩ := hT (by omega)
        obtain ⟨-, -, -, c3⟩ := hcell k hk
        subst hA
        obtain ⟨y, hy⟩ : ∃ y, (l[k]'hk).lim = y := ⟨_, rfl⟩
        rw [hy] at c3 ⊢
        have e1 : ((0 : Int) == 0) = true := rfl
        clear hq hS hc hT hcell hy hlim hk
        unfold Sp.upTo
        by_cases d1 : 1 ≤ d
        · by_cases d2 : d ≤ y
          · rw [decide_eq_true ⟨d1, d2⟩]
            go_enter Try.func21, Try.ntmps21
            go_wp2_with fail
            refine ck.mono ?_
            rintro _ w1 ⟨rfl, hb⟩
            have B1 := hid hb
            have x3 : w1.cell? ⟨b, off + k * 4 + 3, none⟩ = some (.int .i64 y) := (hb.cell (p := ⟨b, off + k * 4 + 3, none⟩) hl).trans c3
            clear hb ck
            go_wp2_with fail
            go_ret
            exact Gives.mk (by first | rfl | simp [d1, d2]) B1.out
          · rw [decide_eq_false (fun h => d2 h.2)]
            go_enter Try.func21, Try.ntmps21
            go_wp2_with fail
            refine ck.mono ?_
            rintro _ w1 ⟨rfl, hb⟩
            have B1 := hid hb
            have x3 : w1.cell? ⟨b, off + k * 4 + 3, none⟩ = some (.int .i64 y) := (hb.cell (p := ⟨b, off + k * 4 + 3, none⟩) hl).trans c3
            clear hb ck
            go_wp2_with fail
            go_ret
            exact Gives.mk (by first | rfl | simp [d1, d2]) B1.out
        · rw [decide_eq_false (fun h => d1 h.1)]
          go_enter Try.func21, Try.ntmps21
          go_wp2_with fail
          refine ck.mono ?_
          rintro _ w1 ⟨rfl, hb⟩
          have B1 := hid hb
          clear hb ck
          go_wp2_with fail
          go_ret
          exact Gives.mk rfl B1.out
      · rw [decide_eq_false (fun h => h1 h.2.2), Bool.false_and]
        clear hq hS hc hT
        go_enter Try.func21, Try.ntmps21
        go_wp2_with (go_at_call 15; refine ck.mono ?_; rintro _ w1 ⟨rfl, hb⟩)
        go_ret
        exact Gives.mk rfl hb
    · rw [decide_eq_false (fun h => h0 h.2.1), Bool.false_and]
      clear hq hS hc hT
      go_enter Try.func21, Try.ntmps21
      go_wp2_with (go_at_call 15; refine ck.mono ?_; rintro _ w1 ⟨rfl, hb⟩)
      go_ret
      exact Gives.mk rfl hb
  · rw [decide_eq_false (fun h => c h.1), Bool.false_and]
    have e1 : (q == 0) = false := by simpa using c
    clear hq hS hc hT
    go_enter Try.func21, Try.ntmps21
    go_wp2_with (go_at_call 15; refine ck.mono ?_; rintro _ w1 ⟨rfl, hb⟩)
    go_ret
    exact Gives.mk rfl hb
def exT : List Sp.Sc := [⟨⟨#[115, 112]⟩, 430, 500000, 1500⟩, ⟨⟨#[98, 101]⟩, 680, 480000, 1200⟩]
theorem exT_sized : Sized exT := ⟨by decide, fun c hc => by
  simp only [exT, List.mem_cons, List.not_mem_nil, or_false] at hc
  rcases hc with rfl | rfl
  · exact ⟨by decide, ⟨by decide, by decide⟩, ⟨by decide, by decide⟩, by decide, by decide⟩
  · exact ⟨by decide, ⟨by decide, by decide⟩, ⟨by decide, by decide⟩, by decide, by decide⟩⟩
theorem ex_be : Sp.findS exT ⟨#[98, 101]⟩ = (1, 0) := by kernel_rfl
theorem ex_oak : Sp.findS exT ⟨#[111, 97, 107]⟩ = (0, 6) := by kernel_rfl
theorem ex_mass : Sp.massS exT 0 1000 1001 = (430, 431, 0) := by kernel_rfl
theorem ex_carb : Sp.carbS exT 0 1000 1001 = (215, 216, 0) := by kernel_rfl
theorem ex_no : Sp.allowS exT 1 1201 = false := by kernel_rfl
theorem ex_yes : Sp.allowS exT 1 1200 = true := by kernel_rfl
set_option maxRecDepth 100000 in
theorem table_any (w : World) : Calls Try.prog 25 #[] w fun e w' => ∃ A, e = .returned (.slice A exT.length 2) ∧ Tab w' A exT ∧ Below w.heap.size w w' := by
  go_enter Try.func25, Try.ntmps25
  go_wp2_with fail
  go_ret
  refine ⟨_, rfl, fun _ => ⟨w.heap.size, 0, rfl, by simp, fun j hj => ?_⟩, by repeat' (first | (with_reducible exact Below.refl _ _) | (with_reducible refine Below.alloc ?_ ?_ _) | (with_reducible refine Below.setCell ?_ ?_ _) | (with_reducible refine Below.drew ?_) | (with_reducible refine below_dn ?_ _) | (with_reducible refine Below.trans ?_ (Below.mono (by assumption) ?_)) | (simp; done) | (simp; omega) | omega)⟩
  have hj2 : j < 2 := hj
  have h01 : j = 0 ∨ j = 1 := by omega
  rcases h01 with rfl | rfl
  · exact ⟨by simp [go_sem, exT], by simp [go_sem, exT], by simp [go_sem, exT], by simp [go_sem, exT]⟩
  · exact ⟨by simp [go_sem, exT], by simp [go_sem, exT], by simp [go_sem, exT], by simp [go_sem, exT]⟩
set_option maxRecDepth 100000 in
set_option maxHeartbeats 2000000 in
theorem sawake_any (w : World) : Calls Try.prog 11 #[] w (Gives (.bool true) w) := by
  go_enter Try.func11, Try.ntmps11
  go_wp2_with fail
  refine (table_any _).mono ?_
  rintro _ u1 ⟨A, rfl, hT, hb⟩
  have B1 := hid hb
  have T1 := hid hT
  clear hb hT
  go_wp2_with fail
  refine (sfind_any A 2 exT _ u1 (by decide) exT_sized T1.out 1 0 ex_be).mono ?_
  rintro _ u2 ⟨rfl, hb⟩
  have B2 := hid (B1.out.trans (hb.mono B1.out.size))
  have T2 := hid (T1.out.below hb)
  clear hb
  go_wp2_with fail
  refine (sfind_any A 2 exT _ u2 (by decide) exT_sized T2.out 0 6 ex_oak).mono ?_
  rintro _ u3 ⟨rfl, hb⟩
  have B3 := hid (B2.out.trans (hb.mono B2.out.size))
  have T3 := hid (T2.out.below hb)
  clear hb
  go_wp2_with fail
  refine (smass_any A 2 exT 0 1000 1001 430 431 0 u3 (by decide) exT_sized T3.out ex_mass).mono ?_
  rintro _ u4 ⟨rfl, hb⟩
  obtain ⟨V, hV⟩ : ∃ V : World, u4.alloc (Obj.cells #[.int .i64 430, .int .i64 431] 30) = V := ⟨_, rfl⟩
  have bV : Below u4.heap.size u4 V := by rw [← hV]; exact (Below.refl _ _).alloc (Nat.le_refl _) _
  have zV : V.heap.size = u4.heap.size + 1 := by rw [← hV]; simp
  have v0 : V.cell? ⟨u4.heap.size, 0, none⟩ = some (.int .i64 430) := by rw [← hV]; simp [go_sem]
  have v1 : V.cell? ⟨u4.heap.size, 1, none⟩ = some (.int .i64 431) := by rw [← hV]; simp [go_sem]
  have HV := hid hV
  have BV := hid (B3.out.trans ((hb.trans (bV.mono hb.size)).mono B3.out.size))
  have TV := hid (T3.out.below (hb.trans (bV.mono hb.size)))
  clear hb bV hV
  go_upto_region 5 with fail
  rw [HV.out]
  go_wp2_with fail
  refine (scarb_any A 2 exT 0 1000 1001 215 216 0 V (by decide) exT_sized TV.out ex_carb).mono ?_
  rintro _ u5 ⟨rfl, hb⟩
  obtain ⟨X, hX⟩ : ∃ X : World, u5.alloc (Obj.cells #[.int .i64 215, .int .i64 216] 30) = X := ⟨_, rfl⟩
  have bX : Below u5.heap.size u5 X := by rw [← hX]; exact (Below.refl _ _).alloc (Nat.le_refl _) _
  have y0 : X.cell? ⟨u5.heap.size, 0, none⟩ = some (.int .i64 215) := by rw [← hX]; simp [go_sem]
  have y1 : X.cell? ⟨u5.heap.size, 1, none⟩ = some (.int .i64 216) := by rw [← hX]; simp [go_sem]
  have HX := hid hX
  have bVX := hb.trans (bX.mono hb.size)
  have BX := hid (BV.out.trans (bVX.mono BV.out.size))
  have TX := hid (TV.out.below bVX)
  have x0 := (bVX.cell (p := ⟨u4.heap.size, 0, none⟩) (by simp; omega)).trans v0
  have x1 := (bVX.cell (p := ⟨u4.heap.size, 1, none⟩) (by simp; omega)).trans v1
  clear hb bX hX bVX v0 v1
  go_upto_region 6 with fail
  rw [HX.out]
  have a1 := fun (W : World) (hT : Tab W A exT) => sallow_any A 2 exT 1 1201 W (by decide) exT_sized hT
  have a2 := fun (W : World) (hT : Tab W A exT) => sallow_any A 2 exT 1 1200 W (by decide) exT_sized hT
  rw [ex_no] at a1
  rw [ex_yes] at a2
  go_wp2_with fail
  refine (a1 X TX.out).mono ?_
  rintro _ u6 ⟨rfl, hb⟩
  have B6 := hid (BX.out.trans (hb.mono BX.out.size))
  have T6 := hid (TX.out.below hb)
  clear hb
  go_wp2_with fail
  refine (a2 u6 T6.out).mono ?_
  rintro _ u7 ⟨rfl, hb⟩
  have B7 := hid (B6.out.trans (hb.mono B6.out.size))
  clear hb
  go_wp2_with fail
  go_ret
  exact Gives.mk rfl B7.out
end Go.Proofs.Ytjeedlglonnngaa
