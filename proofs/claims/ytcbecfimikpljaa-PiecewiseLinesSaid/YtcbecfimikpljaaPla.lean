/-
  Layer 12: the walk of PiecewiseLines.
-/
import Derived.Test.YtcbecfimikpljaaPl
namespace Go.Proofs.Ytcbecfimikpljaa
open Go.RowKit
set_option linter.unusedVariables false
set_option linter.unusedSimpArgs false
theorem ln_sized (A : Option Addr) {a b : Int} (a0 : -32768 ≤ a) (a1 : a ≤ 32767) (b0 : -32768 ≤ b) (b1 : b ≤ 32767) : PcSized (lnL A a b) := by
  refine ⟨by simp [lnL], fun p hp => ?_⟩
  simp [lnL] at hp
  subst hp
  refine ⟨by simp only; omega, by simp only; omega, by simp, fun q hq => ?_⟩
  simp at hq
  rcases hq with rfl | rfl <;> (simp only; omega)
set_option maxRecDepth 100000 in
set_option maxHeartbeats 4000000 in
theorem lines_as (a b x : Int) (a0 : -32768 ≤ a) (a1 : a ≤ 32767) (b0 : -32768 ≤ b) (b1 : b ≤ 32767) (x0 : 0 ≤ x) (x1 : x ≤ 255) (w : World) :
    Calls Try.prog 9 #[.int .i16 a, .int .i16 b, .int .u8 x] w (Gives (.bool true) w) := by
  obtain ⟨P, hP⟩ : ∃ P, b * x = P := ⟨_, rfl⟩
  have pb := prod_in b0 b1 x0 (show x ≤ 3000 by omega)
  rw [hP] at pb
  have EV := hid (fun (A : Option Addr) => hP ▸ ln_eval A a0 a1 b0 b1 x0 x1)
  have IN := hid (fun (A : Option Addr) => ln_inc A a0 a1 b0 b1)
  have SZ := hid (fun (A : Option Addr) => ln_sized A a0 a1 b0 b1)
  have CK := hid (fun (n : Int) (h0 : -9223372036854775808 ≤ n) (h1 : n ≤ 9223372036854775807) => rfcheck_any n 1 h0 h1 (by omega) (by omega))
  have c0 : Sp.fchk (a + P) 1 = 0 := Sp.one_ok (by omega) (by omega)
  have CK2 := hid (fun W => c0 ▸ CK.out (a + P) (by omega) (by omega) W)
  have w1 : wrap64 P = P := pw64 _ (by omega)
  have w2 : wrap64 (a + P) = a + P := pw64 _ (by omega)
  have HW1 := hid w1
  have HW2 := hid w2
  have HP := hid hP
  have L0 := hid (show Below w.heap.size w w from Below.refl _ _)
  clear c0 CK hP
  go_enter Try.func9, Try.ntmps9
  go_wp2_with fail
  refine (line_any 0 255 a 1 b 1 _).mono ?_
  rintro _ w5 ⟨hb5, g, rfl, hF⟩
  have B5 := hid hb5
  have ba := balloc w5 (.cells #[.int .i64 0, .int .i64 255, .slice (some ⟨g, 0, none⟩) 2 2] 49)
  have hP : Pcs (w5.alloc (.cells #[.int .i64 0, .int .i64 255, .slice (some ⟨g, 0, none⟩) 2 2] 49)) (some ⟨w5.heap.size, 0, none⟩) (lnL (some ⟨g, 0, none⟩) a b) := by
    refine ⟨fun _ => ⟨_, 0, rfl, by simp, fun j hj => ?_⟩, fun p hp => ?_⟩
    · match j, hj with
      | 0, _ => exact ⟨by simp [go_sem, lnL], by simp [go_sem, lnL], by simp [go_sem, lnL]⟩
      | j + 1, hj => simp [lnL] at hj
    · simp [lnL] at hp
      subst hp
      exact hF.below ba
  have LN : (lnL (some ⟨g, 0, none⟩) a b).length = 1 := rfl
  have E1 := hid (eval_any (some ⟨w5.heap.size, 0, none⟩) 1 _ x (a + P) 1 0 _ (SZ.out _) hP (EV.out _))
  have I1 := hid (fun (W : World) (h : Below _ _ W) => inc_any (some ⟨w5.heap.size, 0, none⟩) 1 _ (decide (0 ≤ b)) 0 W (SZ.out _) (hP.below h) (IN.out _))
  rw [LN] at E1
  simp only [LN] at I1
  have BA := hid ba
  clear hb5 hF hP LN ba
  go_wp2_with fail
  refine E1.out.mono ?_
  rintro _ w6 ⟨rfl, hb6⟩
  have B6 := hid hb6
  clear hb6
  go_wp2_with fail
  refine (I1.out _ (bthen B6.out (balloc _ _))).mono ?_
  rintro _ w7 ⟨rfl, hb7⟩
  have k0 : w7.cell? ⟨w6.heap.size, 0, none⟩ = some (.int .i64 (a + P)) := (hb7.cell (p := ⟨w6.heap.size, 0, none⟩) (by simp)).trans (by simp [go_sem])
  have k1 : w7.cell? ⟨w6.heap.size, 1, none⟩ = some (.int .i64 1) := (hb7.cell (p := ⟨w6.heap.size, 1, none⟩) (by simp)).trans (by simp [go_sem])
  have B7 := hid (bthen B5.out (bthen BA.out (bthen B6.out (bthen (balloc w6 (Obj.cells #[.int .i64 (a + P), .int .i64 1] 26)) hb7))))
  clear hb7
  have HP2 := HP.out
  have W1 := HW1.out
  have W2 := HW2.out
  by_cases bn : 0 ≤ b
  · have bd : decide (0 ≤ b) = true := by simpa using bn
    rw [bd]
    clear bd
    go_wp2_with (first
      | (go_at_call 28; refine (CK2.out _).mono ?_; rintro _ w8 ⟨rfl, hb⟩; have B8 := hid hb; clear hb)
      | (go_at_call 11; refine (pawake_any _).mono ?_; rintro _ w9 ⟨rfl, hb⟩; have B9 := hid hb; clear hb))
    go_ret
    exact Gives.mk rfl (bthen B7.out (bthen B8.out B9.out))
  · have bd : decide (0 ≤ b) = false := by simpa using bn
    rw [bd]
    go_wp2_with (first
      | (go_at_call 28; refine (CK2.out _).mono ?_; rintro _ w8 ⟨rfl, hb⟩; have B8 := hid hb; clear hb)
      | (go_at_call 11; refine (pawake_any _).mono ?_; rintro _ w9 ⟨rfl, hb⟩; have B9 := hid hb; clear hb))
    go_ret
    exact Gives.mk rfl (bthen B7.out (bthen B8.out B9.out))
end Go.Proofs.Ytcbecfimikpljaa
