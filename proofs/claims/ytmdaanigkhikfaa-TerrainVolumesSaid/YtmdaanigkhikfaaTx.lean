/-
  Layer 15: Few and Check of couperef15, by contract.
-/
import Derived.Test.YtmdaanigkhikfaaQta
namespace Go.Proofs.Ytmdaanigkhikfaa
open Go.RowKit
set_option linter.unusedVariables false
set_option linter.unusedSimpArgs false
set_option maxRecDepth 100000 in
theorem rfew_any (A : Option Addr) (cap : Nat) (c r k : Int) (z : List Int) (w : World) : Calls Try.prog 11 #[.agg #[.int .i64 c, .int .i64 r, .int .i64 k, .slice A z.length cap]] w (Gives (.bool (decide ((z.length : Int) ≤ 300))) w) := by
  go_enter Try.func11, Try.ntmps11
  go_wp2_with fail
  go_ret
  exact Gives.mk rfl (by repeat' (first | (with_reducible exact Below.refl _ _) | (with_reducible refine Below.alloc ?_ ?_ _) | (with_reducible refine Below.setCell ?_ ?_ _) | (with_reducible refine Below.drew ?_) | (with_reducible refine Below.trans ?_ (Below.mono (by assumption) ?_)) | (simp; done) | (simp; omega) | omega))
set_option maxRecDepth 100000 in
set_option maxHeartbeats 2000000 in
theorem rcheck_any (A : Option Addr) (cap : Nat) (c r k : Int) (z : List Int) (w : World) (hl : z.length ≤ 140737488355328) (hT : Ints w A z) : Calls Try.prog 16 #[.agg #[.int .i64 c, .int .i64 r, .int .i64 k, .slice A z.length cap]] w (Gives (.int .i64 (Sp.terE c r k z)) w) := by
  have VB := trAt_new w c r k A z.length cap
  have b0 : Below w.heap.size w (w.alloc (Obj.cells #[.int .i64 c, .int .i64 r, .int .i64 k, .slice A z.length cap] 24)) := balloc _ _
  generalize hU : w.alloc (Obj.cells #[.int .i64 c, .int .i64 r, .int .i64 k, .slice A z.length cap] 24) = U at VB b0
  obtain ⟨R, hR⟩ : ∃ R, Sp.terE c r k z = R := ⟨_, rfl⟩
  rw [hR]
  unfold Sp.terE at hR
  have RR := hid hR
  have HU := hid hU
  have HB := hid b0
  have HC := hid VB
  have HT := hid hT
  have LE := hid hl
  have k0 := VB.c0
  have k1 := VB.c1
  have k2 := VB.c2
  have k3 := VB.c3
  have kl := VB.lt
  clear hT hU b0 VB hR hl
  go_enter Try.func16, Try.ntmps16
  go_upto_region 1 with fail
  rw [HU.out]
  by_cases l1 : c < 2
  · have f1 : decide (c < 2) = true := decide_eq_true l1
    have g1 : decide (2 ≤ c) = false := decide_eq_false (by omega)
    have HR := hid (show 2 = R by have h := RR.out; simp only [g1] at h; simpa using h)
    clear RR
    go_wp2_with fail
    go_ret
    exact Gives.mk (i64_eq HR.out.symm) HB.out
  · have f1 : decide (c < 2) = false := decide_eq_false l1
    have g1 : decide (2 ≤ c) = true := decide_eq_true (by omega)
    by_cases m1 : 16 < c
    · have e1 : decide (16 < c) = true := decide_eq_true m1
      have d1 : decide (c ≤ 16) = false := decide_eq_false (by omega)
      have HR := hid (show 2 = R by have h := RR.out; simp only [g1, d1] at h; simpa using h)
      clear RR
      go_wp2_with fail
      go_ret
      exact Gives.mk (i64_eq HR.out.symm) HB.out
    · have e1 : decide (16 < c) = false := decide_eq_false m1
      have d1 : decide (c ≤ 16) = true := decide_eq_true (by omega)
      by_cases l2 : r < 2
      · have f2 : decide (r < 2) = true := decide_eq_true l2
        have g2 : decide (2 ≤ r) = false := decide_eq_false (by omega)
        have HR := hid (show 2 = R by have h := RR.out; simp only [g1, d1, g2] at h; simpa using h)
        clear RR
        go_wp2_with fail
        go_ret
        exact Gives.mk (i64_eq HR.out.symm) HB.out
      · have f2 : decide (r < 2) = false := decide_eq_false l2
        have g2 : decide (2 ≤ r) = true := decide_eq_true (by omega)
        by_cases m2 : 16 < r
        · have e2 : decide (16 < r) = true := decide_eq_true m2
          have d2 : decide (r ≤ 16) = false := decide_eq_false (by omega)
          have HR := hid (show 2 = R by have h := RR.out; simp only [g1, d1, g2, d2] at h; simpa using h)
          clear RR
          go_wp2_with fail
          go_ret
          exact Gives.mk (i64_eq HR.out.symm) HB.out
        · have e2 : decide (16 < r) = false := decide_eq_false m2
          have d2 : decide (r ≤ 16) = true := decide_eq_true (by omega)
          by_cases l3 : k < 1
          · have f3 : decide (k < 1) = true := decide_eq_true l3
            have g3 : decide (1 ≤ k) = false := decide_eq_false (by omega)
            have HR := hid (show 2 = R by have h := RR.out; simp only [g1, d1, g2, d2, g3] at h; simpa using h)
            clear RR
            go_wp2_with fail
            go_ret
            exact Gives.mk (i64_eq HR.out.symm) HB.out
          · have f3 : decide (k < 1) = false := decide_eq_false l3
            have g3 : decide (1 ≤ k) = true := decide_eq_true (by omega)
            by_cases m3 : 1000 < k
            · have e3 : decide (1000 < k) = true := decide_eq_true m3
              have d3 : decide (k ≤ 1000) = false := decide_eq_false (by omega)
              have HR := hid (show 2 = R by have h := RR.out; simp only [g1, d1, g2, d2, g3, d3] at h; simpa using h)
              clear RR
              go_wp2_with fail
              go_ret
              exact Gives.mk (i64_eq HR.out.symm) HB.out
            · have e3 : decide (1000 < k) = false := decide_eq_false m3
              have d3 : decide (k ≤ 1000) = true := decide_eq_true (by omega)
              have rr := RR.out
              simp only [g1, d1, g2, d2, g3, d3, Bool.and_self, Bool.true_eq_false, if_false] at rr
              obtain ⟨P, hP⟩ : ∃ P, c * r = P := ⟨_, rfl⟩
              have p1 : 0 ≤ P := by rw [← hP]; exact Int.mul_nonneg (by omega) (by omega)
              have p2 : P ≤ 16 * 16 := by rw [← hP]; exact Int.mul_le_mul (by omega) (by omega) (by omega) (by omega)
              rw [hP] at rr
              have R2 := hid rr
              have wP : wrap64 P = P := pw64 _ (by omega)
              clear rr RR p1 p2 l1 l2 l3 m1 m2 m3
              by_cases cz : (z.length : Int) = P
              · have hn : ((z.length : Int) == P) = true := by simpa using cz
                have HZ := hid (show Sp.zE z = R by have := R2.out; simpa [cz] using this)
                clear R2 cz
                go_wp2_with fail
                have hm : ((z.length : Int) != P) = false := by rw [bne, hn]; rfl
                simp only [wP, hm]
                clear hm k0 k1 k2 k3 kl
                go_loopw [3] (fun t wr => ∃ j : Nat, t = .int .i64 (j : Int) ∧ j ≤ z.length ∧ Sp.zE (z.drop j) = R ∧ TrAt wr w.heap.size c r k A z.length cap ∧ Below w.heap.size w wr) (fun t _ => z.length - (intOf t).toNat)
                case atStart => exact ⟨0, rfl, Nat.zero_le _, HZ.out, HC.out, HB.out⟩
                case round =>
                  obtain ⟨j, rfl, hj, hd, hQ, hB⟩ := hrel
                  have HD := hid hd
                  have HQ := hid hQ
                  have HBB := hid hB
                  have q3 := hQ.c3
                  have ql := hQ.lt
                  clear hd hB hQ hn wP f1 f2 f3 e1 e2 e3 g1 g2 g3 d1 d2 d3
                  by_cases hlt : j < z.length
                  · obtain ⟨b, off, rfl, bl, q⟩ := (HT.out.below HBB.out) (Nat.lt_of_le_of_lt (Nat.zero_le _) hlt)
                    have q0 := q j hlt
                    have hd := HD.out
                    rw [List.drop_eq_getElem_cons hlt] at hd
                    unfold Sp.zE at hd
                    obtain ⟨v, hv⟩ : ∃ v, z[j]'hlt = v := ⟨_, rfl⟩
                    rw [hv] at q0 hd
                    have i0 : (0 : Int) ≤ (j : Int) := Int.natCast_nonneg j
                    have i1 : (j : Int) < (z.length : Int) := Int.ofNat_lt.mpr hlt
                    have HJ := hid hlt
                    have ej : wrap64 ((j : Int) + 1) = (j : Int) + 1 := pw64 _ (by have := LE.out; have := HJ.out; omega)
                    have EQ := hid (show (j : Int) + 1 = ((j + 1 : Nat) : Int) by rw [Int.natCast_add]; rfl)
                    have HM := hid (pmeas z.length j hlt)
                    clear q hv hlt bl
                    by_cases l : v < 0
                    · have f : decide (v < 0) = true := decide_eq_true l
                      have g : decide (0 ≤ v) = false := decide_eq_false (by omega)
                      have HF := hid (show 2 = R by simpa [g] using hd)
                      clear hd g l
                      go_wp2_with fail
                      go_ret
                      exact Gives.mk (i64_eq HF.out.symm) HBB.out
                    · have f : decide (v < 0) = false := decide_eq_false l
                      have g : decide (0 ≤ v) = true := decide_eq_true (by omega)
                      by_cases m : 50000 < v
                      · have e : decide (50000 < v) = true := decide_eq_true m
                        have d : decide (v ≤ 50000) = false := decide_eq_false (by omega)
                        have HF := hid (show 2 = R by simpa [g, d] using hd)
                        clear hd g l m d
                        go_wp2_with fail
                        go_ret
                        exact Gives.mk (i64_eq HF.out.symm) HBB.out
                      · have e : decide (50000 < v) = false := decide_eq_false m
                        have d : decide (v ≤ 50000) = true := decide_eq_true (by omega)
                        have HF := hid (show Sp.zE (z.drop (j + 1)) = R by simpa [g, d] using hd)
                        clear hd g l m d
                        go_wp2_with fail
                        go_roundw
                        case rel => exact ⟨j + 1, i64_eq (by first | exact EQ.out | exact ej.trans EQ.out), HJ.out, HF.out, HQ.out, HBB.out⟩
                        case measure => first | exact HM.out | (rw [ej]; exact HM.out)
                  · have i1 : ¬ (j : Int) < (z.length : Int) := fun k => hlt (Int.ofNat_lt.mp k)
                    have hd := HD.out
                    rw [List.drop_eq_nil_of_le (Nat.le_of_not_lt hlt)] at hd
                    have HF := hid (show (0 : Int) = R from hd)
                    clear hd
                    go_wp2_with fail
                    go_ret
                    exact Gives.mk (i64_eq HF.out.symm) HBB.out
              · have hn : ((z.length : Int) == P) = false := by simpa using cz
                have HZ := hid (show 3 = R by have := R2.out; simpa [cz] using this)
                clear R2 cz
                go_wp2_with fail
                go_ret
                exact Gives.mk (i64_eq HZ.out.symm) HB.out
end Go.Proofs.Ytmdaanigkhikfaa
