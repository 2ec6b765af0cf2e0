/-
  Layer 15: Slope of couperef15, by contract.
-/
import Derived.Test.YtadicbpfbhpooaaTyh
namespace Go.Proofs.Ytadicbpfbhpooaa
open Go.RowKit
set_option linter.unusedVariables false
set_option linter.unusedSimpArgs false
set_option maxRecDepth 100000 in
set_option maxHeartbeats 1000000 in
theorem rSlope_any (A : Option Addr) (cap : Nat) (c r k : Int) (z : List Int) (col row s e : Int) (w : World) (hl : z.length ≤ 140737488355328) (hT : Ints w A z) (hv : Sp.slopeS c r k z col row = (s, e)) :
    Calls Try.prog 21 #[.agg #[.int .i64 c, .int .i64 r, .int .i64 k, .slice A z.length cap], .int .i64 col, .int .i64 row] w (Gives (.tuple #[.int .i64 s, .int .i64 e]) w) := by
  have VB := trAt_new w c r k A z.length cap
  have b0 : Below w.heap.size w (w.alloc (Obj.cells #[.int .i64 c, .int .i64 r, .int .i64 k, .slice A z.length cap] 24)) := balloc _ _
  generalize hU : w.alloc (Obj.cells #[.int .i64 c, .int .i64 r, .int .i64 k, .slice A z.length cap] 24) = U at VB b0
  have CK := hid (rcheck_any A cap c r k z U hl (hT.below b0))
  have GD := hid (fun (q : Sp.terE c r k z = 0) => Sp.terE_zero q)
  have SL := hid (fun (q : Sp.terE c r k z = 0) (q1 : 0 ≤ col ∧ col ≤ c - 2) (q2 : 0 ≤ row ∧ row ≤ r - 2) W (hb : Below w.heap.size w W) => by
    obtain ⟨h1, h2, h3, h4, h5⟩ := Sp.terE_zero q
    exact rslope_any A cap c r k z col row W h1 h2 h3 h4 h5 q1.1 q1.2 q2.1 q2.2 (hT.below hb))
  unfold Sp.slopeS at hv
  generalize Sp.terE c r k z = E at CK hv GD SL
  generalize Sp.sloS z c k col row = S at hv SL
  have HU := hid hU
  have HB := hid b0
  have HC := hid VB
  have HV := hid hv
  have k0 := VB.c0
  have k1 := VB.c1
  have k2 := VB.c2
  have k3 := VB.c3
  have kl := VB.lt
  clear hT hU b0 VB hv hl
  go_enter Try.func21, Try.ntmps21
  go_upto_region 1 with fail
  rw [HU.out]
  go_wp2_with fail
  refine CK.out.mono ?_
  rintro _ w5 ⟨rfl, hb⟩
  have B5 := hid (bthen HB.out hb)
  have Q5 := hid (HC.out.below hb)
  clear hb k0 k1 k2 k3 kl
  by_cases cE : E = 0
  · subst cE
    obtain ⟨g1, g2, g3, -, -⟩ := GD.out rfl
    have wc : wrap64 (c - 1) = c - 1 := pw64 _ (by omega)
    have wr1 : wrap64 (r - 1) = r - 1 := pw64 _ (by omega)
    have q0 := Q5.out.c0
    have q1 := Q5.out.c1
    have ql := Q5.out.lt
    clear g3 GD
    have hv := HV.out
    simp only [ne_eq, not_true_eq_false, if_false] at hv
    have HV2 := hid hv
    clear hv HV
    by_cases l1 : col < 0
    · have f1 : decide (col < 0) = true := decide_eq_true l1
      have g1x : ¬ 0 ≤ col := by omega
      have hv := HV2.out
      simp [g1x] at hv
      obtain ⟨rfl, rfl⟩ := hv
      clear HV2 SL g1 g2
      go_wp2_with fail
      refine bodyPost_ret (v := .tuple #[.int .i64 0, .int .i64 2]) (by simp [results, Try.results21, go_sem]) rfl ?_
      exact Gives.mk rfl B5.out
    · have f1 : decide (col < 0) = false := decide_eq_false l1
      have a1 : 0 ≤ col := by omega
      by_cases m1 : c - 1 ≤ col
      · have e1 : decide (c - 1 ≤ col) = true := decide_eq_true m1
        have d1x : ¬ col ≤ c - 2 := by omega
        have hv := HV2.out
        simp [a1, d1x] at hv
        obtain ⟨rfl, rfl⟩ := hv
        clear HV2 SL g1 g2
        go_wp2_with fail
        refine bodyPost_ret (v := .tuple #[.int .i64 0, .int .i64 2]) (by simp [results, Try.results21, go_sem]) rfl ?_
        exact Gives.mk rfl B5.out
      · have e1 : decide (c - 1 ≤ col) = false := decide_eq_false m1
        have c1x : col ≤ c - 2 := by omega
        by_cases l2 : row < 0
        · have f2 : decide (row < 0) = true := decide_eq_true l2
          have g2x : ¬ 0 ≤ row := by omega
          have hv := HV2.out
          simp [a1, c1x, g2x] at hv
          obtain ⟨rfl, rfl⟩ := hv
          clear HV2 SL g1 g2
          go_wp2_with fail
          refine bodyPost_ret (v := .tuple #[.int .i64 0, .int .i64 2]) (by simp [results, Try.results21, go_sem]) rfl ?_
          exact Gives.mk rfl B5.out
        · have f2 : decide (row < 0) = false := decide_eq_false l2
          have a2 : 0 ≤ row := by omega
          by_cases m2 : r - 1 ≤ row
          · have e2 : decide (r - 1 ≤ row) = true := decide_eq_true m2
            have d2x : ¬ row ≤ r - 2 := by omega
            have hv := HV2.out
            simp [a1, c1x, a2, d2x] at hv
            obtain ⟨rfl, rfl⟩ := hv
            clear HV2 SL g1 g2
            go_wp2_with fail
            refine bodyPost_ret (v := .tuple #[.int .i64 0, .int .i64 2]) (by simp [results, Try.results21, go_sem]) rfl ?_
            exact Gives.mk rfl B5.out
          · have e2 : decide (r - 1 ≤ row) = false := decide_eq_false m2
            have c2x : row ≤ r - 2 := by omega
            have hv := HV2.out
            simp [a1, c1x, a2, c2x] at hv
            obtain ⟨rfl, rfl⟩ := hv
            have S1 := hid (SL.out (by first | rfl | trivial) ⟨a1, c1x⟩ ⟨a2, c2x⟩ w5 B5.out)
            have k2 := Q5.out.c2
            have k3 := Q5.out.c3
            clear HV2 SL g1 g2
            go_wp2_with fail
            refine S1.out.mono ?_
            rintro _ w8 ⟨rfl, hb⟩
            have B8 := hid (bthen B5.out hb)
            clear hb
            go_wp2_with fail
            refine bodyPost_ret (v := .tuple #[.int .i64 S, .int .i64 0]) (by simp [results, Try.results21, go_sem]) rfl ?_
            exact Gives.mk rfl B8.out
  · obtain ⟨rfl, rfl⟩ : 0 = s ∧ E = e := by simpa [cE] using HV.out
    have hn : (E == 0) = false := by simpa using cE
    clear SL GD
    go_wp2_with fail
    refine bodyPost_ret (v := .tuple #[.int .i64 0, .int .i64 E]) (by simp [results, Try.results21, go_sem]) rfl ?_
    exact Gives.mk rfl B5.out
end Go.Proofs.Ytadicbpfbhpooaa
