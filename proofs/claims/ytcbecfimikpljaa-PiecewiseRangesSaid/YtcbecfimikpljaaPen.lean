/-
  Layer 12: the walk of PiecewiseEnds.
-/
import Derived.Test.YtcbecfimikpljaaQd
import Derived.Test.YtcbecfimikpljaaQc
import Derived.Test.YtcbecfimikpljaaPo
namespace Go.Proofs.Ytcbecfimikpljaa
open Go.RowKit
set_option linter.unusedVariables false
set_option linter.unusedSimpArgs false
open Classical in
theorem inc_ex (l : List Sp.Pd) : ∃ B E, IncIs l B E := by
  by_cases h : Sp.valsE l (Sp.least l) (Sp.great l) = 0
  · exact ⟨decide (UpFrom (Sp.valsL l (Sp.least l) (Sp.great l)) 0), 0, h.symm, fun k => absurd rfl k, fun _ => by simp⟩
  · exact ⟨false, _, rfl, fun _ => rfl, fun k => absurd k h⟩
theorem ran_ex (l : List Sp.Pd) (a b : Int) : ∃ lo hi E, RanIs l a b lo hi E := by
  by_cases h : Sp.valsE l a b = 0
  · exact ⟨_, _, 0, h.symm, fun k => absurd rfl k, fun _ => ⟨rfl, rfl⟩⟩
  · exact ⟨0, 0, _, rfl, fun _ => ⟨rfl, rfl⟩, fun k => absurd k h⟩
theorem ff_ok {q : Int × Int} (h : Sp.okQ q) : Sp.ffS q.1 q.2 = (q.1 / q.2, -((-q.1) / q.2), 0) := by
  unfold Sp.ffS
  rw [if_neg (fun k => k h)]
set_option maxRecDepth 100000 in
set_option maxHeartbeats 8000000 in
theorem ends_as (A : Option Addr) (cap : Nat) (l : List Sp.Pd) (a b : Int) (w : World) (hc : l.length ≤ cap) (hz : PcSized l) (hT : Pcs w A l) :
    Calls Try.prog 6 #[.slice A l.length cap, .int .i64 a, .int .i64 b] w (Gives (.bool true) w) := by
  have FW := hid (rfew_any A cap l 150 w (by omega) (by omega) hz hT)
  obtain ⟨B, E, hi⟩ := inc_ex l
  obtain ⟨lo, hi2, F, hr⟩ := ran_ex l a b
  have IN := hid (fun (W : World) (h : Below w.heap.size w W) => inc_any A cap l B E W hz (hT.below h) hi)
  have RA := hid (fun (W : World) (h : Below w.heap.size w W) => range_any A cap l a b lo hi2 F W hz (hT.below h) hr)
  have EA := hid (fun (x lo hi e : Int) (hv : Sp.evalS l x = (lo, hi, e)) (W : World) (h : Below w.heap.size w W) => eval_any A cap l x lo hi e W hz (hT.below h) hv)
  have HI := hid hi
  have HR := hid hr
  clear hi hr hz hT hc
  obtain ⟨fw, hf⟩ : ∃ fw, fewS l 150 = fw := ⟨_, rfl⟩
  rw [hf] at FW
  generalize l.length = len at FW IN RA EA ⊢
  clear hf
  go_enter Try.func6, Try.ntmps6
  go_wp2_with fail
  refine FW.out.mono ?_
  rintro _ w1 ⟨rfl, hb⟩
  have B1 := hid hb
  clear hb
  cases fw with
  | false =>
    go_wp2_with fail
    refine (pawake_any _).mono ?_
    rintro _ w9 ⟨rfl, hb⟩
    have B9 := hid (bthen B1.out hb)
    clear hb
    go_wp2_with fail
    go_ret
    exact Gives.mk rfl B9.out
  | true =>
    go_wp2_with fail
    refine (IN.out _ B1.out).mono ?_
    rintro _ w2 ⟨rfl, hb⟩
    have B2 := hid (bthen B1.out hb)
    clear hb
    go_wp2_with fail
    refine (RA.out _ B2.out).mono ?_
    rintro _ w3 ⟨rfl, hb⟩
    have B3 := hid (bthen B2.out hb)
    clear hb
    by_cases zE : E = 0
    · subst zE
      by_cases zF : F = 0
      · subst zF
        cases B with
        | true =>
          obtain ⟨e1, e2, o1, o2, h1, h2⟩ := ends_math HI.out HR.out
          have f1 := ff_ok o1
          have f2 := ff_ok o2
          have b1 := Sp.okQ_bounds o1
          have b2 := Sp.okQ_bounds o2
          generalize vQ l a = q1 at e1 o1 h1 f1 b1
          generalize vQ l b = q2 at e2 o2 h2 f2 b2
          obtain ⟨n1, d1⟩ := q1
          obtain ⟨n2, d2⟩ := q2
          simp only at e1 e2 h1 h2 f1 f2 b1 b2
          rw [← h1] at f1
          rw [← h2] at f2
          generalize -((-n1) / d1) = c1 at f1
          generalize n2 / d2 = c2 at f2
          have E1 := hid (EA.out a n1 d1 0 e1)
          have E2 := hid (EA.out b n2 d2 0 e2)
          have F1 := hid (fun W => iff_any n1 d1 lo c1 0 b1.1.1 b1.1.2 b1.2.1 b1.2.2 f1 W)
          have F2 := hid (fun W => iff_any n2 d2 c2 hi2 0 b2.1.1 b2.1.2 b2.2.1 b2.2.2 f2 W)
          clear e1 e2 o1 o2 h1 h2 f1 f2 b1 b2
          go_wp2_with fail
          refine (E1.out _ (bthen B3.out (balloc _ _))).mono ?_
          rintro _ w4 ⟨rfl, hb⟩
          have H4 := hid hb
          have B4 := hid (bthen B3.out (bthen (balloc _ _) hb))
          clear hb
          go_wp2_with fail
          refine (E2.out _ (bthen B4.out (balloc _ _))).mono ?_
          rintro _ w5 ⟨rfl, hb⟩
          have H5 := hid hb
          have k0 : w5.cell? ⟨w4.heap.size, 0, none⟩ = some (.int .i64 n1) := (hb.cell (p := ⟨w4.heap.size, 0, none⟩) (by simp)).trans (by simp [go_sem])
          have k1 : w5.cell? ⟨w4.heap.size, 1, none⟩ = some (.int .i64 d1) := (hb.cell (p := ⟨w4.heap.size, 1, none⟩) (by simp)).trans (by simp [go_sem])
          have lt5 : w4.heap.size < w5.heap.size := by have := hb.size; simp at this; omega
          have ne5 : ¬ w4.heap.size = w5.heap.size := by omega
          clear hb
          go_wp2_with fail
          refine (F1.out _).mono ?_
          rintro _ w6 ⟨rfl, hb⟩
          have H6 := hid hb
          have k2 : w6.cell? ⟨w5.heap.size, 0, none⟩ = some (.int .i64 n2) := (hb.cell (p := ⟨w5.heap.size, 0, none⟩) (by simp)).trans (by simp [go_sem])
          have k3 : w6.cell? ⟨w5.heap.size, 1, none⟩ = some (.int .i64 d2) := (hb.cell (p := ⟨w5.heap.size, 1, none⟩) (by simp)).trans (by simp [go_sem])
          have lt6 : w5.heap.size < w6.heap.size := by have := hb.size; simp at this; omega
          have ne6 : ¬ w5.heap.size = w6.heap.size := by omega
          clear hb k0 k1
          go_wp2_with fail
          refine (F2.out _).mono ?_
          rintro _ w7 ⟨rfl, hb⟩
          have H7 := hid hb
          have j0 : w7.cell? ⟨w6.heap.size, 0, none⟩ = some (.int .i64 lo) := (hb.cell (p := ⟨w6.heap.size, 0, none⟩) (by simp)).trans (by simp [go_sem])
          have j1 : w7.cell? ⟨w6.heap.size, 1, none⟩ = some (.int .i64 c1) := (hb.cell (p := ⟨w6.heap.size, 1, none⟩) (by simp)).trans (by simp [go_sem])
          have lt7 : w6.heap.size < w7.heap.size := by have := hb.size; simp at this; omega
          have ne7 : ¬ w6.heap.size = w7.heap.size := by omega
          have T := bthen H4.out (bthen (balloc w4 (Obj.cells #[.int .i64 n1, .int .i64 d1] 26)) (bthen H5.out (bthen (balloc w5 (Obj.cells #[.int .i64 n2, .int .i64 d2] 26)) (bthen H6.out (bthen (balloc w6 (Obj.cells #[.int .i64 lo, .int .i64 c1] 36)) hb)))))
          have j2 : w7.cell? ⟨w3.heap.size, 0, none⟩ = some (.int .i64 lo) := (T.cell (p := ⟨w3.heap.size, 0, none⟩) (by simp)).trans (by simp [go_sem])
          have j3 : w7.cell? ⟨w3.heap.size, 1, none⟩ = some (.int .i64 hi2) := (T.cell (p := ⟨w3.heap.size, 1, none⟩) (by simp)).trans (by simp [go_sem])
          have lt3 : w3.heap.size < w7.heap.size := by have := T.size; simp at this; omega
          have ne3 : ¬ w3.heap.size = w7.heap.size := by omega
          have B7 := hid (bthen B3.out (bthen (balloc w3 (Obj.cells #[.int .i64 lo, .int .i64 hi2] 36)) T))
          clear hb k2 k3 T
          go_wp2_with fail
          refine (pawake_any _).mono ?_
          rintro _ w9 ⟨rfl, hb⟩
          have B9 := hid (bthen B7.out (bthen (balloc _ _) hb))
          clear hb
          go_wp2_with fail
          go_ret
          exact Gives.mk rfl B9.out
        | false =>
          go_wp2_with fail
          refine (pawake_any _).mono ?_
          rintro _ w9 ⟨rfl, hb⟩
          have B9 := hid (bthen B3.out (bthen (balloc _ _) hb))
          clear hb
          go_wp2_with fail
          go_ret
          exact Gives.mk rfl B9.out
      · have hn : (F == 0) = false := by simpa using zF
        go_wp2_with fail
        refine (pawake_any _).mono ?_
        rintro _ w9 ⟨rfl, hb⟩
        have B9 := hid (bthen B3.out (bthen (balloc _ _) hb))
        clear hb
        go_wp2_with fail
        go_ret
        exact Gives.mk rfl B9.out
    · have hn : (E == 0) = false := by simpa using zE
      go_wp2_with fail
      refine (pawake_any _).mono ?_
      rintro _ w9 ⟨rfl, hb⟩
      have B9 := hid (bthen B3.out (bthen (balloc _ _) hb))
      clear hb
      go_wp2_with fail
      go_ret
      exact Gives.mk rfl B9.out
theorem ends_law (a b : Int) (a0 : -9223372036854775808 ≤ a) (a1 : a ≤ 9223372036854775807) (b0 : -9223372036854775808 ≤ b) (b1 : b ≤ 9223372036854775807) (A : Option Addr) (cap : Nat) (l : List Sp.Pd) (w : World) (hc : l.length ≤ cap) (hz : PcSized l) (hT : Pcs w A l) :
    Calls Try.prog 6 #[.slice A l.length cap, .int .i64 a, .int .i64 b] w (Gives (.bool true) w) := ends_as A cap l a b w hc hz hT
end Go.Proofs.Ytcbecfimikpljaa
