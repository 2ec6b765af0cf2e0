/-
  Layer 12: the walk of PiecewiseShapes.
-/
import Derived.Test.YtcbecfimikpljaaPk
import Derived.Test.YtcbecfimikpljaaPt
import Derived.Test.YtcbecfimikpljaaPen
namespace Go.Proofs.Ytcbecfimikpljaa
open Go.RowKit
set_option linter.unusedVariables false
set_option linter.unusedSimpArgs false
set_option maxRecDepth 100000 in
set_option maxHeartbeats 8000000 in
theorem shapes_law (A : Option Addr) (cap : Nat) (l : List Sp.Pd) (w : World) (hc : l.length ≤ cap) (hz : PcSized l) (hT : Pcs w A l) :
    Calls Try.prog 4 #[.slice A l.length cap] w (Gives (.bool true) w) := by
  have FW := hid (rfew_any A cap l 200 w (by omega) (by omega) hz hT)
  obtain ⟨⟨B, E⟩, hv⟩ : ∃ r, Sp.contS l = r := ⟨_, rfl⟩
  obtain ⟨C, F, hi⟩ := inc_ex l
  have C1 := hid (fun (W : World) (h : Below w.heap.size w W) => cont_any A cap l B E W hc hz (hT.below h) hv)
  have C2 := hid (fun (W : World) (h : Below w.heap.size w W) => rcont_any A cap l B E W hz (hT.below h) hv)
  have I1 := hid (fun (W : World) (h : Below w.heap.size w W) => inc_any A cap l C F W hz (hT.below h) hi)
  have I2 := hid (fun (W : World) (h : Below w.heap.size w W) => rinc_any A cap l C F W hz (hT.below h) hi)
  obtain ⟨fw, hf⟩ : ∃ fw, fewS l 200 = fw := ⟨_, rfl⟩
  rw [hf] at FW
  generalize l.length = len at FW C1 C2 I1 I2 ⊢
  clear hf hv hi hz hT hc
  go_enter Try.func4, Try.ntmps4
  go_wp2_with fail
  refine FW.out.mono ?_
  rintro _ w1 ⟨rfl, hb⟩
  have B1 := hid hb
  clear hb
  cases fw with
  | false =>
    go_wp2_with fail
    refine (pawake_any _).mono ?_
    rintro _ w9 ⟨rfl, hb⟩
    have B9 := hid (bthen B1.out hb)
    clear hb
    go_wp2_with fail
    go_ret
    exact Gives.mk rfl B9.out
  | true =>
    go_wp2_with fail
    refine (C1.out _ B1.out).mono ?_
    rintro _ w2 ⟨rfl, hb⟩
    have B2 := hid (bthen B1.out hb)
    clear hb
    go_wp2_with fail
    refine (C2.out _ B2.out).mono ?_
    rintro _ w3 ⟨rfl, hb⟩
    have B3 := hid (bthen B2.out hb)
    clear hb
    go_wp2_with fail
    refine (I1.out _ B3.out).mono ?_
    rintro _ w4 ⟨rfl, hb⟩
    have B4 := hid (bthen B3.out hb)
    clear hb
    go_wp2_with fail
    refine (I2.out _ B4.out).mono ?_
    rintro _ w5 ⟨rfl, hb⟩
    have B5 := hid (bthen B4.out hb)
    clear hb
    go_wp2_with fail
    refine (pawake_any _).mono ?_
    rintro _ w9 ⟨rfl, hb⟩
    have B9 := hid (bthen B5.out hb)
    clear hb
    go_wp2_with fail
    go_ret
    exact Gives.mk rfl B9.out
end Go.Proofs.Ytcbecfimikpljaa
