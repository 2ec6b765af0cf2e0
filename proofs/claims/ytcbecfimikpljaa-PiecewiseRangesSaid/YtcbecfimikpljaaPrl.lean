/-
  Layer 12: the walk of PiecewiseRanges.
-/
import Derived.Test.YtcbecfimikpljaaQf
import Derived.Test.YtcbecfimikpljaaPen
namespace Go.Proofs.Ytcbecfimikpljaa
open Go.RowKit
set_option linter.unusedVariables false
set_option linter.unusedSimpArgs false
set_option maxRecDepth 100000 in
set_option maxHeartbeats 8000000 in
theorem ranges_law (a b : Int) (a0 : -9223372036854775808 ≤ a) (a1 : a ≤ 9223372036854775807) (b0 : -9223372036854775808 ≤ b) (b1 : b ≤ 9223372036854775807) (A : Option Addr) (cap : Nat) (l : List Sp.Pd) (w : World) (hc : l.length ≤ cap) (hz : PcSized l) (hT : Pcs w A l) :
    Calls Try.prog 5 #[.slice A l.length cap, .int .i64 a, .int .i64 b] w (Gives (.bool true) w) := by
  have FW := hid (rfew_any A cap l 200 w (by omega) (by omega) hz hT)
  obtain ⟨lo, hi, E, hr⟩ := ran_ex l a b
  have R1 := hid (fun (W : World) (h : Below w.heap.size w W) => range_any A cap l a b lo hi E W hz (hT.below h) hr)
  have R2 := hid (fun (W : World) (h : Below w.heap.size w W) => rrange_any A cap l a b lo hi E W hz (hT.below h) hr)
  obtain ⟨fw, hf⟩ : ∃ fw, fewS l 200 = fw := ⟨_, rfl⟩
  rw [hf] at FW
  generalize l.length = len at FW R1 R2 ⊢
  clear hf hr hz hT hc a0 a1 b0 b1
  go_enter Try.func5, Try.ntmps5
  go_wp2_with fail
  refine FW.out.mono ?_
  rintro _ w1 ⟨rfl, hb⟩
  have B1 := hid hb
  clear hb
  cases fw with
  | false =>
    go_wp2_with fail
    refine (pawake_any _).mono ?_
    rintro _ w9 ⟨rfl, hb⟩
    have B9 := hid (bthen B1.out hb)
    clear hb
    go_wp2_with fail
    go_ret
    exact Gives.mk rfl B9.out
  | true =>
    go_wp2_with fail
    refine (R1.out _ B1.out).mono ?_
    rintro _ w2 ⟨rfl, hb⟩
    have B2 := hid (bthen B1.out hb)
    clear hb
    go_wp2_with fail
    refine (R2.out _ (bthen B2.out (balloc _ _))).mono ?_
    rintro _ w3 ⟨rfl, hb⟩
    have B3 := hid (bthen B2.out (bthen (balloc _ _) hb))
    have j2 : w3.cell? ⟨w2.heap.size, 0, none⟩ = some (.int .i64 lo) := (hb.cell (p := ⟨w2.heap.size, 0, none⟩) (by simp)).trans (by simp [go_sem])
    have j3 : w3.cell? ⟨w2.heap.size, 1, none⟩ = some (.int .i64 hi) := (hb.cell (p := ⟨w2.heap.size, 1, none⟩) (by simp)).trans (by simp [go_sem])
    have lt3 : w2.heap.size < w3.heap.size := by have := hb.size; simp at this; omega
    have ne3 : ¬ w2.heap.size = w3.heap.size := by omega
    clear hb
    go_wp2_with fail
    refine (pawake_any _).mono ?_
    rintro _ w9 ⟨rfl, hb⟩
    have B9 := hid (bthen B3.out (bthen (balloc _ _) hb))
    clear hb
    go_wp2_with fail
    go_ret
    exact Gives.mk rfl B9.out
end Go.Proofs.Ytcbecfimikpljaa
