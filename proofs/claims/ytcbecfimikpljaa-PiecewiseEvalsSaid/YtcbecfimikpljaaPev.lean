/-
  Layer 12: the walk of PiecewiseEvals.
-/
import Derived.Test.YtcbecfimikpljaaQc
import Derived.Test.YtcbecfimikpljaaQb
import Derived.Test.YtcbecfimikpljaaPo
namespace Go.Proofs.Ytcbecfimikpljaa
open Go.RowKit
set_option linter.unusedVariables false
set_option linter.unusedSimpArgs false
theorem dom_ex (l : List Sp.Pd) : ∃ a b e, DomIs l a b e := by
  by_cases h : Sp.pcheck l = 0
  · exact ⟨_, _, _, dom_good h⟩
  · exact ⟨_, _, _, dom_bad h⟩
set_option maxRecDepth 100000 in
set_option maxHeartbeats 8000000 in
theorem evals_as (A : Option Addr) (cap : Nat) (l : List Sp.Pd) (x : Int) (w : World) (hc : l.length ≤ cap) (hz : PcSized l) (hT : Pcs w A l) :
    Calls Try.prog 3 #[.slice A l.length cap, .int .i64 x] w (Gives (.bool true) w) := by
  have FW := hid (rfew_any A cap l 3000 w (by omega) (by omega) hz hT)
  obtain ⟨⟨lo, hi, e⟩, hv⟩ : ∃ r, Sp.evalS l x = r := ⟨_, rfl⟩
  obtain ⟨a, b, d, hd⟩ := dom_ex l
  have E1 := hid (fun (W : World) (h : Below w.heap.size w W) => eval_any A cap l x lo hi e W hz (hT.below h) hv)
  have E2 := hid (fun (W : World) (h : Below w.heap.size w W) => reval_any A cap l x lo hi e W hz (hT.below h) hv)
  have D1 := hid (fun (W : World) (h : Below w.heap.size w W) => domain_any A cap l a b d W hz (hT.below h) hd)
  have D2 := hid (fun (W : World) (h : Below w.heap.size w W) => rdomain_any A cap l a b d W hz (hT.below h) hd)
  have C1 := hid (fun (W : World) (h : Below w.heap.size w W) => pcheck_any A cap l W hz (hT.below h))
  have C2 := hid (fun (W : World) (h : Below w.heap.size w W) => rpcheck_any A cap l W hz (hT.below h))
  obtain ⟨fw, hf⟩ : ∃ fw, fewS l 3000 = fw := ⟨_, rfl⟩
  rw [hf] at FW
  generalize l.length = len at FW E1 E2 D1 D2 C1 C2 ⊢
  generalize Sp.pcheck l = y at C1 C2
  clear hf hv hd hz hT hc
  go_enter Try.func3, Try.ntmps3
  go_wp2_with fail
  refine FW.out.mono ?_
  rintro _ w1 ⟨rfl, hb⟩
  have B1 := hid hb
  clear hb
  cases fw with
  | false =>
    go_wp2_with fail
    refine (pawake_any _).mono ?_
    rintro _ w9 ⟨rfl, hb⟩
    have B9 := hid (bthen B1.out hb)
    clear hb
    go_wp2_with fail
    go_ret
    exact Gives.mk rfl B9.out
  | true =>
    go_wp2_with fail
    refine (E1.out _ B1.out).mono ?_
    rintro _ w2 ⟨rfl, hb⟩
    have B2 := hid (bthen B1.out hb)
    clear hb
    go_wp2_with fail
    refine (E2.out _ (bthen B2.out (balloc _ _))).mono ?_
    rintro _ w3 ⟨rfl, hb⟩
    have H3 := hid hb
    have B3 := hid (bthen B2.out (bthen (balloc _ _) hb))
    clear hb
    go_wp2_with fail
    refine (D1.out _ (bthen B3.out (balloc _ _))).mono ?_
    rintro _ w4 ⟨rfl, hb⟩
    have H4 := hid hb
    have B4 := hid (bthen B3.out (bthen (balloc _ _) hb))
    clear hb
    go_wp2_with fail
    refine (D2.out _ B4.out).mono ?_
    rintro _ w5 ⟨rfl, hb⟩
    have H5 := hid hb
    have B5 := hid (bthen B4.out hb)
    clear hb
    go_wp2_with fail
    refine (C1.out _ B5.out).mono ?_
    rintro _ w6 ⟨rfl, hb⟩
    have H6 := hid hb
    have B6 := hid (bthen B5.out hb)
    clear hb
    go_wp2_with fail
    refine (C2.out _ B6.out).mono ?_
    rintro _ w7 ⟨rfl, hb⟩
    have B7 := hid (bthen B6.out hb)
    have T4 := bthen H4.out (bthen H5.out (bthen H6.out hb))
    have j0 : w7.cell? ⟨w3.heap.size, 0, none⟩ = some (.int .i64 lo) := (T4.cell (p := ⟨w3.heap.size, 0, none⟩) (by simp)).trans (by simp [go_sem])
    have j1 : w7.cell? ⟨w3.heap.size, 1, none⟩ = some (.int .i64 hi) := (T4.cell (p := ⟨w3.heap.size, 1, none⟩) (by simp)).trans (by simp [go_sem])
    have T3 := bthen H3.out (bthen (balloc w3 (Obj.cells #[.int .i64 lo, .int .i64 hi] 26)) T4)
    have j2 : w7.cell? ⟨w2.heap.size, 0, none⟩ = some (.int .i64 lo) := (T3.cell (p := ⟨w2.heap.size, 0, none⟩) (by simp)).trans (by simp [go_sem])
    have j3 : w7.cell? ⟨w2.heap.size, 1, none⟩ = some (.int .i64 hi) := (T3.cell (p := ⟨w2.heap.size, 1, none⟩) (by simp)).trans (by simp [go_sem])
    clear hb T4 T3
    go_wp2_with fail
    refine (pawake_any _).mono ?_
    rintro _ w9 ⟨rfl, hb⟩
    have B9 := hid (bthen B7.out hb)
    clear hb
    go_wp2_with fail
    go_ret
    exact Gives.mk rfl B9.out
theorem evals_law (x : Int) (x0 : -9223372036854775808 ≤ x) (x1 : x ≤ 9223372036854775807) (A : Option Addr) (cap : Nat) (l : List Sp.Pd) (w : World) (hc : l.length ≤ cap) (hz : PcSized l) (hT : Pcs w A l) :
    Calls Try.prog 3 #[.slice A l.length cap, .int .i64 x] w (Gives (.bool true) w) := evals_as A cap l x w hc hz hT
end Go.Proofs.Ytcbecfimikpljaa
