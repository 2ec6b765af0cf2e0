/-
  Layer 12: the walk of PiecewiseJoins.
-/
import Derived.Test.YtcbecfimikpljaaPh
import Derived.Test.YtcbecfimikpljaaPen
import Derived.Test.YtcbecfimikpljaaIcode2
import Derived.Test.YtcbecfimikpljaaFarr3
namespace Go.Proofs.Ytcbecfimikpljaa
open Go.RowKit
set_option linter.unusedVariables false
set_option linter.unusedSimpArgs false
set_option maxRecDepth 100000 in
set_option maxHeartbeats 8000000 in
theorem joins_as (A : Option Addr) (cap : Nat) (l : List Sp.Pd) (a b c : Int) (w : World) (hc : l.length ≤ cap) (hz : PcSized l) (hT : Pcs w A l) :
    Calls Try.prog 7 #[.slice A l.length cap, .agg #[.int .i64 a, .int .i64 b, .int .i64 c]] w (Gives (.bool true) w) := by
  obtain ⟨V, hV⟩ : ∃ V, w.alloc (.cells #[.int .i64 a, .int .i64 b, .int .i64 c] 41) = V := ⟨_, rfl⟩
  have kV : Below w.heap.size w V := by rw [← hV]; exact balloc _ _
  have zV : V.heap.size = w.heap.size + 1 := by rw [← hV]; simp
  have v0 : V.cell? ⟨w.heap.size, 0, none⟩ = some (.int .i64 a) := by rw [← hV]; simp [go_sem]
  have v1 : V.cell? ⟨w.heap.size, 1, none⟩ = some (.int .i64 b) := by rw [← hV]; simp [go_sem]
  have v2 : V.cell? ⟨w.heap.size, 2, none⟩ = some (.int .i64 c) := by rw [← hV]; simp [go_sem]
  have FW := hid (rfew_any A cap l 150 V (by omega) (by omega) hz (hT.below kV))
  obtain ⟨lo, hi, E, h0⟩ := ran_ex l a c
  obtain ⟨p, q, e, h1⟩ := ran_ex l a b
  obtain ⟨r, s, f, h2⟩ := ran_ex l b c
  have RA := hid (fun (x y lo hi E : Int) (hr : RanIs l x y lo hi E) (W : World) (h : Below V.heap.size V W) => range_any A cap l x y lo hi E W hz (hT.below (bthen kV h)) hr)
  have EA := hid (fun (x lo hi e : Int) (hv : Sp.evalS l x = (lo, hi, e)) (W : World) (h : Below V.heap.size V W) => eval_any A cap l x lo hi e W hz (hT.below (bthen kV h)) hv)
  have R0 := hid (RA.out a c lo hi E h0)
  have R1 := hid (RA.out a b p q e h1)
  have R2 := hid (RA.out b c r s f h2)
  have MA := hid (fun (ab : a ≤ b) (bc : b ≤ c) (z : E = 0) => joins_math ab bc (z ▸ h0) h1 h2)
  have K := hid (fun (W : World) (h : Below V.heap.size V W) => (⟨(h.cell (p := ⟨w.heap.size, 0, none⟩) (by simp only; omega)).trans v0, (h.cell (p := ⟨w.heap.size, 1, none⟩) (by simp only; omega)).trans v1, (h.cell (p := ⟨w.heap.size, 2, none⟩) (by simp only; omega)).trans v2, by have := h.size; omega⟩ : W.cell? ⟨w.heap.size, 0, none⟩ = some (.int .i64 a) ∧ W.cell? ⟨w.heap.size, 1, none⟩ = some (.int .i64 b) ∧ W.cell? ⟨w.heap.size, 2, none⟩ = some (.int .i64 c) ∧ w.heap.size < W.heap.size))
  have HV := hid hV
  have KV := hid kV
  obtain ⟨fw, hf⟩ : ∃ fw, fewS l 150 = fw := ⟨_, rfl⟩
  rw [hf] at FW
  generalize l.length = len at FW R0 R1 R2 EA ⊢
  clear hV kV zV v0 v1 v2 RA h0 h1 h2 hz hT hc hf
  have H : ∀ (W W' : World), Below V.heap.size V W → Below W.heap.size W W' → Gives (.bool true) w (.returned (.bool true)) W' := fun W W' h k => Gives.mk rfl (bthen KV.out (bthen h k))
  have HG := hid H
  clear H
  go_enter Try.func7, Try.ntmps7
  go_upto_region 1 with fail
  rw [HV.out]
  go_wp2_with fail
  refine FW.out.mono ?_
  rintro _ w1 ⟨rfl, hb⟩
  have B1 := hid hb
  obtain ⟨x0, x1, x2, xz⟩ := K.out _ B1.out
  have xn : ¬ w.heap.size = w1.heap.size := by omega
  clear hb
  cases fw with
  | false =>
    go_wp2_with fail
    refine (pawake_any _).mono ?_
    rintro _ w9 ⟨rfl, hb⟩
    have B9 := hid hb
    clear hb
    go_wp2_with fail
    go_ret
    exact HG.out _ _ B1.out B9.out
  | true =>
    by_cases ab : a ≤ b
    · by_cases bc : b ≤ c
      · have ab1 : ¬ b < a := by omega
        have bc1 : ¬ c < b := by omega
        have dab : decide (b < a) = false := decide_eq_false ab1
        have dbc : decide (c < b) = false := decide_eq_false bc1
        go_wp2_with fail
        refine (R0.out _ B1.out).mono ?_
        rintro _ w2 ⟨rfl, hb⟩
        have B2 := hid (bthen B1.out hb)
        clear hb x0 x1 x2 xz xn
        obtain ⟨x0, x1, x2, xz⟩ := K.out _ B2.out
        have xn : ¬ w.heap.size = w2.heap.size := by omega
        have C2 := hid (bthen B2.out (balloc w2 (Obj.cells #[.int .i64 lo, .int .i64 hi] 36)))
        go_wp2_with fail
        refine (R1.out _ C2.out).mono ?_
        rintro _ w3 ⟨rfl, hb⟩
        have H3 := hid hb
        have B3 := hid (bthen C2.out hb)
        clear hb x0 x1 x2 xz xn
        obtain ⟨x0, x1, x2, xz⟩ := K.out _ B3.out
        have xn : ¬ w.heap.size = w3.heap.size := by omega
        have C3 := hid (bthen B3.out (balloc w3 (Obj.cells #[.int .i64 p, .int .i64 q] 36)))
        go_wp2_with fail
        refine (R2.out _ C3.out).mono ?_
        rintro _ w4 ⟨rfl, hb⟩
        have H4 := hid hb
        have B4 := hid (bthen C3.out hb)
        clear hb x0 x1 x2 xz xn
        obtain ⟨x0, x1, x2, xz⟩ := K.out _ B4.out
        have xn : ¬ w.heap.size = w4.heap.size := by omega
        have C4 := hid (bthen B4.out (balloc w4 (Obj.cells #[.int .i64 r, .int .i64 s] 36)))
        by_cases z : E = 0
        · obtain ⟨rfl, rfl, hj, he, ho, hwi⟩ := MA.out ab bc z
          subst z
          have fo := ff_ok ho
          have bo := Sp.okQ_bounds ho
          have e1 : (vQ l b).1 / (vQ l b).2 = flQ (vQ l b) := rfl
          have e2 : -((-(vQ l b).1) / (vQ l b).2) = ceQ (vQ l b) := rfl
          rw [e1, e2] at fo
          generalize flQ (vQ l b) = fl at fo hwi
          generalize ceQ (vQ l b) = ce at fo hwi
          generalize vQ l b = Q at he fo bo
          obtain ⟨n, d⟩ := Q
          simp only at he fo bo
          have JN := hid (fun W => ijoin_any p q r s lo hi 0 hj W)
          have EV := hid (EA.out b n d 0 he)
          have FF := hid (fun W => iff_any n d fl ce 0 bo.1.1 bo.1.2 bo.2.1 bo.2.2 fo W)
          have WI := hid (fun W => hwi ▸ iwithin_any fl ce lo hi W)
          have k0 : w4.cell? ⟨w3.heap.size, 0, none⟩ = some (.int .i64 p) := (H4.out.cell (p := ⟨w3.heap.size, 0, none⟩) (by simp)).trans (by simp [go_sem])
          have k1 : w4.cell? ⟨w3.heap.size, 1, none⟩ = some (.int .i64 q) := (H4.out.cell (p := ⟨w3.heap.size, 1, none⟩) (by simp)).trans (by simp [go_sem])
          have lt4 : w3.heap.size < w4.heap.size := by have := H4.out.size; simp at this; omega
          have ne4 : ¬ w3.heap.size = w4.heap.size := by omega
          clear hj he ho hwi fo bo e1 e2 dab dbc ab1 bc1 ab bc
          go_wp2_with fail
          refine (JN.out _).mono ?_
          rintro _ w5 ⟨rfl, hb⟩
          have H5 := hid hb
          have B5 := hid (bthen C4.out hb)
          clear hb k0 k1 x0 x1 x2 xz xn
          obtain ⟨x0, x1, x2, xz⟩ := K.out _ B5.out
          have xn : ¬ w.heap.size = w5.heap.size := by omega
          have C5 := hid (bthen B5.out (balloc w5 (Obj.cells #[.int .i64 lo, .int .i64 hi] 36)))
          go_wp2_with fail
          refine (EV.out _ C5.out).mono ?_
          rintro _ w6 ⟨rfl, hb⟩
          have H6 := hid hb
          have B6 := hid (bthen C5.out hb)
          clear hb x0 x1 x2 xz xn
          have C6 := hid (bthen B6.out (balloc w6 (Obj.cells #[.int .i64 n, .int .i64 d] 26)))
          go_wp2_with fail
          refine (FF.out _).mono ?_
          rintro _ w7 ⟨rfl, hb⟩
          have B7 := hid (bthen C6.out hb)
          have C7 := hid (bthen B7.out (balloc w7 (Obj.cells #[.int .i64 fl, .int .i64 ce] 36)))
          have T5 := bthen H6.out (bthen (balloc w6 (Obj.cells #[.int .i64 n, .int .i64 d] 26)) hb)
          have j0 : w7.cell? ⟨w5.heap.size, 0, none⟩ = some (.int .i64 lo) := (T5.cell (p := ⟨w5.heap.size, 0, none⟩) (by simp)).trans (by simp [go_sem])
          have j1 : w7.cell? ⟨w5.heap.size, 1, none⟩ = some (.int .i64 hi) := (T5.cell (p := ⟨w5.heap.size, 1, none⟩) (by simp)).trans (by simp [go_sem])
          have lt5 : w5.heap.size < w7.heap.size := by have := T5.size; simp at this; omega
          have ne5 : ¬ w5.heap.size = w7.heap.size := by omega
          have T2 := bthen H3.out (bthen (balloc w3 (Obj.cells #[.int .i64 p, .int .i64 q] 36)) (bthen H4.out (bthen (balloc w4 (Obj.cells #[.int .i64 r, .int .i64 s] 36)) (bthen H5.out (bthen (balloc w5 (Obj.cells #[.int .i64 lo, .int .i64 hi] 36)) T5)))))
          have j2 : w7.cell? ⟨w2.heap.size, 0, none⟩ = some (.int .i64 lo) := (T2.cell (p := ⟨w2.heap.size, 0, none⟩) (by simp)).trans (by simp [go_sem])
          have j3 : w7.cell? ⟨w2.heap.size, 1, none⟩ = some (.int .i64 hi) := (T2.cell (p := ⟨w2.heap.size, 1, none⟩) (by simp)).trans (by simp [go_sem])
          have lt2 : w2.heap.size < w7.heap.size := by have := T2.size; simp at this; omega
          have ne2 : ¬ w2.heap.size = w7.heap.size := by omega
          clear hb T5 T2
          go_wp2_with fail
          refine (WI.out _).mono ?_
          rintro _ w8 ⟨rfl, hb⟩
          have B8 := hid (bthen C7.out hb)
          clear hb
          go_wp2_with fail
          refine (pawake_any _).mono ?_
          rintro _ w9 ⟨rfl, hb⟩
          have B9 := hid hb
          clear hb
          go_wp2_with fail
          go_ret
          exact HG.out _ _ B8.out B9.out
        · have hn : (E == 0) = false := by simpa using z
          go_wp2_with fail
          refine (pawake_any _).mono ?_
          rintro _ w9 ⟨rfl, hb⟩
          have B9 := hid hb
          clear hb
          go_wp2_with fail
          go_ret
          exact HG.out _ _ C4.out B9.out
      · have bc1 : c < b := by omega
        have ab1 : ¬ b < a := by omega
        have dab : decide (b < a) = false := decide_eq_false ab1
        go_wp2_with fail
        refine (pawake_any _).mono ?_
        rintro _ w9 ⟨rfl, hb⟩
        have B9 := hid hb
        clear hb
        go_wp2_with fail
        go_ret
        exact HG.out _ _ B1.out B9.out
    · have ab1 : b < a := by omega
      go_wp2_with fail
      refine (pawake_any _).mono ?_
      rintro _ w9 ⟨rfl, hb⟩
      have B9 := hid hb
      clear hb
      go_wp2_with fail
      go_ret
      exact HG.out _ _ B1.out B9.out
theorem joins_law (a b c : Int) (a0 : -9223372036854775808 ≤ a) (a1 : a ≤ 9223372036854775807) (b0 : -9223372036854775808 ≤ b) (b1 : b ≤ 9223372036854775807) (c0 : -9223372036854775808 ≤ c) (c1 : c ≤ 9223372036854775807) (A : Option Addr) (cap : Nat) (l : List Sp.Pd) (w : World) (hc : l.length ≤ cap) (hz : PcSized l) (hT : Pcs w A l) :
    Calls Try.prog 7 #[.slice A l.length cap, .agg #[.int .i64 a, .int .i64 b, .int .i64 c]] w (Gives (.bool true) w) := joins_as A cap l a b c w hc hz hT
end Go.Proofs.Ytcbecfimikpljaa
