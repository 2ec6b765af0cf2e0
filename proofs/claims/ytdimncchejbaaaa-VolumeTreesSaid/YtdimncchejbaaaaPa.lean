/-
  Layer 12: pieces in memory; isBeyond, checkPiece, Check, Domain, pieceAt of package piecewise, by contract.
-/
import Derived.Test.YtdimncchejbaaaaPm
import Derived.Test.YtdimncchejbaaaaFcode
namespace Go.Proofs.Ytdimncchejbaaaa
open Go.RowKit
set_option linter.unusedVariables false
set_option linter.unusedSimpArgs false

theorem pw64 (n : Int) (h : -9223372036854775808 ≤ n ∧ n ≤ 9223372036854775807) : wrap64 n = n := by unfold wrap64; omega
theorem pbool {a b : Bool} (h : a = b) : Value.bool a = .bool b := by rw [h]
/-- Coefficients that lie in memory. -/
def Frs (w : World) (A : Option Addr) (l : List (Int × Int)) : Prop :=
  0 < l.length → ∃ b off, A = some ⟨b, off, none⟩ ∧ b < w.heap.size ∧ ∀ j, (hj : j < l.length) →
    w.cell? ⟨b, off + j * 2, none⟩ = some (.int .i64 (l[j]).1) ∧ w.cell? ⟨b, off + j * 2 + 1, none⟩ = some (.int .i64 (l[j]).2)
theorem Frs.below {w w' : World} {A : Option Addr} {l : List (Int × Int)} (h : Frs w A l) (hb : Below w.heap.size w w') : Frs w' A l := fun h0 => by
  obtain ⟨b, off, hA, hl, hc⟩ := h h0
  refine ⟨b, off, hA, Nat.lt_of_lt_of_le hl hb.size, fun j hj => ?_⟩
  obtain ⟨c0, c1⟩ := hc j hj
  exact ⟨(hb.cell (p := ⟨b, off + j * 2, none⟩) hl).trans c0, (hb.cell (p := ⟨b, off + j * 2 + 1, none⟩) hl).trans c1⟩
theorem Frs.at_ {w w' : World} {A : Option Addr} {l : List (Int × Int)} (h : Frs w A l) (hb : Below w.heap.size w w') {j : Nat} (hj : j < l.length) :
    ∃ b off, A = some ⟨b, off, none⟩ ∧ b < w.heap.size ∧ w'.cell? ⟨b, off + j * 2, none⟩ = some (.int .i64 (l[j]).1) ∧ w'.cell? ⟨b, off + j * 2 + 1, none⟩ = some (.int .i64 (l[j]).2) := by
  obtain ⟨b, off, hA, hl, hc⟩ := h (by omega)
  obtain ⟨c0, c1⟩ := hc j hj
  exact ⟨b, off, hA, hl, (hb.cell (p := ⟨b, off + j * 2, none⟩) hl).trans c0, (hb.cell (p := ⟨b, off + j * 2 + 1, none⟩) hl).trans c1⟩
/-- Pieces that lie in memory, with their coefficients. -/
def Pcs (w : World) (A : Option Addr) (l : List Sp.Pd) : Prop :=
  (0 < l.length → ∃ b off, A = some ⟨b, off, none⟩ ∧ b < w.heap.size ∧ ∀ j, (hj : j < l.length) →
    w.cell? ⟨b, off + j * 3, none⟩ = some (.int .i64 (l[j]).f) ∧ w.cell? ⟨b, off + j * 3 + 1, none⟩ = some (.int .i64 (l[j]).t) ∧ w.cell? ⟨b, off + j * 3 + 2, none⟩ = some (.slice (l[j]).A (l[j]).c.length (l[j]).k)) ∧ ∀ p ∈ l, Frs w p.A p.c
theorem Pcs.below {w w' : World} {A : Option Addr} {l : List Sp.Pd} (h : Pcs w A l) (hb : Below w.heap.size w w') : Pcs w' A l := by
  refine ⟨fun h0 => ?_, fun p hp => (h.2 p hp).below hb⟩
  obtain ⟨b, off, hA, hl, hc⟩ := h.1 h0
  refine ⟨b, off, hA, Nat.lt_of_lt_of_le hl hb.size, fun j hj => ?_⟩
  obtain ⟨c0, c1, c2⟩ := hc j hj
  exact ⟨(hb.cell (p := ⟨b, off + j * 3, none⟩) hl).trans c0, (hb.cell (p := ⟨b, off + j * 3 + 1, none⟩) hl).trans c1, (hb.cell (p := ⟨b, off + j * 3 + 2, none⟩) hl).trans c2⟩
theorem Pcs.at_ {w w' : World} {A : Option Addr} {l : List Sp.Pd} (h : Pcs w A l) (hb : Below w.heap.size w w') {j : Nat} (hj : j < l.length) :
    ∃ b off, A = some ⟨b, off, none⟩ ∧ b < w.heap.size ∧ w'.cell? ⟨b, off + j * 3, none⟩ = some (.int .i64 (l[j]).f) ∧ w'.cell? ⟨b, off + j * 3 + 1, none⟩ = some (.int .i64 (l[j]).t) ∧ w'.cell? ⟨b, off + j * 3 + 2, none⟩ = some (.slice (l[j]).A (l[j]).c.length (l[j]).k) := by
  obtain ⟨b, off, hA, hl, hc⟩ := h.1 (by omega)
  obtain ⟨c0, c1, c2⟩ := hc j hj
  exact ⟨b, off, hA, hl, (hb.cell (p := ⟨b, off + j * 3, none⟩) hl).trans c0, (hb.cell (p := ⟨b, off + j * 3 + 1, none⟩) hl).trans c1, (hb.cell (p := ⟨b, off + j * 3 + 2, none⟩) hl).trans c2⟩
/-- What the numbers of coefficients and pieces are. -/
def FrSized (l : List (Int × Int)) : Prop := l.length ≤ 140737488355328 ∧ ∀ q ∈ l, (-9223372036854775808 ≤ q.1 ∧ q.1 ≤ 9223372036854775807) ∧ (-9223372036854775808 ≤ q.2 ∧ q.2 ≤ 9223372036854775807)
def PcSized (l : List Sp.Pd) : Prop := l.length ≤ 140737488355328 ∧ ∀ p ∈ l, (-9223372036854775808 ≤ p.f ∧ p.f ≤ 9223372036854775807) ∧ (-9223372036854775808 ≤ p.t ∧ p.t ≤ 9223372036854775807) ∧ FrSized p.c
theorem pmeas (n j : Nat) (h : j < n) : n - (intOf (.int .i64 ((j : Int) + 1))).toNat < n - (intOf (.int .i64 (j : Int))).toNat := by simp [intOf]; omega
theorem beyond_any (n d : Int) (w : World) : Calls Try.prog 79 #[.agg #[.int .i64 n, .int .i64 d]] w (Gives (.bool (Sp.bigF (n, d))) w) := by
  unfold Sp.bigF
  simp only
  by_cases c1 : 1000000 < n
  · rw [decide_eq_true c1, Bool.true_or, Bool.true_or]
    go_enter Try.func79, Try.ntmps79
    go_wp2_with fail
    go_ret
    exact Gives.mk rfl ((Below.refl _ _).alloc (Nat.le_refl _) _)
  · rw [decide_eq_false c1, Bool.false_or]
    by_cases c2 : n < -1000000
    · rw [decide_eq_true c2, Bool.true_or]
      go_enter Try.func79, Try.ntmps79
      go_wp2_with fail
      go_ret
      exact Gives.mk rfl ((Below.refl _ _).alloc (Nat.le_refl _) _)
    · rw [decide_eq_false c2, Bool.false_or]
      by_cases c3 : 1000000000 < d
      · rw [decide_eq_true c3]
        go_enter Try.func79, Try.ntmps79
        go_wp2_with fail
        go_ret
        exact Gives.mk rfl ((Below.refl _ _).alloc (Nat.le_refl _) _)
      · rw [decide_eq_false c3]
        go_enter Try.func79, Try.ntmps79
        go_wp2_with fail
        go_ret
        exact Gives.mk rfl ((Below.refl _ _).alloc (Nat.le_refl _) _)
def BgRel (w : World) (l : List (Int × Int)) (R : Int) (t : Value) (wr : World) : Prop := ∃ j : Nat, t = .int .i64 (j : Int) ∧ j ≤ l.length ∧ Sp.firstBig (l.drop j) j = R ∧ Below w.heap.size w wr
set_option maxRecDepth 100000 in
set_option maxHeartbeats 1000000 in
theorem bigindex_any (A : Option Addr) (cap : Nat) (l : List (Int × Int)) (w : World) (hl : l.length ≤ 140737488355328) (hT : Frs w A l) :
    Calls Try.prog 93 #[.slice A l.length cap, .func (.func 79) #[] #[]] w (Gives (.int .i64 (Sp.firstBig l 0)) w) := by
  have HT := hid hT
  have LE := hid hl
  obtain ⟨R, hR⟩ : ∃ R, Sp.firstBig l 0 = R := ⟨_, rfl⟩
  rw [hR]
  have HR := hid hR
  clear hT hR hl
  go_enter Try.func93, Try.ntmps93
  go_wp2_with fail
  go_loopw [8] (fun t wr => BgRel w l R t wr) (fun t _ => l.length - (intOf t).toNat)
  case atStart => exact ⟨0, rfl, Nat.zero_le _, HR.out, Below.refl _ _⟩
  case round =>
    obtain ⟨j, rfl, hj, hd, hB⟩ := hrel
    have HD := hid hd
    have HB := hid hB
    clear hd hB
    by_cases hlt : j < l.length
    · obtain ⟨b, off, rfl, bl, q0, q1⟩ := HT.out.at_ HB.out hlt
      have hd := HD.out
      rw [List.drop_eq_getElem_cons hlt, Sp.firstBig_cons] at hd
      obtain ⟨⟨n, d⟩, hc⟩ : ∃ c, l[j]'hlt = c := ⟨_, rfl⟩
      rw [hc] at q0 q1 hd
      simp only at q0 q1
      have i0 : (0 : Int) ≤ (j : Int) := by omega
      have i1 : (j : Int) < (l.length : Int) := by omega
      have bw : b < wr.heap.size := Nat.lt_of_lt_of_le bl HB.out.size
      have CL := hid (beyond_any n d wr)
      have HJ := hid hlt
      have ej : wrap64 ((j : Int) + 1) = (j : Int) + 1 := pw64 _ (by have := LE.out; have := HJ.out; omega)
      by_cases h : Sp.bigF (n, d) = true
      · rw [if_pos h] at hd
        rw [h] at CL
        have HF := hid hd
        clear hd hc h
        go_wp2_with fail
        refine CL.out.mono ?_
        rintro _ w5 ⟨rfl, hb⟩
        have HB5 := hid hb
        clear hb
        go_wp2_with fail
        go_ret
        exact Gives.mk (i64_eq HF.out.symm) (HB.out.trans (HB5.out.mono HB.out.size))
      · rw [if_neg h] at hd
        rw [Bool.eq_false_iff.mpr h] at CL
        have HF := hid hd
        clear hd hc h
        go_wp2_with fail
        refine CL.out.mono ?_
        rintro _ w5 ⟨rfl, hb⟩
        have HB5 := hid hb
        clear hb
        go_wp2_with fail
        go_roundw
        case rel => exact ⟨j + 1, by go_num, by have := HJ.out; omega, HF.out, HB.out.trans (HB5.out.mono HB.out.size)⟩
        case measure => rw [ej]; exact pmeas _ _ HJ.out
    · have i1 : ¬ (j : Int) < (l.length : Int) := by omega
      have hd := HD.out
      rw [List.drop_eq_nil_of_le (by omega)] at hd
      have HF := hid (show (-1 : Int) = R from hd)
      clear hd
      go_wp2_with fail
      go_ret
      exact Gives.mk (i64_eq HF.out.symm) HB.out
theorem bigany_any (A : Option Addr) (cap : Nat) (l : List (Int × Int)) (w : World) (hl : l.length ≤ 140737488355328) (hT : Frs w A l) :
    Calls Try.prog 78 #[.slice A l.length cap, .func (.func 79) #[] #[]] w (Gives (.bool (l.any Sp.bigF)) w) := by
  have ix := bigindex_any A cap l w hl hT
  have e := Sp.firstBig_any l 0 (Int.le_refl _)
  obtain ⟨R, hR⟩ : ∃ R, Sp.firstBig l 0 = R := ⟨_, rfl⟩
  rw [hR] at ix e
  rw [← e]
  clear e hR hT hl
  go_enter Try.func78, Try.ntmps78
  go_wp2_with fail
  refine ix.mono ?_
  rintro _ w5 ⟨rfl, hb⟩
  have HB := hid hb
  clear hb
  go_wp2_with fail
  go_ret
  exact Gives.mk rfl HB.out
end Go.Proofs.Ytdimncchejbaaaa
