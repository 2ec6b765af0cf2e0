/-
  Layer 12: the reference by contract (Pe, Pf, Pi, Pj as one: tools/merge.py).
-/
import Derived.Test.YtdimncchejbaaaaPb
import Derived.Test.YtdimncchejbaaaaFref
import Derived.IntWalk
import Derived.Deep.Cut
import Derived.Deep.DeepCutAuto
import Derived.Deep.QuietTactic
import Derived.BigQuiet
import Derived.Test.YtdimncchejbaaaaQb
import Derived.Test.YtdimncchejbaaaaFrnew
import Derived.Test.YtdimncchejbaaaaFcnt1
import Derived.Test.YtdimncchejbaaaaFcnt3
import Derived.Test.YtdimncchejbaaaaPa
import Derived.Test.YtdimncchejbaaaaQa
namespace Go.Proofs.Ytdimncchejbaaaa
open Go.RowKit
set_option linter.unusedVariables false
set_option linter.unusedSimpArgs false

theorem big_split (n d : Int) (h : Sp.bigF (n, d) = true) : 1000000 < n ∨ (¬ 1000000 < n ∧ n < -1000000) ∨ (¬ 1000000 < n ∧ ¬ n < -1000000 ∧ 1000000000 < d) := by
  unfold Sp.bigF at h
  simp at h
  omega
theorem big_none (n d : Int) (h : Sp.bigF (n, d) = false) : ¬ 1000000 < n ∧ ¬ n < -1000000 ∧ ¬ 1000000000 < d := by
  unfold Sp.bigF at h
  simp at h
  omega
def CoRel2 (w V : World) (l : List (Int × Int)) (B : Bool) (t : Value) (wr : World) : Prop := ∃ j : Nat, t = .int .i64 (j : Int) ∧ j ≤ l.length ∧ (l.drop j).any Sp.bigF = B ∧ Below (w.heap.size + 1) V wr
set_option maxRecDepth 100000 in
set_option maxHeartbeats 4000000 in
theorem rpiece_e1 (n0 cap b off : Nat) (J f t : Int) (A' : Option Addr) (k : Nat) (c : List (Int × Int)) (w : World) (h : f < 0) (bw : b < w.heap.size) (j0 : 0 ≤ J) (j1 : J < (n0 : Int)) (a : Nat) (ha : (a : Int) = J) (q0 : w.cell? ⟨b, off + a * 3, none⟩ = some (.int .i64 f)) (q1 : w.cell? ⟨b, off + a * 3 + 1, none⟩ = some (.int .i64 t)) (q2 : w.cell? ⟨b, off + a * 3 + 2, none⟩ = some (.slice A' c.length k)) :
    Calls Try.prog 61 #[.slice (some ⟨b, off, none⟩) n0 cap, .int .i64 J] w (Gives (.int .i64 2) w) := by
  subst ha
  obtain ⟨V, hV⟩ : ∃ V, w.alloc (Obj.cells #[.int .i64 (f), .int .i64 (t), .slice (A') (c.length) (k)] 59) = V := ⟨_, rfl⟩
  have VS : V.heap.size = w.heap.size + 1 := by rw [← hV]; simp
  have v0 : V.cell? ⟨w.heap.size, 0, none⟩ = some (.int .i64 f) := by rw [← hV]; simp [go_sem]
  have v1 : V.cell? ⟨w.heap.size, 1, none⟩ = some (.int .i64 t) := by rw [← hV]; simp [go_sem]
  have v2 : V.cell? ⟨w.heap.size, 2, none⟩ = some (.slice A' c.length k) := by rw [← hV]; simp [go_sem]
  have vb : Below w.heap.size w V := by rw [← hV]; exact (Below.refl _ _).alloc (Nat.le_refl _) _
  have HVV := hid hV
  have VW := hid vb
  have VSS := hid VS
  have V2 := hid v2
  clear hV vb VS v1 v2
  go_enter Try.func61, Try.ntmps61
  go_upto_region 2 with fail
  rw [HVV.out]
  go_wp2_with fail
  go_ret
  exact Gives.mk rfl (by have hB := VW.out; repeat' (first | (with_reducible exact Below.refl _ _) | (with_reducible refine Below.alloc ?_ ?_ _) | (with_reducible refine Below.setCell ?_ ?_ _) | (with_reducible refine Below.drew ?_) | (with_reducible refine below_dn ?_ _) | (with_reducible refine Below.trans ?_ (Below.mono (by assumption) ?_)) | (simp; done) | (simp; omega) | omega))
set_option maxRecDepth 100000 in
set_option maxHeartbeats 4000000 in
theorem rpiece_e2 (n0 cap b off : Nat) (J f t : Int) (A' : Option Addr) (k : Nat) (c : List (Int × Int)) (w : World) (h0 : ¬ f < 0) (h : 3000 < t) (bw : b < w.heap.size) (j0 : 0 ≤ J) (j1 : J < (n0 : Int)) (a : Nat) (ha : (a : Int) = J) (q0 : w.cell? ⟨b, off + a * 3, none⟩ = some (.int .i64 f)) (q1 : w.cell? ⟨b, off + a * 3 + 1, none⟩ = some (.int .i64 t)) (q2 : w.cell? ⟨b, off + a * 3 + 2, none⟩ = some (.slice A' c.length k)) :
    Calls Try.prog 61 #[.slice (some ⟨b, off, none⟩) n0 cap, .int .i64 J] w (Gives (.int .i64 2) w) := by
  subst ha
  obtain ⟨V, hV⟩ : ∃ V, w.alloc (Obj.cells #[.int .i64 (f), .int .i64 (t), .slice (A') (c.length) (k)] 59) = V := ⟨_, rfl⟩
  have VS : V.heap.size = w.heap.size + 1 := by rw [← hV]; simp
  have v0 : V.cell? ⟨w.heap.size, 0, none⟩ = some (.int .i64 f) := by rw [← hV]; simp [go_sem]
  have v1 : V.cell? ⟨w.heap.size, 1, none⟩ = some (.int .i64 t) := by rw [← hV]; simp [go_sem]
  have v2 : V.cell? ⟨w.heap.size, 2, none⟩ = some (.slice A' c.length k) := by rw [← hV]; simp [go_sem]
  have vb : Below w.heap.size w V := by rw [← hV]; exact (Below.refl _ _).alloc (Nat.le_refl _) _
  have HVV := hid hV
  have VW := hid vb
  have VSS := hid VS
  have V2 := hid v2
  clear hV vb VS v2
  go_enter Try.func61, Try.ntmps61
  go_upto_region 2 with fail
  rw [HVV.out]
  go_wp2_with fail
  go_ret
  exact Gives.mk rfl (by have hB := VW.out; repeat' (first | (with_reducible exact Below.refl _ _) | (with_reducible refine Below.alloc ?_ ?_ _) | (with_reducible refine Below.setCell ?_ ?_ _) | (with_reducible refine Below.drew ?_) | (with_reducible refine below_dn ?_ _) | (with_reducible refine Below.trans ?_ (Below.mono (by assumption) ?_)) | (simp; done) | (simp; omega) | omega))
set_option maxRecDepth 100000 in
set_option maxHeartbeats 4000000 in
theorem rpiece_e3 (n0 cap b off : Nat) (J f t : Int) (A' : Option Addr) (k : Nat) (c : List (Int × Int)) (w : World) (h0 : ¬ f < 0) (h1 : ¬ 3000 < t) (h : t ≤ f) (bw : b < w.heap.size) (j0 : 0 ≤ J) (j1 : J < (n0 : Int)) (a : Nat) (ha : (a : Int) = J) (q0 : w.cell? ⟨b, off + a * 3, none⟩ = some (.int .i64 f)) (q1 : w.cell? ⟨b, off + a * 3 + 1, none⟩ = some (.int .i64 t)) (q2 : w.cell? ⟨b, off + a * 3 + 2, none⟩ = some (.slice A' c.length k)) :
    Calls Try.prog 61 #[.slice (some ⟨b, off, none⟩) n0 cap, .int .i64 J] w (Gives (.int .i64 9) w) := by
  subst ha
  obtain ⟨V, hV⟩ : ∃ V, w.alloc (Obj.cells #[.int .i64 (f), .int .i64 (t), .slice (A') (c.length) (k)] 59) = V := ⟨_, rfl⟩
  have VS : V.heap.size = w.heap.size + 1 := by rw [← hV]; simp
  have v0 : V.cell? ⟨w.heap.size, 0, none⟩ = some (.int .i64 f) := by rw [← hV]; simp [go_sem]
  have v1 : V.cell? ⟨w.heap.size, 1, none⟩ = some (.int .i64 t) := by rw [← hV]; simp [go_sem]
  have v2 : V.cell? ⟨w.heap.size, 2, none⟩ = some (.slice A' c.length k) := by rw [← hV]; simp [go_sem]
  have vb : Below w.heap.size w V := by rw [← hV]; exact (Below.refl _ _).alloc (Nat.le_refl _) _
  have HVV := hid hV
  have VW := hid vb
  have VSS := hid VS
  have V2 := hid v2
  clear hV vb VS v2
  go_enter Try.func61, Try.ntmps61
  go_upto_region 2 with fail
  rw [HVV.out]
  go_wp2_with fail
  go_quiet (fail)
  go_wp2_with fail
  go_ret
  exact Gives.mk rfl (by have hB := VW.out; repeat' (first | (with_reducible exact Below.refl _ _) | (with_reducible refine Below.alloc ?_ ?_ _) | (with_reducible refine Below.setCell ?_ ?_ _) | (with_reducible refine Below.drew ?_) | (with_reducible refine below_dn ?_ _) | (with_reducible refine Below.trans ?_ (Below.mono (by assumption) ?_)) | (simp; done) | (simp; omega) | omega))
set_option maxRecDepth 100000 in
set_option maxHeartbeats 4000000 in
theorem rpiece_e4 (n0 cap b off : Nat) (J f t : Int) (A' : Option Addr) (k : Nat) (c : List (Int × Int)) (g : Int) (m : Nat) (w : World) (h0 : ¬ f < 0) (h1 : ¬ 3000 < t) (h2 : ¬ t ≤ f) (hg : ¬ f = g) (n8 : n0 ≤ 2000) (bw : b < w.heap.size) (j0 : 0 ≤ J) (j1 : J < (n0 : Int)) (a : Nat) (ha : (a : Int) = J) (q0 : w.cell? ⟨b, off + a * 3, none⟩ = some (.int .i64 f)) (q1 : w.cell? ⟨b, off + a * 3 + 1, none⟩ = some (.int .i64 t)) (q2 : w.cell? ⟨b, off + a * 3 + 2, none⟩ = some (.slice A' c.length k)) (hm : a = m + 1) (q3 : w.cell? ⟨b, off + m * 3 + 1, none⟩ = some (.int .i64 g)) :
    Calls Try.prog 61 #[.slice (some ⟨b, off, none⟩) n0 cap, .int .i64 J] w (Gives (.int .i64 9) w) := by
  subst ha
  have hgn : (f == g) = false := by simpa using hg
  have d2 : decide (t ≤ f) = false := by simpa using h2
  obtain ⟨V, hV⟩ : ∃ V, w.alloc (Obj.cells #[.int .i64 (f), .int .i64 (t), .slice (A') (c.length) (k)] 59) = V := ⟨_, rfl⟩
  have VS : V.heap.size = w.heap.size + 1 := by rw [← hV]; simp
  have v0 : V.cell? ⟨w.heap.size, 0, none⟩ = some (.int .i64 f) := by rw [← hV]; simp [go_sem]
  have v1 : V.cell? ⟨w.heap.size, 1, none⟩ = some (.int .i64 t) := by rw [← hV]; simp [go_sem]
  have v2 : V.cell? ⟨w.heap.size, 2, none⟩ = some (.slice A' c.length k) := by rw [← hV]; simp [go_sem]
  have vb : Below w.heap.size w V := by rw [← hV]; exact (Below.refl _ _).alloc (Nat.le_refl _) _
  have HVV := hid hV
  have VW := hid vb
  have VSS := hid VS
  have V2 := hid v2
  have q3' : V.cell? ⟨b, off + m * 3 + 1, none⟩ = some (.int .i64 g) := (vb.cell (p := ⟨b, off + m * 3 + 1, none⟩) bw).trans q3
  have m0 : (0 : Int) ≤ (m : Int) := by omega
  have m1 : (m : Int) < (n0 : Int) := by omega
  have jp : (0 : Int) < (a : Int) := by omega
  have jn : 0 < a := by omega
  have w1 : wrap64 ((a : Int) - 1) = (m : Int) := by rw [pw64 _ (by omega)]; omega
  have w2 : IntKind.i64.wrap ((a : Int) - 1) = (m : Int) := by rw [IntWalk.i64_in _ (by omega)]; omega
  clear hV vb VS v2 hg hm q3
  go_enter Try.func61, Try.ntmps61
  go_upto_region 2 with fail
  rw [HVV.out]
  have bv : b < V.heap.size := by have := VSS.out; omega
  go_wp2_with fail
  go_quiet (fail)
  go_wp2_with fail
  go_ret
  exact Gives.mk rfl (by have hB := VW.out; repeat' (first | (with_reducible exact Below.refl _ _) | (with_reducible refine Below.alloc ?_ ?_ _) | (with_reducible refine Below.setCell ?_ ?_ _) | (with_reducible refine Below.drew ?_) | (with_reducible refine below_dn ?_ _) | (with_reducible refine Below.trans ?_ (Below.mono (by assumption) ?_)) | (simp; done) | (simp; omega) | omega))
set_option maxRecDepth 100000 in
set_option maxHeartbeats 4000000 in
theorem rpiece_tail (n0 cap b off : Nat) (J f t : Int) (A' : Option Addr) (k : Nat) (c : List (Int × Int)) (R : Int) (B : Bool) (w : World) (h0 : ¬ f < 0) (h1 : ¬ 3000 < t) (h2 : ¬ t ≤ f) (n8 : n0 ≤ 2000) (hz : FrSized c) (fr : Frs w A' c) (hR : Sp.coefE c = R) (hB : c.any Sp.bigF = B) (bw : b < w.heap.size) (j0 : 0 ≤ J) (j1 : J < (n0 : Int)) (a : Nat) (ha : (a : Int) = J) (q0 : w.cell? ⟨b, off + a * 3, none⟩ = some (.int .i64 f)) (q1 : w.cell? ⟨b, off + a * 3 + 1, none⟩ = some (.int .i64 t)) (q2 : w.cell? ⟨b, off + a * 3 + 2, none⟩ = some (.slice A' c.length k)) (hp : a = 0 ∨ ∃ m : Nat, a = m + 1 ∧ w.cell? ⟨b, off + m * 3 + 1, none⟩ = some (.int .i64 f)) :
    Calls Try.prog 61 #[.slice (some ⟨b, off, none⟩) n0 cap, .int .i64 J] w (Gives (.int .i64 (if 4 < c.length then 8 else if R ≠ 0 then R else if B then 2 else 0)) w) := by
  subst ha
  obtain ⟨v, hv⟩ : ∃ v, (if 4 < c.length then 8 else if R ≠ 0 then R else if B = true then 2 else 0) = v := ⟨_, rfl⟩
  rw [hv]
  have HV5 := hid hv
  clear hv
  have HF4 := hid fr
  have HZ := hid hz
  have HR := hid hR
  have HBB := hid hB
  obtain ⟨V, hV⟩ : ∃ V, w.alloc (Obj.cells #[.int .i64 (f), .int .i64 (t), .slice (A') (c.length) (k)] 59) = V := ⟨_, rfl⟩
  have VS : V.heap.size = w.heap.size + 1 := by rw [← hV]; simp
  have v0 : V.cell? ⟨w.heap.size, 0, none⟩ = some (.int .i64 f) := by rw [← hV]; simp [go_sem]
  have v1 : V.cell? ⟨w.heap.size, 1, none⟩ = some (.int .i64 t) := by rw [← hV]; simp [go_sem]
  have v2 : V.cell? ⟨w.heap.size, 2, none⟩ = some (.slice A' c.length k) := by rw [← hV]; simp [go_sem]
  have vb : Below w.heap.size w V := by rw [← hV]; exact (Below.refl _ _).alloc (Nat.le_refl _) _
  have HVV := hid hV
  have VW := hid vb
  have VSS := hid VS
  have V2 := hid v2
  have d2 : decide (t ≤ f) = false := by simpa using h2
  have HP := hid hp
  have V0 := hid v0
  have V1 := hid v1
  clear hz fr hR hB hp hV vb
  go_enter Try.func61, Try.ntmps61
  go_upto_region 2 with fail
  rw [HVV.out]
  have bv : b < V.heap.size := by have := VSS.out; omega
  go_upto_region 4 with fail
  go_cut [42] (fun x wx => x = .bool false ∧ wx.cell? ⟨w.heap.size, 2, none⟩ = some (.slice A' c.length k) ∧ Below (w.heap.size + 1) V wx)
  case first =>
    rcases HP.out with e | ⟨m, e, q3⟩
    · subst e
      have jz : ¬ (0 : Int) < ((0 : Nat) : Int) := by omega
      go_quiet (fail)
      go_wp2_with fail
      go_meet
      exact ⟨rfl, by simpa using V2.out, by repeat' (first | (with_reducible exact Below.refl _ _) | (with_reducible refine Below.alloc ?_ ?_ _) | (with_reducible refine Below.setCell ?_ ?_ _) | (with_reducible refine Below.drew ?_) | (with_reducible refine below_dn ?_ _) | (with_reducible refine Below.trans ?_ (Below.mono (by assumption) ?_)) | (simp; done) | (simp; omega) | omega)⟩
    · have q3' : V.cell? ⟨b, off + m * 3 + 1, none⟩ = some (.int .i64 f) := (VW.out.cell (p := ⟨b, off + m * 3 + 1, none⟩) bw).trans q3
      have m0 : (0 : Int) ≤ (m : Int) := by omega
      have m1 : (m : Int) < (n0 : Int) := by omega
      have jp : (0 : Int) < (a : Int) := by omega
      have jn : 0 < a := by omega
      have w1 : wrap64 ((a : Int) - 1) = (m : Int) := by rw [pw64 _ (by omega)]; omega
      have w2 : IntKind.i64.wrap ((a : Int) - 1) = (m : Int) := by rw [IntWalk.i64_in _ (by omega)]; omega
      clear e q3
      go_quiet (fail)
      go_wp2_with fail
      go_meet
      exact ⟨rfl, by simpa using V2.out, by repeat' (first | (with_reducible exact Below.refl _ _) | (with_reducible refine Below.alloc ?_ ?_ _) | (with_reducible refine Below.setCell ?_ ?_ _) | (with_reducible refine Below.drew ?_) | (with_reducible refine below_dn ?_ _) | (with_reducible refine Below.trans ?_ (Below.mono (by assumption) ?_)) | (simp; done) | (simp; omega) | omega)⟩
  case rest =>
    obtain ⟨rfl, x2, hx⟩ := hcut
    have BX := hid hx
    have X2 := hid x2
    have xz : w.heap.size < wc.heap.size := by have h1 := hx.size; have h2 := VSS.out; omega
    clear hx v0 v1 v2 d2 q0 q1 q2 j0 j1 n8 VS bw bv h0 h1 h2 V0 V1
    by_cases c5 : 4 < c.length
    · have h8 := HV5.out
      rw [if_pos c5] at h8
      have H8 := hid h8
      have c6 : (4 : Int) < (c.length : Int) := by omega
      clear c5 h8
      go_wp2_with fail
      go_ret
      exact Gives.mk (i64_eq H8.out.symm) (VW.out.trans (BX.out.mono (Nat.le_succ _)))
    · have h8 := HV5.out
      rw [if_neg c5] at h8
      have HV := hid h8
      clear h8
      have c6 : ¬ (4 : Int) < (c.length : Int) := by omega
      have LE := hid (show c.length ≤ 4 by omega)
      clear c5
      go_wp2_with fail
      go_loopw [50] (fun t wr => CoRel w V c R t wr) (fun t _ => c.length - (intOf t).toNat)
      case atStart => exact ⟨0, rfl, Nat.zero_le _, HR.out, BX.out⟩
      case round =>
        obtain ⟨j, rfl, hj, hd, hB⟩ := hrel
        have HD := hid hd
        have HB := hid hB
        have HW : Hid (Below w.heap.size w wr) := hid (VW.out.trans (hB.mono (Nat.le_succ _)))
        have WZ : w.heap.size + 1 ≤ wr.heap.size := by have := hB.size; rw [VSS.out] at this; exact this
        have u2 : wr.cell? ⟨w.heap.size, 2, none⟩ = some (.slice A' c.length k) := (hB.cell (p := ⟨w.heap.size, 2, none⟩) (Nat.lt_succ_self _)).trans V2.out
        clear hd hB x2 xz
        by_cases hlt : j < c.length
        · obtain ⟨b, off, rfl, bl, q0, q1⟩ := HF4.out.at_ HW.out hlt
          have hd := HD.out
          rw [List.drop_eq_getElem_cons hlt, Sp.coefE_cons] at hd
          have bn := HZ.out.2 _ (List.getElem_mem hlt)
          obtain ⟨⟨n, d⟩, hc⟩ : ∃ c', c[j]'hlt = c' := ⟨_, rfl⟩
          rw [hc] at q0 q1 hd bn
          simp only at q0 q1 bn hd
          have i0 : (0 : Int) ≤ (j : Int) := by omega
          have i1 : (j : Int) < (c.length : Int) := by omega
          have bw : b < wr.heap.size := Nat.lt_of_lt_of_le bl HW.out.size
          have HJ := hid hlt
          have CK := hid (fun W => rfcheck_any n d bn.1.1 bn.1.2 bn.2.1 bn.2.2 W)
          have ej : wrap64 ((j : Int) + 1) = (j : Int) + 1 := pw64 _ (by have := LE.out; have := HJ.out; omega)
          obtain ⟨y, hy⟩ : ∃ y, Sp.fchk n d = y := ⟨_, rfl⟩
          rw [hy] at hd CK
          clear hc hy bn u2
          by_cases h : y = 0
          · rw [if_neg (fun x => x h)] at hd
            subst h
            have HF := hid hd
            clear hd
            go_wp2_with fail
            refine (CK.out _).mono ?_
            rintro _ w5 ⟨rfl, hb⟩
            have HB5 := hid (HB.out.trans ((bthen (balloc wr (Obj.cells #[.int .i64 n, .int .i64 d] 56)) hb).mono WZ))
            clear hb
            go_wp2_with fail
            go_roundw
            case rel => exact ⟨j + 1, by go_num, by have := HJ.out; omega, HF.out, HB5.out⟩
            case measure => first | exact pmeas _ _ HJ.out | (rw [ej]; exact pmeas _ _ HJ.out)
          · rw [if_pos h] at hd
            have HF : Hid (v = y) := hid (by rw [← HV.out, ← hd, if_pos h])
            have hn : (y == 0) = false := by simpa using h
            clear hd
            go_wp2_with fail
            refine (CK.out _).mono ?_
            rintro _ w5 ⟨rfl, hb⟩
            have HB5 := hid (HB.out.trans ((bthen (balloc wr (Obj.cells #[.int .i64 n, .int .i64 d] 56)) hb).mono WZ))
            clear hb
            go_wp2_with fail
            go_ret
            exact Gives.mk (i64_eq HF.out) (VW.out.trans (HB5.out.mono (Nat.le_succ _)))
        · have i1 : ¬ (j : Int) < (c.length : Int) := by omega
          have hd := HD.out
          rw [List.drop_eq_nil_of_le (by omega)] at hd
          have r0 : R = 0 := hd.symm
          have HF : Hid (v = if B = true then 2 else 0) := hid (by have h := HV.out; rw [r0] at h; simpa using h.symm)
          clear hd r0
          go_wp2_with fail
          go_loopw [63] (fun t wr => CoRel2 w V c B t wr) (fun t _ => c.length - (intOf t).toNat)
          case atStart => exact ⟨0, rfl, Nat.zero_le _, HBB.out, HB.out⟩
          case round =>
            obtain ⟨j2, rfl, hj2, hd, hB2⟩ := hrel
            have HD2 := hid hd
            have HB2 := hid hB2
            have HW2 : Hid (Below w.heap.size w wr) := hid (VW.out.trans (hB2.mono (Nat.le_succ _)))
            clear hd hB2 u2 i1 WZ
            by_cases hlt : j2 < c.length
            · obtain ⟨b, off, rfl, bl, q0, q1⟩ := HF4.out.at_ HW2.out hlt
              have hd := HD2.out
              rw [List.drop_eq_getElem_cons hlt, List.any_cons] at hd
              obtain ⟨⟨n, d⟩, hc⟩ : ∃ c', c[j2]'hlt = c' := ⟨_, rfl⟩
              rw [hc] at q0 q1 hd
              simp only at q0 q1
              have i0 : (0 : Int) ≤ (j2 : Int) := by omega
              have i1 : (j2 : Int) < (c.length : Int) := by omega
              have bw : b < wr.heap.size := Nat.lt_of_lt_of_le bl HW2.out.size
              have HJ := hid hlt
              have ej : wrap64 ((j2 : Int) + 1) = (j2 : Int) + 1 := pw64 _ (by have := LE.out; have := HJ.out; omega)
              have HB9 : Hid (Below w.heap.size w wr) := hid HW2.out
              by_cases h : Sp.bigF (n, d) = true
              · rw [h, Bool.true_or] at hd
                have HF2 : Hid (v = 2) := hid (by rw [HF.out, ← hd]; rfl)
                have sp := big_split n d h
                clear hd hc h
                rcases sp with s | ⟨s, s2⟩ | ⟨s, s2, s3⟩
                · go_wp2_with fail
                  go_ret
                  exact Gives.mk (i64_eq HF2.out) (HB9.out.trans ((balloc wr (Obj.cells #[.int .i64 n, .int .i64 d] 56)).mono HB9.out.size))
                · go_wp2_with fail
                  go_ret
                  exact Gives.mk (i64_eq HF2.out) (HB9.out.trans ((balloc wr (Obj.cells #[.int .i64 n, .int .i64 d] 56)).mono HB9.out.size))
                · go_wp2_with fail
                  go_ret
                  exact Gives.mk (i64_eq HF2.out) (HB9.out.trans ((balloc wr (Obj.cells #[.int .i64 n, .int .i64 d] 56)).mono HB9.out.size))
              · have h2 := Bool.eq_false_iff.mpr h
                rw [h2, Bool.false_or] at hd
                obtain ⟨s1, s2, s3⟩ := big_none n d h2
                have HF2 := hid hd
                have wz := hid (show w.heap.size + 1 ≤ wr.heap.size by have := HB2.out.size; rw [VSS.out] at this; exact this)
                clear hd hc h h2
                go_wp2_with fail
                go_roundw
                case rel => exact ⟨j2 + 1, by go_num, by have := HJ.out; omega, HF2.out, HB2.out.trans ((balloc wr (Obj.cells #[.int .i64 n, .int .i64 d] 56)).mono wz.out)⟩
                case measure => first | exact pmeas _ _ HJ.out | (rw [ej]; exact pmeas _ _ HJ.out)
            · have i1 : ¬ (j2 : Int) < (c.length : Int) := by omega
              have hd := HD2.out
              rw [List.drop_eq_nil_of_le (by omega)] at hd
              have HF2 : Hid (v = 0) := hid (by rw [HF.out, ← hd]; rfl)
              clear hd
              go_wp2_with fail
              go_ret
              exact Gives.mk (i64_eq HF2.out) HW2.out

/-- Where the piece j has to begin. -/
def bgO (l : List Sp.Pd) (j : Nat) : Int := if j = 0 then Sp.least l else ((l[j - 1]?).getD (⟨0, 0, none, 0, []⟩ : Sp.Pd)).t
theorem bgO_succ {l : List Sp.Pd} {j : Nat} (h : j < l.length) : bgO l (j + 1) = (l[j]).t := by
  unfold bgO
  rw [if_neg (by omega), Nat.add_sub_cancel, List.getElem?_eq_getElem h, Option.getD_some]
set_option maxRecDepth 100000 in
set_option maxHeartbeats 1000000 in
theorem rpiece_any (A : Option Addr) (cap : Nat) (l : List Sp.Pd) (a : Nat) (w : World) (h : a < l.length) (hl : l.length ≤ 2000) (hz : PcSized l) (hT : Pcs w A l) :
    Calls Try.prog 61 #[.slice A l.length cap, .int .i64 (a : Int)] w (Gives (.int .i64 (Sp.pieceE (l[a]) (bgO l a))) w) := by
  obtain ⟨b, off, rfl, bl, q0, q1, q2⟩ := hT.at_ (Below.refl _ _) h
  have fr := hT.2 _ (List.getElem_mem h)
  have sz := (hz.2 _ (List.getElem_mem h)).2.2
  have hb : a = 0 → bgO l a = (l[a]).f := fun e => by
    subst e
    unfold bgO
    rw [if_pos rfl, least_is h]
  have hp : ∀ m, a = m + 1 → w.cell? ⟨b, off + m * 3 + 1, none⟩ = some (.int .i64 (bgO l a)) := fun m e => by
    subst e
    obtain ⟨b', off', e2, _, _, r1, _⟩ := hT.at_ (Below.refl _ _) (show m < l.length by omega)
    obtain ⟨rfl, rfl⟩ : b = b' ∧ off = off' := by simpa using e2
    rw [bgO_succ (by omega)]
    exact r1
  generalize l[a] = p at q0 q1 q2 fr sz hb
  generalize bgO l a = g at hb hp
  obtain ⟨f, t, A', k, c⟩ := p
  simp only at q0 q1 q2 fr sz hb
  have j0 : (0 : Int) ≤ (a : Int) := by omega
  have j1 : (a : Int) < (l.length : Int) := by omega
  unfold Sp.pieceE
  simp only
  by_cases c1 : f < 0
  · rw [if_pos (.inl c1)]
    exact rpiece_e1 l.length cap b off a f t A' k c w c1 bl j0 j1 a rfl q0 q1 q2
  by_cases c2 : 3000 < t
  · rw [if_pos (.inr c2)]
    exact rpiece_e2 l.length cap b off a f t A' k c w c1 c2 bl j0 j1 a rfl q0 q1 q2
  rw [if_neg (by omega)]
  by_cases c3 : t ≤ f
  · rw [if_pos (.inl c3)]
    exact rpiece_e3 l.length cap b off a f t A' k c w c1 c2 c3 bl j0 j1 a rfl q0 q1 q2
  by_cases c4 : f = g
  · rw [if_neg (fun h => h.elim c3 (fun x => x c4))]
    subst c4
    have e : (if 4 < c.length then 8 else if Sp.coefE c ≠ 0 then Sp.coefE c else if c.any Sp.bigF = true then 2 else 0 : Int) = if 4 < c.length then 8 else if Sp.coefE c ≠ 0 then Sp.coefE c else if c.any Sp.bigF then 2 else 0 := rfl
    refine rpiece_tail l.length cap b off a f t A' k c (Sp.coefE c) (c.any Sp.bigF) w c1 c2 c3 hl sz fr rfl rfl bl j0 j1 a rfl q0 q1 q2 ?_
    cases a with
    | zero => exact .inl rfl
    | succ m => exact .inr ⟨m, rfl, hp m rfl⟩
  · rw [if_pos (.inr c4)]
    cases a with
    | zero => exact absurd (hb rfl).symm c4
    | succ m => exact rpiece_e4 l.length cap b off _ f t A' k c g m w c1 c2 c3 c4 hl bl j0 j1 (m + 1) rfl q0 q1 q2 rfl (hp m rfl)
def RcRel (w : World) (l : List Sp.Pd) (R : Int) (t : Value) (wr : World) : Prop := ∃ j : Nat, t = .int .i64 (j : Int) ∧ j ≤ l.length ∧ Sp.listE (l.drop j) (bgO l j) = R ∧ Below w.heap.size w wr
set_option maxRecDepth 100000 in
set_option maxHeartbeats 2000000 in
theorem rpcheck_any (A : Option Addr) (cap : Nat) (l : List Sp.Pd) (w : World) (hz : PcSized l) (hT : Pcs w A l) :
    Calls Try.prog 45 #[.slice A l.length cap] w (Gives (.int .i64 (Sp.pcheck l)) w) := by
  unfold Sp.pcheck
  by_cases c0 : 0 < l.length
  · rw [dif_pos c0]
    have z0 : ((l.length : Int) == 0) = false := by simp; intro h; rw [h] at c0; simp at c0
    by_cases c8 : 8 < l.length
    · rw [if_pos c8]
      have i8 : (8 : Int) < (l.length : Int) := by omega
      clear hz hT c0 c8
      go_enter Try.func45, Try.ntmps45
      go_wp2_with fail
      go_ret
      exact Gives.mk rfl (Below.refl _ _)
    · rw [if_neg c8]
      have i8 : ¬ (8 : Int) < (l.length : Int) := by omega
      have LE := hid (show l.length ≤ 8 by omega)
      have e0 : (l[0]'c0).f = bgO l 0 := by unfold bgO; rw [if_pos rfl, least_is c0]
      rw [e0]
      obtain ⟨R, hR⟩ : ∃ R, Sp.listE l (bgO l 0) = R := ⟨_, rfl⟩
      rw [hR]
      have HR := hid hR
      have PI := hid (fun (j : Nat) (h : j < l.length) (W : World) (hw : Below w.heap.size w W) => rpiece_any A cap l j W h (by omega) hz (hT.below hw))
      clear hT hR c8 e0 hz
      go_enter Try.func45, Try.ntmps45
      go_wp2_with fail
      go_loopw [13] (fun t wr => RcRel w l R t wr) (fun t _ => l.length - (intOf t).toNat)
      case atStart => exact ⟨0, rfl, Nat.zero_le _, HR.out, Below.refl _ _⟩
      case round =>
        obtain ⟨j, rfl, hj, hd, hB⟩ := hrel
        have HD := hid hd
        have HB := hid hB
        clear hd hB c0 z0 i8
        by_cases hlt : j < l.length
        · have hd := HD.out
          rw [List.drop_eq_getElem_cons hlt, Sp.listE_cons, ← bgO_succ hlt] at hd
          have CK := hid (PI.out j hlt wr HB.out)
          obtain ⟨y, hy⟩ : ∃ y, Sp.pieceE (l[j]'hlt) (bgO l j) = y := ⟨_, rfl⟩
          rw [hy] at hd CK
          have i0 : (0 : Int) ≤ (j : Int) := by omega
          have i1 : (j : Int) < (l.length : Int) := by omega
          have HJ := hid hlt
          have ej : wrap64 ((j : Int) + 1) = (j : Int) + 1 := pw64 _ (by have := LE.out; have := HJ.out; omega)
          clear hy
          by_cases h : y = 0
          · rw [if_neg (fun x => x h)] at hd
            subst h
            have HF := hid hd
            clear hd
            go_wp2_with fail
            refine CK.out.mono ?_
            rintro _ w5 ⟨rfl, hb⟩
            have HB5 := hid (HB.out.trans (hb.mono HB.out.size))
            clear hb
            go_wp2_with fail
            go_roundw
            case rel => exact ⟨j + 1, by go_num, by have := HJ.out; omega, HF.out, HB5.out⟩
            case measure => first | exact pmeas _ _ HJ.out | (rw [ej]; exact pmeas _ _ HJ.out)
          · rw [if_pos h] at hd
            have HF := hid hd
            have hn : (y == 0) = false := by simpa using h
            clear hd
            go_wp2_with fail
            refine CK.out.mono ?_
            rintro _ w5 ⟨rfl, hb⟩
            have HB5 := hid (HB.out.trans (hb.mono HB.out.size))
            clear hb
            go_wp2_with fail
            go_ret
            exact Gives.mk (i64_eq HF.out.symm) HB5.out
        · have i1 : ¬ (j : Int) < (l.length : Int) := by omega
          have hd := HD.out
          rw [List.drop_eq_nil_of_le (by omega)] at hd
          have HF := hid (show (0 : Int) = R from hd)
          clear hd
          go_wp2_with fail
          go_ret
          exact Gives.mk (i64_eq HF.out.symm) HB.out
  · rw [dif_neg c0]
    have e : l.length = 0 := by omega
    rw [e]
    clear hz hT c0
    go_enter Try.func45, Try.ntmps45
    go_wp2_with fail
    go_ret
    exact Gives.mk rfl (Below.refl _ _)
/-- What Few answers. -/
def longP (p : Sp.Pd) : Bool := decide (8 < p.c.length)
def fewS (l : List Sp.Pd) (most : Int) : Bool :=
  if 12 < l.length then false else if l.any longP = true then false else if Sp.pcheck l ≠ 0 then true else decide (Sp.great l - Sp.least l ≤ most)
def FwRel (w : World) (l : List Sp.Pd) (L : Bool) (t : Value) (wr : World) : Prop := ∃ j : Nat, t = .int .i64 (j : Int) ∧ j ≤ l.length ∧ (l.drop j).any longP = L ∧ Below w.heap.size w wr
set_option maxRecDepth 100000 in
set_option maxHeartbeats 4000000 in
theorem rfew_any (A : Option Addr) (cap : Nat) (l : List Sp.Pd) (most : Int) (w : World) (m0 : 0 ≤ most) (m1 : most ≤ 100000) (hz : PcSized l) (hT : Pcs w A l) :
    Calls Try.prog 29 #[.slice A l.length cap, .int .i64 most] w (Gives (.bool (fewS l most)) w) := by
  obtain ⟨R, hR⟩ : ∃ R, fewS l most = R := ⟨_, rfl⟩
  rw [hR]
  unfold fewS at hR
  by_cases c12 : 12 < l.length
  · rw [if_pos c12] at hR
    subst hR
    have i12 : (12 : Int) < (l.length : Int) := by omega
    clear hz hT c12
    go_enter Try.func29, Try.ntmps29
    go_wp2_with fail
    go_ret
    exact Gives.mk rfl (Below.refl _ _)
  rw [if_neg c12] at hR
  have i12 : ¬ (12 : Int) < (l.length : Int) := by omega
  have LE := hid (show l.length ≤ 12 by omega)
  obtain ⟨L, hL⟩ : ∃ L, l.any longP = L := ⟨_, rfl⟩
  rw [hL] at hR
  have HL := hid hL
  have HR := hid hR
  have HT := hid hT
  have HZ := hid hz
  have CK := hid (fun (W : World) (hw : Below w.heap.size w W) => rpcheck_any A cap l W hz (hT.below hw))
  clear c12 hR hL hT hz
  go_enter Try.func29, Try.ntmps29
  go_wp2_with fail
  go_loopw [12] (fun t wr => FwRel w l L t wr) (fun t _ => l.length - (intOf t).toNat)
  case atStart => exact ⟨0, rfl, Nat.zero_le _, HL.out, Below.refl _ _⟩
  case round =>
    obtain ⟨j, rfl, hj, hd, hB⟩ := hrel
    have HD := hid hd
    have HB := hid hB
    clear hd hB i12
    by_cases hlt : j < l.length
    · obtain ⟨b, off, rfl, bl, q0, q1, q2⟩ := HT.out.at_ HB.out hlt
      have hd := HD.out
      rw [List.drop_eq_getElem_cons hlt, List.any_cons] at hd
      have sz := (HZ.out.2 _ (List.getElem_mem hlt)).2.2.1
      obtain ⟨p, hp⟩ : ∃ c', l[j]'hlt = c' := ⟨_, rfl⟩
      rw [hp] at q0 q1 q2 hd sz
      obtain ⟨f, t, A', k, c⟩ := p
      have e0 : longP ⟨f, t, A', k, c⟩ = decide (8 < c.length) := rfl
      rw [e0] at hd
      simp only at q0 q1 q2 sz
      clear e0
      have i0 : (0 : Int) ≤ (j : Int) := by omega
      have i1 : (j : Int) < (l.length : Int) := by omega
      have bw : b < wr.heap.size := Nat.lt_of_lt_of_le bl HB.out.size
      have HJ := hid hlt
      have ej : wrap64 ((j : Int) + 1) = (j : Int) + 1 := pw64 _ (by have := LE.out; have := HJ.out; omega)
      by_cases h : 8 < c.length
      · have e : true = L := by simpa [h] using hd
        have hr := HR.out
        rw [← e, if_pos rfl] at hr
        have HF := hid hr
        have i8 : (8 : Int) < (c.length : Int) := by omega
        clear hd hp h sz e hr
        go_wp2_with fail
        go_ret
        exact Gives.mk (pbool HF.out.symm) (HB.out.trans ((balloc wr _).mono HB.out.size))
      · have e : (l.drop (j + 1)).any longP = L := by simpa [h] using hd
        have HF := hid e
        have i8 : ¬ (8 : Int) < (c.length : Int) := by omega
        clear hd hp h sz e
        go_wp2_with fail
        go_roundw
        case rel => exact ⟨j + 1, by go_num, by have := HJ.out; omega, HF.out, HB.out.trans ((balloc wr _).mono HB.out.size)⟩
        case measure => first | exact pmeas _ _ HJ.out | (rw [ej]; exact pmeas _ _ HJ.out)
    · have i1 : ¬ (j : Int) < (l.length : Int) := by omega
      have hd := HD.out
      rw [List.drop_eq_nil_of_le (by omega)] at hd
      have e : false = L := hd
      have hr := HR.out
      rw [← e, if_neg (by simp)] at hr
      have C1 := hid (CK.out wr HB.out)
      clear hd e
      by_cases c : Sp.pcheck l = 0
      · rw [if_neg (fun h => h c)] at hr
        rw [c] at C1
        have gd := Sp.pcheck_good c
        have li := least_in c
        have HF := hid hr
        obtain ⟨b, off, rfl, bl, q0, -, -⟩ := HT.out.at_ HB.out gd.1
        obtain ⟨b', off', e, -, -, r1, -⟩ := HT.out.at_ HB.out (show l.length - 1 < l.length by omega)
        obtain ⟨rfl, rfl⟩ : b = b' ∧ off = off' := by simpa using e
        rw [← least_is gd.1] at q0
        rw [← great_is gd.1] at r1
        obtain ⟨m, hm⟩ : ∃ m, l.length - 1 = m := ⟨_, rfl⟩
        rw [hm] at r1
        have g8 := gd.2.1
        have g0 := gd.1
        have i0 : (0 : Int) < (l.length : Int) := by omega
        have i5 : (0 : Int) ≤ (m : Int) := by omega
        have i6 : (m : Int) < (l.length : Int) := by omega
        have i4 : IntKind.i64.wrap ((l.length : Int) - 1) = (m : Int) := by rw [IntWalk.i64_in _ (by omega)]; omega
        have i3 : wrap64 ((l.length : Int) - 1) = (m : Int) := by rw [pw64 _ (by omega)]; omega
        have bw : b < wr.heap.size := Nat.lt_of_lt_of_le bl HB.out.size
        simp only [Nat.zero_mul, Nat.add_zero] at q0
        generalize Sp.least l = x at q0 HF li
        generalize Sp.great l = y at r1 HF li
        have w3 : wrap64 (y - x) = y - x := pw64 _ (by omega)
        have w4 : IntKind.i64.wrap (y - x) = y - x := IntWalk.i64_in _ (by omega)
        have K := hid (fun (W : World) (h : Below wr.heap.size wr W) => (⟨(h.cell (p := ⟨b, off, none⟩) bw).trans q0, (h.cell (p := ⟨b, off + m * 3 + 1, none⟩) bw).trans r1⟩ : W.cell? ⟨b, off, none⟩ = some (.int .i64 x) ∧ W.cell? ⟨b, off + m * 3 + 1, none⟩ = some (.int .i64 y)))
        clear hr hm q0 r1 e bl gd c g8 g0
        go_wp2_with fail
        refine C1.out.mono ?_
        rintro _ w5 ⟨rfl, hb⟩
        obtain ⟨q0, r1⟩ := K.out _ hb
        have bw5 : b < w5.heap.size := Nat.lt_of_lt_of_le bw hb.size
        have HB5 := hid (HB.out.trans (hb.mono HB.out.size))
        clear hb
        by_cases cm : y - x ≤ most
        · have hf := HF.out
          rw [decide_eq_true cm] at hf
          subst hf
          go_wp2_with fail
          go_quiet (fail)
          go_wp2_with fail
          go_ret
          exact Gives.mk rfl (by have hB := HB5.out; repeat' (first | (with_reducible exact Below.refl _ _) | (with_reducible refine Below.alloc ?_ ?_ _) | (with_reducible refine Below.setCell ?_ ?_ _) | (with_reducible refine Below.drew ?_) | (with_reducible refine below_dn ?_ _) | (with_reducible refine Below.trans ?_ (Below.mono (by assumption) ?_)) | (simp; done) | (simp; omega) | omega))
        · have hf := HF.out
          rw [decide_eq_false cm] at hf
          subst hf
          have dm : decide (y - x ≤ most) = false := decide_eq_false cm
          go_wp2_with fail
          go_quiet (fail)
          go_wp2_with fail
          go_ret
          exact Gives.mk rfl (by have hB := HB5.out; repeat' (first | (with_reducible exact Below.refl _ _) | (with_reducible refine Below.alloc ?_ ?_ _) | (with_reducible refine Below.setCell ?_ ?_ _) | (with_reducible refine Below.drew ?_) | (with_reducible refine below_dn ?_ _) | (with_reducible refine Below.trans ?_ (Below.mono (by assumption) ?_)) | (simp; done) | (simp; omega) | omega))
      · rw [if_pos c] at hr
        obtain ⟨y, hy⟩ : ∃ y, Sp.pcheck l = y := ⟨_, rfl⟩
        rw [hy] at c C1
        have hn : (y == 0) = false := by simpa using c
        have HF := hid hr
        clear hr hy
        go_wp2_with fail
        refine C1.out.mono ?_
        rintro _ w5 ⟨rfl, hb⟩
        have HB5 := hid (HB.out.trans (hb.mono HB.out.size))
        clear hb
        go_wp2_with fail
        go_ret
        exact Gives.mk (pbool HF.out.symm) HB5.out
set_option maxRecDepth 100000 in
theorem rnew_one (x : Int) (x0 : 0 ≤ x) (x1 : x ≤ 3000) (w : World) :
    Calls Try.prog 65 #[.int .i64 x, .int .i64 1] w (Gives (.tuple #[.agg #[.int .i64 x, .int .i64 1], .int .i64 0]) w) := by
  have n1 : (-(-1) : Int) = 1 := by omega
  have q1 : wrap64 (-(-1)) = 1 := by unfold wrap64; omega
  have t1 : (-1 : Int).tdiv 1 = -1 := Int.tdiv_one _
  have g1 : (-(1 : Int) == 0) = false := by decide
  by_cases c : x = 0
  · subst c
    have g : Int.gcd 0 (-1) = 1 := by decide
    have h := rnew_walk1 0 (-1) 1 0 1 0 1 0 1 w (by omega) (by omega) (by omega) (by omega) (by omega) g (by omega) (by omega) (by omega) 0 (-1) (Int.tdiv_one _) t1 (by unfold wrap64; omega) q1 g1 (by omega) false (by decide) (.inr (.inl ⟨by omega, by omega, by omega, by omega, rfl, rfl, rfl, rfl⟩))
    rw [n1] at h
    exact h
  · have g : Int.gcd (-x) (-1) = 1 := by rw [Int.gcd_neg, Int.gcd_one]
    have nx : - -x = x := Int.neg_neg x
    have h := rnew_walk3 (-x) (-1) 1 x 1 x 1 0 1 w (by omega) (by omega) (by omega) (by omega) (by omega) (by omega) g (by omega) (by omega) (by omega) (-x) (-1) (Int.tdiv_one _) t1 (by rw [nx]; unfold wrap64; omega) q1 g1 (by omega) false (by rw [nx]; exact decide_eq_false (by omega)) (.inr (.inl ⟨by omega, by omega, by omega, by omega, rfl, rfl, rfl, rfl⟩))
    rw [nx, n1] at h
    exact h
set_option maxRecDepth 100000 in
set_option maxHeartbeats 1000000 in
theorem rpint_any (x : Int) (x0 : 0 ≤ x) (x1 : x ≤ 3000) (w : World) :
    Calls Try.prog 91 #[.int .i64 x] w (Gives (.tuple #[.agg #[.int .i64 x, .int .i64 1], .int .i64 0]) w) := by
  have nw := hid (fun W => rnew_one x x0 x1 W)
  clear x0 x1
  go_enter Try.func91, Try.ntmps91
  go_wp2_with (go_at_call 65; refine (nw.out _).mono ?_; rintro _ w5 ⟨rfl, hb⟩; have zz : w.heap.size < (w5).heap.size := Nat.lt_of_lt_of_le (show w.heap.size < _ from (by first | assumption | (simp; done) | (simp; omega) | (dsimp only; omega) | omega)) hb.size; have z0 : (w5).cell? ⟨w.heap.size, 0, none⟩ = some (.int .i64 (0)) := (hb.cell (p := ⟨w.heap.size, 0, none⟩) (by first | assumption | (simp; done) | (simp; omega) | (dsimp only; omega) | omega)).trans (by first | assumption | (simp [go_sem]; done) | (simp [go_sem, *]; done)); have z1 : (w5).cell? ⟨w.heap.size, 1, none⟩ = some (.int .i64 (0)) := (hb.cell (p := ⟨w.heap.size, 1, none⟩) (by first | assumption | (simp; done) | (simp; omega) | (dsimp only; omega) | omega)).trans (by first | assumption | (simp [go_sem]; done) | (simp [go_sem, *]; done)); have zf : ∀ o, (w5).frozen? ⟨w.heap.size, o, none⟩ = false := fun o => (hb.frozen (p := ⟨w.heap.size, o, none⟩) (by first | assumption | (simp; done) | (simp; omega) | (dsimp only; omega) | omega)).trans (by first | (simp [go_sem]; done) | (simp [go_sem, *]; done)))
  refine bodyPost_ret (v := .tuple #[.agg #[.int .i64 x, .int .i64 1], .int .i64 0]) (by simp [results, Try.results91, go_sem, z0, z1]) rfl ?_
  exact Gives.mk rfl (by repeat' (first | (with_reducible exact Below.refl _ _) | (with_reducible refine Below.alloc ?_ ?_ _) | (with_reducible refine Below.setCell ?_ ?_ _) | (with_reducible refine Below.drew ?_) | (with_reducible refine Below.trans ?_ (Below.mono (by assumption) ?_)) | (simp; done) | (simp; omega) | omega))
/-- The boxes of horner: the piece, the result, the sum; b the argument's. -/
structure HoI (w : World) (b : Nat) (x : Int) (y : Int × Int) (A : Option Addr) (n k : Nat) (W : World) : Prop where
  p2 : W.cell? ⟨w.heap.size, 2, none⟩ = some (.slice A n k)
  r0 : W.cell? ⟨w.heap.size + 1, 0, none⟩ = some (.int .i64 0)
  r1 : W.cell? ⟨w.heap.size + 1, 1, none⟩ = some (.int .i64 0)
  rf : ∀ o, W.frozen? ⟨w.heap.size + 1, o, none⟩ = false
  y0 : W.cell? ⟨w.heap.size + 1 + 1, 0, none⟩ = some (.int .i64 y.1)
  y1 : W.cell? ⟨w.heap.size + 1 + 1, 1, none⟩ = some (.int .i64 y.2)
  yf : ∀ o, W.frozen? ⟨w.heap.size + 1 + 1, o, none⟩ = false
  x0 : W.cell? ⟨b, 0, none⟩ = some (.int .i64 x)
  x1 : W.cell? ⟨b, 1, none⟩ = some (.int .i64 1)
  bw : Below w.heap.size w W
  sz : b < W.heap.size
theorem HoI.below {w W W' : World} {b n k : Nat} {x : Int} {y : Int × Int} {A : Option Addr} (h : HoI w b x y A n k W) (hb : Below W.heap.size W W') (h2 : w.heap.size + 2 < b) : HoI w b x y A n k W' := by
  have s := h.sz
  exact ⟨(hb.cell (p := ⟨w.heap.size, 2, none⟩) (by simp only; omega)).trans h.p2, (hb.cell (p := ⟨w.heap.size + 1, 0, none⟩) (by simp only; omega)).trans h.r0, (hb.cell (p := ⟨w.heap.size + 1, 1, none⟩) (by simp only; omega)).trans h.r1, fun o => (hb.frozen (p := ⟨w.heap.size + 1, o, none⟩) (by simp only; omega)).trans (h.rf o),
    (hb.cell (p := ⟨w.heap.size + 1 + 1, 0, none⟩) (by simp only; omega)).trans h.y0, (hb.cell (p := ⟨w.heap.size + 1 + 1, 1, none⟩) (by simp only; omega)).trans h.y1, fun o => (hb.frozen (p := ⟨w.heap.size + 1 + 1, o, none⟩) (by simp only; omega)).trans (h.yf o),
    (hb.cell (p := ⟨b, 0, none⟩) (by simp only; omega)).trans h.x0, (hb.cell (p := ⟨b, 1, none⟩) (by simp only; omega)).trans h.x1, h.bw.trans (hb.mono h.bw.size), Nat.lt_of_lt_of_le s hb.size⟩
theorem HoI.set {w W : World} {b n k : Nat} {x : Int} {y : Int × Int} {A : Option Addr} (h : HoI w b x y A n k W) (h2 : w.heap.size + 2 < b) (q : Int × Int) : HoI w b x q A n k ((W.setCell ⟨w.heap.size + 1 + 1, 0, none⟩ (.int .i64 q.1)).setCell ⟨w.heap.size + 1 + 1, 1, none⟩ (.int .i64 q.2)) := by
  have n1 : ¬ w.heap.size + 1 = w.heap.size + 1 + 1 := by omega
  have n2 : ¬ w.heap.size = w.heap.size + 1 + 1 := by omega
  have n3 : ¬ b = w.heap.size + 1 + 1 := by omega
  have s := h.sz
  exact ⟨by simp [go_sem, n2, h.p2], by simp [go_sem, n1, h.r0], by simp [go_sem, n1, h.r1], fun o => by simp [go_sem, h.rf], by simp [go_sem, h.y0, h.y1], by simp [go_sem, h.y0, h.y1], fun o => by simp [go_sem, h.yf], by simp [go_sem, n3, h.x0], by simp [go_sem, n3, h.x1],
    (h.bw.setCell (p := ⟨w.heap.size + 1 + 1, 0, none⟩) (by simp only; omega) _).setCell (p := ⟨w.heap.size + 1 + 1, 1, none⟩) (by simp only; omega) _, by simpa using s⟩
def HoRel (w : World) (b : Nat) (x : Int) (A : Option Addr) (c : List (Int × Int)) (k : Nat) (R : Int × Int × Int) (t : Value) (wr : World) : Prop :=
  ∃ (j : Nat) (y : Int × Int), t = .int .i64 ((c.length : Int) - 1 - j) ∧ j ≤ c.length ∧ Sp.okQ y ∧ Sp.hornF x (c.reverse.drop j) y = R ∧ HoI w b x y A c.length k wr
set_option maxRecDepth 100000 in
set_option maxHeartbeats 8000000 in
theorem rhorner_any (f t : Int) (A : Option Addr) (k : Nat) (c : List (Int × Int)) (x lo hi e : Int) (w : World) (x0 : 0 ≤ x) (x1 : x ≤ 3000) (hl : c.length ≤ 2000) (hq : ∀ q ∈ c, Sp.okQ q) (hT : Frs w A c) (hv : Sp.hornF x c.reverse (0, 1) = (lo, hi, e)) :
    Calls Try.prog 76 #[.agg #[.int .i64 f, .int .i64 t, .slice A c.length k], .int .i64 x] w (Gives (.tuple #[.agg #[.int .i64 lo, .int .i64 hi], .int .i64 e]) w) := by
  have HT := hid hT
  have HQ := hid hq
  have HV := hid hv
  have LE := hid hl
  have ni := hid (fun W => rpint_any x x0 x1 W)
  have X0 := hid x0
  have X1 := hid x1
  have e1 : wrap64 ((c.length : Int) - 1) = (c.length : Int) - 1 := pw64 _ (by omega)
  obtain ⟨V, hV⟩ : ∃ V, ((w.alloc (Obj.cells #[.int .i64 (f), .int .i64 (t), .slice (A) (c.length) (k)] 59)).alloc (Obj.cells #[.int .i64 0, .int .i64 0] 56)).alloc (Obj.cells #[.int .i64 0, .int .i64 1] 56) = V := ⟨_, rfl⟩
  have zV : V.heap.size = w.heap.size + 1 + 1 + 1 := by rw [← hV]; simp
  have kV : Below w.heap.size w V := by rw [← hV]; exact (((Below.refl _ _).alloc (Nat.le_refl _) _).alloc (by simp) _).alloc (by simp; omega) _
  have v2 : V.cell? ⟨w.heap.size, 2, none⟩ = some (.slice A c.length k) := by rw [← hV]; simp [go_sem]
  have v3 : V.cell? ⟨w.heap.size + 1, 0, none⟩ = some (.int .i64 0) := by rw [← hV]; simp [go_sem]
  have v4 : V.cell? ⟨w.heap.size + 1, 1, none⟩ = some (.int .i64 0) := by rw [← hV]; simp [go_sem]
  have v5 : ∀ o, V.frozen? ⟨w.heap.size + 1, o, none⟩ = false := by intro o; rw [← hV]; simp [go_sem]
  have v6 : V.cell? ⟨w.heap.size + 1 + 1, 0, none⟩ = some (.int .i64 0) := by rw [← hV]; simp [go_sem]
  have v7 : V.cell? ⟨w.heap.size + 1 + 1, 1, none⟩ = some (.int .i64 1) := by rw [← hV]; simp [go_sem]
  have v8 : ∀ o, V.frozen? ⟨w.heap.size + 1 + 1, o, none⟩ = false := by intro o; rw [← hV]; simp [go_sem]
  have HV2 := hid hV
  have MK := hid (fun (W : World) (h : Below V.heap.size V W) => (⟨(h.trans ((balloc W (Obj.cells #[.int .i64 x, .int .i64 1] 56)).mono h.size)).cell (p := ⟨w.heap.size, 2, none⟩) (by simp only; omega) |>.trans v2, (h.trans ((balloc W (Obj.cells #[.int .i64 x, .int .i64 1] 56)).mono h.size)).cell (p := ⟨w.heap.size + 1, 0, none⟩) (by simp only; omega) |>.trans v3, (h.trans ((balloc W (Obj.cells #[.int .i64 x, .int .i64 1] 56)).mono h.size)).cell (p := ⟨w.heap.size + 1, 1, none⟩) (by simp only; omega) |>.trans v4, fun o => ((h.trans ((balloc W (Obj.cells #[.int .i64 x, .int .i64 1] 56)).mono h.size)).frozen (p := ⟨w.heap.size + 1, o, none⟩) (by simp only; omega)).trans (v5 o),
    (h.trans ((balloc W (Obj.cells #[.int .i64 x, .int .i64 1] 56)).mono h.size)).cell (p := ⟨w.heap.size + 1 + 1, 0, none⟩) (by simp only; omega) |>.trans v6, (h.trans ((balloc W (Obj.cells #[.int .i64 x, .int .i64 1] 56)).mono h.size)).cell (p := ⟨w.heap.size + 1 + 1, 1, none⟩) (by simp only; omega) |>.trans v7, fun o => ((h.trans ((balloc W (Obj.cells #[.int .i64 x, .int .i64 1] 56)).mono h.size)).frozen (p := ⟨w.heap.size + 1 + 1, o, none⟩) (by simp only; omega)).trans (v8 o),
    by simp [go_sem], by simp [go_sem], bthen kV (h.trans ((balloc W (Obj.cells #[.int .i64 x, .int .i64 1] 56)).mono h.size)), by simp⟩ : HoI w W.heap.size x (0, 1) A c.length k (W.alloc (Obj.cells #[.int .i64 x, .int .i64 1] 56))))
  clear hT hq hv hl x0 x1 hV kV v2 v3 v4 v5 v6 v7 v8
  go_enter Try.func76, Try.ntmps76
  go_upto_region 2 with fail
  rw [HV2.out]
  go_upto_region 3 with (go_at_call 91; refine (ni.out _).mono ?_; rintro _ w5 ⟨rfl, hb⟩)
  have H0 := MK.out _ hb
  have hb2 : w.heap.size + 2 < w5.heap.size := by have := hb.size; omega
  clear hb
  obtain ⟨W0, hW0⟩ : ∃ W0, w5.alloc (Obj.cells #[.int .i64 x, .int .i64 1] 56) = W0 := ⟨_, rfl⟩
  rw [hW0] at H0 ⊢
  obtain ⟨b, hbb⟩ : ∃ b, w5.heap.size = b := ⟨_, rfl⟩
  rw [hbb] at H0 hb2 ⊢
  have z2 := H0.p2
  have HH0 := hid H0
  have HB2 := hid hb2
  clear hW0 hbb H0 hb2
  go_wp2_with fail
  go_loopw [9] (fun t wr => HoRel w b x A c k (lo, hi, e) t wr) (fun t _ => (intOf t + 1).toNat)
  case atStart => exact ⟨0, (0, 1), by first | (simp [e1]; done) | rfl, Nat.zero_le _, Sp.zero_ok, by simpa using HV.out, HH0.out⟩
  case round =>
    obtain ⟨j, ⟨y1, y2⟩, rfl, hj, oy, hd, hI⟩ := hrel
    have HD := hid hd
    have HI := hid hI
    clear hd hI z2 e1
    by_cases hlt : j < c.length
    · obtain ⟨b0, off, rfl, bl, q⟩ := HT.out (by omega)
      have hd := HD.out
      have jr : j < c.reverse.length := by simpa using hlt
      rw [List.drop_eq_getElem_cons jr, Sp.hornF_cons, List.getElem_reverse] at hd
      obtain ⟨i, hi2⟩ : ∃ i, c.length - 1 - j = i := ⟨_, rfl⟩
      have il : i < c.length := by omega
      have ei : (c.length : Int) - 1 - (j : Int) = (i : Int) := by omega
      obtain ⟨q0, q1⟩ := q i il
      have oq := HQ.out _ (List.getElem_mem il)
      have eg : c[c.length - 1 - j]'(by omega) = c[i]'il := by subst hi2; rfl
      rw [eg] at hd
      generalize c[i]'il = Q at q0 q1 oq hd
      obtain ⟨n, d⟩ := Q
      simp only at q0 q1
      have bw := HI.out.bw
      have c0 := (bw.cell (p := ⟨b0, off + i * 2, none⟩) bl).trans q0
      have c1 := (bw.cell (p := ⟨b0, off + i * 2 + 1, none⟩) bl).trans q1
      obtain ⟨⟨p1, p2, er⟩, hm⟩ : ∃ m, Sp.mulF y1 y2 x 1 = m := ⟨_, rfl⟩
      have by1 := Sp.okQ_bounds oy
      have bq := Sp.okQ_bounds oq
      simp only at by1 bq
      have mu := hid (fun W => rmul_any y1 y2 x 1 p1 p2 er by1.1.1 by1.1.2 by1.2.1 by1.2.2 (by have := X0.out; omega) (by have := X1.out; omega) (by omega) (by omega) hm W)
      have mr := Sp.mul_res (a := y1) (b := y2) (c := x) (d := 1) oy (Sp.one_ok (by have := X0.out; omega) (by have := X1.out; omega))
      have st : Sp.stepF x (y1, y2) (n, d) = if er ≠ 0 then (0, 0, er) else Sp.addF p1 p2 n d := by unfold Sp.stepF; simp only [hm]
      rw [hm] at mr
      rw [st] at hd
      have HX0 := hid (show Below w.heap.size w wr from bw)
      have blw : b0 < wr.heap.size := Nat.lt_of_lt_of_le bl bw.size
      have a0 := HI.out.y0
      have a1 := HI.out.y1
      have a2 := HI.out.x0
      have a3 := HI.out.x1
      simp only at a0 a1
      rw [ei]
      have HE := hid ei
      have HJ := hid hlt
      have IL := hid il
      have i0 : (0 : Int) ≤ (i : Int) := Int.natCast_nonneg i
      have i1 : (i : Int) < (c.length : Int) := Int.ofNat_lt.mpr il
      have e2 : wrap64 ((i : Int) - 1) = (i : Int) - 1 := pw64 _ (by have := LE.out; omega)
      have HC := hid (⟨c0, c1, bl, blw⟩ : wr.cell? ⟨b0, off + i * 2, none⟩ = some (.int .i64 n) ∧ wr.cell? ⟨b0, off + i * 2 + 1, none⟩ = some (.int .i64 d) ∧ b0 < w.heap.size ∧ b0 < wr.heap.size)
      clear q q0 q1 st hm by1 bw c0 c1 eg hi2 ei jr il hlt hj bl blw
      by_cases z1 : er = 0
      · subst z1
        have op : Sp.okQ (p1, p2) := by
          rcases mr with h | h
          · exact h.2
          · have := (Prod.mk.inj (Prod.mk.inj h).2).2; omega
        have bp := Sp.okQ_bounds op
        simp only at bp
        obtain ⟨⟨g1, g2, e3⟩, ha⟩ : ∃ m, Sp.addF p1 p2 n d = m := ⟨_, rfl⟩
        have ad := hid (fun W => radd_any p1 p2 n d g1 g2 e3 bp.1.1 bp.1.2 bp.2.1 bp.2.2 bq.1.1 bq.1.2 bq.2.1 bq.2.2 ha W)
        have ar := Sp.add_res (a := p1) (b := p2) (c := n) (d := d) op oq
        rw [ha] at ar
        have AR := hid ar
        simp only [ne_eq, not_true_eq_false, if_false, ha] at hd
        have HDD := hid hd
        clear mr bq bp oy op oq ar ha hd
        go_upto_region 9 with (go_at_call 66; refine (mu.out _).mono ?_; rintro _ w7 ⟨rfl, hb⟩)
        have HB7 := hid hb
        have HI7 := hid (HI.out.below hb HB2.out)
        clear hb a0 a1 a2 a3
        obtain ⟨U, hU⟩ : ∃ U, w7.alloc (Obj.cells #[.int .i64 p1, .int .i64 p2] 56) = U := ⟨_, rfl⟩
        have ba : Below w7.heap.size w7 U := by rw [← hU]; exact balloc _ _
        have zU : U.heap.size = w7.heap.size + 1 := by rw [← hU]; simp
        have u0 : U.cell? ⟨w7.heap.size, 0, none⟩ = some (.int .i64 p1) := by rw [← hU]; simp [go_sem]
        have u1 : U.cell? ⟨w7.heap.size, 1, none⟩ = some (.int .i64 p2) := by rw [← hU]; simp [go_sem]
        have HIU := hid (HI7.out.below ba HB2.out)
        have u2 := HIU.out.p2
        have bU := bthen HB7.out ba
        have u3 := (bU.cell (p := ⟨b0, off + i * 2, none⟩) HC.out.2.2.2).trans HC.out.1
        have u4 := (bU.cell (p := ⟨b0, off + i * 2 + 1, none⟩) HC.out.2.2.2).trans HC.out.2.1
        have HBU := hid bU
        rw [hU]
        have zz : w7.heap.size < U.heap.size := by omega
        clear hU ba bU zU
        go_region_with (go_at_call 92; refine (ad.out _).mono ?_; rintro _ w8 ⟨rfl, hb⟩; have hb8 : Below U.heap.size U w8 := (by repeat' (first | (with_reducible exact Below.refl _ _) | (with_reducible refine Below.alloc ?_ ?_ _) | (with_reducible refine Below.setCell ?_ ?_ _) | (with_reducible refine Below.drew ?_) | (with_reducible refine below_dn ?_ _) | (with_reducible refine Below.trans ?_ (Below.mono (by assumption) ?_)) | (simp; done) | (simp; omega) | omega)); have HI8 := hid (HIU.out.below hb8 HB2.out); have j0 := HI8.out.y0; have j1 := HI8.out.y1; have jf := HI8.out.yf; simp only at j0 j1; clear hb)
        all_goals
          have B8 := hid (bthen HBU.out hb8)
          have HS := hid (HI8.out.set HB2.out (g1, g2))
          have r0 := HI8.out.r0
          have r1 := HI8.out.r1
          have rf := HI8.out.rf
          clear u0 u1 u2 u3 u4 zz hb8 i0 i1
          by_cases z2 : e3 = 0
          · subst z2
            have hd := HDD.out
            simp only [ne_eq, not_true_eq_false, if_false] at hd
            have HF := hid hd
            have o2 : Sp.okQ (g1, g2) := by
              rcases AR.out with h | h
              · exact h.2
              · have := (Prod.mk.inj (Prod.mk.inj h).2).2; omega
            have OO := hid o2
            clear hd o2
            go_wp2_with fail
            go_roundw
            case rel => exact ⟨j + 1, (g1, g2), i64_eq (by have h1 := HE.out; have h2 := HJ.out; first | omega | (rw [e2]; omega)), by have := HJ.out; omega, OO.out, HF.out, HS.out⟩
            case measure => first | (simp [intOf]; done) | (simp [intOf]; omega)
          · have hd := HDD.out
            rw [if_pos z2] at hd
            have e4 : 0 = lo ∧ 0 = hi ∧ e3 = e := by simpa using hd
            obtain ⟨rfl, rfl, rfl⟩ := e4
            have hn : (e3 == 0) = false := by simpa using z2
            have m1 : ¬ w.heap.size + 1 = w.heap.size + 1 + 1 := by omega
            clear hd
            go_wp2_with fail
            refine bodyPost_ret (v := .tuple #[.agg #[.int .i64 0, .int .i64 0], .int .i64 e3]) (by simp [results, Try.results76, go_sem, r0, r1]) rfl ?_
            exact Gives.mk rfl (((HS.out.bw.setCell (p := ⟨w.heap.size + 1, 0, none⟩) (by simp only; omega) _).setCell (p := ⟨w.heap.size + 1, 1, none⟩) (by simp only; omega) _))
      · have hn : (er == 0) = false := by simpa using z1
        have e4 : 0 = lo ∧ 0 = hi ∧ er = e := by simpa [z1] using hd
        obtain ⟨rfl, rfl, rfl⟩ := e4
        clear mr bq oy oq hd
        go_wp2_with (go_at_call 66; refine (mu.out _).mono ?_; rintro _ w7 ⟨rfl, hb⟩; have HI7 := hid (HI.out.below hb HB2.out); have r0 := HI7.out.r0; have r1 := HI7.out.r1; have rf := HI7.out.rf; have lt7 : w.heap.size + 1 < w7.heap.size := (by have h1 := HI7.out.sz; have h2 := HB2.out; omega); clear hb)
        refine bodyPost_ret (v := .tuple #[.agg #[.int .i64 0, .int .i64 0], .int .i64 er]) (by simp [results, Try.results76, go_sem, r0, r1, lt7]) rfl ?_
        exact Gives.mk rfl (by have hB := HI7.out.bw; repeat' (first | (with_reducible exact Below.refl _ _) | (with_reducible refine Below.alloc ?_ ?_ _) | (with_reducible refine Below.setCell ?_ ?_ _) | (with_reducible refine Below.drew ?_) | (with_reducible refine Below.trans ?_ (Below.mono (by assumption) ?_)) | (simp; done) | (simp; omega) | omega))
    · obtain rfl : j = c.length := by omega
      have z : ¬ (0 : Int) ≤ (c.length : Int) - 1 - (c.length : Int) := by omega
      have hd := HD.out
      rw [List.drop_eq_nil_of_le (by simp)] at hd
      have e4 : y1 = lo ∧ y2 = hi ∧ 0 = e := by simpa [Sp.hornF] using hd
      obtain ⟨rfl, rfl, rfl⟩ := e4
      have a0 := HI.out.y0
      have a1 := HI.out.y1
      have r0 := HI.out.r0
      have r1 := HI.out.r1
      have rf := HI.out.rf
      simp only at a0 a1
      clear hd hj
      go_wp2_with fail
      refine bodyPost_ret (v := .tuple #[.agg #[.int .i64 y1, .int .i64 y2], .int .i64 0]) (by simp [results, Try.results76, go_sem, r0, r1]) rfl ?_
      exact Gives.mk rfl (by have hB := HI.out.bw; repeat' (first | (with_reducible exact Below.refl _ _) | (with_reducible refine Below.alloc ?_ ?_ _) | (with_reducible refine Below.setCell ?_ ?_ _) | (with_reducible refine Below.drew ?_) | (with_reducible refine Below.trans ?_ (Below.mono (by assumption) ?_)) | (simp; done) | (simp; omega) | omega))

/-- The first and the last piece's ends, in memory. -/
theorem ends_at {w : World} {A : Option Addr} {l : List Sp.Pd} (hc : Sp.pcheck l = 0) (hT : Pcs w A l) :
    ∃ (b off m : Nat), A = some ⟨b, off, none⟩ ∧ b < w.heap.size ∧ l.length = m + 1 ∧ m ≤ 7 ∧ w.cell? ⟨b, off, none⟩ = some (.int .i64 (Sp.least l)) ∧ w.cell? ⟨b, off + m * 3 + 1, none⟩ = some (.int .i64 (Sp.great l)) := by
  have gd := Sp.pcheck_good hc
  obtain ⟨b, off, rfl, bl, q0, -, -⟩ := hT.at_ (Below.refl _ _) gd.1
  obtain ⟨b', off', e, -, -, r1, -⟩ := hT.at_ (Below.refl _ _) (show l.length - 1 < l.length by have := gd.1; omega)
  obtain ⟨rfl, rfl⟩ : b = b' ∧ off = off' := by simpa using e
  rw [← least_is gd.1] at q0
  rw [← great_is gd.1] at r1
  have g8 := gd.2.1
  have g0 := gd.1
  exact ⟨b, off, l.length - 1, rfl, bl, by omega, by omega, by simpa using q0, r1⟩
set_option maxRecDepth 100000 in
set_option maxHeartbeats 2000000 in
theorem rinside_any (A : Option Addr) (cap : Nat) (l : List Sp.Pd) (x : Int) (w : World) (hc : Sp.pcheck l = 0) (hT : Pcs w A l) :
    Calls Try.prog 56 #[.slice A l.length cap, .int .i64 x] w (Gives (.bool (decide (Sp.least l ≤ x) && decide (x ≤ Sp.great l))) w) := by
  obtain ⟨b, off, m, rfl, bw, hl, m7, q0, r1⟩ := ends_at hc hT
  rw [hl]
  have i0 : (0 : Int) < ((m + 1 : Nat) : Int) := by omega
  have i5 : (0 : Int) ≤ (m : Int) := by omega
  have i6 : (m : Int) < ((m + 1 : Nat) : Int) := by omega
  have i4 : IntKind.i64.wrap (((m + 1 : Nat) : Int) - 1) = (m : Int) := by rw [IntWalk.i64_in _ (by omega)]; omega
  have i3 : wrap64 (((m + 1 : Nat) : Int) - 1) = (m : Int) := by rw [pw64 _ (by omega)]; omega
  obtain ⟨n, hn⟩ : ∃ n : Nat, m + 1 = n := ⟨_, rfl⟩
  rw [hn] at i0 i6 i4 i3 ⊢
  generalize Sp.least l = L at q0 ⊢
  generalize Sp.great l = G at r1 ⊢
  clear hl hn hc hT
  by_cases c1 : L ≤ x
  · by_cases c2 : x ≤ G
    · rw [decide_eq_true c1, decide_eq_true c2]
      go_enter Try.func56, Try.ntmps56
      go_wp2_with fail
      go_ret
      exact Gives.mk rfl (Below.refl _ _)
    · rw [decide_eq_true c1, decide_eq_false c2]
      go_enter Try.func56, Try.ntmps56
      go_wp2_with fail
      go_ret
      exact Gives.mk rfl (Below.refl _ _)
  · rw [decide_eq_false c1, Bool.false_and]
    go_enter Try.func56, Try.ntmps56
    go_wp2_with fail
    go_ret
    exact Gives.mk rfl (Below.refl _ _)
set_option maxRecDepth 100000 in
set_option maxHeartbeats 2000000 in
theorem rdomain_any (A : Option Addr) (cap : Nat) (l : List Sp.Pd) (a b e : Int) (w : World) (hz : PcSized l) (hT : Pcs w A l) (hv : DomIs l a b e) :
    Calls Try.prog 46 #[.slice A l.length cap] w (Gives (.tuple #[.int .i64 a, .int .i64 b, .int .i64 e]) w) := by
  have CK := hid (rpcheck_any A cap l w hz hT)
  rcases hv with ⟨h, h0, ea, eb, rfl⟩ | ⟨h, rfl, rfl, rfl⟩
  · rw [h] at CK
    obtain ⟨bk, off, m, rfl, bw, hl, m7, q0, r1⟩ := ends_at h hT
    rw [least_is h0, ← ea] at q0
    rw [great_is h0, ← eb] at r1
    rw [hl] at CK ⊢
    have i0 : (0 : Int) < ((m + 1 : Nat) : Int) := by omega
    have i5 : (0 : Int) ≤ (m : Int) := by omega
    have i6 : (m : Int) < ((m + 1 : Nat) : Int) := by omega
    have i4 : IntKind.i64.wrap (((m + 1 : Nat) : Int) - 1) = (m : Int) := by rw [IntWalk.i64_in _ (by omega)]; omega
    have i3 : wrap64 (((m + 1 : Nat) : Int) - 1) = (m : Int) := by rw [pw64 _ (by omega)]; omega
    obtain ⟨n, hn⟩ : ∃ n : Nat, m + 1 = n := ⟨_, rfl⟩
    rw [hn] at i0 i6 i4 i3 CK ⊢
    have K := hid (fun (W : World) (h : Below w.heap.size w W) => (⟨(h.cell (p := ⟨bk, off, none⟩) bw).trans q0, (h.cell (p := ⟨bk, off + m * 3 + 1, none⟩) bw).trans r1, Nat.lt_of_lt_of_le bw h.size⟩ : W.cell? ⟨bk, off, none⟩ = some (.int .i64 a) ∧ W.cell? ⟨bk, off + m * 3 + 1, none⟩ = some (.int .i64 b) ∧ bk < W.heap.size))
    clear h hl hn hz hT ea eb h0 q0 r1 bw
    go_enter Try.func46, Try.ntmps46
    go_wp2_with fail
    refine CK.out.mono ?_
    rintro _ w5 ⟨rfl, hb⟩
    have HB := hid hb
    obtain ⟨q0, r1, bw⟩ := K.out _ hb
    clear hb
    go_wp2_with fail
    go_quiet (fail)
    go_wp2_with fail
    refine bodyPost_ret (v := .tuple #[.int .i64 a, .int .i64 b, .int .i64 0]) (by simp [results, Try.results46, go_sem]) rfl ?_
    exact Gives.mk rfl (by have hB := HB.out; repeat' (first | (with_reducible exact Below.refl _ _) | (with_reducible refine Below.alloc ?_ ?_ _) | (with_reducible refine Below.setCell ?_ ?_ _) | (with_reducible refine Below.drew ?_) | (with_reducible refine below_dn ?_ _) | (with_reducible refine Below.trans ?_ (Below.mono (by assumption) ?_)) | (simp; done) | (simp; omega) | omega))
  · have hn : (Sp.pcheck l == 0) = false := by simpa using h
    obtain ⟨y, hy⟩ : ∃ y, Sp.pcheck l = y := ⟨_, rfl⟩
    rw [hy] at CK hn ⊢
    clear h hy hz hT
    go_enter Try.func46, Try.ntmps46
    go_wp2_with fail
    refine CK.out.mono ?_
    rintro _ w5 ⟨rfl, hb⟩
    have HB := hid hb
    clear hb
    go_wp2_with fail
    refine bodyPost_ret (v := .tuple #[.int .i64 0, .int .i64 0, .int .i64 y]) (by simp [results, Try.results46, go_sem]) rfl ?_
    exact Gives.mk rfl HB.out
theorem pieceI_stop {l : List Sp.Pd} {x : Int} (hc : Sp.pcheck l = 0) {j : Nat} (hj : j < l.length) (h : j ≤ Sp.pieceI l x) :
    (x < (l[j]).t ∨ j = l.length - 1 → j = Sp.pieceI l x) ∧ (¬ x < (l[j]).t → ¬ j = l.length - 1 → j + 1 ≤ Sp.pieceI l x) := by
  have gd := Sp.pcheck_good hc
  obtain ⟨i1, i2, i3⟩ := Sp.atI_is x gd.2.2.1 gd.2.2.2
  unfold Sp.pieceI at *
  constructor
  · rintro (k | k)
    · have : ¬ j < Sp.atI l x := fun c => by have := i2 j hj c; omega
      omega
    · omega
  · intro k1 k2
    have : j < Sp.atI l x := Classical.not_not.mp (fun c => k1 (i3 j hj (by omega)))
    omega
structure VlI (w wr : World) : Prop where
  r0 : wr.cell? ⟨w.heap.size, 0, none⟩ = some (.int .i64 0)
  r1 : wr.cell? ⟨w.heap.size, 1, none⟩ = some (.int .i64 0)
  rf : ∀ o, wr.frozen? ⟨w.heap.size, o, none⟩ = false
  bw : Below w.heap.size w wr
  sz : w.heap.size < wr.heap.size
theorem VlI.below {w W W' : World} (h : VlI w W) (hb : Below W.heap.size W W') : VlI w W' :=
  ⟨(hb.cell (p := ⟨w.heap.size, 0, none⟩) h.sz).trans h.r0, (hb.cell (p := ⟨w.heap.size, 1, none⟩) h.sz).trans h.r1, fun o => (hb.frozen (p := ⟨w.heap.size, o, none⟩) h.sz).trans (h.rf o), h.bw.trans (hb.mono h.bw.size), Nat.lt_of_lt_of_le h.sz hb.size⟩
def VlRel (w : World) (I : Nat) (t : Value) (wr : World) : Prop := ∃ j : Nat, t = .int .i64 (j : Int) ∧ j ≤ I ∧ VlI w wr
set_option maxRecDepth 100000 in
set_option maxHeartbeats 4000000 in
theorem rvalue_any (A : Option Addr) (cap : Nat) (l : List Sp.Pd) (x lo hi e : Int) (w : World) (hc : Sp.pcheck l = 0) (x0 : 0 ≤ x) (x1 : x ≤ 3000) (hT : Pcs w A l) (hv : Sp.valL l x = (lo, hi, e)) :
    Calls Try.prog 57 #[.slice A l.length cap, .int .i64 x] w (Gives (.tuple #[.agg #[.int .i64 lo, .int .i64 hi], .int .i64 e]) w) := by
  have gd := Sp.pcheck_good hc
  obtain ⟨I, hI⟩ : ∃ I, Sp.pieceI l x = I := ⟨_, rfl⟩
  obtain ⟨pi, pe⟩ := Sp.pieceO_is (l := l) x gd.1
  have HP := hid (fun (j : Nat) (hj : j < l.length) (h : j ≤ I) => hI ▸ pieceI_stop (x := x) hc hj (hI ▸ h))
  have hv2 : Sp.hornF x (Sp.pieceO l x).c.reverse (0, 1) = (lo, hi, e) := hv
  rw [← pe] at hv2
  have HO := hid (fun (j : Nat) (hj : j < l.length) (h : j = I) => (by subst h; subst hI; exact hv2 : Sp.hornF x (l[j]'hj).c.reverse (0, 1) = (lo, hi, e)))
  have IL := hid (hI ▸ pi : I < l.length)
  have HT := hid hT
  have GD := hid gd
  obtain ⟨n, hn⟩ : ∃ n : Nat, l.length = n := ⟨_, rfl⟩
  obtain ⟨m, hm⟩ : ∃ m : Nat, n - 1 = m := ⟨_, rfl⟩
  have n8 : n ≤ 8 := by have := gd.2.1; omega
  have n1 : 0 < n := by have := gd.1; omega
  have i4 : IntKind.i64.wrap ((n : Int) - 1) = (m : Int) := by rw [IntWalk.i64_in _ (by omega)]; omega
  have i3 : wrap64 ((n : Int) - 1) = (m : Int) := by rw [pw64 _ (by omega)]; omega
  have LE := hid hn
  have HM := hid hm
  have X0 := hid x0
  have X1 := hid x1
  have N8 := hid n8
  obtain ⟨V, hV⟩ : ∃ V, w.alloc (Obj.cells #[.int .i64 0, .int .i64 0] 56) = V := ⟨_, rfl⟩
  have hI0 : VlI w V := ⟨by rw [← hV]; simp [go_sem], by rw [← hV]; simp [go_sem], fun o => by rw [← hV]; simp [go_sem], by rw [← hV]; exact balloc _ _, by rw [← hV]; simp⟩
  have HV := hid hV
  have VV := hid hI0
  rw [hn]
  clear hT gd hc hv hv2 pe pi hI hn hm n1 hV hI0 x0 x1
  go_enter Try.func57, Try.ntmps57
  go_upto_region 1 with fail
  rw [HV.out]
  go_wp2_with fail
  go_loopw [10] (fun t wr => VlRel w I t wr) (fun t _ => n - (intOf t).toNat)
  case atStart => exact ⟨0, rfl, Nat.zero_le _, VV.out⟩
  case round =>
    obtain ⟨j, rfl, hj, hI⟩ := hrel
    have HI := hid hI
    have jl : j < l.length := Nat.lt_of_le_of_lt hj IL.out
    obtain ⟨s1, s2⟩ := HP.out j jl hj
    obtain ⟨b, off, rfl, bl, q0, q1, q2⟩ := HT.out.at_ hI.bw jl
    have fr := (HT.out.below hI.bw).2 _ (List.getElem_mem jl)
    have gp := GD.out.2.2.1 _ (List.getElem_mem jl)
    have ho := HO.out j jl
    generalize l[j]'jl = P at q0 q1 q2 fr gp s1 s2 ho
    obtain ⟨f, t, A', k, c⟩ := P
    simp only at q0 q1 q2 fr s1 s2 ho
    have h4 := gp.n4
    simp only at h4
    have bw : b < wr.heap.size := Nat.lt_of_lt_of_le bl hI.bw.size
    have i0 : (0 : Int) ≤ (j : Int) := Int.natCast_nonneg j
    have i1 : (j : Int) < (n : Int) := Int.ofNat_lt.mpr (by rw [← LE.out]; exact jl)
    have ej : wrap64 ((j : Int) + 1) = (j : Int) + 1 := pw64 _ (by omega)
    have HO2 := hid (fun (W : World) (h : Below wr.heap.size wr W) (z : j = I) => rhorner_any f t A' k c x lo hi e W X0.out X1.out (by omega) (Sp.good_ok gp) (fr.below h) (ho z))
    have r0 := hI.r0
    have r1 := hI.r1
    have rf := hI.rf
    have sz := hI.sz
    have ne : ¬ w.heap.size = wr.heap.size := by omega
    have JL := hid jl
    have KB := hid (fun (w7 : World) (hb : Below (wr.alloc (Obj.cells #[.int .i64 (f), .int .i64 (t), .slice (A') (c.length) (k)] 59)).heap.size (wr.alloc (Obj.cells #[.int .i64 (f), .int .i64 (t), .slice (A') (c.length) (k)] 59)) w7) => hI.below (bthen (balloc wr _) hb))
    clear hI fr gp ho bl h4 jl
    by_cases c1 : x < t
    · have z := s1 (.inl c1)
      have HO3 := hid (fun W h => HO2.out W h z)
      clear s1 s2 z
      go_wp2_with (go_at_call 76; refine (HO3.out _ (balloc wr _)).mono ?_; rintro _ w7 ⟨rfl, hb⟩; have H7 := hid (KB.out _ hb); have k0 := H7.out.r0; have k1 := H7.out.r1; have kf := H7.out.rf; clear hb)
      refine bodyPost_ret (v := .tuple #[.agg #[.int .i64 lo, .int .i64 hi], .int .i64 e]) (by simp [results, Try.results57, go_sem, k0, k1]) rfl ?_
      exact Gives.mk rfl (by have hB := H7.out.bw; repeat' (first | (with_reducible exact Below.refl _ _) | (with_reducible refine Below.alloc ?_ ?_ _) | (with_reducible refine Below.setCell ?_ ?_ _) | (with_reducible refine Below.drew ?_) | (with_reducible refine Below.trans ?_ (Below.mono (by assumption) ?_)) | (simp; done) | (simp; omega) | omega))
    · by_cases c2 : j = m
      · have z := s1 (.inr (by have := LE.out; have := HM.out; omega))
        have HO3 := hid (fun W h => HO2.out W h z)
        clear s1 s2 z
        subst c2
        go_wp2_with (go_at_call 76; refine (HO3.out _ (balloc wr _)).mono ?_; rintro _ w7 ⟨rfl, hb⟩; have H7 := hid (KB.out _ hb); have k0 := H7.out.r0; have k1 := H7.out.r1; have kf := H7.out.rf; clear hb)
        refine bodyPost_ret (v := .tuple #[.agg #[.int .i64 lo, .int .i64 hi], .int .i64 e]) (by simp [results, Try.results57, go_sem, k0, k1]) rfl ?_
        exact Gives.mk rfl (by have hB := H7.out.bw; repeat' (first | (with_reducible exact Below.refl _ _) | (with_reducible refine Below.alloc ?_ ?_ _) | (with_reducible refine Below.setCell ?_ ?_ _) | (with_reducible refine Below.drew ?_) | (with_reducible refine Below.trans ?_ (Below.mono (by assumption) ?_)) | (simp; done) | (simp; omega) | omega))
      · have z := hid (s2 (by omega) (by have := LE.out; have := HM.out; omega))
        have d1 : decide (x < t) = false := decide_eq_false c1
        have d2 : ((j : Int) == (m : Int)) = false := by simp only [beq_eq_false_iff_ne, ne_eq]; omega
        have d3 : (j == m) = false := by simpa using c2
        have HI2 := hid (HI.out.below (balloc wr (Obj.cells #[.int .i64 (f), .int .i64 (t), .slice (A') (c.length) (k)] 59)))
        have JN := hid (show j < n by omega)
        clear s1 s2 r0 r1 rf
        go_wp2_with fail
        go_roundw
        case rel => exact ⟨j + 1, by go_num, z.out, HI2.out⟩
        case measure => first | exact pmeas _ _ JN.out | (rw [ej]; exact pmeas _ _ JN.out)
theorem eval_ref {l : List Sp.Pd} {x : Int} (hc : Sp.pcheck l = 0) (h1 : Sp.least l ≤ x) (h2 : x ≤ Sp.great l) : Sp.evalS l x = Sp.valL l x := by
  have li := least_in hc
  have e : Sp.valsE l x x = (Sp.valL l x).2.2 := by
    unfold Sp.valsE
    rw [if_neg (fun k => k hc), if_neg (by omega), show (x - x + 1).toNat = 1 by omega]
    unfold Sp.fstE Sp.fstE
    by_cases z : (Sp.valL l x).2.2 = 0
    · rw [if_neg (fun k => k z), z]
    · rw [if_pos z]
  unfold Sp.evalS
  rw [e]
  rcases Sp.valL_res (l := l) (x := x) hc (by omega) (by omega) with ⟨z, -⟩ | z
  · rw [if_neg (fun k => k z)]
    exact Prod.ext rfl (Prod.ext rfl z.symm)
  · rw [z]; rfl
theorem eval_out {l : List Sp.Pd} {x : Int} (hc : Sp.pcheck l = 0) (h : ¬ (Sp.least l ≤ x ∧ x ≤ Sp.great l)) : Sp.evalS l x = (0, 0, 2) := by
  have e : Sp.valsE l x x = 2 := by unfold Sp.valsE; rw [if_neg (fun k => k hc), if_pos (by omega)]
  unfold Sp.evalS
  rw [e]
  rfl
theorem eval_bad {l : List Sp.Pd} {x : Int} (hc : Sp.pcheck l ≠ 0) : Sp.evalS l x = (0, 0, Sp.pcheck l) := by
  have e : Sp.valsE l x x = Sp.pcheck l := by unfold Sp.valsE; rw [if_pos hc]
  unfold Sp.evalS
  rw [e, if_pos hc]
set_option maxRecDepth 100000 in
set_option maxHeartbeats 2000000 in
theorem reval_any (A : Option Addr) (cap : Nat) (l : List Sp.Pd) (x lo hi e : Int) (w : World) (hz : PcSized l) (hT : Pcs w A l) (hv : Sp.evalS l x = (lo, hi, e)) :
    Calls Try.prog 36 #[.slice A l.length cap, .int .i64 x] w (Gives (.tuple #[.agg #[.int .i64 lo, .int .i64 hi], .int .i64 e]) w) := by
  obtain ⟨V, hV⟩ : ∃ V, w.alloc (Obj.cells #[.int .i64 0, .int .i64 0] 56) = V := ⟨_, rfl⟩
  have hI0 : VlI w V := ⟨by rw [← hV]; simp [go_sem], by rw [← hV]; simp [go_sem], fun o => by rw [← hV]; simp [go_sem], by rw [← hV]; exact balloc _ _, by rw [← hV]; simp⟩
  have CK := hid (rpcheck_any A cap l V hz (hT.below hI0.bw))
  have HV := hid hV
  have HI := hid hI0
  by_cases hc : Sp.pcheck l = 0
  · rw [hc] at CK
    have li := least_in hc
    have IN := hid (fun (W : World) (h : Below V.heap.size V W) => rinside_any A cap l x W hc (hT.below (bthen hI0.bw h)))
    by_cases g : Sp.least l ≤ x ∧ x ≤ Sp.great l
    · rw [eval_ref hc g.1 g.2] at hv
      have VA := hid (fun (W : World) (h : Below V.heap.size V W) => rvalue_any A cap l x lo hi e W hc (by omega) (by omega) (hT.below (bthen hI0.bw h)) hv)
      rw [decide_eq_true g.1, decide_eq_true g.2] at IN
      clear hV hI0 hz hT hv hc li g
      go_enter Try.func36, Try.ntmps36
      go_upto_region 1 with fail
      rw [HV.out]
      go_wp2_with fail
      refine CK.out.mono ?_
      rintro _ w5 ⟨rfl, hb⟩
      have B5 := hid hb
      clear hb
      go_wp2_with fail
      refine (IN.out _ B5.out).mono ?_
      rintro _ w6 ⟨rfl, hb⟩
      have B6 := hid (bthen B5.out hb)
      clear hb
      go_wp2_with (go_at_call 57; refine (VA.out _ B6.out).mono ?_; rintro _ w7 ⟨rfl, hb⟩; have H7 := hid (HI.out.below (bthen B6.out hb)); have k0 := H7.out.r0; have k1 := H7.out.r1; have kf := H7.out.rf; clear hb)
      refine bodyPost_ret (v := .tuple #[.agg #[.int .i64 lo, .int .i64 hi], .int .i64 e]) (by simp [results, Try.results36, go_sem, k0, k1]) rfl ?_
      exact Gives.mk rfl (by have hB := H7.out.bw; repeat' (first | (with_reducible exact Below.refl _ _) | (with_reducible refine Below.alloc ?_ ?_ _) | (with_reducible refine Below.setCell ?_ ?_ _) | (with_reducible refine Below.drew ?_) | (with_reducible refine Below.trans ?_ (Below.mono (by assumption) ?_)) | (simp; done) | (simp; omega) | omega))
    · rw [eval_out hc g] at hv
      have e4 : 0 = lo ∧ 0 = hi ∧ 2 = e := by simpa using hv
      obtain ⟨rfl, rfl, rfl⟩ := e4
      have gf : (decide (Sp.least l ≤ x) && decide (x ≤ Sp.great l)) = false := by simp; omega
      rw [gf] at IN
      clear hV hI0 hz hT hv hc li g gf
      go_enter Try.func36, Try.ntmps36
      go_upto_region 1 with fail
      rw [HV.out]
      go_wp2_with fail
      refine CK.out.mono ?_
      rintro _ w5 ⟨rfl, hb⟩
      have B5 := hid hb
      clear hb
      go_wp2_with (go_at_call 56; refine (IN.out _ B5.out).mono ?_; rintro _ w6 ⟨rfl, hb⟩; have H7 := hid (HI.out.below (bthen B5.out hb)); have k0 := H7.out.r0; have k1 := H7.out.r1; have kf := H7.out.rf; clear hb)
      refine bodyPost_ret (v := .tuple #[.agg #[.int .i64 0, .int .i64 0], .int .i64 2]) (by simp [results, Try.results36, go_sem, k0, k1]) rfl ?_
      exact Gives.mk rfl (by have hB := H7.out.bw; repeat' (first | (with_reducible exact Below.refl _ _) | (with_reducible refine Below.alloc ?_ ?_ _) | (with_reducible refine Below.setCell ?_ ?_ _) | (with_reducible refine Below.drew ?_) | (with_reducible refine Below.trans ?_ (Below.mono (by assumption) ?_)) | (simp; done) | (simp; omega) | omega))
  · rw [eval_bad hc] at hv
    obtain ⟨y, hy⟩ : ∃ y, Sp.pcheck l = y := ⟨_, rfl⟩
    rw [hy] at hc hv CK
    have e4 : 0 = lo ∧ 0 = hi ∧ y = e := by simpa using hv
    obtain ⟨rfl, rfl, rfl⟩ := e4
    have hn : (y == 0) = false := by simpa using hc
    clear hV hI0 hz hT hv hc hy
    go_enter Try.func36, Try.ntmps36
    go_upto_region 1 with fail
    rw [HV.out]
    go_wp2_with (go_at_call 45; refine CK.out.mono ?_; rintro _ w5 ⟨rfl, hb⟩; have H7 := hid (HI.out.below hb); have k0 := H7.out.r0; have k1 := H7.out.r1; have kf := H7.out.rf; clear hb)
    refine bodyPost_ret (v := .tuple #[.agg #[.int .i64 0, .int .i64 0], .int .i64 y]) (by simp [results, Try.results36, go_sem, k0, k1]) rfl ?_
    exact Gives.mk rfl (by have hB := H7.out.bw; repeat' (first | (with_reducible exact Below.refl _ _) | (with_reducible refine Below.alloc ?_ ?_ _) | (with_reducible refine Below.setCell ?_ ?_ _) | (with_reducible refine Below.drew ?_) | (with_reducible refine Below.trans ?_ (Below.mono (by assumption) ?_)) | (simp; done) | (simp; omega) | omega))
end Go.Proofs.Ytdimncchejbaaaa
