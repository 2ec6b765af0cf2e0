/-
  Layer 12: piece, Check, inside of the reference couperef12, by contract (tools/gen_pe2.py).
-/
import Derived.Test.YtcbecfimikpljaaPb
import Derived.Test.YtcbecfimikpljaaFref
import Derived.IntWalk
import Derived.Deep.Cut
import Derived.Deep.DeepCutAuto
import Derived.Deep.QuietTactic
import Derived.BigQuiet
import Derived.Test.YtcbecfimikpljaaPr
namespace Go.Proofs.Ytcbecfimikpljaa
open Go.RowKit
set_option linter.unusedVariables false
set_option linter.unusedSimpArgs false

theorem big_split (n d : Int) (h : Sp.bigF (n, d) = true) : 1000000 < n ∨ (¬ 1000000 < n ∧ n < -1000000) ∨ (¬ 1000000 < n ∧ ¬ n < -1000000 ∧ 1000000000 < d) := by
  unfold Sp.bigF at h
  simp at h
  omega
theorem big_none (n d : Int) (h : Sp.bigF (n, d) = false) : ¬ 1000000 < n ∧ ¬ n < -1000000 ∧ ¬ 1000000000 < d := by
  unfold Sp.bigF at h
  simp at h
  omega
def CoRel2 (w V : World) (l : List (Int × Int)) (B : Bool) (t : Value) (wr : World) : Prop := ∃ j : Nat, t = .int .i64 (j : Int) ∧ j ≤ l.length ∧ (l.drop j).any Sp.bigF = B ∧ Below (w.heap.size + 1) V wr
set_option maxRecDepth 100000 in
set_option maxHeartbeats 4000000 in
theorem rpiece_e1 (n0 cap b off : Nat) (J f t : Int) (A' : Option Addr) (k : Nat) (c : List (Int × Int)) (w : World) (h : f < 0) (bw : b < w.heap.size) (j0 : 0 ≤ J) (j1 : J < (n0 : Int)) (a : Nat) (ha : (a : Int) = J) (q0 : w.cell? ⟨b, off + a * 3, none⟩ = some (.int .i64 f)) (q1 : w.cell? ⟨b, off + a * 3 + 1, none⟩ = some (.int .i64 t)) (q2 : w.cell? ⟨b, off + a * 3 + 2, none⟩ = some (.slice A' c.length k)) :
    Calls Try.prog 34 #[.slice (some ⟨b, off, none⟩) n0 cap, .int .i64 J] w (Gives (.int .i64 2) w) := by
  subst ha
  obtain ⟨V, hV⟩ : ∃ V, w.alloc (Obj.cells #[.int .i64 (f), .int .i64 (t), .slice (A') (c.length) (k)] 49) = V := ⟨_, rfl⟩
  have VS : V.heap.size = w.heap.size + 1 := by rw [← hV]; simp
  have v0 : V.cell? ⟨w.heap.size, 0, none⟩ = some (.int .i64 f) := by rw [← hV]; simp [go_sem]
  have v1 : V.cell? ⟨w.heap.size, 1, none⟩ = some (.int .i64 t) := by rw [← hV]; simp [go_sem]
  have v2 : V.cell? ⟨w.heap.size, 2, none⟩ = some (.slice A' c.length k) := by rw [← hV]; simp [go_sem]
  have vb : Below w.heap.size w V := by rw [← hV]; exact (Below.refl _ _).alloc (Nat.le_refl _) _
  have HVV := hid hV
  have VW := hid vb
  have VSS := hid VS
  have V2 := hid v2
  clear hV vb VS v1 v2
  go_enter Try.func34, Try.ntmps34
  go_upto_region 2 with fail
  rw [HVV.out]
  go_wp2_with fail
  go_ret
  exact Gives.mk rfl (by have hB := VW.out; repeat' (first | (with_reducible exact Below.refl _ _) | (with_reducible refine Below.alloc ?_ ?_ _) | (with_reducible refine Below.setCell ?_ ?_ _) | (with_reducible refine Below.drew ?_) | (with_reducible refine below_dn ?_ _) | (with_reducible refine Below.trans ?_ (Below.mono (by assumption) ?_)) | (simp; done) | (simp; omega) | omega))
set_option maxRecDepth 100000 in
set_option maxHeartbeats 4000000 in
theorem rpiece_e2 (n0 cap b off : Nat) (J f t : Int) (A' : Option Addr) (k : Nat) (c : List (Int × Int)) (w : World) (h0 : ¬ f < 0) (h : 3000 < t) (bw : b < w.heap.size) (j0 : 0 ≤ J) (j1 : J < (n0 : Int)) (a : Nat) (ha : (a : Int) = J) (q0 : w.cell? ⟨b, off + a * 3, none⟩ = some (.int .i64 f)) (q1 : w.cell? ⟨b, off + a * 3 + 1, none⟩ = some (.int .i64 t)) (q2 : w.cell? ⟨b, off + a * 3 + 2, none⟩ = some (.slice A' c.length k)) :
    Calls Try.prog 34 #[.slice (some ⟨b, off, none⟩) n0 cap, .int .i64 J] w (Gives (.int .i64 2) w) := by
  subst ha
  obtain ⟨V, hV⟩ : ∃ V, w.alloc (Obj.cells #[.int .i64 (f), .int .i64 (t), .slice (A') (c.length) (k)] 49) = V := ⟨_, rfl⟩
  have VS : V.heap.size = w.heap.size + 1 := by rw [← hV]; simp
  have v0 : V.cell? ⟨w.heap.size, 0, none⟩ = some (.int .i64 f) := by rw [← hV]; simp [go_sem]
  have v1 : V.cell? ⟨w.heap.size, 1, none⟩ = some (.int .i64 t) := by rw [← hV]; simp [go_sem]
  have v2 : V.cell? ⟨w.heap.size, 2, none⟩ = some (.slice A' c.length k) := by rw [← hV]; simp [go_sem]
  have vb : Below w.heap.size w V := by rw [← hV]; exact (Below.refl _ _).alloc (Nat.le_refl _) _
  have HVV := hid hV
  have VW := hid vb
  have VSS := hid VS
  have V2 := hid v2
  clear hV vb VS v2
  go_enter Try.func34, Try.ntmps34
  go_upto_region 2 with fail
  rw [HVV.out]
  go_wp2_with fail
  go_ret
  exact Gives.mk rfl (by have hB := VW.out; repeat' (first | (with_reducible exact Below.refl _ _) | (with_reducible refine Below.alloc ?_ ?_ _) | (with_reducible refine Below.setCell ?_ ?_ _) | (with_reducible refine Below.drew ?_) | (with_reducible refine below_dn ?_ _) | (with_reducible refine Below.trans ?_ (Below.mono (by assumption) ?_)) | (simp; done) | (simp; omega) | omega))
set_option maxRecDepth 100000 in
set_option maxHeartbeats 4000000 in
theorem rpiece_e3 (n0 cap b off : Nat) (J f t : Int) (A' : Option Addr) (k : Nat) (c : List (Int × Int)) (w : World) (h0 : ¬ f < 0) (h1 : ¬ 3000 < t) (h : t ≤ f) (bw : b < w.heap.size) (j0 : 0 ≤ J) (j1 : J < (n0 : Int)) (a : Nat) (ha : (a : Int) = J) (q0 : w.cell? ⟨b, off + a * 3, none⟩ = some (.int .i64 f)) (q1 : w.cell? ⟨b, off + a * 3 + 1, none⟩ = some (.int .i64 t)) (q2 : w.cell? ⟨b, off + a * 3 + 2, none⟩ = some (.slice A' c.length k)) :
    Calls Try.prog 34 #[.slice (some ⟨b, off, none⟩) n0 cap, .int .i64 J] w (Gives (.int .i64 9) w) := by
  subst ha
  obtain ⟨V, hV⟩ : ∃ V, w.alloc (Obj.cells #[.int .i64 (f), .int .i64 (t), .slice (A') (c.length) (k)] 49) = V := ⟨_, rfl⟩
  have VS : V.heap.size = w.heap.size + 1 := by rw [← hV]; simp
  have v0 : V.cell? ⟨w.heap.size, 0, none⟩ = some (.int .i64 f) := by rw [← hV]; simp [go_sem]
  have v1 : V.cell? ⟨w.heap.size, 1, none⟩ = some (.int .i64 t) := by rw [← hV]; simp [go_sem]
  have v2 : V.cell? ⟨w.heap.size, 2, none⟩ = some (.slice A' c.length k) := by rw [← hV]; simp [go_sem]
  have vb : Below w.heap.size w V := by rw [← hV]; exact (Below.refl _ _).alloc (Nat.le_refl _) _
  have HVV := hid hV
  have VW := hid vb
  have VSS := hid VS
  have V2 := hid v2
  clear hV vb VS v2
  go_enter Try.func34, Try.ntmps34
  go_upto_region 2 with fail
  rw [HVV.out]
  go_wp2_with fail
  go_quiet (fail)
  go_wp2_with fail
  go_ret
  exact Gives.mk rfl (by have hB := VW.out; repeat' (first | (with_reducible exact Below.refl _ _) | (with_reducible refine Below.alloc ?_ ?_ _) | (with_reducible refine Below.setCell ?_ ?_ _) | (with_reducible refine Below.drew ?_) | (with_reducible refine below_dn ?_ _) | (with_reducible refine Below.trans ?_ (Below.mono (by assumption) ?_)) | (simp; done) | (simp; omega) | omega))
set_option maxRecDepth 100000 in
set_option maxHeartbeats 4000000 in
theorem rpiece_e4 (n0 cap b off : Nat) (J f t : Int) (A' : Option Addr) (k : Nat) (c : List (Int × Int)) (g : Int) (m : Nat) (w : World) (h0 : ¬ f < 0) (h1 : ¬ 3000 < t) (h2 : ¬ t ≤ f) (hg : ¬ f = g) (n8 : n0 ≤ 2000) (bw : b < w.heap.size) (j0 : 0 ≤ J) (j1 : J < (n0 : Int)) (a : Nat) (ha : (a : Int) = J) (q0 : w.cell? ⟨b, off + a * 3, none⟩ = some (.int .i64 f)) (q1 : w.cell? ⟨b, off + a * 3 + 1, none⟩ = some (.int .i64 t)) (q2 : w.cell? ⟨b, off + a * 3 + 2, none⟩ = some (.slice A' c.length k)) (hm : a = m + 1) (q3 : w.cell? ⟨b, off + m * 3 + 1, none⟩ = some (.int .i64 g)) :
    Calls Try.prog 34 #[.slice (some ⟨b, off, none⟩) n0 cap, .int .i64 J] w (Gives (.int .i64 9) w) := by
  subst ha
  have hgn : (f == g) = false := by simpa using hg
  have d2 : decide (t ≤ f) = false := by simpa using h2
  obtain ⟨V, hV⟩ : ∃ V, w.alloc (Obj.cells #[.int .i64 (f), .int .i64 (t), .slice (A') (c.length) (k)] 49) = V := ⟨_, rfl⟩
  have VS : V.heap.size = w.heap.size + 1 := by rw [← hV]; simp
  have v0 : V.cell? ⟨w.heap.size, 0, none⟩ = some (.int .i64 f) := by rw [← hV]; simp [go_sem]
  have v1 : V.cell? ⟨w.heap.size, 1, none⟩ = some (.int .i64 t) := by rw [← hV]; simp [go_sem]
  have v2 : V.cell? ⟨w.heap.size, 2, none⟩ = some (.slice A' c.length k) := by rw [← hV]; simp [go_sem]
  have vb : Below w.heap.size w V := by rw [← hV]; exact (Below.refl _ _).alloc (Nat.le_refl _) _
  have HVV := hid hV
  have VW := hid vb
  have VSS := hid VS
  have V2 := hid v2
  have q3' : V.cell? ⟨b, off + m * 3 + 1, none⟩ = some (.int .i64 g) := (vb.cell (p := ⟨b, off + m * 3 + 1, none⟩) bw).trans q3
  have m0 : (0 : Int) ≤ (m : Int) := by omega
  have m1 : (m : Int) < (n0 : Int) := by omega
  have jp : (0 : Int) < (a : Int) := by omega
  have jn : 0 < a := by omega
  have w1 : wrap64 ((a : Int) - 1) = (m : Int) := by rw [pw64 _ (by omega)]; omega
  have w2 : IntKind.i64.wrap ((a : Int) - 1) = (m : Int) := by rw [IntWalk.i64_in _ (by omega)]; omega
  clear hV vb VS v2 hg hm q3
  go_enter Try.func34, Try.ntmps34
  go_upto_region 2 with fail
  rw [HVV.out]
  have bv : b < V.heap.size := by have := VSS.out; omega
  go_wp2_with fail
  go_quiet (fail)
  go_wp2_with fail
  go_ret
  exact Gives.mk rfl (by have hB := VW.out; repeat' (first | (with_reducible exact Below.refl _ _) | (with_reducible refine Below.alloc ?_ ?_ _) | (with_reducible refine Below.setCell ?_ ?_ _) | (with_reducible refine Below.drew ?_) | (with_reducible refine below_dn ?_ _) | (with_reducible refine Below.trans ?_ (Below.mono (by assumption) ?_)) | (simp; done) | (simp; omega) | omega))
set_option maxRecDepth 100000 in
set_option maxHeartbeats 4000000 in
theorem rpiece_tail (n0 cap b off : Nat) (J f t : Int) (A' : Option Addr) (k : Nat) (c : List (Int × Int)) (R : Int) (B : Bool) (w : World) (h0 : ¬ f < 0) (h1 : ¬ 3000 < t) (h2 : ¬ t ≤ f) (n8 : n0 ≤ 2000) (hz : FrSized c) (fr : Frs w A' c) (hR : Sp.coefE c = R) (hB : c.any Sp.bigF = B) (bw : b < w.heap.size) (j0 : 0 ≤ J) (j1 : J < (n0 : Int)) (a : Nat) (ha : (a : Int) = J) (q0 : w.cell? ⟨b, off + a * 3, none⟩ = some (.int .i64 f)) (q1 : w.cell? ⟨b, off + a * 3 + 1, none⟩ = some (.int .i64 t)) (q2 : w.cell? ⟨b, off + a * 3 + 2, none⟩ = some (.slice A' c.length k)) (hp : a = 0 ∨ ∃ m : Nat, a = m + 1 ∧ w.cell? ⟨b, off + m * 3 + 1, none⟩ = some (.int .i64 f)) :
    Calls Try.prog 34 #[.slice (some ⟨b, off, none⟩) n0 cap, .int .i64 J] w (Gives (.int .i64 (if 4 < c.length then 8 else if R ≠ 0 then R else if B then 2 else 0)) w) := by
  subst ha
  obtain ⟨v, hv⟩ : ∃ v, (if 4 < c.length then 8 else if R ≠ 0 then R else if B = true then 2 else 0) = v := ⟨_, rfl⟩
  rw [hv]
  have HV5 := hid hv
  clear hv
  have HF4 := hid fr
  have HZ := hid hz
  have HR := hid hR
  have HBB := hid hB
  obtain ⟨V, hV⟩ : ∃ V, w.alloc (Obj.cells #[.int .i64 (f), .int .i64 (t), .slice (A') (c.length) (k)] 49) = V := ⟨_, rfl⟩
  have VS : V.heap.size = w.heap.size + 1 := by rw [← hV]; simp
  have v0 : V.cell? ⟨w.heap.size, 0, none⟩ = some (.int .i64 f) := by rw [← hV]; simp [go_sem]
  have v1 : V.cell? ⟨w.heap.size, 1, none⟩ = some (.int .i64 t) := by rw [← hV]; simp [go_sem]
  have v2 : V.cell? ⟨w.heap.size, 2, none⟩ = some (.slice A' c.length k) := by rw [← hV]; simp [go_sem]
  have vb : Below w.heap.size w V := by rw [← hV]; exact (Below.refl _ _).alloc (Nat.le_refl _) _
  have HVV := hid hV
  have VW := hid vb
  have VSS := hid VS
  have V2 := hid v2
  have d2 : decide (t ≤ f) = false := by simpa using h2
  have HP := hid hp
  have V0 := hid v0
  have V1 := hid v1
  clear hz fr hR hB hp hV vb
  go_enter Try.func34, Try.ntmps34
  go_upto_region 2 with fail
  rw [HVV.out]
  have bv : b < V.heap.size := by have := VSS.out; omega
  go_upto_region 4 with fail
  go_cut [42] (fun x wx => x = .bool false ∧ wx.cell? ⟨w.heap.size, 2, none⟩ = some (.slice A' c.length k) ∧ Below (w.heap.size + 1) V wx)
  case first =>
    rcases HP.out with e | ⟨m, e, q3⟩
    · subst e
      have jz : ¬ (0 : Int) < ((0 : Nat) : Int) := by omega
      go_quiet (fail)
      go_wp2_with fail
      go_meet
      exact ⟨rfl, by simpa using V2.out, by repeat' (first | (with_reducible exact Below.refl _ _) | (with_reducible refine Below.alloc ?_ ?_ _) | (with_reducible refine Below.setCell ?_ ?_ _) | (with_reducible refine Below.drew ?_) | (with_reducible refine below_dn ?_ _) | (with_reducible refine Below.trans ?_ (Below.mono (by assumption) ?_)) | (simp; done) | (simp; omega) | omega)⟩
    · have q3' : V.cell? ⟨b, off + m * 3 + 1, none⟩ = some (.int .i64 f) := (VW.out.cell (p := ⟨b, off + m * 3 + 1, none⟩) bw).trans q3
      have m0 : (0 : Int) ≤ (m : Int) := by omega
      have m1 : (m : Int) < (n0 : Int) := by omega
      have jp : (0 : Int) < (a : Int) := by omega
      have jn : 0 < a := by omega
      have w1 : wrap64 ((a : Int) - 1) = (m : Int) := by rw [pw64 _ (by omega)]; omega
      have w2 : IntKind.i64.wrap ((a : Int) - 1) = (m : Int) := by rw [IntWalk.i64_in _ (by omega)]; omega
      clear e q3
      go_quiet (fail)
      go_wp2_with fail
      go_meet
      exact ⟨rfl, by simpa using V2.out, by repeat' (first | (with_reducible exact Below.refl _ _) | (with_reducible refine Below.alloc ?_ ?_ _) | (with_reducible refine Below.setCell ?_ ?_ _) | (with_reducible refine Below.drew ?_) | (with_reducible refine below_dn ?_ _) | (with_reducible refine Below.trans ?_ (Below.mono (by assumption) ?_)) | (simp; done) | (simp; omega) | omega)⟩
  case rest =>
    obtain ⟨rfl, x2, hx⟩ := hcut
    have BX := hid hx
    have X2 := hid x2
    have xz : w.heap.size < wc.heap.size := by have h1 := hx.size; have h2 := VSS.out; omega
    clear hx v0 v1 v2 d2 q0 q1 q2 j0 j1 n8 VS bw bv h0 h1 h2 V0 V1
    by_cases c5 : 4 < c.length
    · have h8 := HV5.out
      rw [if_pos c5] at h8
      have H8 := hid h8
      have c6 : (4 : Int) < (c.length : Int) := by omega
      clear c5 h8
      go_wp2_with fail
      go_ret
      exact Gives.mk (i64_eq H8.out.symm) (VW.out.trans (BX.out.mono (Nat.le_succ _)))
    · have h8 := HV5.out
      rw [if_neg c5] at h8
      have HV := hid h8
      clear h8
      have c6 : ¬ (4 : Int) < (c.length : Int) := by omega
      have LE := hid (show c.length ≤ 4 by omega)
      clear c5
      go_wp2_with fail
      go_loopw [50] (fun t wr => CoRel w V c R t wr) (fun t _ => c.length - (intOf t).toNat)
      case atStart => exact ⟨0, rfl, Nat.zero_le _, HR.out, BX.out⟩
      case round =>
        obtain ⟨j, rfl, hj, hd, hB⟩ := hrel
        have HD := hid hd
        have HB := hid hB
        have HW : Hid (Below w.heap.size w wr) := hid (VW.out.trans (hB.mono (Nat.le_succ _)))
        have WZ : w.heap.size + 1 ≤ wr.heap.size := by have := hB.size; rw [VSS.out] at this; exact this
        have u2 : wr.cell? ⟨w.heap.size, 2, none⟩ = some (.slice A' c.length k) := (hB.cell (p := ⟨w.heap.size, 2, none⟩) (Nat.lt_succ_self _)).trans V2.out
        clear hd hB x2 xz
        by_cases hlt : j < c.length
        · obtain ⟨b, off, rfl, bl, q0, q1⟩ := HF4.out.at_ HW.out hlt
          have hd := HD.out
          rw [List.drop_eq_getElem_cons hlt, Sp.coefE_cons] at hd
          have bn := HZ.out.2 _ (List.getElem_mem hlt)
          obtain ⟨⟨n, d⟩, hc⟩ : ∃ c', c[j]'hlt = c' := ⟨_, rfl⟩
          rw [hc] at q0 q1 hd bn
          simp only at q0 q1 bn hd
          have i0 : (0 : Int) ≤ (j : Int) := by omega
          have i1 : (j : Int) < (c.length : Int) := by omega
          have bw : b < wr.heap.size := Nat.lt_of_lt_of_le bl HW.out.size
          have HJ := hid hlt
          have CK := hid (fun W => rfcheck_any n d bn.1.1 bn.1.2 bn.2.1 bn.2.2 W)
          have ej : wrap64 ((j : Int) + 1) = (j : Int) + 1 := pw64 _ (by have := LE.out; have := HJ.out; omega)
          obtain ⟨y, hy⟩ : ∃ y, Sp.fchk n d = y := ⟨_, rfl⟩
          rw [hy] at hd CK
          clear hc hy bn u2
          by_cases h : y = 0
          · rw [if_neg (fun x => x h)] at hd
            subst h
            have HF := hid hd
            clear hd
            go_wp2_with fail
            refine (CK.out _).mono ?_
            rintro _ w5 ⟨rfl, hb⟩
            have HB5 := hid (HB.out.trans ((bthen (balloc wr (Obj.cells #[.int .i64 n, .int .i64 d] 26)) hb).mono WZ))
            clear hb
            go_wp2_with fail
            go_roundw
            case rel => exact ⟨j + 1, by go_num, by have := HJ.out; omega, HF.out, HB5.out⟩
            case measure => first | exact pmeas _ _ HJ.out | (rw [ej]; exact pmeas _ _ HJ.out)
          · rw [if_pos h] at hd
            have HF : Hid (v = y) := hid (by rw [← HV.out, ← hd, if_pos h])
            have hn : (y == 0) = false := by simpa using h
            clear hd
            go_wp2_with fail
            refine (CK.out _).mono ?_
            rintro _ w5 ⟨rfl, hb⟩
            have HB5 := hid (HB.out.trans ((bthen (balloc wr (Obj.cells #[.int .i64 n, .int .i64 d] 26)) hb).mono WZ))
            clear hb
            go_wp2_with fail
            go_ret
            exact Gives.mk (i64_eq HF.out) (VW.out.trans (HB5.out.mono (Nat.le_succ _)))
        · have i1 : ¬ (j : Int) < (c.length : Int) := by omega
          have hd := HD.out
          rw [List.drop_eq_nil_of_le (by omega)] at hd
          have r0 : R = 0 := hd.symm
          have HF : Hid (v = if B = true then 2 else 0) := hid (by have h := HV.out; rw [r0] at h; simpa using h.symm)
          clear hd r0
          go_wp2_with fail
          go_loopw [63] (fun t wr => CoRel2 w V c B t wr) (fun t _ => c.length - (intOf t).toNat)
          case atStart => exact ⟨0, rfl, Nat.zero_le _, HBB.out, HB.out⟩
          case round =>
            obtain ⟨j2, rfl, hj2, hd, hB2⟩ := hrel
            have HD2 := hid hd
            have HB2 := hid hB2
            have HW2 : Hid (Below w.heap.size w wr) := hid (VW.out.trans (hB2.mono (Nat.le_succ _)))
            clear hd hB2 u2 i1 WZ
            by_cases hlt : j2 < c.length
            · obtain ⟨b, off, rfl, bl, q0, q1⟩ := HF4.out.at_ HW2.out hlt
              have hd := HD2.out
              rw [List.drop_eq_getElem_cons hlt, List.any_cons] at hd
              obtain ⟨⟨n, d⟩, hc⟩ : ∃ c', c[j2]'hlt = c' := ⟨_, rfl⟩
              rw [hc] at q0 q1 hd
              simp only at q0 q1
              have i0 : (0 : Int) ≤ (j2 : Int) := by omega
              have i1 : (j2 : Int) < (c.length : Int) := by omega
              have bw : b < wr.heap.size := Nat.lt_of_lt_of_le bl HW2.out.size
              have HJ := hid hlt
              have ej : wrap64 ((j2 : Int) + 1) = (j2 : Int) + 1 := pw64 _ (by have := LE.out; have := HJ.out; omega)
              have HB9 : Hid (Below w.heap.size w wr) := hid HW2.out
              by_cases h : Sp.bigF (n, d) = true
              · rw [h, Bool.true_or] at hd
                have HF2 : Hid (v = 2) := hid (by rw [HF.out, ← hd]; rfl)
                have sp := big_split n d h
                clear hd hc h
                rcases sp with s | ⟨s, s2⟩ | ⟨s, s2, s3⟩
                · go_wp2_with fail
                  go_ret
                  exact Gives.mk (i64_eq HF2.out) (HB9.out.trans ((balloc wr (Obj.cells #[.int .i64 n, .int .i64 d] 26)).mono HB9.out.size))
                · go_wp2_with fail
                  go_ret
                  exact Gives.mk (i64_eq HF2.out) (HB9.out.trans ((balloc wr (Obj.cells #[.int .i64 n, .int .i64 d] 26)).mono HB9.out.size))
                · go_wp2_with fail
                  go_ret
                  exact Gives.mk (i64_eq HF2.out) (HB9.out.trans ((balloc wr (Obj.cells #[.int .i64 n, .int .i64 d] 26)).mono HB9.out.size))
              · have h2 := Bool.eq_false_iff.mpr h
                rw [h2, Bool.false_or] at hd
                obtain ⟨s1, s2, s3⟩ := big_none n d h2
                have HF2 := hid hd
                have wz := hid (show w.heap.size + 1 ≤ wr.heap.size by have := HB2.out.size; rw [VSS.out] at this; exact this)
                clear hd hc h h2
                go_wp2_with fail
                go_roundw
                case rel => exact ⟨j2 + 1, by go_num, by have := HJ.out; omega, HF2.out, HB2.out.trans ((balloc wr (Obj.cells #[.int .i64 n, .int .i64 d] 26)).mono wz.out)⟩
                case measure => first | exact pmeas _ _ HJ.out | (rw [ej]; exact pmeas _ _ HJ.out)
            · have i1 : ¬ (j2 : Int) < (c.length : Int) := by omega
              have hd := HD2.out
              rw [List.drop_eq_nil_of_le (by omega)] at hd
              have HF2 : Hid (v = 0) := hid (by rw [HF.out, ← hd]; rfl)
              clear hd
              go_wp2_with fail
              go_ret
              exact Gives.mk (i64_eq HF2.out) HW2.out
end Go.Proofs.Ytcbecfimikpljaa
