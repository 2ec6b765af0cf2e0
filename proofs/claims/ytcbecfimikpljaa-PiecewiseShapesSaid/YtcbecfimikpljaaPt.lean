/-
  Layer 12: Continuous of the reference, by contract.
-/
import Derived.Test.YtcbecfimikpljaaQc
import Derived.IntWalk
import Derived.Deep.Cut
import Derived.Deep.DeepCutAuto
namespace Go.Proofs.Ytcbecfimikpljaa
open Go.RowKit
set_option linter.unusedVariables false
set_option linter.unusedSimpArgs false

def RtRel (w : World) (l : List Sp.Pd) (R : Bool × Int) (t u : Value) (wr : World) : Prop := ∃ (j : Nat) (B : Bool), t = .int .i64 (j : Int) ∧ u = .bool B ∧ j + 1 ≤ l.length ∧ Sp.contF (l.drop j) B = R ∧ Below w.heap.size w wr
def RuRel (wr : World) (a1 a2 e1 : Int) (v v' : Value) (wx : World) : Prop :=
  ∃ g : Nat, v = .pointer (some ⟨g, 0, none⟩) ∧ v' = .int .i64 e1 ∧ (wr.heap.size ≤ g ∧ g < wx.heap.size) ∧ (wx.cell? ⟨g, 0, none⟩ = some (.int .i64 a1) ∧ wx.cell? ⟨g, 1, none⟩ = some (.int .i64 a2)) ∧ Below wr.heap.size wr wx
set_option maxRecDepth 100000 in
set_option maxHeartbeats 8000000 in
theorem rcont_good (A : Option Addr) (cap : Nat) (l : List Sp.Pd) (B : Bool) (E : Int) (w : World) (hz : PcSized l) (hT : Pcs w A l) (hc : Sp.pcheck l = 0) (hv : Sp.contF l true = (B, E)) :
    Calls Try.prog 19 #[.slice A l.length cap] w (Gives (.tuple #[.bool B, .int .i64 E]) w) := by
  have CK := hid (rpcheck_any A cap l w hz hT)
  rw [hc] at CK
  have gd := Sp.pcheck_good hc
  have HT := hid hT
  have GD := hid gd
  have HV := hid hv
  obtain ⟨b, off, hA, -, -, -, -⟩ := hT.at_ (Below.refl _ _) gd.1
  subst hA
  obtain ⟨n, hn⟩ : ∃ n : Nat, l.length = n := ⟨_, rfl⟩
  have n1 := hid (show 1 ≤ n by have := gd.1; omega)
  have n8 := hid (show n ≤ 8 by have := gd.2.1; omega)
  have LE := hid hn
  rw [hn] at CK ⊢
  clear hz hT hc gd hv hn
  go_enter Try.func19, Try.ntmps19
  go_wp2_with fail
  refine CK.out.mono ?_
  rintro _ w5 ⟨rfl, hb⟩
  have HB0 := hid hb
  clear hb
  go_wp2_with fail
  go_loopw [6, 5] (fun t u wr => RtRel w l (B, E) t u wr) (fun t _ _ => n - (intOf t).toNat)
  case atStart => exact ⟨0, true, rfl, rfl, by have := LE.out; have := n1.out; omega, by simpa using HV.out, HB0.out⟩
  case round =>
    obtain ⟨j, C, rfl, rfl, hj, hd, hB⟩ := hrel
    have HD := hid hd
    have HB := hid hB
    have j8 : (j : Int) ≤ 8 := by have := LE.out; have := n8.out; omega
    have i0 : (0 : Int) ≤ (j : Int) := Int.natCast_nonneg j
    have ej : wrap64 ((j : Int) + 1) = (j : Int) + 1 := pw64 _ (by omega)
    have ek : IntKind.i64.wrap ((j : Int) + 1) = ((j + 1 : Nat) : Int) := by rw [IntWalk.i64_in _ (by omega)]; omega
    have EJ := hid ej
    have EK := hid ek
    clear hd hB ej ek
    by_cases hlt : j + 1 < l.length
    · have jl0 : j < l.length := by omega
      have hd := HD.out
      rw [List.drop_eq_getElem_cons jl0, List.drop_eq_getElem_cons hlt, Sp.contF_step] at hd
      obtain ⟨b', off', e, bl, p0, p1, p2⟩ := HT.out.at_ HB.out jl0
      obtain ⟨rfl, rfl⟩ : b = b' ∧ off = off' := by simpa using e
      obtain ⟨b', off', e, bl', q0, q1, q2⟩ := HT.out.at_ HB.out hlt
      obtain ⟨rfl, rfl⟩ : b = b' ∧ off = off' := by simpa using e
      have gp := GD.out.2.2.1 _ (List.getElem_mem jl0)
      have gq := GD.out.2.2.1 _ (List.getElem_mem hlt)
      have fp := (HT.out.below HB.out).2 _ (List.getElem_mem jl0)
      have fq := (HT.out.below HB.out).2 _ (List.getElem_mem hlt)
      have pq := GD.out.2.2.2 j hlt
      rw [← List.drop_eq_getElem_cons hlt] at hd
      generalize l[j]'jl0 = P at p0 p1 p2 gp fp hd pq
      generalize l[j + 1]'hlt = Q at q0 q1 q2 gq fq hd pq
      have x0 := gq.f0
      have x1 : Q.f ≤ 3000 := by have h1 := gq.ft; have h2 := gq.t1; omega
      obtain ⟨f1, t1, A1, k1, c1⟩ := P
      obtain ⟨f2, t2, A2, k2, c2⟩ := Q
      simp only at p0 p1 p2 q0 q1 q2 fp fq x0 x1 pq
      subst pq
      have h1 := gp.n4
      have h2 := gq.n4
      simp only at h1 h2
      obtain ⟨⟨a1, a2, e1⟩, hr1⟩ : ∃ r, Sp.hornF t1 c1.reverse (0, 1) = r := ⟨_, rfl⟩
      obtain ⟨⟨b1, b2, e2⟩, hr2⟩ : ∃ r, Sp.hornF t1 c2.reverse (0, 1) = r := ⟨_, rfl⟩
      have V1 := hid (fun (W : World) (h : Below wr.heap.size wr W) => rhorner_any f1 t1 A1 k1 c1 t1 a1 a2 e1 W x0 x1 (by omega) (Sp.good_ok gp) (fp.below h) hr1)
      have V2 := hid (fun (W : World) (h : Below wr.heap.size wr W) => rhorner_any t1 t2 A2 k2 c2 t1 b1 b2 e2 W x0 x1 (by omega) (Sp.good_ok gq) (fq.below h) hr2)
      have jE : Sp.joinE ⟨f1, t1, A1, k1, c1⟩ ⟨t1, t2, A2, k2, c2⟩ = if e1 ≠ 0 then e1 else e2 := by unfold Sp.joinE Sp.valP; simp only [hr1, hr2]
      have jB : Sp.joinB ⟨f1, t1, A1, k1, c1⟩ ⟨t1, t2, A2, k2, c2⟩ = (decide (a1 = b1) && decide (a2 = b2)) := by unfold Sp.joinB Sp.valP; simp only [hr1, hr2]
      rw [jE, jB] at hd
      have HD2 := hid hd
      have i1 : (j : Int) + 1 < (n : Int) := by have := LE.out; have : ((j + 1 : Nat) : Int) < (n : Int) := Int.ofNat_lt.mpr (by rw [← LE.out]; exact hlt); simpa using this
      have i2 : (j : Int) < (n : Int) := Int.lt_trans (Int.lt_succ _) i1
      have bw : b < wr.heap.size := Nat.lt_of_lt_of_le bl HB.out.size
      have HJ := hid hlt
      have K := hid (fun (W : World) (h : Below wr.heap.size wr W) => (⟨(h.cell (p := ⟨b, off + j * 3, none⟩) bw).trans p0, (h.cell (p := ⟨b, off + j * 3 + 1, none⟩) bw).trans p1, (h.cell (p := ⟨b, off + j * 3 + 2, none⟩) bw).trans p2, (h.cell (p := ⟨b, off + (j + 1) * 3, none⟩) bw).trans q0, (h.cell (p := ⟨b, off + (j + 1) * 3 + 1, none⟩) bw).trans q1, (h.cell (p := ⟨b, off + (j + 1) * 3 + 2, none⟩) bw).trans q2, Nat.lt_of_lt_of_le bw h.size⟩ : W.cell? ⟨b, off + j * 3, none⟩ = some (.int .i64 f1) ∧ W.cell? ⟨b, off + j * 3 + 1, none⟩ = some (.int .i64 t1) ∧ W.cell? ⟨b, off + j * 3 + 2, none⟩ = some (.slice A1 c1.length k1) ∧ W.cell? ⟨b, off + (j + 1) * 3, none⟩ = some (.int .i64 t1) ∧ W.cell? ⟨b, off + (j + 1) * 3 + 1, none⟩ = some (.int .i64 t2) ∧ W.cell? ⟨b, off + (j + 1) * 3 + 2, none⟩ = some (.slice A2 c2.length k2) ∧ b < W.heap.size))
      have bn : ¬ b = wr.heap.size := by omega
      clear hd jE jB hr1 hr2 gp gq fp fq h1 h2 e bl bl' jl0 hlt hj x0 x1 q0 q1 q2
      have ej := EJ.out
      go_upto_region 8 with fail
      clear ej
      go_cut [7, 8] (fun v v' wx => RuRel wr a1 a2 e1 v v' wx)
      case first =>
        go_region_with (go_at_call 37; refine (V1.out _ (by repeat' (first | (with_reducible exact Below.refl _ _) | (with_reducible refine Below.alloc ?_ ?_ _) | (with_reducible refine Below.setCell ?_ ?_ _) | (with_reducible refine Below.drew ?_) | (with_reducible refine Below.trans ?_ (Below.mono (by assumption) ?_)) | (simp; done) | (simp; omega) | omega))).mono ?_; rintro _ w6 ⟨rfl, hb⟩; have hb6 : Below wr.heap.size wr w6 := (by repeat' (first | (with_reducible exact Below.refl _ _) | (with_reducible refine Below.alloc ?_ ?_ _) | (with_reducible refine Below.setCell ?_ ?_ _) | (with_reducible refine Below.drew ?_) | (with_reducible refine below_dn ?_ _) | (with_reducible refine Below.trans ?_ (Below.mono (by assumption) ?_)) | (simp; done) | (simp; omega) | omega)); (first | (have g0 : w6.cell? ⟨wr.heap.size, 0, none⟩ = some (.int .i64 0) := (hb.cell (p := ⟨wr.heap.size, 0, none⟩) (by simp)).trans (by simp [go_sem]); have g1 : w6.cell? ⟨wr.heap.size, 1, none⟩ = some (.int .i64 0) := (hb.cell (p := ⟨wr.heap.size, 1, none⟩) (by simp)).trans (by simp [go_sem]); have gf : ∀ o, w6.frozen? ⟨wr.heap.size, o, none⟩ = false := fun o => (hb.frozen (p := ⟨wr.heap.size, o, none⟩) (by simp)).trans (by simp [go_sem]); have gz : wr.heap.size < w6.heap.size := (by have := hb.size; simp at this; omega)) | skip); clear hb)
        all_goals
          go_wp2_with fail
          go_meet
          have h6 := hb6.size
          first
            | (exact ⟨w6.heap.size, rfl, rfl, ⟨h6, by simp⟩, ⟨by simp [go_sem], by simp [go_sem]⟩, bthen hb6 (balloc _ _)⟩)
            | (exact ⟨wr.heap.size, rfl, rfl, ⟨Nat.le_refl _, by simpa using gz⟩, ⟨by simp [go_sem, g0, g1], by simp [go_sem, g0, g1]⟩, (hb6.setCell (p := ⟨wr.heap.size, 0, none⟩) (Nat.le_refl _) _).setCell (p := ⟨wr.heap.size, 1, none⟩) (Nat.le_refl _) _⟩)
      case rest =>
        obtain ⟨g, rfl, rfl, ⟨hg0, hg1⟩, ⟨d0, d1⟩, hk⟩ := hcut
        have HK := hid hk
        clear p0 p1 p2 bw bn hk
        by_cases z1 : e1 = 0
        · subst z1
          obtain ⟨p0, p1, p2, q0, q1, q2, bw⟩ := K.out _ HK.out
          have bn : ¬ b = wc.heap.size := by omega
          obtain ⟨U, hU⟩ : ∃ U, U = wc := ⟨_, rfl⟩
          have ek := EK.out
          have ej := EJ.out
          have ix0 : (0 : Int) ≤ ((j + 1 : Nat) : Int) := Int.natCast_nonneg _
          have ix1 : ((j + 1 : Nat) : Int) < (n : Int) := by simpa using i1
          have HU := hid hU
          go_upto_region 11 with fail
          rw [← HU.out] at HK hg1 d0 d1 p0 p1 p2 q0 q1 q2 bw bn ⊢
          clear hU HU
          have hz := hid (show wr.heap.size ≤ U.heap.size from HK.out.size)
          have HD0 := hid (⟨d0, d1, hg1⟩ : U.cell? ⟨g, 0, none⟩ = some (.int .i64 a1) ∧ U.cell? ⟨g, 1, none⟩ = some (.int .i64 a2) ∧ g < U.heap.size)
          clear d0 d1
          go_cut [9, 10] (fun v v' wx => RuRel U b1 b2 e2 v v' wx)
          case first =>
            go_region_with (go_at_call 37; refine (V2.out _ (by have hk := HK.out; have hq := hz.out; repeat' (first | (with_reducible exact Below.refl _ _) | (with_reducible refine Below.alloc ?_ ?_ _) | (with_reducible refine Below.setCell ?_ ?_ _) | (with_reducible refine Below.drew ?_) | (with_reducible refine Below.trans ?_ (Below.mono (by assumption) ?_)) | (simp; done) | (simp; omega) | omega))).mono ?_; rintro _ w6 ⟨rfl, hb⟩; have hb6 : Below U.heap.size U w6 := (by repeat' (first | (with_reducible exact Below.refl _ _) | (with_reducible refine Below.alloc ?_ ?_ _) | (with_reducible refine Below.setCell ?_ ?_ _) | (with_reducible refine Below.drew ?_) | (with_reducible refine below_dn ?_ _) | (with_reducible refine Below.trans ?_ (Below.mono (by assumption) ?_)) | (simp; done) | (simp; omega) | omega)); (first | (have g0 : w6.cell? ⟨U.heap.size, 0, none⟩ = some (.int .i64 0) := (hb.cell (p := ⟨U.heap.size, 0, none⟩) (by simp)).trans (by simp [go_sem]); have g1 : w6.cell? ⟨U.heap.size, 1, none⟩ = some (.int .i64 0) := (hb.cell (p := ⟨U.heap.size, 1, none⟩) (by simp)).trans (by simp [go_sem]); have gf : ∀ o, w6.frozen? ⟨U.heap.size, o, none⟩ = false := fun o => (hb.frozen (p := ⟨U.heap.size, o, none⟩) (by simp)).trans (by simp [go_sem]); have gz : U.heap.size < w6.heap.size := (by have := hb.size; simp at this; omega)) | skip); clear hb)
            all_goals
              go_wp2_with fail
              go_meet
              have h6 := hb6.size
              first
                | (exact ⟨w6.heap.size, rfl, rfl, ⟨h6, by simp⟩, ⟨by simp [go_sem], by simp [go_sem]⟩, bthen hb6 (balloc _ _)⟩)
                | (exact ⟨U.heap.size, rfl, rfl, ⟨Nat.le_refl _, by simpa using gz⟩, ⟨by simp [go_sem, g0, g1], by simp [go_sem, g0, g1]⟩, (hb6.setCell (p := ⟨U.heap.size, 0, none⟩) (Nat.le_refl _) _).setCell (p := ⟨U.heap.size, 1, none⟩) (Nat.le_refl _) _⟩)
          case rest =>
            obtain ⟨g2, rfl, rfl, ⟨hh0, hh1⟩, ⟨d2, d3⟩, hk2⟩ := hcut
            have d0 := (hk2.cell (p := ⟨g, 0, none⟩) HD0.out.2.2).trans HD0.out.1
            have d1 := (hk2.cell (p := ⟨g, 1, none⟩) HD0.out.2.2).trans HD0.out.2.1
            have HK2 := hid (bthen HB.out (bthen HK.out hk2))
            clear p0 p1 p2 q0 q1 q2 bw bn hk2
            have hd := HD2.out
            simp only [ne_eq, not_true_eq_false, if_false] at hd
            by_cases z2 : e2 = 0
            · subst z2
              simp only [not_true_eq_false, if_false] at hd
              cases C with
              | false =>
                have HF := hid (show Sp.contF (List.drop (j + 1) l) false = (B, E) by simpa using hd)
                clear hd
                go_wp2_with fail
                go_roundw
                case rel => exact ⟨j + 1, _, by go_num, rfl, by have := HJ.out; omega, HF.out, HK2.out⟩
                case measure => have h1 := HJ.out; have h2 := LE.out; first | exact pmeas _ _ (by omega) | (rw [ej]; exact pmeas _ _ (by omega))
              | true =>
                by_cases c1' : a1 = b1
                · subst c1'
                  by_cases c2' : a2 = b2
                  · subst c2'
                    have HF := hid (show Sp.contF (List.drop (j + 1) l) true = (B, E) by simpa using hd)
                    clear hd
                    go_wp2_with fail
                    go_roundw
                    case rel => exact ⟨j + 1, _, by go_num, rfl, by have := HJ.out; omega, HF.out, HK2.out⟩
                    case measure => have h1 := HJ.out; have h2 := LE.out; first | exact pmeas _ _ (by omega) | (rw [ej]; exact pmeas _ _ (by omega))
                  · have HF := hid (show Sp.contF (List.drop (j + 1) l) false = (B, E) by simpa [c2'] using hd)
                    clear hd
                    go_wp2_with fail
                    go_roundw
                    case rel => exact ⟨j + 1, _, by go_num, rfl, by have := HJ.out; omega, HF.out, HK2.out⟩
                    case measure => have h1 := HJ.out; have h2 := LE.out; first | exact pmeas _ _ (by omega) | (rw [ej]; exact pmeas _ _ (by omega))
                · have HF := hid (show Sp.contF (List.drop (j + 1) l) false = (B, E) by simpa [c1'] using hd)
                  clear hd
                  go_wp2_with fail
                  go_roundw
                  case rel => exact ⟨j + 1, _, by go_num, rfl, by have := HJ.out; omega, HF.out, HK2.out⟩
                  case measure => have h1 := HJ.out; have h2 := LE.out; first | exact pmeas _ _ (by omega) | (rw [ej]; exact pmeas _ _ (by omega))
            · have e3 : false = B ∧ e2 = E := by simpa [z2] using hd
              obtain ⟨rfl, rfl⟩ := e3
              have hn : (e2 == 0) = false := by simpa using z2
              clear hd
              go_wp2_with fail
              refine bodyPost_ret (v := .tuple #[.bool false, .int .i64 e2]) (by simp [results, Try.results19, go_sem]) rfl ?_
              exact Gives.mk rfl HK2.out
        · have hd := HD2.out
          have e3 : false = B ∧ e1 = E := by simpa [z1] using hd
          obtain ⟨rfl, rfl⟩ := e3
          have hn : (e1 == 0) = false := by simpa using z1
          clear hd
          go_wp2_with fail
          refine bodyPost_ret (v := .tuple #[.bool false, .int .i64 e1]) (by simp [results, Try.results19, go_sem]) rfl ?_
          exact Gives.mk rfl (bthen HB.out HK.out)
    · have hjn : j + 1 = n := by have := LE.out; omega
      have i1 : ¬ (j : Int) + 1 < (n : Int) := by omega
      have hd := HD.out
      have jl : j < l.length := by omega
      rw [List.drop_eq_getElem_cons jl, List.drop_eq_nil_of_le (by omega)] at hd
      have e3 : C = B ∧ 0 = E := by simpa [Sp.contF] using hd
      obtain ⟨rfl, rfl⟩ := e3
      have ej := EJ.out
      clear hd jl hjn
      go_wp2_with fail
      refine bodyPost_ret (v := .tuple #[.bool C, .int .i64 0]) (by simp [results, Try.results19, go_sem]) rfl ?_
      exact Gives.mk rfl HB.out
theorem rcont_any (A : Option Addr) (cap : Nat) (l : List Sp.Pd) (B : Bool) (E : Int) (w : World) (hz : PcSized l) (hT : Pcs w A l) (hv : Sp.contS l = (B, E)) :
    Calls Try.prog 19 #[.slice A l.length cap] w (Gives (.tuple #[.bool B, .int .i64 E]) w) := by
  unfold Sp.contS at hv
  by_cases hc : Sp.pcheck l = 0
  · rw [if_neg (fun h => h hc)] at hv
    exact rcont_good A cap l B E w hz hT hc hv
  · rw [if_pos hc] at hv
    have CK := hid (rpcheck_any A cap l w hz hT)
    generalize Sp.pcheck l = y at CK hc hv
    have e3 : false = B ∧ y = E := by simpa using hv
    obtain ⟨rfl, rfl⟩ := e3
    have hn : (y == 0) = false := by simpa using hc
    clear hv hz hT hc
    go_enter Try.func19, Try.ntmps19
    go_wp2_with fail
    refine CK.out.mono ?_
    rintro _ w5 ⟨rfl, hb⟩
    have HB0 := hid hb
    clear hb
    go_wp2_with fail
    refine bodyPost_ret (v := .tuple #[.bool false, .int .i64 y]) (by simp [results, Try.results19, go_sem]) rfl ?_
    exact Gives.mk rfl HB0.out
end Go.Proofs.Ytcbecfimikpljaa
