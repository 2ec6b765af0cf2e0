/-
  Layer 12: checkPiece, Check, Domain of package piecewise, by contract.
-/
import Derived.Test.YtdimncchejbaaaaPa
namespace Go.Proofs.Ytdimncchejbaaaa
open Go.RowKit
set_option linter.unusedVariables false
set_option linter.unusedSimpArgs false

def CoRel (w V : World) (l : List (Int × Int)) (R : Int) (t : Value) (wr : World) : Prop := ∃ j : Nat, t = .int .i64 (j : Int) ∧ j ≤ l.length ∧ Sp.coefE (l.drop j) = R ∧ Below (w.heap.size + 1) V wr
set_option maxRecDepth 100000 in
set_option maxHeartbeats 2000000 in
theorem cpiece_walk (f t : Int) (A : Option Addr) (k : Nat) (c : List (Int × Int)) (bg R v : Int) (B : Bool) (w : World) (c1 : ¬ f < 0) (c2 : ¬ 3000 < t) (c3 : ¬ t ≤ f) (c4 : f = bg) (c5 : ¬ 4 < c.length)
    (hz : FrSized c) (hT : Frs w A c) (hR : Sp.coefE c = R) (hB : c.any Sp.bigF = B) (hv : (if R ≠ 0 then R else if B then 2 else 0) = v) :
    Calls Try.prog 60 #[.agg #[.int .i64 f, .int .i64 t, .slice A c.length k], .int .i64 bg] w (Gives (.int .i64 v) w) := by
  have HT := hid hT
  have HZ := hid hz
  have HR := hid hR
  have HBB := hid hB
  have HV := hid hv
  have c6 : ¬ (4 : Int) < (c.length : Int) := by omega
  have LE := hid (show c.length ≤ 4 by omega)
  subst c4
  clear hT hz hR hB hv c5
  obtain ⟨V, hV⟩ : ∃ V, w.alloc (Obj.cells #[.int .i64 (f), .int .i64 (t), .slice (A) (c.length) (k)] 59) = V := ⟨_, rfl⟩
  have VS : V.heap.size = w.heap.size + 1 := by rw [← hV]; simp
  have v0 : V.cell? ⟨w.heap.size, 0, none⟩ = some (.int .i64 f) := by rw [← hV]; simp [go_sem]
  have v1 : V.cell? ⟨w.heap.size, 1, none⟩ = some (.int .i64 t) := by rw [← hV]; simp [go_sem]
  have v2 : V.cell? ⟨w.heap.size, 2, none⟩ = some (.slice A c.length k) := by rw [← hV]; simp [go_sem]
  have vb : Below w.heap.size w V := by rw [← hV]; exact (Below.refl _ _).alloc (Nat.le_refl _) _
  have VW := hid vb
  have HVV := hid hV
  have VSS := hid VS
  have V2 := hid v2
  clear vb hV
  go_enter Try.func60, Try.ntmps60
  go_upto_region 1 with fail
  rw [HVV.out]
  go_wp2_with fail
  go_loopw [37] (fun t wr => CoRel w V c R t wr) (fun t _ => c.length - (intOf t).toNat)
  case atStart => exact ⟨0, rfl, Nat.zero_le _, HR.out, Below.refl _ _⟩
  case round =>
    obtain ⟨j, rfl, hj, hd, hB⟩ := hrel
    have HD := hid hd
    have HB := hid hB
    have HW : Hid (Below w.heap.size w wr) := hid (VW.out.trans (hB.mono (Nat.le_succ _)))
    have WZ : w.heap.size + 1 ≤ wr.heap.size := by have := hB.size; rw [VSS.out] at this; exact this
    have u2 : wr.cell? ⟨w.heap.size, 2, none⟩ = some (.slice A c.length k) := (hB.cell (p := ⟨w.heap.size, 2, none⟩) (Nat.lt_succ_self _)).trans V2.out
    clear hd hB v0 v1 v2
    by_cases hlt : j < c.length
    · obtain ⟨b, off, rfl, bl, q0, q1⟩ := HT.out.at_ HW.out hlt
      have hd := HD.out
      rw [List.drop_eq_getElem_cons hlt, Sp.coefE_cons] at hd
      have bn := HZ.out.2 _ (List.getElem_mem hlt)
      obtain ⟨⟨n, d⟩, hc⟩ : ∃ c', c[j]'hlt = c' := ⟨_, rfl⟩
      rw [hc] at q0 q1 hd bn
      simp only at q0 q1 bn hd
      have i0 : (0 : Int) ≤ (j : Int) := by omega
      have i1 : (j : Int) < (c.length : Int) := by omega
      have bw : b < wr.heap.size := Nat.lt_of_lt_of_le bl HW.out.size
      have HJ := hid hlt
      have CK := hid (fun W => fcheck_any n d bn.1.1 bn.1.2 bn.2.1 bn.2.2 W)
      have ej : wrap64 ((j : Int) + 1) = (j : Int) + 1 := pw64 _ (by have := LE.out; have := HJ.out; omega)
      obtain ⟨y, hy⟩ : ∃ y, Sp.fchk n d = y := ⟨_, rfl⟩
      rw [hy] at hd CK
      clear hc hy bn u2
      by_cases h : y = 0
      · rw [if_neg (fun x => x h)] at hd
        subst h
        have HF := hid hd
        clear hd
        go_wp2_with fail
        refine (CK.out _).mono ?_
        rintro _ w5 ⟨rfl, hb⟩
        have hB5 : Below (w.heap.size + 1) V w5 := by
          have hB := HB.out
          repeat' (first | (with_reducible exact Below.refl _ _) | (with_reducible refine Below.alloc ?_ ?_ _) | (with_reducible refine Below.setCell ?_ ?_ _) | (with_reducible refine Below.drew ?_) | (with_reducible refine Below.trans ?_ (Below.mono (by assumption) ?_)) | (simp; done) | (simp; omega) | omega)
        have HB5 := hid hB5
        clear hb hB5
        go_wp2_with fail
        go_roundw
        case rel => exact ⟨j + 1, by go_num, by have := HJ.out; omega, HF.out, HB5.out⟩
        case measure => first | exact pmeas _ _ HJ.out | (rw [ej]; exact pmeas _ _ HJ.out)
      · rw [if_pos h] at hd
        have HF : Hid (v = y) := hid (by rw [← HV.out, ← hd, if_pos h])
        have hn : (y == 0) = false := by simpa using h
        clear hd
        go_wp2_with fail
        refine (CK.out _).mono ?_
        rintro _ w5 ⟨rfl, hb⟩
        have hB5 : Below (w.heap.size + 1) V w5 := by
          have hB := HB.out
          repeat' (first | (with_reducible exact Below.refl _ _) | (with_reducible refine Below.alloc ?_ ?_ _) | (with_reducible refine Below.setCell ?_ ?_ _) | (with_reducible refine Below.drew ?_) | (with_reducible refine Below.trans ?_ (Below.mono (by assumption) ?_)) | (simp; done) | (simp; omega) | omega)
        have HB5 := hid hB5
        clear hb hB5
        go_wp2_with fail
        go_ret
        exact Gives.mk (i64_eq HF.out) (VW.out.trans (HB5.out.mono (Nat.le_succ _)))
    · have i1 : ¬ (j : Int) < (c.length : Int) := by omega
      have hd := HD.out
      rw [List.drop_eq_nil_of_le (by omega)] at hd
      have r0 : R = 0 := hd.symm
      have CB := hid (bigany_any A k c wr (by have := LE.out; omega) (HT.out.below HW.out))
      have HF : Hid (v = if B = true then 2 else 0) := hid (by have h := HV.out; rw [r0] at h; simpa using h.symm)
      rw [HBB.out] at CB
      clear hd r0
      go_wp2_with fail
      refine CB.out.mono ?_
      rintro _ w5 ⟨rfl, hb⟩
      have HB5 : Hid (Below w.heap.size w w5) := hid (HW.out.trans (hb.mono (by omega)))
      clear hb
      cases B with
      | true =>
        go_wp2_with fail
        go_ret
        exact Gives.mk (i64_eq (by have h := HF.out; simpa using h)) HB5.out
      | false =>
        go_wp2_with fail
        go_ret
        exact Gives.mk (i64_eq (by have h := HF.out; simpa using h)) HB5.out
set_option maxRecDepth 100000 in
set_option maxHeartbeats 2000000 in
theorem cpiece_any (p : Sp.Pd) (bg : Int) (w : World) (hz : FrSized p.c) (hT : Frs w p.A p.c) :
    Calls Try.prog 60 #[.agg #[.int .i64 (p).f, .int .i64 (p).t, .slice (p).A (p).c.length (p).k], .int .i64 bg] w (Gives (.int .i64 (Sp.pieceE p bg)) w) := by
  obtain ⟨f, t, A, k, c⟩ := p
  unfold Sp.pieceE
  simp only at hz hT ⊢
  by_cases c1 : f < 0
  · rw [if_pos (.inl c1)]
    clear hz hT
    go_enter Try.func60, Try.ntmps60
    go_wp2_with fail
    go_ret
    exact Gives.mk rfl ((Below.refl _ _).alloc (Nat.le_refl _) _)
  by_cases c2 : 3000 < t
  · rw [if_pos (.inr c2)]
    clear hz hT
    go_enter Try.func60, Try.ntmps60
    go_wp2_with fail
    go_ret
    exact Gives.mk rfl ((Below.refl _ _).alloc (Nat.le_refl _) _)
  rw [if_neg (by omega)]
  by_cases c3 : t ≤ f
  · rw [if_pos (.inl c3)]
    clear hz hT
    go_enter Try.func60, Try.ntmps60
    go_wp2_with fail
    go_ret
    exact Gives.mk rfl ((Below.refl _ _).alloc (Nat.le_refl _) _)
  by_cases c4 : f = bg
  · rw [if_neg (fun h => h.elim c3 (fun x => x c4))]
    by_cases c5 : 4 < c.length
    · rw [if_pos c5]
      have c6 : (4 : Int) < (c.length : Int) := by omega
      clear hz hT
      subst c4
      go_enter Try.func60, Try.ntmps60
      go_wp2_with fail
      go_ret
      exact Gives.mk rfl ((Below.refl _ _).alloc (Nat.le_refl _) _)
    · rw [if_neg c5]
      exact cpiece_walk f t A k c bg _ _ _ w c1 c2 c3 c4 c5 hz hT rfl rfl rfl
  · rw [if_pos (.inr c4)]
    have hn : (f == bg) = false := by simpa using c4
    clear hz hT
    go_enter Try.func60, Try.ntmps60
    go_wp2_with fail
    go_ret
    exact Gives.mk rfl ((Below.refl _ _).alloc (Nat.le_refl _) _)

def PcRel (w : World) (l : List Sp.Pd) (R : Int) (t u : Value) (wr : World) : Prop := ∃ (j : Nat) (b : Int), t = .int .i64 (j : Int) ∧ u = .int .i64 b ∧ j ≤ l.length ∧ Sp.listE (l.drop j) b = R ∧ Below w.heap.size w wr
set_option maxRecDepth 100000 in
set_option maxHeartbeats 2000000 in
theorem pcheck_any (A : Option Addr) (cap : Nat) (l : List Sp.Pd) (w : World) (hz : PcSized l) (hT : Pcs w A l) :
    Calls Try.prog 42 #[.slice A l.length cap] w (Gives (.int .i64 (Sp.pcheck l)) w) := by
  unfold Sp.pcheck
  by_cases c0 : 0 < l.length
  · rw [dif_pos c0]
    have z0 : ((l.length : Int) == 0) = false := by simp; intro h; rw [h] at c0; simp at c0
    by_cases c8 : 8 < l.length
    · rw [if_pos c8]
      have i8 : (8 : Int) < (l.length : Int) := by omega
      clear hz hT c0 c8
      go_enter Try.func42, Try.ntmps42
      go_wp2_with fail
      go_ret
      exact Gives.mk rfl (Below.refl _ _)
    · rw [if_neg c8]
      have i8 : ¬ (8 : Int) < (l.length : Int) := by omega
      have HT := hid hT
      have HZ := hid hz
      have LE := hid (show l.length ≤ 8 by omega)
      obtain ⟨b, off, e, bl, q0, q1, q2⟩ := hT.at_ (Below.refl _ _) c0
      simp only [Nat.zero_mul, Nat.add_zero] at q0
      obtain ⟨f0, hf0⟩ : ∃ f0, (l[0]'c0).f = f0 := ⟨_, rfl⟩
      rw [hf0] at q0 ⊢
      obtain ⟨R, hR⟩ : ∃ R, Sp.listE l f0 = R := ⟨_, rfl⟩
      rw [hR]
      have HR := hid hR
      have i1 : (0 : Int) < (l.length : Int) := by omega
      have HE := hid e
      rw [e]
      clear hT hz hR c8 e q1 q2 hf0
      go_enter Try.func42, Try.ntmps42
      go_wp2_with fail
      go_loopw [19, 3] (fun t u wr => PcRel w l R t u wr) (fun t _ _ => l.length - (intOf t).toNat)
      case atStart => exact ⟨0, _, rfl, rfl, Nat.zero_le _, HR.out, Below.refl _ _⟩
      case round =>
        obtain ⟨j, bg, rfl, rfl, hj, hd, hB⟩ := hrel
        have HD := hid hd
        have HB := hid hB
        clear hd hB q0 c0 z0 i8 i1
        by_cases hlt : j < l.length
        · obtain ⟨b', off', e, bl', q0, q1, q2⟩ := HT.out.at_ HB.out hlt
          rw [HE.out] at e
          obtain ⟨rfl, rfl⟩ : b = b' ∧ off = off' := by simpa using e
          have hd := HD.out
          rw [List.drop_eq_getElem_cons hlt, Sp.listE_cons] at hd
          have bn := HZ.out.2 _ (List.getElem_mem hlt)
          have fr := HT.out.2 _ (List.getElem_mem hlt)
          obtain ⟨p, hp⟩ : ∃ c', l[j]'hlt = c' := ⟨_, rfl⟩
          rw [hp] at q0 q1 q2 hd bn fr
          have FR := hid fr
          have BN := hid bn
          have i0 : (0 : Int) ≤ (j : Int) := by omega
          have i1 : (j : Int) < (l.length : Int) := by omega
          have bw : b < wr.heap.size := Nat.lt_of_lt_of_le bl HB.out.size
          have HJ := hid hlt
          have BL := hid bl
          have ej : wrap64 ((j : Int) + 1) = (j : Int) + 1 := pw64 _ (by have := LE.out; have := HJ.out; omega)
          obtain ⟨f, t, A', k, c⟩ := p
          simp only at q0 q1 q2 hd
          obtain ⟨y, hy⟩ : ∃ y, Sp.pieceE ⟨f, t, A', k, c⟩ bg = y := ⟨_, rfl⟩
          have CK := hid (fun (W : World) (h : Below w.heap.size w W) => hy ▸ cpiece_any ⟨f, t, A', k, c⟩ bg W BN.out.2.2 (FR.out.below h))
          rw [hy] at hd
          clear hp hy bn fr e bl bl'
          have HX := hid HB.out
          by_cases h : y = 0
          · rw [if_neg (fun x => x h)] at hd
            subst h
            have HF := hid hd
            clear hd
            go_wp2_with fail
            refine (CK.out _ (by have hB := HB.out; have hz0 := hB.size; repeat' (first | (with_reducible exact Below.refl _ _) | (with_reducible refine Below.alloc ?_ ?_ _) | (with_reducible refine Below.setCell ?_ ?_ _) | (with_reducible refine Below.drew ?_) | (with_reducible refine Below.trans ?_ (Below.mono (by assumption) ?_)) | (simp; done) | (simp; omega) | omega))).mono ?_
            rintro _ w5 ⟨rfl, hb⟩
            have u1 : w5.cell? ⟨wr.heap.size, 1, none⟩ = some (.int .i64 t) := (hb.cell (p := ⟨wr.heap.size, 1, none⟩) (by simp)).trans (by simp [go_sem])
            have hB5 : Below w.heap.size w w5 := by
              have hB := HB.out
              have hz0 := hB.size
              repeat' (first | (with_reducible exact Below.refl _ _) | (with_reducible refine Below.alloc ?_ ?_ _) | (with_reducible refine Below.setCell ?_ ?_ _) | (with_reducible refine Below.drew ?_) | (with_reducible refine Below.trans ?_ (Below.mono (by assumption) ?_)) | (simp; done) | (simp; omega) | omega)
            have HB5 := hid hB5
            have wz : wr.heap.size < w5.heap.size := by have := hb.size; simp at this; omega
            clear hb hB5
            go_wp2_with fail
            go_roundw
            case rel => exact ⟨j + 1, t, by go_num, rfl, by have := HJ.out; omega, HF.out, HB5.out⟩
            case measure => first | exact pmeas _ _ HJ.out | (rw [ej]; exact pmeas _ _ HJ.out)
          · rw [if_pos h] at hd
            have HF := hid hd
            have hn : (y == 0) = false := by simpa using h
            clear hd
            go_wp2_with fail
            refine (CK.out _ (by have hB := HB.out; have hz0 := hB.size; repeat' (first | (with_reducible exact Below.refl _ _) | (with_reducible refine Below.alloc ?_ ?_ _) | (with_reducible refine Below.setCell ?_ ?_ _) | (with_reducible refine Below.drew ?_) | (with_reducible refine Below.trans ?_ (Below.mono (by assumption) ?_)) | (simp; done) | (simp; omega) | omega))).mono ?_
            rintro _ w5 ⟨rfl, hb⟩
            have hB5 : Below w.heap.size w w5 := by
              have hB := HB.out
              have hz0 := hB.size
              repeat' (first | (with_reducible exact Below.refl _ _) | (with_reducible refine Below.alloc ?_ ?_ _) | (with_reducible refine Below.setCell ?_ ?_ _) | (with_reducible refine Below.drew ?_) | (with_reducible refine Below.trans ?_ (Below.mono (by assumption) ?_)) | (simp; done) | (simp; omega) | omega)
            have HB5 := hid hB5
            clear hb hB5
            go_wp2_with fail
            go_ret
            exact Gives.mk (i64_eq HF.out.symm) HB5.out
        · have i1 : ¬ (j : Int) < (l.length : Int) := by omega
          have hd := HD.out
          rw [List.drop_eq_nil_of_le (by omega)] at hd
          have HF := hid (show (0 : Int) = R from hd)
          clear hd
          go_wp2_with fail
          go_ret
          exact Gives.mk (i64_eq HF.out.symm) HB.out
  · rw [dif_neg c0]
    have e : l.length = 0 := by omega
    rw [e]
    clear hz hT c0
    go_enter Try.func42, Try.ntmps42
    go_wp2_with fail
    go_ret
    exact Gives.mk rfl (Below.refl _ _)

/-- What Domain answers. -/
def DomIs (l : List Sp.Pd) (a b e : Int) : Prop := (∃ h : Sp.pcheck l = 0, ∃ h0 : 0 < l.length, a = (l[0]).f ∧ b = (l[l.length - 1]'(by omega)).t ∧ e = 0) ∨ (Sp.pcheck l ≠ 0 ∧ a = 0 ∧ b = 0 ∧ e = Sp.pcheck l)
set_option maxRecDepth 100000 in
set_option maxHeartbeats 2000000 in
theorem domain_any (A : Option Addr) (cap : Nat) (l : List Sp.Pd) (a b e : Int) (w : World) (hz : PcSized l) (hT : Pcs w A l) (hv : DomIs l a b e) :
    Calls Try.prog 44 #[.slice A l.length cap] w (Gives (.tuple #[.int .i64 a, .int .i64 b, .int .i64 e]) w) := by
  have CK := hid (pcheck_any A cap l w hz hT)
  rcases hv with ⟨h, h0, rfl, rfl, rfl⟩ | ⟨h, rfl, rfl, rfl⟩
  · rw [h] at CK
    have HT := hid hT
    have g := Sp.pcheck_good h
    have LE := hid g.2.1
    have H0 := hid h0
    obtain ⟨x, hx⟩ : ∃ x, (l[0]'H0.out).f = x := ⟨_, rfl⟩
    obtain ⟨y, hy⟩ : ∃ y, (l[l.length - 1]'(Nat.sub_lt H0.out Nat.one_pos)).t = y := ⟨_, rfl⟩
    rw [hx, hy]
    have HX := hid hx
    have HY := hid hy
    have i1 : (0 : Int) < (l.length : Int) := by omega
    have i2 : ((l.length - 1 : Nat) : Int) = (l.length : Int) - 1 := by omega
    have I2 := hid i2
    have i3 : wrap64 ((l.length : Int) - 1) = (l.length : Int) - 1 := pw64 _ (by omega)
    clear h g hz hT hx hy h0 i2
    go_enter Try.func44, Try.ntmps44
    go_wp2_with fail
    refine CK.out.mono ?_
    rintro _ w5 ⟨rfl, hb⟩
    have HB := hid hb
    obtain ⟨b, off, rfl, bl, q0, q1, q2⟩ := HT.out.at_ hb H0.out
    obtain ⟨b', off', e, bl', r0, r1, r2⟩ := HT.out.at_ hb (show l.length - 1 < l.length by have := H0.out; omega)
    obtain ⟨rfl, rfl⟩ : b = b' ∧ off = off' := by simpa using e
    simp only [Nat.zero_mul, Nat.add_zero] at q0
    rw [HX.out] at q0
    rw [HY.out] at r1
    have bw : b < w5.heap.size := Nat.lt_of_lt_of_le bl hb.size
    clear hb e bl bl' q1 q2 r0 r2
    obtain ⟨m, hm⟩ : ∃ m, l.length - 1 = m := ⟨_, rfl⟩
    have im : (l.length : Int) = (m : Int) + 1 := by have := I2.out; omega
    rw [hm] at r1
    have i5 : (0 : Int) ≤ (m : Int) := by omega
    have i6 : (m : Int) < (l.length : Int) := by omega
    have i4 : IntKind.i64.wrap ((l.length : Int) - 1) = (m : Int) := by rw [IntWalk.i64_in _ (by have := LE.out; omega)]; omega
    clear im i3 hm
    go_wp2_with fail
    go_region_with (fail)
    go_wp2_with fail
    all_goals (refine bodyPost_ret (v := .tuple #[.int .i64 x, .int .i64 y, .int .i64 0]) (by simp [results, Try.results44, go_sem]) rfl ?_)
    all_goals exact Gives.mk rfl (by have hB := HB.out; repeat' (first | (with_reducible exact Below.refl _ _) | (with_reducible refine Below.alloc ?_ ?_ _) | (with_reducible refine Below.setCell ?_ ?_ _) | (with_reducible refine Below.drew ?_) | (with_reducible refine below_dn ?_ _) | (with_reducible refine Below.trans ?_ (Below.mono (by assumption) ?_)) | (simp; done) | (simp; omega) | omega))
  · have hn : (Sp.pcheck l == 0) = false := by simpa using h
    obtain ⟨y, hy⟩ : ∃ y, Sp.pcheck l = y := ⟨_, rfl⟩
    rw [hy] at CK hn ⊢
    clear h hy hz hT
    go_enter Try.func44, Try.ntmps44
    go_wp2_with fail
    refine CK.out.mono ?_
    rintro _ w5 ⟨rfl, hb⟩
    have HB := hid hb
    clear hb
    go_wp2_with fail
    refine bodyPost_ret (v := .tuple #[.int .i64 0, .int .i64 0, .int .i64 y]) (by simp [results, Try.results44, go_sem]) rfl ?_
    exact Gives.mk rfl HB.out
end Go.Proofs.Ytdimncchejbaaaa
