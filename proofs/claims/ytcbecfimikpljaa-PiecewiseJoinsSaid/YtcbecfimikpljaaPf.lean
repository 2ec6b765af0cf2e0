/-
  Layer 12: Check, Few of the reference, by contract.
-/
import Derived.Test.YtcbecfimikpljaaPe
import Derived.Test.YtcbecfimikpljaaPx
namespace Go.Proofs.Ytcbecfimikpljaa
open Go.RowKit
set_option linter.unusedVariables false
set_option linter.unusedSimpArgs false

/-- Where the piece j has to begin. -/
def bgO (l : List Sp.Pd) (j : Nat) : Int := if j = 0 then Sp.least l else ((l[j - 1]?).getD (⟨0, 0, none, 0, []⟩ : Sp.Pd)).t
theorem bgO_succ {l : List Sp.Pd} {j : Nat} (h : j < l.length) : bgO l (j + 1) = (l[j]).t := by
  unfold bgO
  rw [if_neg (by omega), Nat.add_sub_cancel, List.getElem?_eq_getElem h, Option.getD_some]
set_option maxRecDepth 100000 in
set_option maxHeartbeats 1000000 in
theorem rpiece_any (A : Option Addr) (cap : Nat) (l : List Sp.Pd) (a : Nat) (w : World) (h : a < l.length) (hl : l.length ≤ 2000) (hz : PcSized l) (hT : Pcs w A l) :
    Calls Try.prog 34 #[.slice A l.length cap, .int .i64 (a : Int)] w (Gives (.int .i64 (Sp.pieceE (l[a]) (bgO l a))) w) := by
  obtain ⟨b, off, rfl, bl, q0, q1, q2⟩ := hT.at_ (Below.refl _ _) h
  have fr := hT.2 _ (List.getElem_mem h)
  have sz := (hz.2 _ (List.getElem_mem h)).2.2
  have hb : a = 0 → bgO l a = (l[a]).f := fun e => by
    subst e
    unfold bgO
    rw [if_pos rfl, least_is h]
  have hp : ∀ m, a = m + 1 → w.cell? ⟨b, off + m * 3 + 1, none⟩ = some (.int .i64 (bgO l a)) := fun m e => by
    subst e
    obtain ⟨b', off', e2, _, _, r1, _⟩ := hT.at_ (Below.refl _ _) (show m < l.length by omega)
    obtain ⟨rfl, rfl⟩ : b = b' ∧ off = off' := by simpa using e2
    rw [bgO_succ (by omega)]
    exact r1
  generalize l[a] = p at q0 q1 q2 fr sz hb
  generalize bgO l a = g at hb hp
  obtain ⟨f, t, A', k, c⟩ := p
  simp only at q0 q1 q2 fr sz hb
  have j0 : (0 : Int) ≤ (a : Int) := by omega
  have j1 : (a : Int) < (l.length : Int) := by omega
  unfold Sp.pieceE
  simp only
  by_cases c1 : f < 0
  · rw [if_pos (.inl c1)]
    exact rpiece_e1 l.length cap b off a f t A' k c w c1 bl j0 j1 a rfl q0 q1 q2
  by_cases c2 : 3000 < t
  · rw [if_pos (.inr c2)]
    exact rpiece_e2 l.length cap b off a f t A' k c w c1 c2 bl j0 j1 a rfl q0 q1 q2
  rw [if_neg (by omega)]
  by_cases c3 : t ≤ f
  · rw [if_pos (.inl c3)]
    exact rpiece_e3 l.length cap b off a f t A' k c w c1 c2 c3 bl j0 j1 a rfl q0 q1 q2
  by_cases c4 : f = g
  · rw [if_neg (fun h => h.elim c3 (fun x => x c4))]
    subst c4
    have e : (if 4 < c.length then 8 else if Sp.coefE c ≠ 0 then Sp.coefE c else if c.any Sp.bigF = true then 2 else 0 : Int) = if 4 < c.length then 8 else if Sp.coefE c ≠ 0 then Sp.coefE c else if c.any Sp.bigF then 2 else 0 := rfl
    refine rpiece_tail l.length cap b off a f t A' k c (Sp.coefE c) (c.any Sp.bigF) w c1 c2 c3 hl sz fr rfl rfl bl j0 j1 a rfl q0 q1 q2 ?_
    cases a with
    | zero => exact .inl rfl
    | succ m => exact .inr ⟨m, rfl, hp m rfl⟩
  · rw [if_pos (.inr c4)]
    cases a with
    | zero => exact absurd (hb rfl).symm c4
    | succ m => exact rpiece_e4 l.length cap b off _ f t A' k c g m w c1 c2 c3 c4 hl bl j0 j1 (m + 1) rfl q0 q1 q2 rfl (hp m rfl)
def RcRel (w : World) (l : List Sp.Pd) (R : Int) (t : Value) (wr : World) : Prop := ∃ j : Nat, t = .int .i64 (j : Int) ∧ j ≤ l.length ∧ Sp.listE (l.drop j) (bgO l j) = R ∧ Below w.heap.size w wr
set_option maxRecDepth 100000 in
set_option maxHeartbeats 2000000 in
theorem rpcheck_any (A : Option Addr) (cap : Nat) (l : List Sp.Pd) (w : World) (hz : PcSized l) (hT : Pcs w A l) :
    Calls Try.prog 17 #[.slice A l.length cap] w (Gives (.int .i64 (Sp.pcheck l)) w) := by
  unfold Sp.pcheck
  by_cases c0 : 0 < l.length
  · rw [dif_pos c0]
    have z0 : ((l.length : Int) == 0) = false := by simp; intro h; rw [h] at c0; simp at c0
    by_cases c8 : 8 < l.length
    · rw [if_pos c8]
      have i8 : (8 : Int) < (l.length : Int) := by omega
      clear hz hT c0 c8
      go_enter Try.func17, Try.ntmps17
      go_wp2_with fail
      go_ret
      exact Gives.mk rfl (Below.refl _ _)
    · rw [if_neg c8]
      have i8 : ¬ (8 : Int) < (l.length : Int) := by omega
      have LE := hid (show l.length ≤ 8 by omega)
      have e0 : (l[0]'c0).f = bgO l 0 := by unfold bgO; rw [if_pos rfl, least_is c0]
      rw [e0]
      obtain ⟨R, hR⟩ : ∃ R, Sp.listE l (bgO l 0) = R := ⟨_, rfl⟩
      rw [hR]
      have HR := hid hR
      have PI := hid (fun (j : Nat) (h : j < l.length) (W : World) (hw : Below w.heap.size w W) => rpiece_any A cap l j W h (by omega) hz (hT.below hw))
      clear hT hR c8 e0 hz
      go_enter Try.func17, Try.ntmps17
      go_wp2_with fail
      go_loopw [13] (fun t wr => RcRel w l R t wr) (fun t _ => l.length - (intOf t).toNat)
      case atStart => exact ⟨0, rfl, Nat.zero_le _, HR.out, Below.refl _ _⟩
      case round =>
        obtain ⟨j, rfl, hj, hd, hB⟩ := hrel
        have HD := hid hd
        have HB := hid hB
        clear hd hB c0 z0 i8
        by_cases hlt : j < l.length
        · have hd := HD.out
          rw [List.drop_eq_getElem_cons hlt, Sp.listE_cons, ← bgO_succ hlt] at hd
          have CK := hid (PI.out j hlt wr HB.out)
          obtain ⟨y, hy⟩ : ∃ y, Sp.pieceE (l[j]'hlt) (bgO l j) = y := ⟨_, rfl⟩
          rw [hy] at hd CK
          have i0 : (0 : Int) ≤ (j : Int) := by omega
          have i1 : (j : Int) < (l.length : Int) := by omega
          have HJ := hid hlt
          have ej : wrap64 ((j : Int) + 1) = (j : Int) + 1 := pw64 _ (by have := LE.out; have := HJ.out; omega)
          clear hy
          by_cases h : y = 0
          · rw [if_neg (fun x => x h)] at hd
            subst h
            have HF := hid hd
            clear hd
            go_wp2_with fail
            refine CK.out.mono ?_
            rintro _ w5 ⟨rfl, hb⟩
            have HB5 := hid (HB.out.trans (hb.mono HB.out.size))
            clear hb
            go_wp2_with fail
            go_roundw
            case rel => exact ⟨j + 1, by go_num, by have := HJ.out; omega, HF.out, HB5.out⟩
            case measure => first | exact pmeas _ _ HJ.out | (rw [ej]; exact pmeas _ _ HJ.out)
          · rw [if_pos h] at hd
            have HF := hid hd
            have hn : (y == 0) = false := by simpa using h
            clear hd
            go_wp2_with fail
            refine CK.out.mono ?_
            rintro _ w5 ⟨rfl, hb⟩
            have HB5 := hid (HB.out.trans (hb.mono HB.out.size))
            clear hb
            go_wp2_with fail
            go_ret
            exact Gives.mk (i64_eq HF.out.symm) HB5.out
        · have i1 : ¬ (j : Int) < (l.length : Int) := by omega
          have hd := HD.out
          rw [List.drop_eq_nil_of_le (by omega)] at hd
          have HF := hid (show (0 : Int) = R from hd)
          clear hd
          go_wp2_with fail
          go_ret
          exact Gives.mk (i64_eq HF.out.symm) HB.out
  · rw [dif_neg c0]
    have e : l.length = 0 := by omega
    rw [e]
    clear hz hT c0
    go_enter Try.func17, Try.ntmps17
    go_wp2_with fail
    go_ret
    exact Gives.mk rfl (Below.refl _ _)
/-- What Few answers. -/
def longP (p : Sp.Pd) : Bool := decide (8 < p.c.length)
def fewS (l : List Sp.Pd) (most : Int) : Bool :=
  if 12 < l.length then false else if l.any longP = true then false else if Sp.pcheck l ≠ 0 then true else decide (Sp.great l - Sp.least l ≤ most)
def FwRel (w : World) (l : List Sp.Pd) (L : Bool) (t : Value) (wr : World) : Prop := ∃ j : Nat, t = .int .i64 (j : Int) ∧ j ≤ l.length ∧ (l.drop j).any longP = L ∧ Below w.heap.size w wr
set_option maxRecDepth 100000 in
set_option maxHeartbeats 4000000 in
theorem rfew_any (A : Option Addr) (cap : Nat) (l : List Sp.Pd) (most : Int) (w : World) (m0 : 0 ≤ most) (m1 : most ≤ 100000) (hz : PcSized l) (hT : Pcs w A l) :
    Calls Try.prog 10 #[.slice A l.length cap, .int .i64 most] w (Gives (.bool (fewS l most)) w) := by
  obtain ⟨R, hR⟩ : ∃ R, fewS l most = R := ⟨_, rfl⟩
  rw [hR]
  unfold fewS at hR
  by_cases c12 : 12 < l.length
  · rw [if_pos c12] at hR
    subst hR
    have i12 : (12 : Int) < (l.length : Int) := by omega
    clear hz hT c12
    go_enter Try.func10, Try.ntmps10
    go_wp2_with fail
    go_ret
    exact Gives.mk rfl (Below.refl _ _)
  rw [if_neg c12] at hR
  have i12 : ¬ (12 : Int) < (l.length : Int) := by omega
  have LE := hid (show l.length ≤ 12 by omega)
  obtain ⟨L, hL⟩ : ∃ L, l.any longP = L := ⟨_, rfl⟩
  rw [hL] at hR
  have HL := hid hL
  have HR := hid hR
  have HT := hid hT
  have HZ := hid hz
  have CK := hid (fun (W : World) (hw : Below w.heap.size w W) => rpcheck_any A cap l W hz (hT.below hw))
  clear c12 hR hL hT hz
  go_enter Try.func10, Try.ntmps10
  go_wp2_with fail
  go_loopw [12] (fun t wr => FwRel w l L t wr) (fun t _ => l.length - (intOf t).toNat)
  case atStart => exact ⟨0, rfl, Nat.zero_le _, HL.out, Below.refl _ _⟩
  case round =>
    obtain ⟨j, rfl, hj, hd, hB⟩ := hrel
    have HD := hid hd
    have HB := hid hB
    clear hd hB i12
    by_cases hlt : j < l.length
    · obtain ⟨b, off, rfl, bl, q0, q1, q2⟩ := HT.out.at_ HB.out hlt
      have hd := HD.out
      rw [List.drop_eq_getElem_cons hlt, List.any_cons] at hd
      have sz := (HZ.out.2 _ (List.getElem_mem hlt)).2.2.1
      obtain ⟨p, hp⟩ : ∃ c', l[j]'hlt = c' := ⟨_, rfl⟩
      rw [hp] at q0 q1 q2 hd sz
      obtain ⟨f, t, A', k, c⟩ := p
      have e0 : longP ⟨f, t, A', k, c⟩ = decide (8 < c.length) := rfl
      rw [e0] at hd
      simp only at q0 q1 q2 sz
      clear e0
      have i0 : (0 : Int) ≤ (j : Int) := by omega
      have i1 : (j : Int) < (l.length : Int) := by omega
      have bw : b < wr.heap.size := Nat.lt_of_lt_of_le bl HB.out.size
      have HJ := hid hlt
      have ej : wrap64 ((j : Int) + 1) = (j : Int) + 1 := pw64 _ (by have := LE.out; have := HJ.out; omega)
      by_cases h : 8 < c.length
      · have e : true = L := by simpa [h] using hd
        have hr := HR.out
        rw [← e, if_pos rfl] at hr
        have HF := hid hr
        have i8 : (8 : Int) < (c.length : Int) := by omega
        clear hd hp h sz e hr
        go_wp2_with fail
        go_ret
        exact Gives.mk (pbool HF.out.symm) (HB.out.trans ((balloc wr _).mono HB.out.size))
      · have e : (l.drop (j + 1)).any longP = L := by simpa [h] using hd
        have HF := hid e
        have i8 : ¬ (8 : Int) < (c.length : Int) := by omega
        clear hd hp h sz e
        go_wp2_with fail
        go_roundw
        case rel => exact ⟨j + 1, by go_num, by have := HJ.out; omega, HF.out, HB.out.trans ((balloc wr _).mono HB.out.size)⟩
        case measure => first | exact pmeas _ _ HJ.out | (rw [ej]; exact pmeas _ _ HJ.out)
    · have i1 : ¬ (j : Int) < (l.length : Int) := by omega
      have hd := HD.out
      rw [List.drop_eq_nil_of_le (by omega)] at hd
      have e : false = L := hd
      have hr := HR.out
      rw [← e, if_neg (by simp)] at hr
      have C1 := hid (CK.out wr HB.out)
      clear hd e
      by_cases c : Sp.pcheck l = 0
      · rw [if_neg (fun h => h c)] at hr
        rw [c] at C1
        have gd := Sp.pcheck_good c
        have li := least_in c
        have HF := hid hr
        obtain ⟨b, off, rfl, bl, q0, -, -⟩ := HT.out.at_ HB.out gd.1
        obtain ⟨b', off', e, -, -, r1, -⟩ := HT.out.at_ HB.out (show l.length - 1 < l.length by omega)
        obtain ⟨rfl, rfl⟩ : b = b' ∧ off = off' := by simpa using e
        rw [← least_is gd.1] at q0
        rw [← great_is gd.1] at r1
        obtain ⟨m, hm⟩ : ∃ m, l.length - 1 = m := ⟨_, rfl⟩
        rw [hm] at r1
        have g8 := gd.2.1
        have g0 := gd.1
        have i0 : (0 : Int) < (l.length : Int) := by omega
        have i5 : (0 : Int) ≤ (m : Int) := by omega
        have i6 : (m : Int) < (l.length : Int) := by omega
        have i4 : IntKind.i64.wrap ((l.length : Int) - 1) = (m : Int) := by rw [IntWalk.i64_in _ (by omega)]; omega
        have i3 : wrap64 ((l.length : Int) - 1) = (m : Int) := by rw [pw64 _ (by omega)]; omega
        have bw : b < wr.heap.size := Nat.lt_of_lt_of_le bl HB.out.size
        simp only [Nat.zero_mul, Nat.add_zero] at q0
        generalize Sp.least l = x at q0 HF li
        generalize Sp.great l = y at r1 HF li
        have w3 : wrap64 (y - x) = y - x := pw64 _ (by omega)
        have w4 : IntKind.i64.wrap (y - x) = y - x := IntWalk.i64_in _ (by omega)
        have K := hid (fun (W : World) (h : Below wr.heap.size wr W) => (⟨(h.cell (p := ⟨b, off, none⟩) bw).trans q0, (h.cell (p := ⟨b, off + m * 3 + 1, none⟩) bw).trans r1⟩ : W.cell? ⟨b, off, none⟩ = some (.int .i64 x) ∧ W.cell? ⟨b, off + m * 3 + 1, none⟩ = some (.int .i64 y)))
        clear hr hm q0 r1 e bl gd c g8 g0
        go_wp2_with fail
        refine C1.out.mono ?_
        rintro _ w5 ⟨rfl, hb⟩
        obtain ⟨q0, r1⟩ := K.out _ hb
        have bw5 : b < w5.heap.size := Nat.lt_of_lt_of_le bw hb.size
        have HB5 := hid (HB.out.trans (hb.mono HB.out.size))
        clear hb
        by_cases cm : y - x ≤ most
        · have hf := HF.out
          rw [decide_eq_true cm] at hf
          subst hf
          go_wp2_with fail
          go_quiet (fail)
          go_wp2_with fail
          go_ret
          exact Gives.mk rfl (by have hB := HB5.out; repeat' (first | (with_reducible exact Below.refl _ _) | (with_reducible refine Below.alloc ?_ ?_ _) | (with_reducible refine Below.setCell ?_ ?_ _) | (with_reducible refine Below.drew ?_) | (with_reducible refine below_dn ?_ _) | (with_reducible refine Below.trans ?_ (Below.mono (by assumption) ?_)) | (simp; done) | (simp; omega) | omega))
        · have hf := HF.out
          rw [decide_eq_false cm] at hf
          subst hf
          have dm : decide (y - x ≤ most) = false := decide_eq_false cm
          go_wp2_with fail
          go_quiet (fail)
          go_wp2_with fail
          go_ret
          exact Gives.mk rfl (by have hB := HB5.out; repeat' (first | (with_reducible exact Below.refl _ _) | (with_reducible refine Below.alloc ?_ ?_ _) | (with_reducible refine Below.setCell ?_ ?_ _) | (with_reducible refine Below.drew ?_) | (with_reducible refine below_dn ?_ _) | (with_reducible refine Below.trans ?_ (Below.mono (by assumption) ?_)) | (simp; done) | (simp; omega) | omega))
      · rw [if_pos c] at hr
        obtain ⟨y, hy⟩ : ∃ y, Sp.pcheck l = y := ⟨_, rfl⟩
        rw [hy] at c C1
        have hn : (y == 0) = false := by simpa using c
        have HF := hid hr
        clear hr hy
        go_wp2_with fail
        refine C1.out.mono ?_
        rintro _ w5 ⟨rfl, hb⟩
        have HB5 := hid (HB.out.trans (hb.mono HB.out.size))
        clear hb
        go_wp2_with fail
        go_ret
        exact Gives.mk (pbool HF.out.symm) HB5.out
end Go.Proofs.Ytcbecfimikpljaa
