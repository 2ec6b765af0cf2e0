/-
  Layer 12: Increasing of the reference, by contract.
-/
import Derived.Test.YtcbecfimikpljaaQc
import Derived.Test.YtcbecfimikpljaaQd
import Derived.Test.YtcbecfimikpljaaFcnt2
namespace Go.Proofs.Ytcbecfimikpljaa
open Go.RowKit
set_option linter.unusedVariables false
set_option linter.unusedSimpArgs false

def UpTo (l : List Sp.Pd) (a : Int) (j : Nat) : Prop := ∀ k : Nat, k + 1 < j → ¬ cmpP (vQ l (a + ((k + 1 : Nat) : Int))) (vQ l (a + (k : Int))) < 0
theorem upTo_small (l : List Sp.Pd) (a : Int) {j : Nat} (h : j ≤ 1) : UpTo l a j := fun k hk => by omega
theorem upTo_succ (l : List Sp.Pd) (a : Int) (j : Nat) : UpTo l a (j + 2) ↔ UpTo l a (j + 1) ∧ ¬ cmpP (vQ l (a + ((j + 1 : Nat) : Int))) (vQ l (a + (j : Int))) < 0 := by
  constructor
  · intro h
    exact ⟨fun k hk => h k (by omega), h j (by omega)⟩
  · rintro ⟨h1, h2⟩ k hk
    by_cases c : k = j
    · subst c; exact h2
    · exact h1 k (by omega)
/-- What the loop of Increasing keeps: g the box of the last value. -/
def RiRel (w : World) (l : List Sp.Pd) (a : Int) (n : Nat) (E : Int) (g : Nat) (t u : Value) (wr : World) : Prop :=
  ∃ (j : Nat) (C : Bool) (q : Int × Int), t = .int .i64 (a + j) ∧ u = .bool C ∧ j ≤ n ∧ Sp.fstE (Sp.valL l) (n - j) (a + j) = E ∧ (C = true ↔ UpTo l a j) ∧ (∀ k, j = k + 1 → q = vQ l (a + (k : Int)) ∧ Sp.okQ q) ∧
    (wr.cell? ⟨g, 0, none⟩ = some (.int .i64 q.1) ∧ wr.cell? ⟨g, 1, none⟩ = some (.int .i64 q.2) ∧ ∀ o, wr.frozen? ⟨g, o, none⟩ = false) ∧ g < wr.heap.size ∧ Below w.heap.size w wr
set_option maxRecDepth 100000 in
set_option maxHeartbeats 8000000 in
theorem rinc_any (A : Option Addr) (cap : Nat) (l : List Sp.Pd) (B : Bool) (E : Int) (w : World) (hz : PcSized l) (hT : Pcs w A l) (hv : IncIs l B E) :
    Calls Try.prog 21 #[.slice A l.length cap] w (Gives (.tuple #[.bool B, .int .i64 E]) w) := by
  by_cases hc : Sp.pcheck l = 0
  · have DO := hid (rdomain_any A cap l _ _ _ w hz hT (dom_good hc))
    have li := least_in hc
    obtain ⟨hE, hB0, hB1⟩ := hv
    obtain ⟨n, hn⟩ : ∃ n, (Sp.great l - Sp.least l + 1).toNat = n := ⟨_, rfl⟩
    have VE : Sp.valsE l (Sp.least l) (Sp.great l) = Sp.fstE (Sp.valL l) n (Sp.least l) := by
      unfold Sp.valsE
      rw [if_neg (fun h => h hc), if_neg (by omega), hn]
    rw [VE] at hE
    have vl : (Sp.valsL l (Sp.least l) (Sp.great l)).length = n := by unfold Sp.valsL; rw [Sp.lstV_len, hn]
    have up : UpFrom (Sp.valsL l (Sp.least l) (Sp.great l)) 0 ↔ UpTo l (Sp.least l) n := by
      constructor
      · intro h k hk
        have := h k (by rw [vl]; exact hk) (Nat.zero_le _)
        rwa [vals_get, vals_get] at this
      · intro h k hk _
        rw [vals_get, vals_get]
        exact h k (by rw [vl] at hk; exact hk)
    have ok : ∀ x, Sp.least l ≤ x → x ≤ Sp.great l → (Sp.valL l x).2.2 = 0 → Sp.okQ (vQ l x) := fun x h1 h2 h3 => by
      rcases Sp.valL_res (l := l) (x := x) hc (by omega) (by omega) with ⟨_, h⟩ | h
      · exact h
      · rw [h] at h3; simp at h3
    have VA := hid (fun (x lo hi e : Int) (x0 : 0 ≤ x) (x1 : x ≤ 3000) (hv : Sp.valL l x = (lo, hi, e)) (W : World) (h : Below w.heap.size w W) => rvalue_any A cap l x lo hi e W hc x0 x1 (hT.below h) hv)
    rw [up] at hB1
    generalize Sp.least l = a at DO li hn hE hB1 ok
    generalize Sp.great l = b at DO li hn ok
    have nb := hid (show (n : Int) = b - a + 1 by omega)
    have HE := hid hE
    have HB0 := hid hB0
    have HB1 := hid hB1
    have LI := hid li
    have OK := hid ok
    clear VE vl up hE hB0 hB1 hn ok li hz hT
    go_enter Try.func21, Try.ntmps21
    go_wp2_with fail
    refine DO.out.mono ?_
    rintro _ w5 ⟨rfl, hb⟩
    have B5 := hid hb
    clear hb
    go_wp2_with fail
    go_loopw [9, 7] (fun t u wr => RiRel w l a n E w5.heap.size t u wr) (fun t _ _ => (a + n - intOf t).toNat)
    case atStart => exact ⟨0, true, (0, 0), by simp, rfl, Nat.zero_le _, by simpa using HE.out.symm, by simp [upTo_small l a (Nat.zero_le 1)], fun k h => absurd h (by omega), ⟨by simp [go_sem], by simp [go_sem], fun o => by simp [go_sem]⟩, by simp, bthen B5.out (balloc _ _)⟩
    case round =>
      obtain ⟨j, C, ⟨q1, q2⟩, rfl, rfl, hj, hd, hC, hq, ⟨g0, g1, gf⟩, gz, hB⟩ := hrel
      have HD := hid hd
      have HC := hid hC
      have HQ := hid hq
      have HB := hid hB
      simp only at g0 g1
      have HG := hid (⟨g0, g1, gf, gz⟩ : wr.cell? ⟨w5.heap.size, 0, none⟩ = some (.int .i64 q1) ∧ wr.cell? ⟨w5.heap.size, 1, none⟩ = some (.int .i64 q2) ∧ (∀ o, wr.frozen? ⟨w5.heap.size, o, none⟩ = false) ∧ w5.heap.size < wr.heap.size)
      have ws := hid (show w.heap.size ≤ w5.heap.size from B5.out.size)
      clear hd hC hq hB g0 g1 gf gz
      by_cases hlt : j < n
      · obtain ⟨m, hm⟩ : ∃ m, n - j = m + 1 := ⟨n - j - 1, by omega⟩
        have hd := HD.out
        rw [hm, Sp.fstE_succ] at hd
        have x0 : 0 ≤ a + (j : Int) := by have := LI.out; omega
        have hle : a + (j : Int) ≤ b := by have := nb.out; omega
        have x1 : a + (j : Int) ≤ 3000 := by have := LI.out; omega
        have okx := OK.out (a + j) (by omega) hle
        obtain ⟨⟨lo, hi, y⟩, hr⟩ : ∃ r, Sp.valL l (a + j) = r := ⟨_, rfl⟩
        have vq : vQ l (a + j) = (lo, hi) := by unfold vQ; rw [hr]
        have V1 := hid (VA.out (a + j) lo hi y x0 x1 hr wr HB.out)
        rw [hr] at hd okx
        rw [vq] at okx
        simp only at hd okx
        obtain ⟨x, hx⟩ : ∃ x, a + (j : Int) = x := ⟨_, rfl⟩
        rw [hx] at hd x0 x1 hle V1
        have ej : wrap64 (x + 1) = x + 1 := pw64 _ (by omega)
        have HX := hid hx
        have HM := hid hm
        have JN := hid hlt
        have VQ := hid vq
        have A0 := hid (show 0 ≤ a from LI.out.1)
        clear hm hlt hr hx vq
        rw [HX.out]
        by_cases h : y = 0
        · subst h
          have o1 := okx rfl
          have hd2 : Sp.fstE (Sp.valL l) m (x + 1) = E := by simpa using hd
          have HF := hid hd2
          have OX := hid o1
          have rel : ∀ (wx : World) (C' : Bool), (C' = true ↔ UpTo l a (j + 1)) → wx.cell? ⟨w5.heap.size, 0, none⟩ = some (.int .i64 lo) → wx.cell? ⟨w5.heap.size, 1, none⟩ = some (.int .i64 hi) → (∀ o, wx.frozen? ⟨w5.heap.size, o, none⟩ = false) → w5.heap.size < wx.heap.size → Below w.heap.size w wx → RiRel w l a n E w5.heap.size (.int .i64 (x + 1)) (.bool C') wx := by
            intro wx C' h1 h2 h3 h4 h5 h6
            refine ⟨j + 1, C', (lo, hi), i64_eq (by have := HX.out; push_cast; omega), rfl, by have := JN.out; omega, ?_, h1, ?_, ⟨h2, h3, h4⟩, h5, h6⟩
            · have e1 : n - (j + 1) = m := by have := HM.out; omega
              have e2 : a + ((j + 1 : Nat) : Int) = x + 1 := by have := HX.out; omega
              rw [e1, e2]; exact HF.out
            · intro k hk
              obtain rfl : k = j := by omega
              exact ⟨VQ.out.symm, OX.out⟩
          have REL := hid rel
          have ms := hid (show (a + n - intOf (.int .i64 (x + 1))).toNat < (a + n - intOf (.int .i64 x)).toNat by have h1 := vmeas n j a A0.out JN.out; rw [HX.out] at h1; exact h1)
          clear hd hd2 okx rel
          by_cases jz : j = 0
          · have nx : ¬ a < x := by have := HX.out; omega
            have dx : decide (a < x) = false := decide_eq_false nx
            have HCC : Hid (C = true ↔ UpTo l a (j + 1)) := hid (by have h1 := HC.out; subst jz; rw [h1]; simp [upTo_small l a (Nat.zero_le 1), upTo_small l a (Nat.le_refl 1)])
            clear jz o1
            go_wp2_with (go_at_call 32; refine V1.out.mono ?_; rintro _ w7 ⟨rfl, hb⟩; have B7 := hid hb; have k0 : w7.cell? ⟨w5.heap.size, 0, none⟩ = some (.int .i64 q1) := (hb.cell (p := ⟨w5.heap.size, 0, none⟩) HG.out.2.2.2).trans HG.out.1; have k1 : w7.cell? ⟨w5.heap.size, 1, none⟩ = some (.int .i64 q2) := (hb.cell (p := ⟨w5.heap.size, 1, none⟩) HG.out.2.2.2).trans HG.out.2.1; have kf : ∀ o, w7.frozen? ⟨w5.heap.size, o, none⟩ = false := fun o => (hb.frozen (p := ⟨w5.heap.size, o, none⟩) HG.out.2.2.2).trans (HG.out.2.2.1 o); have kz : w5.heap.size < w7.heap.size := Nat.lt_of_lt_of_le HG.out.2.2.2 hb.size; have kn : ¬ w5.heap.size = w7.heap.size := (by omega); clear hb)
            go_roundw
            case rel =>
              have hB := HB.out.trans (B7.out.mono HB.out.size)
              exact REL.out _ _ HCC.out (by simp [go_sem, k0, k1, kn, kz]) (by simp [go_sem, k0, k1, kn, kz]) (fun o => by simp [go_sem, kf, kn, kz]) (by simp; omega) (by have hw := ws.out; repeat' (first | (with_reducible exact Below.refl _ _) | (with_reducible refine Below.alloc ?_ ?_ _) | (with_reducible refine Below.setCell ?_ ?_ _) | (with_reducible refine Below.drew ?_) | (with_reducible refine Below.trans ?_ (Below.mono (by assumption) ?_)) | (simp; done) | (simp; omega) | omega))
            case measure => first | exact ms.out | (rw [ej]; exact ms.out)
          · obtain ⟨k, hk⟩ : ∃ k, j = k + 1 := ⟨j - 1, by omega⟩
            obtain ⟨eq1, oq⟩ := HQ.out k hk
            have nx : a < x := by have := HX.out; omega
            have b1 := Sp.okQ_bounds o1
            have b2 := Sp.okQ_bounds oq
            simp only at b1 b2
            have CP := hid (fun W => rcmp_any lo hi q1 q2 b1.1.1 b1.1.2 b1.2.1 b1.2.2 b2.1.1 b2.1.2 b2.2.1 b2.2.2 W)
            have st : UpTo l a (j + 1) ↔ UpTo l a j ∧ ¬ Sp.cmpF lo hi q1 q2 < 0 := by
              subst hk
              rw [upTo_succ, VQ.out, ← eq1]
              rfl
            obtain ⟨z, hzz⟩ : ∃ z, Sp.cmpF lo hi q1 q2 = z := ⟨_, rfl⟩
            rw [hzz] at CP st
            have ST := hid st
            clear jz o1 hk eq1 oq b1 b2 st hzz
            by_cases zn : z < 0
            · have HCC : Hid (false = true ↔ UpTo l a (j + 1)) := hid (by rw [ST.out]; simp [zn])
              go_wp2_with (first
                | (go_at_call 32; refine V1.out.mono ?_; rintro _ w7 ⟨rfl, hb⟩; have B7 := hid hb; have k0 : w7.cell? ⟨w5.heap.size, 0, none⟩ = some (.int .i64 q1) := (hb.cell (p := ⟨w5.heap.size, 0, none⟩) HG.out.2.2.2).trans HG.out.1; have k1 : w7.cell? ⟨w5.heap.size, 1, none⟩ = some (.int .i64 q2) := (hb.cell (p := ⟨w5.heap.size, 1, none⟩) HG.out.2.2.2).trans HG.out.2.1; have kf : ∀ o, w7.frozen? ⟨w5.heap.size, o, none⟩ = false := fun o => (hb.frozen (p := ⟨w5.heap.size, o, none⟩) HG.out.2.2.2).trans (HG.out.2.2.1 o); have kz : w5.heap.size < w7.heap.size := Nat.lt_of_lt_of_le HG.out.2.2.2 hb.size; have kn : ¬ w5.heap.size = w7.heap.size := (by omega); clear hb)
                | (go_at_call 40; refine (CP.out _).mono ?_; rintro _ w8 ⟨rfl, hb⟩; have B8 := hid (show Below w7.heap.size w7 w8 from bthen (balloc w7 _) hb); have l0 : w8.cell? ⟨w5.heap.size, 0, none⟩ = some (.int .i64 q1) := (B8.out.cell (p := ⟨w5.heap.size, 0, none⟩) kz).trans k0; have l1 : w8.cell? ⟨w5.heap.size, 1, none⟩ = some (.int .i64 q2) := (B8.out.cell (p := ⟨w5.heap.size, 1, none⟩) kz).trans k1; have lf : ∀ o, w8.frozen? ⟨w5.heap.size, o, none⟩ = false := fun o => (B8.out.frozen (p := ⟨w5.heap.size, o, none⟩) kz).trans (kf o); have l2 : w8.cell? ⟨w7.heap.size, 0, none⟩ = some (.int .i64 lo) := (hb.cell (p := ⟨w7.heap.size, 0, none⟩) (by simp)).trans (by simp [go_sem]); have l3 : w8.cell? ⟨w7.heap.size, 1, none⟩ = some (.int .i64 hi) := (hb.cell (p := ⟨w7.heap.size, 1, none⟩) (by simp)).trans (by simp [go_sem]); have lz : w5.heap.size < w8.heap.size := Nat.lt_of_lt_of_le kz B8.out.size; clear hb))
              go_roundw
              case rel =>
                have hB := HB.out.trans ((B7.out.trans (B8.out.mono B7.out.size)).mono HB.out.size)
                exact REL.out _ _ HCC.out (by simp [go_sem, l0, l1]) (by simp [go_sem, l0, l1]) (fun o => by simp [go_sem, lf]) (by simpa using lz) (by have hw := ws.out; repeat' (first | (with_reducible exact Below.refl _ _) | (with_reducible refine Below.alloc ?_ ?_ _) | (with_reducible refine Below.setCell ?_ ?_ _) | (with_reducible refine Below.drew ?_) | (with_reducible refine Below.trans ?_ (Below.mono (by assumption) ?_)) | (simp; done) | (simp; omega) | omega))
              case measure => first | exact ms.out | (rw [ej]; exact ms.out)
            · have dn : decide (z < 0) = false := decide_eq_false zn
              have HCC : Hid (C = true ↔ UpTo l a (j + 1)) := hid (by rw [ST.out, ← HC.out]; simp [zn])
              go_wp2_with (first
                | (go_at_call 32; refine V1.out.mono ?_; rintro _ w7 ⟨rfl, hb⟩; have B7 := hid hb; have k0 : w7.cell? ⟨w5.heap.size, 0, none⟩ = some (.int .i64 q1) := (hb.cell (p := ⟨w5.heap.size, 0, none⟩) HG.out.2.2.2).trans HG.out.1; have k1 : w7.cell? ⟨w5.heap.size, 1, none⟩ = some (.int .i64 q2) := (hb.cell (p := ⟨w5.heap.size, 1, none⟩) HG.out.2.2.2).trans HG.out.2.1; have kf : ∀ o, w7.frozen? ⟨w5.heap.size, o, none⟩ = false := fun o => (hb.frozen (p := ⟨w5.heap.size, o, none⟩) HG.out.2.2.2).trans (HG.out.2.2.1 o); have kz : w5.heap.size < w7.heap.size := Nat.lt_of_lt_of_le HG.out.2.2.2 hb.size; have kn : ¬ w5.heap.size = w7.heap.size := (by omega); clear hb)
                | (go_at_call 40; refine (CP.out _).mono ?_; rintro _ w8 ⟨rfl, hb⟩; have B8 := hid (show Below w7.heap.size w7 w8 from bthen (balloc w7 _) hb); have l0 : w8.cell? ⟨w5.heap.size, 0, none⟩ = some (.int .i64 q1) := (B8.out.cell (p := ⟨w5.heap.size, 0, none⟩) kz).trans k0; have l1 : w8.cell? ⟨w5.heap.size, 1, none⟩ = some (.int .i64 q2) := (B8.out.cell (p := ⟨w5.heap.size, 1, none⟩) kz).trans k1; have lf : ∀ o, w8.frozen? ⟨w5.heap.size, o, none⟩ = false := fun o => (B8.out.frozen (p := ⟨w5.heap.size, o, none⟩) kz).trans (kf o); have l2 : w8.cell? ⟨w7.heap.size, 0, none⟩ = some (.int .i64 lo) := (hb.cell (p := ⟨w7.heap.size, 0, none⟩) (by simp)).trans (by simp [go_sem]); have l3 : w8.cell? ⟨w7.heap.size, 1, none⟩ = some (.int .i64 hi) := (hb.cell (p := ⟨w7.heap.size, 1, none⟩) (by simp)).trans (by simp [go_sem]); have lz : w5.heap.size < w8.heap.size := Nat.lt_of_lt_of_le kz B8.out.size; clear hb))
              go_roundw
              case rel =>
                have hB := HB.out.trans ((B7.out.trans (B8.out.mono B7.out.size)).mono HB.out.size)
                exact REL.out _ _ HCC.out (by simp [go_sem, l0, l1]) (by simp [go_sem, l0, l1]) (fun o => by simp [go_sem, lf]) (by simpa using lz) (by have hw := ws.out; repeat' (first | (with_reducible exact Below.refl _ _) | (with_reducible refine Below.alloc ?_ ?_ _) | (with_reducible refine Below.setCell ?_ ?_ _) | (with_reducible refine Below.drew ?_) | (with_reducible refine Below.trans ?_ (Below.mono (by assumption) ?_)) | (simp; done) | (simp; omega) | omega))
              case measure => first | exact ms.out | (rw [ej]; exact ms.out)
        · have hn : (y == 0) = false := by simpa using h
          rw [if_pos h] at hd
          subst hd
          have bf := HB0.out h
          subst bf
          go_wp2_with (go_at_call 32; refine V1.out.mono ?_; rintro _ w7 ⟨rfl, hb⟩; have B7 := hid hb; clear hb)
          refine bodyPost_ret (v := .tuple #[.bool false, .int .i64 y]) (by simp [results, Try.results21, go_sem]) rfl ?_
          exact Gives.mk rfl (bthen HB.out (bthen B7.out (balloc _ _)))
      · have i1 : ¬ a + (j : Int) ≤ b := by have := nb.out; omega
        obtain rfl : j = n := by omega
        have hd := HD.out
        rw [Nat.sub_self] at hd
        have z0 : 0 = E := hd
        subst z0
        have cb : C = B := by
          have h1 := HB1.out rfl
          have h2 := HC.out
          cases C <;> cases B <;> simp_all
        subst cb
        clear hd
        go_wp2_with fail
        refine bodyPost_ret (v := .tuple #[.bool C, .int .i64 0]) (by simp [results, Try.results21, go_sem]) rfl ?_
        exact Gives.mk rfl HB.out
  · have DO := hid (rdomain_any A cap l _ _ _ w hz hT (dom_bad hc))
    obtain ⟨hE, hB0, -⟩ := hv
    have e : Sp.valsE l (Sp.least l) (Sp.great l) = Sp.pcheck l := by unfold Sp.valsE; rw [if_pos hc]
    rw [e] at hE
    rw [← hE] at hc DO
    have bf := hB0 hc
    subst bf
    have hn : (E == 0) = false := by simpa using hc
    clear hz hT hE hB0 e hc
    go_enter Try.func21, Try.ntmps21
    go_wp2_with fail
    refine DO.out.mono ?_
    rintro _ w5 ⟨rfl, hb⟩
    have B5 := hid hb
    clear hb
    go_wp2_with fail
    refine bodyPost_ret (v := .tuple #[.bool false, .int .i64 E]) (by simp [results, Try.results21, go_sem]) rfl ?_
    exact Gives.mk rfl B5.out
end Go.Proofs.Ytcbecfimikpljaa
