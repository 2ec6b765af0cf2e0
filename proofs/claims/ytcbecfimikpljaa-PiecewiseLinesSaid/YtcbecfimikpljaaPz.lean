/-
  Layer 12: cmp.Or, Continuous of package piecewise, by contract.
-/
import Derived.Test.YtcbecfimikpljaaPw
import Derived.Test.YtcbecfimikpljaaPb
import Derived.IntWalk
import Derived.Deep.Cut
import Derived.Deep.DeepCutAuto
namespace Go.Proofs.Ytcbecfimikpljaa
open Go.RowKit
set_option linter.unusedVariables false
set_option linter.unusedSimpArgs false

def OrRel (w : World) (e : Int) (t : Value) (wr : World) : Prop := ∃ j : Nat, t = .int .i64 (j : Int) ∧ j ≤ 2 ∧ (0 < j → e = 0) ∧ wr = w
set_option maxRecDepth 100000 in
set_option maxHeartbeats 1000000 in
theorem or_two (g : Nat) (e f : Int) (w : World) (lt : g < w.heap.size) (c0 : w.cell? ⟨g, 0, none⟩ = some (.int .i64 e)) (c1 : w.cell? ⟨g, 1, none⟩ = some (.int .i64 f)) :
    Calls Try.prog 36 #[.slice (some ⟨g, 0, none⟩) 2 2] w (Gives (.int .i64 (if e ≠ 0 then e else f)) w) := by
  obtain ⟨R, hR⟩ : ∃ R, (if e ≠ 0 then e else f) = R := ⟨_, rfl⟩
  rw [hR]
  have HR := hid hR
  clear hR
  go_enter Try.func36, Try.ntmps36
  go_wp2_with fail
  by_cases z : e = 0
  · have hr := HR.out
    rw [if_neg (fun h => h z)] at hr
    subst z
    subst hr
    by_cases z2 : f = 0
    · subst z2
      go_loopw [8] (fun t wr => (t = .int .i64 0 ∨ t = .int .i64 1 ∨ t = .int .i64 2) ∧ wr = w) (fun t _ => 2 - (intOf t).toNat)
      case atStart => exact ⟨.inl rfl, rfl⟩
      case round =>
        obtain ⟨h, rfl⟩ := hrel
        rcases h with rfl | rfl | rfl
        · go_wp2_with fail
          go_roundw
          case rel => first | (simp; done) | (simp [wrap64]; done) | trivial
          case measure => simp [intOf]
        · go_wp2_with fail
          go_roundw
          case rel => first | (simp; done) | (simp [wrap64]; done) | trivial
          case measure => simp [intOf]
        · go_wp2_with fail
          go_ret
          exact Gives.mk rfl (Below.refl _ _)
    · have hn : (f == 0) = false := by simpa using z2
      go_loopw [8] (fun t wr => (t = .int .i64 0 ∨ t = .int .i64 1) ∧ wr = w) (fun t _ => 2 - (intOf t).toNat)
      case atStart => exact ⟨.inl rfl, rfl⟩
      case round =>
        obtain ⟨h, rfl⟩ := hrel
        rcases h with rfl | rfl
        · go_wp2_with fail
          go_roundw
          case rel => first | (simp; done) | (simp [wrap64]; done) | trivial
          case measure => simp [intOf]
        · go_wp2_with fail
          go_ret
          exact Gives.mk rfl (Below.refl _ _)
  · have hr := HR.out
    rw [if_pos z] at hr
    subst hr
    have hn : (e == 0) = false := by simpa using z
    go_loopw [8] (fun t wr => t = .int .i64 0 ∧ wr = w) (fun t _ => 2 - (intOf t).toNat)
    case atStart => exact ⟨rfl, rfl⟩
    case round =>
      obtain ⟨rfl, rfl⟩ := hrel
      go_wp2_with fail
      go_ret
      exact Gives.mk rfl (Below.refl _ _)

def CtRel (w : World) (l : List Sp.Pd) (R : Bool × Int) (t u : Value) (wr : World) : Prop := ∃ (j : Nat) (B : Bool), t = .int .i64 (j : Int) ∧ u = .bool B ∧ j + 1 ≤ l.length ∧ Sp.contF (l.drop j) B = R ∧ Below w.heap.size w wr
def CuRel (wr : World) (f2 t2 : Int) (A2 : Option Addr) (n2 k2 : Nat) (a1 a2 e1 : Int) (v v' : Value) (wx : World) : Prop :=
  ∃ g : Nat, v = .pointer (some ⟨g, 0, none⟩) ∧ v' = .int .i64 e1 ∧ (wr.heap.size < g ∧ g < wx.heap.size) ∧ (wx.cell? ⟨g, 0, none⟩ = some (.int .i64 a1) ∧ wx.cell? ⟨g, 1, none⟩ = some (.int .i64 a2)) ∧
    (wx.cell? ⟨wr.heap.size, 0, none⟩ = some (.int .i64 f2) ∧ wx.cell? ⟨wr.heap.size, 1, none⟩ = some (.int .i64 t2) ∧ wx.cell? ⟨wr.heap.size, 2, none⟩ = some (.slice A2 n2 k2)) ∧ Below wr.heap.size wr wx
set_option maxRecDepth 100000 in
set_option maxHeartbeats 4000000 in
theorem cont_good (A : Option Addr) (cap : Nat) (l : List Sp.Pd) (B : Bool) (E : Int) (w : World) (hcap : l.length ≤ cap) (hz : PcSized l) (hT : Pcs w A l) (hc : Sp.pcheck l = 0) (hv : Sp.contF l true = (B, E)) :
    Calls Try.prog 18 #[.slice A l.length cap] w (Gives (.tuple #[.bool B, .int .i64 E]) w) := by
  have CK := hid (pcheck_any A cap l w hz hT)
  rw [hc] at CK
  have gd := Sp.pcheck_good hc
  have HT := hid hT
  have GD := hid gd
  have HV := hid hv
  obtain ⟨b, off, hA, -, -, -, -⟩ := hT.at_ (Below.refl _ _) gd.1
  subst hA
  obtain ⟨n, hn⟩ : ∃ n : Nat, l.length = n := ⟨_, rfl⟩
  have n1 : 1 ≤ n := by omega
  have n8 : n ≤ 8 := by omega
  have LE := hid hn
  rw [hn] at hcap ⊢
  rw [hn] at CK
  clear hz hT hc gd hv hn
  by_cases nn : n = 1
  · have h := HV.out
    obtain ⟨p, hp⟩ : ∃ p, l = [p] := List.length_eq_one_iff.mp (by rw [LE.out]; exact nn)
    have e3 : true = B ∧ 0 = E := by rw [hp] at h; simpa [Sp.contF] using h
    obtain ⟨rfl, rfl⟩ := e3
    have im := hid (show n - 1 = 0 by omega)
    clear h hp nn
    go_enter Try.func18, Try.ntmps18
    go_wp2_with fail
    refine CK.out.mono ?_
    rintro _ w5 ⟨rfl, hb⟩
    have HB0 := hid hb
    clear hb
    go_wp2_with fail
    all_goals
      go_loopw [21, 5] (fun t u wr => t = .int .i64 0 ∧ u = .bool true ∧ wr = w5) (fun t _ _ => 0)
      case atStart => exact ⟨rfl, rfl, rfl⟩
      case round =>
        obtain ⟨rfl, rfl, rfl⟩ := hrel
        have i1 : ¬ (0 : Int) < ((n - 1 : Nat) : Int) := by have := im.out; omega
        go_wp2_with fail
        refine bodyPost_ret (v := .tuple #[.bool true, .int .i64 0]) (by simp [results, Try.results18, go_sem]) rfl ?_
        exact Gives.mk rfl HB0.out
  · have c1 : ¬ cap = 1 := by omega
    obtain ⟨m, hm⟩ : ∃ m, n - 1 = m := ⟨_, rfl⟩
    have HM := hid hm
    have ms := hid (show n = m + 1 by omega)
    have m7 : m ≤ 7 := by omega
    have MN := hid (show m < n by omega)
    clear hm nn
    go_enter Try.func18, Try.ntmps18
    go_wp2_with fail
    refine CK.out.mono ?_
    rintro _ w5 ⟨rfl, hb⟩
    have HB0 := hid hb
    clear hb
    go_wp2_with fail
    rw [HM.out]
    clear c1
    go_loopw [21, 5] (fun t u wr => CtRel w l (B, E) t u wr) (fun t _ _ => m - (intOf t).toNat)
    case atStart => exact ⟨0, true, rfl, rfl, by have := LE.out; have := ms.out; omega, by simpa using HV.out, HB0.out⟩
    case round =>
      obtain ⟨j, C, rfl, rfl, hj, hd, hB⟩ := hrel
      have HD := hid hd
      have HB := hid hB
      clear hd hB
      by_cases hlt : j < m
      · have jl : j + 1 < l.length := by have := LE.out; have := ms.out; omega
        have jl0 : j < l.length := by omega
        have hd := HD.out
        rw [List.drop_eq_getElem_cons jl0, List.drop_eq_getElem_cons jl, Sp.contF_step] at hd
        obtain ⟨b', off', e, bl, p0, p1, p2⟩ := HT.out.at_ HB.out jl0
        obtain ⟨rfl, rfl⟩ : b = b' ∧ off = off' := by simpa using e
        obtain ⟨b', off', e, bl', q0, q1, q2⟩ := HT.out.at_ HB.out jl
        obtain ⟨rfl, rfl⟩ : b = b' ∧ off = off' := by simpa using e
        have gp := GD.out.2.2.1 _ (List.getElem_mem jl0)
        have gq := GD.out.2.2.1 _ (List.getElem_mem jl)
        have fp := (HT.out.below HB.out).2 _ (List.getElem_mem jl0)
        have fq := (HT.out.below HB.out).2 _ (List.getElem_mem jl)
        rw [← List.drop_eq_getElem_cons jl] at hd
        generalize l[j]'jl0 = P at p0 p1 p2 gp fp hd
        generalize l[j + 1]'jl = Q at q0 q1 q2 gq fq hd
        have x0 := gq.f0
        have x1 : Q.f ≤ 3000 := by have h1 := gq.ft; have h2 := gq.t1; omega
        obtain ⟨f1, t1, A1, k1, c1⟩ := P
        obtain ⟨f2, t2, A2, k2, c2⟩ := Q
        simp only at p0 p1 p2 q0 q1 q2 fp fq x0 x1
        have h1 := gp.n4
        have h2 := gq.n4
        simp only at h1 h2
        have oa : off + (j + 1) * 3 = off + 3 + j * 3 := by omega
        rw [oa] at q0 q1 q2
        obtain ⟨⟨a1, a2, e1⟩, hr1⟩ : ∃ r, Sp.hornF f2 c1.reverse (0, 1) = r := ⟨_, rfl⟩
        obtain ⟨⟨b1, b2, e2⟩, hr2⟩ : ∃ r, Sp.hornF f2 c2.reverse (0, 1) = r := ⟨_, rfl⟩
        have V1 := hid (fun (W : World) (h : Below wr.heap.size wr W) => value_any f1 t1 A1 k1 c1 f2 a1 a2 e1 W x0 x1 (by omega) (Sp.good_ok gp) (fp.below h) hr1)
        have V2 := hid (fun (W : World) (h : Below wr.heap.size wr W) => value_any f2 t2 A2 k2 c2 f2 b1 b2 e2 W x0 x1 (by omega) (Sp.good_ok gq) (fq.below h) hr2)
        have jE : Sp.joinE ⟨f1, t1, A1, k1, c1⟩ ⟨f2, t2, A2, k2, c2⟩ = if e1 ≠ 0 then e1 else e2 := by unfold Sp.joinE Sp.valP; simp only [hr1, hr2]
        have jB : Sp.joinB ⟨f1, t1, A1, k1, c1⟩ ⟨f2, t2, A2, k2, c2⟩ = (decide (a1 = b1) && decide (a2 = b2)) := by unfold Sp.joinB Sp.valP; simp only [hr1, hr2]
        rw [jE, jB] at hd
        obtain ⟨R, hR⟩ : ∃ R, (if e1 ≠ 0 then e1 else e2) = R := ⟨_, rfl⟩
        have OR := hid (fun g W lt d0 d1 => hR ▸ or_two g e1 e2 W lt d0 d1)
        rw [hR] at hd
        have HD2 := hid hd
        have ej : wrap64 ((j : Int) + 1) = (j : Int) + 1 := pw64 _ (by omega)
        have i0 : (0 : Int) ≤ (j : Int) := Int.natCast_nonneg j
        have i1 : (j : Int) < (m : Int) := Int.ofNat_lt.mpr hlt
        have i2 : (j : Int) < (n : Int) := Int.ofNat_lt.mpr (Nat.lt_trans hlt MN.out)
        have bw : b < wr.heap.size := Nat.lt_of_lt_of_le bl HB.out.size
        have HJ := hid hlt
        clear hd jE jB hR hr1 hr2 gp gq fp fq h1 h2 oa e bl bl' jl jl0 hlt hj x0 x1
        go_upto_region 8 with fail
        obtain ⟨U, hU⟩ : ∃ U, wr.alloc (Obj.cells #[.int .i64 (f2), .int .i64 (t2), .slice (A2) (c2.length) (k2)] 49) = U := ⟨_, rfl⟩
        have zU : U.heap.size = wr.heap.size + 1 := by rw [← hU]; simp
        have kU : Below wr.heap.size wr U := by rw [← hU]; exact (Below.refl _ _).alloc (Nat.le_refl _) _
        have u0 : U.cell? ⟨wr.heap.size, 0, none⟩ = some (.int .i64 f2) := by rw [← hU]; simp [go_sem]
        have u1 : U.cell? ⟨wr.heap.size, 1, none⟩ = some (.int .i64 t2) := by rw [← hU]; simp [go_sem]
        have u2 : U.cell? ⟨wr.heap.size, 2, none⟩ = some (.slice A2 c2.length k2) := by rw [← hU]; simp [go_sem]
        have r0 : U.cell? ⟨b, off + j * 3, none⟩ = some (.int .i64 f1) := (kU.cell (p := ⟨b, off + j * 3, none⟩) bw).trans p0
        have r1 : U.cell? ⟨b, off + j * 3 + 1, none⟩ = some (.int .i64 t1) := (kU.cell (p := ⟨b, off + j * 3 + 1, none⟩) bw).trans p1
        have r2 : U.cell? ⟨b, off + j * 3 + 2, none⟩ = some (.slice A1 c1.length k1) := (kU.cell (p := ⟨b, off + j * 3 + 2, none⟩) bw).trans p2
        have KU := hid kU
        have ZU := hid zU
        have U7 := hid (fun (W : World) (h : Below U.heap.size U W) => (⟨kU.trans (h.mono kU.size), (h.cell (p := ⟨wr.heap.size, 0, none⟩) (by simp only; omega)).trans u0, (h.cell (p := ⟨wr.heap.size, 1, none⟩) (by simp only; omega)).trans u1, (h.cell (p := ⟨wr.heap.size, 2, none⟩) (by simp only; omega)).trans u2, by have := h.size; omega⟩ : Below wr.heap.size wr W ∧ W.cell? ⟨wr.heap.size, 0, none⟩ = some (.int .i64 f2) ∧ W.cell? ⟨wr.heap.size, 1, none⟩ = some (.int .i64 t2) ∧ W.cell? ⟨wr.heap.size, 2, none⟩ = some (.slice A2 c2.length k2) ∧ wr.heap.size < W.heap.size))
        rw [hU]
        have zz : wr.heap.size ≤ U.heap.size := by omega
        clear hU p0 p1 p2 q0 q1 q2 kU zU
        have zu : wr.heap.size < U.heap.size := by have := ZU.out; omega
        have zb : b < U.heap.size := Nat.lt_trans bw zu
        have zn : ¬ b = U.heap.size := by omega
        have zm : ¬ wr.heap.size = U.heap.size := by omega
        go_cut [8, 9] (fun v v' wx => CuRel wr f2 t2 A2 c2.length k2 a1 a2 e1 v v' wx)
        case first =>
          go_region_with (go_at_call 35; refine (V1.out _ (by have hk := KU.out; repeat' (first | (with_reducible exact Below.refl _ _) | (with_reducible refine Below.alloc ?_ ?_ _) | (with_reducible refine Below.setCell ?_ ?_ _) | (with_reducible refine Below.drew ?_) | (with_reducible refine Below.trans ?_ (Below.mono (by assumption) ?_)) | (simp; done) | (simp; omega) | omega))).mono ?_; rintro _ w6 ⟨rfl, hb⟩; have hb6 : Below U.heap.size U w6 := (by repeat' (first | (with_reducible exact Below.refl _ _) | (with_reducible refine Below.alloc ?_ ?_ _) | (with_reducible refine Below.setCell ?_ ?_ _) | (with_reducible refine Below.drew ?_) | (with_reducible refine below_dn ?_ _) | (with_reducible refine Below.trans ?_ (Below.mono (by assumption) ?_)) | (simp; done) | (simp; omega) | omega)); obtain ⟨k6, s0, s1, s2, s3⟩ := U7.out _ hb6; have sz6 : U.heap.size ≤ w6.heap.size := hb6.size; (first | (have g0 : w6.cell? ⟨U.heap.size, 0, none⟩ = some (.int .i64 0) := (hb.cell (p := ⟨U.heap.size, 0, none⟩) (by simp)).trans (by simp [go_sem]); have g1 : w6.cell? ⟨U.heap.size, 1, none⟩ = some (.int .i64 0) := (hb.cell (p := ⟨U.heap.size, 1, none⟩) (by simp)).trans (by simp [go_sem]); have gf : ∀ o, w6.frozen? ⟨U.heap.size, o, none⟩ = false := fun o => (hb.frozen (p := ⟨U.heap.size, o, none⟩) (by simp)).trans (by simp [go_sem]); have gz : U.heap.size < w6.heap.size := (by have := hb.size; simp at this; omega)) | skip); clear hb)
          all_goals
            go_wp2_with fail
            go_meet
            have h6 : wr.heap.size < w6.heap.size := s3
            have n6 : ¬ wr.heap.size = w6.heap.size := by omega
            first
              | (exact ⟨w6.heap.size, rfl, rfl, ⟨s3, by simp⟩, ⟨by simp [go_sem], by simp [go_sem]⟩, ⟨by simp [go_sem, s0, n6, h6], by simp [go_sem, s1, n6, h6], by simp [go_sem, s2, n6, h6]⟩, k6.trans ((Below.refl _ _).alloc (Nat.le_of_lt s3) _)⟩)
              | (exact ⟨U.heap.size, rfl, rfl, ⟨zu, by simpa using gz⟩, ⟨by simp [go_sem, g0, g1], by simp [go_sem, g0, g1]⟩, ⟨by simp [go_sem, s0, zm], by simp [go_sem, s1, zm], by simp [go_sem, s2, zm]⟩, (k6.setCell (p := ⟨U.heap.size, 0, none⟩) (Nat.le_of_lt zu) _).setCell (p := ⟨U.heap.size, 1, none⟩) (Nat.le_of_lt zu) _⟩)
        case rest =>
          obtain ⟨g, rfl, rfl, ⟨hg0, hg1⟩, ⟨d0, d1⟩, ⟨s0, s1, s2⟩, hk⟩ := hcut
          have HK := hid hk
          have hz := hk.size
          have hzz := hid hz
          have HG := hid hg0
          have lt7 : wr.heap.size < wc.heap.size := Nat.lt_trans hg0 hg1
          clear u0 u1 u2 r0 r1 r2 bw zu zb zn zm zz hk hz hg0
          have hd := HD2.out
          by_cases z : R = 0
          · subst z
            rw [if_neg (fun h => h rfl)] at hd
            cases C with
            | false =>
              have HF := hid hd
              clear hd
              go_wp2_with (first
                | (go_at_call 35; refine (V2.out _ HK.out).mono ?_; rintro _ w7 ⟨rfl, hb⟩; have m0 : w7.cell? ⟨g, 0, none⟩ = some (.int .i64 a1) := (hb.cell (p := ⟨g, 0, none⟩) hg1).trans d0; have m1 : w7.cell? ⟨g, 1, none⟩ = some (.int .i64 a2) := (hb.cell (p := ⟨g, 1, none⟩) hg1).trans d1; have gl7 : g < w7.heap.size := Nat.lt_of_lt_of_le hg1 hb.size; have gn7 : ¬ g = w7.heap.size := (by omega); have HB7 := hid hb; clear hb)
                | (go_at_call 36; refine (OR.out _ _ (by first | assumption | (simp; done) | (simp; omega) | (dsimp only; omega) | omega) (by first | assumption | (simp [go_sem]; done)) (by first | assumption | (simp [go_sem]; done))).mono ?_; rintro _ w8 ⟨rfl, hb⟩; have l0 : w8.cell? ⟨g, 0, none⟩ = some (.int .i64 a1) := (hb.cell (p := ⟨g, 0, none⟩) (by simp only [World.size_alloc]; omega)).trans (by simp [go_sem, m0, gl7, gn7]); have l1 : w8.cell? ⟨g, 1, none⟩ = some (.int .i64 a2) := (hb.cell (p := ⟨g, 1, none⟩) (by simp only [World.size_alloc]; omega)).trans (by simp [go_sem, m1, gl7, gn7]); have l2 : w8.cell? ⟨w7.heap.size, 0, none⟩ = some (.int .i64 b1) := (hb.cell (p := ⟨w7.heap.size, 0, none⟩) (by simp only [World.size_alloc]; omega)).trans (by simp [go_sem]); have l3 : w8.cell? ⟨w7.heap.size, 1, none⟩ = some (.int .i64 b2) := (hb.cell (p := ⟨w7.heap.size, 1, none⟩) (by simp only [World.size_alloc]; omega)).trans (by simp [go_sem]); have HB8 := hid (show Below w7.heap.size w7 w8 from (by repeat' (first | (with_reducible exact Below.refl _ _) | (with_reducible refine Below.alloc ?_ ?_ _) | (with_reducible refine Below.setCell ?_ ?_ _) | (with_reducible refine Below.drew ?_) | (with_reducible refine Below.trans ?_ (Below.mono (by assumption) ?_)) | (simp; done) | (simp; omega) | omega))); clear hb))
              go_roundw
              case rel =>
                have hB := HB.out.trans ((HK.out.trans ((HB7.out.trans (HB8.out.mono HB7.out.size)).mono hzz.out)).mono HB.out.size)
                exact ⟨j + 1, _, by go_num, rfl, by have := LE.out; have := ms.out; have := HJ.out; omega, by have h := HF.out; simpa using h, hB⟩
              case measure => first | exact pmeas _ _ HJ.out | (rw [ej]; exact pmeas _ _ HJ.out)
            | true =>
              by_cases h1 : a1 = b1
              · subst h1
                by_cases h2 : a2 = b2
                · subst h2
                  have HF := hid hd
                  clear hd
                  go_wp2_with (first
                    | (go_at_call 35; refine (V2.out _ HK.out).mono ?_; rintro _ w7 ⟨rfl, hb⟩; have m0 : w7.cell? ⟨g, 0, none⟩ = some (.int .i64 a1) := (hb.cell (p := ⟨g, 0, none⟩) hg1).trans d0; have m1 : w7.cell? ⟨g, 1, none⟩ = some (.int .i64 a2) := (hb.cell (p := ⟨g, 1, none⟩) hg1).trans d1; have gl7 : g < w7.heap.size := Nat.lt_of_lt_of_le hg1 hb.size; have gn7 : ¬ g = w7.heap.size := (by omega); have HB7 := hid hb; clear hb)
                    | (go_at_call 36; refine (OR.out _ _ (by first | assumption | (simp; done) | (simp; omega) | (dsimp only; omega) | omega) (by first | assumption | (simp [go_sem]; done)) (by first | assumption | (simp [go_sem]; done))).mono ?_; rintro _ w8 ⟨rfl, hb⟩; have l0 : w8.cell? ⟨g, 0, none⟩ = some (.int .i64 a1) := (hb.cell (p := ⟨g, 0, none⟩) (by simp only [World.size_alloc]; omega)).trans (by simp [go_sem, m0, gl7, gn7]); have l1 : w8.cell? ⟨g, 1, none⟩ = some (.int .i64 a2) := (hb.cell (p := ⟨g, 1, none⟩) (by simp only [World.size_alloc]; omega)).trans (by simp [go_sem, m1, gl7, gn7]); have l2 : w8.cell? ⟨w7.heap.size, 0, none⟩ = some (.int .i64 a1) := (hb.cell (p := ⟨w7.heap.size, 0, none⟩) (by simp only [World.size_alloc]; omega)).trans (by simp [go_sem]); have l3 : w8.cell? ⟨w7.heap.size, 1, none⟩ = some (.int .i64 a2) := (hb.cell (p := ⟨w7.heap.size, 1, none⟩) (by simp only [World.size_alloc]; omega)).trans (by simp [go_sem]); have HB8 := hid (show Below w7.heap.size w7 w8 from (by repeat' (first | (with_reducible exact Below.refl _ _) | (with_reducible refine Below.alloc ?_ ?_ _) | (with_reducible refine Below.setCell ?_ ?_ _) | (with_reducible refine Below.drew ?_) | (with_reducible refine Below.trans ?_ (Below.mono (by assumption) ?_)) | (simp; done) | (simp; omega) | omega))); clear hb))
                  go_roundw
                  case rel =>
                    have hB := HB.out.trans ((HK.out.trans ((HB7.out.trans (HB8.out.mono HB7.out.size)).mono hzz.out)).mono HB.out.size)
                    exact ⟨j + 1, _, by go_num, rfl, by have := LE.out; have := ms.out; have := HJ.out; omega, by have h := HF.out; simpa using h, hB⟩
                  case measure => first | exact pmeas _ _ HJ.out | (rw [ej]; exact pmeas _ _ HJ.out)
                · have HF := hid (show Sp.contF (List.drop (j + 1) l) false = (B, E) by simpa [h2] using hd)
                  clear hd
                  go_wp2_with (first
                    | (go_at_call 35; refine (V2.out _ HK.out).mono ?_; rintro _ w7 ⟨rfl, hb⟩; have m0 : w7.cell? ⟨g, 0, none⟩ = some (.int .i64 a1) := (hb.cell (p := ⟨g, 0, none⟩) hg1).trans d0; have m1 : w7.cell? ⟨g, 1, none⟩ = some (.int .i64 a2) := (hb.cell (p := ⟨g, 1, none⟩) hg1).trans d1; have gl7 : g < w7.heap.size := Nat.lt_of_lt_of_le hg1 hb.size; have gn7 : ¬ g = w7.heap.size := (by omega); have HB7 := hid hb; clear hb)
                    | (go_at_call 36; refine (OR.out _ _ (by first | assumption | (simp; done) | (simp; omega) | (dsimp only; omega) | omega) (by first | assumption | (simp [go_sem]; done)) (by first | assumption | (simp [go_sem]; done))).mono ?_; rintro _ w8 ⟨rfl, hb⟩; have l0 : w8.cell? ⟨g, 0, none⟩ = some (.int .i64 a1) := (hb.cell (p := ⟨g, 0, none⟩) (by simp only [World.size_alloc]; omega)).trans (by simp [go_sem, m0, gl7, gn7]); have l1 : w8.cell? ⟨g, 1, none⟩ = some (.int .i64 a2) := (hb.cell (p := ⟨g, 1, none⟩) (by simp only [World.size_alloc]; omega)).trans (by simp [go_sem, m1, gl7, gn7]); have l2 : w8.cell? ⟨w7.heap.size, 0, none⟩ = some (.int .i64 a1) := (hb.cell (p := ⟨w7.heap.size, 0, none⟩) (by simp only [World.size_alloc]; omega)).trans (by simp [go_sem]); have l3 : w8.cell? ⟨w7.heap.size, 1, none⟩ = some (.int .i64 b2) := (hb.cell (p := ⟨w7.heap.size, 1, none⟩) (by simp only [World.size_alloc]; omega)).trans (by simp [go_sem]); have HB8 := hid (show Below w7.heap.size w7 w8 from (by repeat' (first | (with_reducible exact Below.refl _ _) | (with_reducible refine Below.alloc ?_ ?_ _) | (with_reducible refine Below.setCell ?_ ?_ _) | (with_reducible refine Below.drew ?_) | (with_reducible refine Below.trans ?_ (Below.mono (by assumption) ?_)) | (simp; done) | (simp; omega) | omega))); clear hb))
                  go_roundw
                  case rel =>
                    have hB := HB.out.trans ((HK.out.trans ((HB7.out.trans (HB8.out.mono HB7.out.size)).mono hzz.out)).mono HB.out.size)
                    exact ⟨j + 1, _, by go_num, rfl, by have := LE.out; have := ms.out; have := HJ.out; omega, by have h := HF.out; simpa using h, hB⟩
                  case measure => first | exact pmeas _ _ HJ.out | (rw [ej]; exact pmeas _ _ HJ.out)
              · have HF := hid (show Sp.contF (List.drop (j + 1) l) false = (B, E) by simpa [h1] using hd)
                clear hd
                go_wp2_with (first
                  | (go_at_call 35; refine (V2.out _ HK.out).mono ?_; rintro _ w7 ⟨rfl, hb⟩; have m0 : w7.cell? ⟨g, 0, none⟩ = some (.int .i64 a1) := (hb.cell (p := ⟨g, 0, none⟩) hg1).trans d0; have m1 : w7.cell? ⟨g, 1, none⟩ = some (.int .i64 a2) := (hb.cell (p := ⟨g, 1, none⟩) hg1).trans d1; have gl7 : g < w7.heap.size := Nat.lt_of_lt_of_le hg1 hb.size; have gn7 : ¬ g = w7.heap.size := (by omega); have HB7 := hid hb; clear hb)
                  | (go_at_call 36; refine (OR.out _ _ (by first | assumption | (simp; done) | (simp; omega) | (dsimp only; omega) | omega) (by first | assumption | (simp [go_sem]; done)) (by first | assumption | (simp [go_sem]; done))).mono ?_; rintro _ w8 ⟨rfl, hb⟩; have l0 : w8.cell? ⟨g, 0, none⟩ = some (.int .i64 a1) := (hb.cell (p := ⟨g, 0, none⟩) (by simp only [World.size_alloc]; omega)).trans (by simp [go_sem, m0, gl7, gn7]); have l1 : w8.cell? ⟨g, 1, none⟩ = some (.int .i64 a2) := (hb.cell (p := ⟨g, 1, none⟩) (by simp only [World.size_alloc]; omega)).trans (by simp [go_sem, m1, gl7, gn7]); have l2 : w8.cell? ⟨w7.heap.size, 0, none⟩ = some (.int .i64 b1) := (hb.cell (p := ⟨w7.heap.size, 0, none⟩) (by simp only [World.size_alloc]; omega)).trans (by simp [go_sem]); have l3 : w8.cell? ⟨w7.heap.size, 1, none⟩ = some (.int .i64 b2) := (hb.cell (p := ⟨w7.heap.size, 1, none⟩) (by simp only [World.size_alloc]; omega)).trans (by simp [go_sem]); have HB8 := hid (show Below w7.heap.size w7 w8 from (by repeat' (first | (with_reducible exact Below.refl _ _) | (with_reducible refine Below.alloc ?_ ?_ _) | (with_reducible refine Below.setCell ?_ ?_ _) | (with_reducible refine Below.drew ?_) | (with_reducible refine Below.trans ?_ (Below.mono (by assumption) ?_)) | (simp; done) | (simp; omega) | omega))); clear hb))
                go_roundw
                case rel =>
                  have hB := HB.out.trans ((HK.out.trans ((HB7.out.trans (HB8.out.mono HB7.out.size)).mono hzz.out)).mono HB.out.size)
                  exact ⟨j + 1, _, by go_num, rfl, by have := LE.out; have := ms.out; have := HJ.out; omega, by have h := HF.out; simpa using h, hB⟩
                case measure => first | exact pmeas _ _ HJ.out | (rw [ej]; exact pmeas _ _ HJ.out)
          · rw [if_pos z] at hd
            have e3 : false = B ∧ R = E := by simpa using hd
            obtain ⟨rfl, rfl⟩ := e3
            have hn : (R == 0) = false := by simpa using z
            clear hd
            go_wp2_with (first
              | (go_at_call 35; refine (V2.out _ HK.out).mono ?_; rintro _ w7 ⟨rfl, hb⟩; have m0 : w7.cell? ⟨g, 0, none⟩ = some (.int .i64 a1) := (hb.cell (p := ⟨g, 0, none⟩) hg1).trans d0; have m1 : w7.cell? ⟨g, 1, none⟩ = some (.int .i64 a2) := (hb.cell (p := ⟨g, 1, none⟩) hg1).trans d1; have gl7 : g < w7.heap.size := Nat.lt_of_lt_of_le hg1 hb.size; have gn7 : ¬ g = w7.heap.size := (by omega); have HB7 := hid hb; clear hb)
              | (go_at_call 36; refine (OR.out _ _ (by first | assumption | (simp; done) | (simp; omega) | (dsimp only; omega) | omega) (by first | assumption | (simp [go_sem]; done)) (by first | assumption | (simp [go_sem]; done))).mono ?_; rintro _ w8 ⟨rfl, hb⟩; have l0 : w8.cell? ⟨g, 0, none⟩ = some (.int .i64 a1) := (hb.cell (p := ⟨g, 0, none⟩) (by simp only [World.size_alloc]; omega)).trans (by simp [go_sem, m0, gl7, gn7]); have l1 : w8.cell? ⟨g, 1, none⟩ = some (.int .i64 a2) := (hb.cell (p := ⟨g, 1, none⟩) (by simp only [World.size_alloc]; omega)).trans (by simp [go_sem, m1, gl7, gn7]); have l2 : w8.cell? ⟨w7.heap.size, 0, none⟩ = some (.int .i64 b1) := (hb.cell (p := ⟨w7.heap.size, 0, none⟩) (by simp only [World.size_alloc]; omega)).trans (by simp [go_sem]); have l3 : w8.cell? ⟨w7.heap.size, 1, none⟩ = some (.int .i64 b2) := (hb.cell (p := ⟨w7.heap.size, 1, none⟩) (by simp only [World.size_alloc]; omega)).trans (by simp [go_sem]); have HB8 := hid (show Below w7.heap.size w7 w8 from (by repeat' (first | (with_reducible exact Below.refl _ _) | (with_reducible refine Below.alloc ?_ ?_ _) | (with_reducible refine Below.setCell ?_ ?_ _) | (with_reducible refine Below.drew ?_) | (with_reducible refine Below.trans ?_ (Below.mono (by assumption) ?_)) | (simp; done) | (simp; omega) | omega))); clear hb))
            refine bodyPost_ret (v := .tuple #[.bool false, .int .i64 R]) (by simp [results, Try.results18, go_sem]) rfl ?_
            have hB := HB.out.trans ((HK.out.trans ((HB7.out.trans (HB8.out.mono HB7.out.size)).mono hzz.out)).mono HB.out.size)
            exact Gives.mk rfl hB
      · have i1 : ¬ (j : Int) < (m : Int) := fun h => hlt (Int.ofNat_lt.mp h)
        have jm : j = m := by have := LE.out; have := ms.out; omega
        have hd := HD.out
        have jl : j < l.length := by have := LE.out; have := ms.out; omega
        rw [List.drop_eq_getElem_cons jl, List.drop_eq_nil_of_le (by have := LE.out; have := ms.out; omega)] at hd
        have e3 : C = B ∧ 0 = E := by simpa [Sp.contF] using hd
        obtain ⟨rfl, rfl⟩ := e3
        clear hd jm jl
        go_wp2_with fail
        refine bodyPost_ret (v := .tuple #[.bool C, .int .i64 0]) (by simp [results, Try.results18, go_sem]) rfl ?_
        exact Gives.mk rfl HB.out
theorem cont_any (A : Option Addr) (cap : Nat) (l : List Sp.Pd) (B : Bool) (E : Int) (w : World) (hcap : l.length ≤ cap) (hz : PcSized l) (hT : Pcs w A l) (hv : Sp.contS l = (B, E)) :
    Calls Try.prog 18 #[.slice A l.length cap] w (Gives (.tuple #[.bool B, .int .i64 E]) w) := by
  unfold Sp.contS at hv
  by_cases hc : Sp.pcheck l = 0
  · rw [if_neg (fun h => h hc)] at hv
    exact cont_good A cap l B E w hcap hz hT hc hv
  · rw [if_pos hc] at hv
    have CK := hid (pcheck_any A cap l w hz hT)
    generalize Sp.pcheck l = y at CK hc hv
    have e3 : false = B ∧ y = E := by simpa using hv
    obtain ⟨rfl, rfl⟩ := e3
    have hn : (y == 0) = false := by simpa using hc
    clear hv hz hT hc hcap
    go_enter Try.func18, Try.ntmps18
    go_wp2_with fail
    refine CK.out.mono ?_
    rintro _ w5 ⟨rfl, hb⟩
    have HB0 := hid hb
    clear hb
    go_wp2_with fail
    refine bodyPost_ret (v := .tuple #[.bool false, .int .i64 y]) (by simp [results, Try.results18, go_sem]) rfl ?_
    exact Gives.mk rfl HB0.out
end Go.Proofs.Ytcbecfimikpljaa
