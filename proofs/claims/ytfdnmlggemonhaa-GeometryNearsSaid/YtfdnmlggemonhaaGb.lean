/-
  Layer 7: checkAll, Cross, Orient, Dist2, OnSegment of package geometry and the reference's, by contract. Written by tools/gen_gb.py.
-/
import Derived.Test.YtfdnmlggemonhaaGa
import Derived.Deep.Cut
import Derived.Deep.DeepCutAuto
import Derived.Deep.RegionWith
import Derived.Carry
namespace Go.Proofs.Ytfdnmlggemonhaa
open Go.RowKit
set_option linter.unusedVariables false
set_option linter.unusedSimpArgs false

namespace Sp
def chkL (l : List Pt) : Int := if l.all okP then 0 else 2
theorem chkL_good {l : List Pt} (h : ∀ p ∈ l, okP p = true) : chkL l = 0 := by unfold chkL; rw [if_pos (List.all_eq_true.2 h)]
theorem okP_btw (p : Pt) : okP p = (btw p.1 0 100000 && btw p.2 0 100000) := by
  rw [Bool.eq_iff_iff, okP_iff, Bool.and_eq_true, btw_iff, btw_iff]; omega
theorem chkL_cons (p : Pt) (l : List Pt) : chkL (p :: l) = if okP p = true then chkL l else 2 := by
  unfold chkL
  rw [List.all_cons]
  by_cases h : okP p = true
  · rw [h, Bool.true_and, if_pos rfl]
  · rw [if_neg h]; rw [Bool.not_eq_true] at h; rw [h]; rfl
theorem chkL_bad {l : List Pt} (h : ¬ ∀ p ∈ l, okP p = true) : chkL l = 2 := by
  unfold chkL
  rw [if_neg (fun h' => h (List.all_eq_true.1 h'))]
def crossS (a b c : Pt) : Int × Int := if (okP a && okP b && okP c) = true then (crs a b c, 0) else (0, 2)
def orientS (a b c : Pt) : Int × Int := if (okP a && okP b && okP c) = true then (sg (crs a b c), 0) else (0, 2)
def dist2S (a b : Pt) : Int × Int := if (okP a && okP b) = true then (sq a b, 0) else (0, 2)
def onsegS (p a b : Pt) : Bool × Int := if (okP p && okP a && okP b) = true then (onS p a b, 0) else (false, 2)
end Sp
/-- Points that lie in memory. -/
def Pts (w : World) (A : Option Addr) (l : List Sp.Pt) : Prop :=
  0 < l.length → ∃ b off, A = some ⟨b, off, none⟩ ∧ b < w.heap.size ∧ ∀ j, (hj : j < l.length) →
    w.cell? ⟨b, off + j * 2, none⟩ = some (.int .i64 (l[j]).1) ∧ w.cell? ⟨b, off + j * 2 + 1, none⟩ = some (.int .i64 (l[j]).2)
theorem Pts.below {w w' : World} {A : Option Addr} {l : List Sp.Pt} (h : Pts w A l) (hb : Below w.heap.size w w') : Pts w' A l := fun h0 => by
  obtain ⟨b, off, hA, hl, hc⟩ := h h0
  refine ⟨b, off, hA, Nat.lt_of_lt_of_le hl hb.size, fun j hj => ?_⟩
  obtain ⟨c0, c1⟩ := hc j hj
  exact ⟨(hb.cell (p := ⟨b, off + j * 2, none⟩) hl).trans c0, (hb.cell (p := ⟨b, off + j * 2 + 1, none⟩) hl).trans c1⟩
theorem Pts.at_ {w w' : World} {A : Option Addr} {l : List Sp.Pt} (h : Pts w A l) (hb : Below w.heap.size w w') {j : Nat} (hj : j < l.length) :
    ∃ b off, A = some ⟨b, off, none⟩ ∧ b < w.heap.size ∧ w'.cell? ⟨b, off + j * 2, none⟩ = some (.int .i64 (l[j]).1) ∧ w'.cell? ⟨b, off + j * 2 + 1, none⟩ = some (.int .i64 (l[j]).2) := by
  obtain ⟨b, off, hA, hl, hc⟩ := h (by omega)
  obtain ⟨c0, c1⟩ := hc j hj
  exact ⟨b, off, hA, hl, (hb.cell (p := ⟨b, off + j * 2, none⟩) hl).trans c0, (hb.cell (p := ⟨b, off + j * 2 + 1, none⟩) hl).trans c1⟩
theorem Pts.mk1 {w : World} {g : Nat} {a : Sp.Pt} (h : g < w.heap.size) (a0 : w.cell? ⟨g, 0, none⟩ = some (.int .i64 a.1)) (a1 : w.cell? ⟨g, 1, none⟩ = some (.int .i64 a.2)) : Pts w (some ⟨g, 0, none⟩) [a] := fun _ =>
  ⟨g, 0, rfl, h, fun j hj => by
    match j, hj with
    | 0, _ => exact ⟨a0, a1⟩⟩
theorem Pts.mk2 {w : World} {g : Nat} {a b : Sp.Pt} (h : g < w.heap.size) (a0 : w.cell? ⟨g, 0, none⟩ = some (.int .i64 a.1)) (a1 : w.cell? ⟨g, 1, none⟩ = some (.int .i64 a.2)) (b0 : w.cell? ⟨g, 2, none⟩ = some (.int .i64 b.1)) (b1 : w.cell? ⟨g, 3, none⟩ = some (.int .i64 b.2)) : Pts w (some ⟨g, 0, none⟩) [a, b] := fun _ =>
  ⟨g, 0, rfl, h, fun j hj => by
    match j, hj with
    | 0, _ => exact ⟨a0, a1⟩
    | 1, _ => exact ⟨b0, b1⟩⟩
theorem Pts.mk3 {w : World} {g : Nat} {a b c : Sp.Pt} (h : g < w.heap.size) (a0 : w.cell? ⟨g, 0, none⟩ = some (.int .i64 a.1)) (a1 : w.cell? ⟨g, 1, none⟩ = some (.int .i64 a.2)) (b0 : w.cell? ⟨g, 2, none⟩ = some (.int .i64 b.1)) (b1 : w.cell? ⟨g, 3, none⟩ = some (.int .i64 b.2)) (c0 : w.cell? ⟨g, 4, none⟩ = some (.int .i64 c.1)) (c1 : w.cell? ⟨g, 5, none⟩ = some (.int .i64 c.2)) : Pts w (some ⟨g, 0, none⟩) [a, b, c] := fun _ =>
  ⟨g, 0, rfl, h, fun j hj => by
    match j, hj with
    | 0, _ => exact ⟨a0, a1⟩
    | 1, _ => exact ⟨b0, b1⟩
    | 2, _ => exact ⟨c0, c1⟩⟩
theorem Pts.mk4 {w : World} {g : Nat} {a b c d : Sp.Pt} (h : g < w.heap.size) (a0 : w.cell? ⟨g, 0, none⟩ = some (.int .i64 a.1)) (a1 : w.cell? ⟨g, 1, none⟩ = some (.int .i64 a.2)) (b0 : w.cell? ⟨g, 2, none⟩ = some (.int .i64 b.1)) (b1 : w.cell? ⟨g, 3, none⟩ = some (.int .i64 b.2)) (c0 : w.cell? ⟨g, 4, none⟩ = some (.int .i64 c.1)) (c1 : w.cell? ⟨g, 5, none⟩ = some (.int .i64 c.2)) (d0 : w.cell? ⟨g, 6, none⟩ = some (.int .i64 d.1)) (d1 : w.cell? ⟨g, 7, none⟩ = some (.int .i64 d.2)) : Pts w (some ⟨g, 0, none⟩) [a, b, c, d] := fun _ =>
  ⟨g, 0, rfl, h, fun j hj => by
    match j, hj with
    | 0, _ => exact ⟨a0, a1⟩
    | 1, _ => exact ⟨b0, b1⟩
    | 2, _ => exact ⟨c0, c1⟩
    | 3, _ => exact ⟨d0, d1⟩⟩
theorem smeas (n j : Nat) (h : j < n) : n - (intOf (.int .i64 ((j : Int) + 1))).toNat < n - (intOf (.int .i64 (j : Int))).toNat := by simp [intOf]; omega
def ChkRel (w : World) (l : List Sp.Pt) (R : Int) (t : Value) (wr : World) : Prop := ∃ j : Nat, t = .int .i64 (j : Int) ∧ j ≤ l.length ∧ Sp.chkL (l.drop j) = R ∧ Below w.heap.size w wr
set_option maxRecDepth 100000 in
set_option maxHeartbeats 1000000 in
theorem chk_any (A : Option Addr) (c : Nat) (l : List Sp.Pt) (hl : l.length ≤ 140737488355328) (w : World) (T : Pts w A l) (R : Int) (hR : Sp.chkL l = R) :
    Calls Try.prog 36 #[.slice A l.length c] w (Gives (.int .i64 R) w) := by
  have TT := hid T
  have LE := hid hl
  have HR := hid hR
  clear T hR hl
  go_enter Try.func36, Try.ntmps36
  go_wp2_with fail
  go_loopw [7] (fun t wr => ChkRel w l R t wr) (fun t _ => l.length - (intOf t).toNat)
  case atStart => exact ⟨0, rfl, Nat.zero_le _, HR.out, Below.refl _ _⟩
  case round =>
    obtain ⟨j, rfl, hj, hd, hB⟩ := hrel
    have HD := hid hd
    have HB := hid hB
    clear hd hB
    by_cases hlt : j < l.length
    · obtain ⟨b, off, rfl, bl, q0, q1⟩ := TT.out.at_ HB.out hlt
      have hd := HD.out
      rw [List.drop_eq_getElem_cons hlt, Sp.chkL_cons, Sp.okP_btw] at hd
      have b1 := btw_any (l[j]'hlt).1 0 100000
      have b2 := btw_any (l[j]'hlt).2 0 100000
      generalize Sp.btw (l[j]'hlt).1 0 100000 = x1 at b1 hd
      generalize Sp.btw (l[j]'hlt).2 0 100000 = x2 at b2 hd
      obtain ⟨⟨px, py⟩, hp⟩ : ∃ c1, l[j]'hlt = c1 := ⟨_, rfl⟩
      rw [hp] at q0 q1 b1 b2
      dsimp only at q0 q1 b1 b2
      have HX := hid hd
      have i0 : (0 : Int) ≤ (j : Int) := by omega
      have i1 : (j : Int) < (l.length : Int) := by omega
      have i2 : (l.length : Int) ≤ 140737488355328 := by have := LE.out; omega
      have bw : b < wr.heap.size := Nat.lt_of_lt_of_le bl HB.out.size
      have HJ := hid hlt
      have BA := hid ((Below.refl wr.heap.size wr).alloc (Nat.le_refl _) (Obj.cells #[.int .i64 (px), .int .i64 (py)] 23))
      clear hd hp
      cases x1
      · go_wp2_with fail
        refine (b1 _).mono ?_
        rintro _ uq ⟨rfl, rfl⟩
        go_wp2_with fail
        go_ret
        exact Gives.mk (i64_eq (by simpa using HX.out.symm)) (HB.out.trans (BA.out.mono HB.out.size))
      · cases x2
        · go_wp2_with fail
          refine (b1 _).mono ?_
          rintro _ uq ⟨rfl, rfl⟩
          go_wp2_with fail
          refine (b2 _).mono ?_
          rintro _ uq ⟨rfl, rfl⟩
          go_wp2_with fail
          go_ret
          exact Gives.mk (i64_eq (by simpa using HX.out.symm)) (HB.out.trans (BA.out.mono HB.out.size))
        · have HF : Hid (Sp.chkL (l.drop (j + 1)) = R) := by
            have h := HX.out
            show _ = _
            simpa using h
          go_wp2_with fail
          refine (b1 _).mono ?_
          rintro _ uq ⟨rfl, rfl⟩
          go_wp2_with fail
          refine (b2 _).mono ?_
          rintro _ uq ⟨rfl, rfl⟩
          go_wp2_with fail
          go_roundw
          case rel => exact ⟨j + 1, by go_num, HJ.out, HF.out, HB.out.trans (BA.out.mono HB.out.size)⟩
          case measure => exact smeas _ _ HJ.out
    · have i1 : ¬ (j : Int) < (l.length : Int) := by omega
      have HF : Hid (R = 0) := by
        have h := HD.out
        rw [List.drop_eq_nil_of_le (by omega)] at h
        exact h.symm
      go_wp2_with fail
      go_ret
      exact Gives.mk (i64_eq HF.out) HB.out

set_option maxRecDepth 100000 in
set_option maxHeartbeats 4000000 in
theorem on_any (p a b : Sp.Pt) (hp : Sp.okP p = true) (ha : Sp.okP a = true) (hb : Sp.okP b = true) (w : World) :
    Calls Try.prog 48 #[.agg #[.int .i64 p.1, .int .i64 p.2], .agg #[.int .i64 a.1, .int .i64 a.2], .agg #[.int .i64 b.1, .int .i64 b.2]] w (GivesD (.bool (Sp.onS p a b)) w) := by
  have dv := cross_any a b p ha hb hp
  have k1 := btw_any p.1 a.1 b.1
  have k2 := btw_any p.2 a.2 b.2
  unfold Sp.onS
  clear hp ha hb
  generalize Sp.crs a b p = v at dv ⊢
  generalize Sp.btw p.1 a.1 b.1 = x1 at k1 ⊢
  generalize Sp.btw p.2 a.2 b.2 = x2 at k2 ⊢
  obtain ⟨p1, p2⟩ := p
  obtain ⟨a1, a2⟩ := a
  obtain ⟨b1, b2⟩ := b
  dsimp only at *
  obtain ⟨V, hV⟩ : ∃ V : World, (((w.alloc (Obj.cells #[.int .i64 (p1), .int .i64 (p2)] 23)).alloc (Obj.cells #[.int .i64 (a1), .int .i64 (a2)] 23)).alloc (Obj.cells #[.int .i64 (b1), .int .i64 (b2)] 23)) = V := ⟨_, rfl⟩
  have bV : Below w.heap.size w V := by rw [← hV]; (repeat' (first | (with_reducible exact Below.refl _ _) | (with_reducible refine Below.alloc ?_ ?_ _) | (with_reducible refine Below.setCell ?_ ?_ _) | (with_reducible refine Below.drew ?_) | (with_reducible refine Below.trans ?_ (Below.mono (by assumption) ?_)) | (simp; done) | (simp; omega) | omega))
  have zV : V.heap.size = w.heap.size + 1 + 1 + 1 := by rw [← hV]; simp
  have dV : V.drawn = w.drawn := by rw [← hV]; rfl
  have K : Hid (∀ W' : World, Below V.heap.size V W' → (W'.cell? ⟨w.heap.size, 0, none⟩ = some (.int .i64 p1) ∧ W'.cell? ⟨w.heap.size, 1, none⟩ = some (.int .i64 p2) ∧ W'.cell? ⟨w.heap.size + 1, 0, none⟩ = some (.int .i64 a1) ∧ W'.cell? ⟨w.heap.size + 1, 1, none⟩ = some (.int .i64 a2) ∧ W'.cell? ⟨w.heap.size + 1 + 1, 0, none⟩ = some (.int .i64 b1) ∧ W'.cell? ⟨w.heap.size + 1 + 1, 1, none⟩ = some (.int .i64 b2))) := hid fun W' B => ⟨(B.cell (p := ⟨w.heap.size, 0, none⟩) (by simp only; omega)).trans (by rw [← hV]; simp [go_sem]), (B.cell (p := ⟨w.heap.size, 1, none⟩) (by simp only; omega)).trans (by rw [← hV]; simp [go_sem]), (B.cell (p := ⟨w.heap.size + 1, 0, none⟩) (by simp only; omega)).trans (by rw [← hV]; simp [go_sem]), (B.cell (p := ⟨w.heap.size + 1, 1, none⟩) (by simp only; omega)).trans (by rw [← hV]; simp [go_sem]), (B.cell (p := ⟨w.heap.size + 1 + 1, 0, none⟩) (by simp only; omega)).trans (by rw [← hV]; simp [go_sem]), (B.cell (p := ⟨w.heap.size + 1 + 1, 1, none⟩) (by simp only; omega)).trans (by rw [← hV]; simp [go_sem])⟩
  have HV := hid hV
  have BV := hid bV
  have ZV := hid zV
  have DV := hid dV
  clear hV bV zV dV
  go_enter Try.func48, Try.ntmps48
  go_upto_region 1 with fail
  rw [HV.out]
  obtain ⟨pc0, pc1, ac0, ac1, bc0, bc1⟩ := K.out _ (Below.refl _ _ : Below V.heap.size V V)
  have zl : w.heap.size + 1 + 1 < V.heap.size := by have h1 := ZV.out; have h2 := ((Below.refl _ _ : Below V.heap.size V V)).size; omega
  go_wp2_with fail
  refine ((dv _)).mono ?_
  rintro _ u1 ⟨rfl, hb, hd⟩
  have B1 : Below V.heap.size V u1 := by have hB := (Below.refl _ _ : Below V.heap.size V V); have hz := hB.size; repeat' (first | (with_reducible exact Below.refl _ _) | (with_reducible refine Below.alloc ?_ ?_ _) | (with_reducible refine Below.setCell ?_ ?_ _) | (with_reducible refine Below.drew ?_) | (with_reducible refine Below.trans ?_ (Below.mono (by assumption) ?_)) | (simp; done) | (simp; omega) | omega)
  have D1 := hid (Nat.le_trans (Nat.le_of_eq DV.out.symm) hd)
  clear hb hd
  clear pc0 pc1 ac0 ac1 bc0 bc1 zl
  have B1 := hid B1
  obtain ⟨pc0, pc1, ac0, ac1, bc0, bc1⟩ := K.out _ B1.out
  have zl : w.heap.size + 1 + 1 < u1.heap.size := by have h1 := ZV.out; have h2 := (B1.out).size; omega
  rcases Classical.em (v = 0) with cv | cv
  · subst cv
    go_wp2_with fail
    refine (k1 _).mono ?_
    rintro _ uq ⟨rfl, rfl⟩
    cases x1
    · go_wp2_with fail
      go_ret
      have hB := B1.out
      have hz := hB.size
      have hV := BV.out.trans (hB.mono BV.out.size)
      exact GivesD.mk (by first | rfl | simp) (by first | exact hV | (repeat' (first | (with_reducible exact Below.refl _ _) | (with_reducible refine Below.alloc ?_ ?_ _) | (with_reducible refine Below.setCell ?_ ?_ _) | (with_reducible refine Below.drew ?_) | (with_reducible refine Below.trans ?_ (Below.mono (by assumption) ?_)) | (simp; done) | (simp; omega) | omega))) (by have := D1.out; first | exact this | exact Nat.le_trans this (Nat.le_refl _))
    · go_wp2_with fail
      refine (k2 _).mono ?_
      rintro _ uq ⟨rfl, rfl⟩
      go_wp2_with fail
      go_ret
      have hB := B1.out
      have hz := hB.size
      have hV := BV.out.trans (hB.mono BV.out.size)
      exact GivesD.mk (by first | rfl | simp) (by first | exact hV | (repeat' (first | (with_reducible exact Below.refl _ _) | (with_reducible refine Below.alloc ?_ ?_ _) | (with_reducible refine Below.setCell ?_ ?_ _) | (with_reducible refine Below.drew ?_) | (with_reducible refine Below.trans ?_ (Below.mono (by assumption) ?_)) | (simp; done) | (simp; omega) | omega))) (by have := D1.out; first | exact this | exact Nat.le_trans this (Nat.le_refl _))
  · go_wp2_with fail
    go_ret
    have hB := B1.out
    have hz := hB.size
    have hV := BV.out.trans (hB.mono BV.out.size)
    exact GivesD.mk (by simp [cv]) (by first | exact hV | (repeat' (first | (with_reducible exact Below.refl _ _) | (with_reducible refine Below.alloc ?_ ?_ _) | (with_reducible refine Below.setCell ?_ ?_ _) | (with_reducible refine Below.drew ?_) | (with_reducible refine Below.trans ?_ (Below.mono (by assumption) ?_)) | (simp; done) | (simp; omega) | omega))) (by have := D1.out; first | exact this | exact Nat.le_trans this (Nat.le_refl _))

set_option maxRecDepth 100000 in
set_option maxHeartbeats 4000000 in
theorem ron_any (p a b : Sp.Pt) (hp : Sp.okP p = true) (ha : Sp.okP a = true) (hb : Sp.okP b = true) (w : World) :
    Calls Try.prog 49 #[.agg #[.int .i64 p.1, .int .i64 p.2], .agg #[.int .i64 a.1, .int .i64 a.2], .agg #[.int .i64 b.1, .int .i64 b.2]] w (GivesD (.bool (Sp.onS p a b)) w) := by
  have dv := rturn_any a b p ha hb hp
  have k1 := rbtw_any p.1 a.1 b.1
  have k2 := rbtw_any p.2 a.2 b.2
  unfold Sp.onS
  clear hp ha hb
  generalize Sp.crs a b p = v at dv ⊢
  generalize Sp.btw p.1 a.1 b.1 = x1 at k1 ⊢
  generalize Sp.btw p.2 a.2 b.2 = x2 at k2 ⊢
  obtain ⟨p1, p2⟩ := p
  obtain ⟨a1, a2⟩ := a
  obtain ⟨b1, b2⟩ := b
  dsimp only at *
  obtain ⟨V, hV⟩ : ∃ V : World, (((w.alloc (Obj.cells #[.int .i64 (p1), .int .i64 (p2)] 23)).alloc (Obj.cells #[.int .i64 (a1), .int .i64 (a2)] 23)).alloc (Obj.cells #[.int .i64 (b1), .int .i64 (b2)] 23)) = V := ⟨_, rfl⟩
  have bV : Below w.heap.size w V := by rw [← hV]; (repeat' (first | (with_reducible exact Below.refl _ _) | (with_reducible refine Below.alloc ?_ ?_ _) | (with_reducible refine Below.setCell ?_ ?_ _) | (with_reducible refine Below.drew ?_) | (with_reducible refine Below.trans ?_ (Below.mono (by assumption) ?_)) | (simp; done) | (simp; omega) | omega))
  have zV : V.heap.size = w.heap.size + 1 + 1 + 1 := by rw [← hV]; simp
  have dV : V.drawn = w.drawn := by rw [← hV]; rfl
  have K : Hid (∀ W' : World, Below V.heap.size V W' → (W'.cell? ⟨w.heap.size, 0, none⟩ = some (.int .i64 p1) ∧ W'.cell? ⟨w.heap.size, 1, none⟩ = some (.int .i64 p2) ∧ W'.cell? ⟨w.heap.size + 1, 0, none⟩ = some (.int .i64 a1) ∧ W'.cell? ⟨w.heap.size + 1, 1, none⟩ = some (.int .i64 a2) ∧ W'.cell? ⟨w.heap.size + 1 + 1, 0, none⟩ = some (.int .i64 b1) ∧ W'.cell? ⟨w.heap.size + 1 + 1, 1, none⟩ = some (.int .i64 b2))) := hid fun W' B => ⟨(B.cell (p := ⟨w.heap.size, 0, none⟩) (by simp only; omega)).trans (by rw [← hV]; simp [go_sem]), (B.cell (p := ⟨w.heap.size, 1, none⟩) (by simp only; omega)).trans (by rw [← hV]; simp [go_sem]), (B.cell (p := ⟨w.heap.size + 1, 0, none⟩) (by simp only; omega)).trans (by rw [← hV]; simp [go_sem]), (B.cell (p := ⟨w.heap.size + 1, 1, none⟩) (by simp only; omega)).trans (by rw [← hV]; simp [go_sem]), (B.cell (p := ⟨w.heap.size + 1 + 1, 0, none⟩) (by simp only; omega)).trans (by rw [← hV]; simp [go_sem]), (B.cell (p := ⟨w.heap.size + 1 + 1, 1, none⟩) (by simp only; omega)).trans (by rw [← hV]; simp [go_sem])⟩
  have HV := hid hV
  have BV := hid bV
  have ZV := hid zV
  have DV := hid dV
  clear hV bV zV dV
  go_enter Try.func49, Try.ntmps49
  go_upto_region 1 with fail
  rw [HV.out]
  obtain ⟨pc0, pc1, ac0, ac1, bc0, bc1⟩ := K.out _ (Below.refl _ _ : Below V.heap.size V V)
  have zl : w.heap.size + 1 + 1 < V.heap.size := by have h1 := ZV.out; have h2 := ((Below.refl _ _ : Below V.heap.size V V)).size; omega
  go_wp2_with fail
  refine ((dv _)).mono ?_
  rintro _ u1 ⟨rfl, hb, hd⟩
  have B1 : Below V.heap.size V u1 := by have hB := (Below.refl _ _ : Below V.heap.size V V); have hz := hB.size; repeat' (first | (with_reducible exact Below.refl _ _) | (with_reducible refine Below.alloc ?_ ?_ _) | (with_reducible refine Below.setCell ?_ ?_ _) | (with_reducible refine Below.drew ?_) | (with_reducible refine Below.trans ?_ (Below.mono (by assumption) ?_)) | (simp; done) | (simp; omega) | omega)
  have D1 := hid (Nat.le_trans (Nat.le_of_eq DV.out.symm) hd)
  clear hb hd
  clear pc0 pc1 ac0 ac1 bc0 bc1 zl
  have B1 := hid B1
  obtain ⟨pc0, pc1, ac0, ac1, bc0, bc1⟩ := K.out _ B1.out
  have zl : w.heap.size + 1 + 1 < u1.heap.size := by have h1 := ZV.out; have h2 := (B1.out).size; omega
  rcases Classical.em (v = 0) with cv | cv
  · subst cv
    go_wp2_with fail
    refine (k1 _).mono ?_
    rintro _ uq ⟨rfl, rfl⟩
    cases x1
    · go_wp2_with fail
      go_ret
      have hB := B1.out
      have hz := hB.size
      have hV := BV.out.trans (hB.mono BV.out.size)
      exact GivesD.mk (by first | rfl | simp) (by first | exact hV | (repeat' (first | (with_reducible exact Below.refl _ _) | (with_reducible refine Below.alloc ?_ ?_ _) | (with_reducible refine Below.setCell ?_ ?_ _) | (with_reducible refine Below.drew ?_) | (with_reducible refine Below.trans ?_ (Below.mono (by assumption) ?_)) | (simp; done) | (simp; omega) | omega))) (by have := D1.out; first | exact this | exact Nat.le_trans this (Nat.le_refl _))
    · go_wp2_with fail
      refine (k2 _).mono ?_
      rintro _ uq ⟨rfl, rfl⟩
      go_wp2_with fail
      go_ret
      have hB := B1.out
      have hz := hB.size
      have hV := BV.out.trans (hB.mono BV.out.size)
      exact GivesD.mk (by first | rfl | simp) (by first | exact hV | (repeat' (first | (with_reducible exact Below.refl _ _) | (with_reducible refine Below.alloc ?_ ?_ _) | (with_reducible refine Below.setCell ?_ ?_ _) | (with_reducible refine Below.drew ?_) | (with_reducible refine Below.trans ?_ (Below.mono (by assumption) ?_)) | (simp; done) | (simp; omega) | omega))) (by have := D1.out; first | exact this | exact Nat.le_trans this (Nat.le_refl _))
  · go_wp2_with fail
    go_ret
    have hB := B1.out
    have hz := hB.size
    have hV := BV.out.trans (hB.mono BV.out.size)
    exact GivesD.mk (by simp [cv]) (by first | exact hV | (repeat' (first | (with_reducible exact Below.refl _ _) | (with_reducible refine Below.alloc ?_ ?_ _) | (with_reducible refine Below.setCell ?_ ?_ _) | (with_reducible refine Below.drew ?_) | (with_reducible refine Below.trans ?_ (Below.mono (by assumption) ?_)) | (simp; done) | (simp; omega) | omega))) (by have := D1.out; first | exact this | exact Nat.le_trans this (Nat.le_refl _))

set_option maxRecDepth 100000 in
set_option maxHeartbeats 4000000 in
theorem Cross_any (a b c : Sp.Pt) (w : World) :
    Calls Try.prog 12 #[.agg #[.int .i64 a.1, .int .i64 a.2], .agg #[.int .i64 b.1, .int .i64 b.2], .agg #[.int .i64 c.1, .int .i64 c.2]] w (Gives (.tuple #[.int .i64 (Sp.crossS a b c).1, .int .i64 (Sp.crossS a b c).2]) w) := by
  unfold Sp.crossS
  rcases Classical.em ((Sp.okP a && Sp.okP b && Sp.okP c) = true) with ok | ok
  · rw [if_pos ok]
    have ck := fun (W : World) T => chk_any (some ⟨w.heap.size + 1 + 1 + 1, 0, none⟩) 3 [a, b, c] (by simp) W T 0 (Sp.chkL_good (by simpa [and_assoc] using ok))
    simp only [Bool.and_eq_true] at ok
    have dv := cross_any a b c ok.1.1 ok.1.2 ok.2
    have K6 := fun (W : World) => Pts.mk3 (g := w.heap.size + 1 + 1 + 1) (w := W) (a := a) (b := b) (c := c)
    clear ok
    generalize Sp.crs a b c = v at dv ⊢
    obtain ⟨a1, a2⟩ := a
    obtain ⟨b1, b2⟩ := b
    obtain ⟨c1, c2⟩ := c
    dsimp only at *
    obtain ⟨V, hV⟩ : ∃ V : World, (((w.alloc (Obj.cells #[.int .i64 (a1), .int .i64 (a2)] 23)).alloc (Obj.cells #[.int .i64 (b1), .int .i64 (b2)] 23)).alloc (Obj.cells #[.int .i64 (c1), .int .i64 (c2)] 23)) = V := ⟨_, rfl⟩
    have bV : Below w.heap.size w V := by rw [← hV]; (repeat' (first | (with_reducible exact Below.refl _ _) | (with_reducible refine Below.alloc ?_ ?_ _) | (with_reducible refine Below.setCell ?_ ?_ _) | (with_reducible refine Below.drew ?_) | (with_reducible refine Below.trans ?_ (Below.mono (by assumption) ?_)) | (simp; done) | (simp; omega) | omega))
    have zV : V.heap.size = w.heap.size + 1 + 1 + 1 := by rw [← hV]; simp
    have dV : V.drawn = w.drawn := by rw [← hV]; rfl
    have K : Hid (∀ W' : World, Below V.heap.size V W' → (W'.cell? ⟨w.heap.size, 0, none⟩ = some (.int .i64 a1) ∧ W'.cell? ⟨w.heap.size, 1, none⟩ = some (.int .i64 a2) ∧ W'.cell? ⟨w.heap.size + 1, 0, none⟩ = some (.int .i64 b1) ∧ W'.cell? ⟨w.heap.size + 1, 1, none⟩ = some (.int .i64 b2) ∧ W'.cell? ⟨w.heap.size + 1 + 1, 0, none⟩ = some (.int .i64 c1) ∧ W'.cell? ⟨w.heap.size + 1 + 1, 1, none⟩ = some (.int .i64 c2))) := hid fun W' B => ⟨(B.cell (p := ⟨w.heap.size, 0, none⟩) (by simp only; omega)).trans (by rw [← hV]; simp [go_sem]), (B.cell (p := ⟨w.heap.size, 1, none⟩) (by simp only; omega)).trans (by rw [← hV]; simp [go_sem]), (B.cell (p := ⟨w.heap.size + 1, 0, none⟩) (by simp only; omega)).trans (by rw [← hV]; simp [go_sem]), (B.cell (p := ⟨w.heap.size + 1, 1, none⟩) (by simp only; omega)).trans (by rw [← hV]; simp [go_sem]), (B.cell (p := ⟨w.heap.size + 1 + 1, 0, none⟩) (by simp only; omega)).trans (by rw [← hV]; simp [go_sem]), (B.cell (p := ⟨w.heap.size + 1 + 1, 1, none⟩) (by simp only; omega)).trans (by rw [← hV]; simp [go_sem])⟩
    have HV := hid hV
    have BV := hid bV
    have ZV := hid zV
    have DV := hid dV
    clear hV bV zV dV
    go_enter Try.func12, Try.ntmps12
    go_upto_region 1 with fail
    rw [HV.out]
    obtain ⟨ac0, ac1, bc0, bc1, cc0, cc1⟩ := K.out _ (Below.refl _ _ : Below V.heap.size V V)
    have zl : w.heap.size + 1 + 1 < V.heap.size := by have h1 := ZV.out; have h2 := ((Below.refl _ _ : Below V.heap.size V V)).size; omega
    have hz : V.heap.size = w.heap.size + 1 + 1 + 1 := ZV.out
    go_wp2_with fail
    refine (ck _ (K6 _ (by simp; omega) (by simp [go_sem, ← hz]) (by simp [go_sem, ← hz]) (by simp [go_sem, ← hz]) (by simp [go_sem, ← hz]) (by simp [go_sem, ← hz]) (by simp [go_sem, ← hz]))).mono ?_
    rintro _ u1 ⟨rfl, hb⟩
    have B1 : Below V.heap.size V u1 := by (repeat' (first | (with_reducible exact Below.refl _ _) | (with_reducible refine Below.alloc ?_ ?_ _) | (with_reducible refine Below.setCell ?_ ?_ _) | (with_reducible refine Below.drew ?_) | (with_reducible refine Below.trans ?_ (Below.mono (by assumption) ?_)) | (simp; done) | (simp; omega) | omega))
    clear hb ck K6 hz
    clear ac0 ac1 bc0 bc1 cc0 cc1 zl
    have B1 := hid B1
    obtain ⟨ac0, ac1, bc0, bc1, cc0, cc1⟩ := K.out _ B1.out
    have zl : w.heap.size + 1 + 1 < u1.heap.size := by have h1 := ZV.out; have h2 := (B1.out).size; omega
    go_wp2_with fail
    refine ((dv _).mono (fun _ _ h => h.g)).mono ?_
    rintro _ u2 ⟨rfl, hb⟩
    have B2 : Below V.heap.size V u2 := by have hB := B1.out; have hz := hB.size; repeat' (first | (with_reducible exact Below.refl _ _) | (with_reducible refine Below.alloc ?_ ?_ _) | (with_reducible refine Below.setCell ?_ ?_ _) | (with_reducible refine Below.drew ?_) | (with_reducible refine Below.trans ?_ (Below.mono (by assumption) ?_)) | (simp; done) | (simp; omega) | omega)
    clear hb
    clear ac0 ac1 bc0 bc1 cc0 cc1 zl
    have B2 := hid B2
    obtain ⟨ac0, ac1, bc0, bc1, cc0, cc1⟩ := K.out _ B2.out
    have zl : w.heap.size + 1 + 1 < u2.heap.size := by have h1 := ZV.out; have h2 := (B2.out).size; omega
    go_wp2_with fail
    refine bodyPost_ret (v := .tuple #[.int .i64 v, .int .i64 0]) (by simp [results, Try.results12, go_sem]) rfl ?_
    have hB := B2.out
    have hz := hB.size
    have hV := BV.out.trans (hB.mono BV.out.size)
    exact Gives.mk (rfl) (by first | exact hV | (repeat' (first | (with_reducible exact Below.refl _ _) | (with_reducible refine Below.alloc ?_ ?_ _) | (with_reducible refine Below.setCell ?_ ?_ _) | (with_reducible refine Below.drew ?_) | (with_reducible refine Below.trans ?_ (Below.mono (by assumption) ?_)) | (simp; done) | (simp; omega) | omega)))
  · rw [if_neg ok]
    have ck := fun (W : World) T => chk_any (some ⟨w.heap.size + 1 + 1 + 1, 0, none⟩) 3 [a, b, c] (by simp) W T 2 (Sp.chkL_bad (by simpa [and_assoc] using ok))
    have K6 := fun (W : World) => Pts.mk3 (g := w.heap.size + 1 + 1 + 1) (w := W) (a := a) (b := b) (c := c)
    clear ok
    obtain ⟨a1, a2⟩ := a
    obtain ⟨b1, b2⟩ := b
    obtain ⟨c1, c2⟩ := c
    dsimp only at *
    obtain ⟨V, hV⟩ : ∃ V : World, (((w.alloc (Obj.cells #[.int .i64 (a1), .int .i64 (a2)] 23)).alloc (Obj.cells #[.int .i64 (b1), .int .i64 (b2)] 23)).alloc (Obj.cells #[.int .i64 (c1), .int .i64 (c2)] 23)) = V := ⟨_, rfl⟩
    have bV : Below w.heap.size w V := by rw [← hV]; (repeat' (first | (with_reducible exact Below.refl _ _) | (with_reducible refine Below.alloc ?_ ?_ _) | (with_reducible refine Below.setCell ?_ ?_ _) | (with_reducible refine Below.drew ?_) | (with_reducible refine Below.trans ?_ (Below.mono (by assumption) ?_)) | (simp; done) | (simp; omega) | omega))
    have zV : V.heap.size = w.heap.size + 1 + 1 + 1 := by rw [← hV]; simp
    have dV : V.drawn = w.drawn := by rw [← hV]; rfl
    have K : Hid (∀ W' : World, Below V.heap.size V W' → (W'.cell? ⟨w.heap.size, 0, none⟩ = some (.int .i64 a1) ∧ W'.cell? ⟨w.heap.size, 1, none⟩ = some (.int .i64 a2) ∧ W'.cell? ⟨w.heap.size + 1, 0, none⟩ = some (.int .i64 b1) ∧ W'.cell? ⟨w.heap.size + 1, 1, none⟩ = some (.int .i64 b2) ∧ W'.cell? ⟨w.heap.size + 1 + 1, 0, none⟩ = some (.int .i64 c1) ∧ W'.cell? ⟨w.heap.size + 1 + 1, 1, none⟩ = some (.int .i64 c2))) := hid fun W' B => ⟨(B.cell (p := ⟨w.heap.size, 0, none⟩) (by simp only; omega)).trans (by rw [← hV]; simp [go_sem]), (B.cell (p := ⟨w.heap.size, 1, none⟩) (by simp only; omega)).trans (by rw [← hV]; simp [go_sem]), (B.cell (p := ⟨w.heap.size + 1, 0, none⟩) (by simp only; omega)).trans (by rw [← hV]; simp [go_sem]), (B.cell (p := ⟨w.heap.size + 1, 1, none⟩) (by simp only; omega)).trans (by rw [← hV]; simp [go_sem]), (B.cell (p := ⟨w.heap.size + 1 + 1, 0, none⟩) (by simp only; omega)).trans (by rw [← hV]; simp [go_sem]), (B.cell (p := ⟨w.heap.size + 1 + 1, 1, none⟩) (by simp only; omega)).trans (by rw [← hV]; simp [go_sem])⟩
    have HV := hid hV
    have BV := hid bV
    have ZV := hid zV
    have DV := hid dV
    clear hV bV zV dV
    go_enter Try.func12, Try.ntmps12
    go_upto_region 1 with fail
    rw [HV.out]
    obtain ⟨ac0, ac1, bc0, bc1, cc0, cc1⟩ := K.out _ (Below.refl _ _ : Below V.heap.size V V)
    have zl : w.heap.size + 1 + 1 < V.heap.size := by have h1 := ZV.out; have h2 := ((Below.refl _ _ : Below V.heap.size V V)).size; omega
    have hz : V.heap.size = w.heap.size + 1 + 1 + 1 := ZV.out
    go_wp2_with fail
    refine (ck _ (K6 _ (by simp; omega) (by simp [go_sem, ← hz]) (by simp [go_sem, ← hz]) (by simp [go_sem, ← hz]) (by simp [go_sem, ← hz]) (by simp [go_sem, ← hz]) (by simp [go_sem, ← hz]))).mono ?_
    rintro _ u1 ⟨rfl, hb⟩
    have B1 : Below V.heap.size V u1 := by (repeat' (first | (with_reducible exact Below.refl _ _) | (with_reducible refine Below.alloc ?_ ?_ _) | (with_reducible refine Below.setCell ?_ ?_ _) | (with_reducible refine Below.drew ?_) | (with_reducible refine Below.trans ?_ (Below.mono (by assumption) ?_)) | (simp; done) | (simp; omega) | omega))
    clear hb ck K6 hz
    clear ac0 ac1 bc0 bc1 cc0 cc1 zl
    have B1 := hid B1
    obtain ⟨ac0, ac1, bc0, bc1, cc0, cc1⟩ := K.out _ B1.out
    have zl : w.heap.size + 1 + 1 < u1.heap.size := by have h1 := ZV.out; have h2 := (B1.out).size; omega
    go_wp2_with fail
    refine bodyPost_ret (v := .tuple #[.int .i64 0, .int .i64 2]) (by simp [results, Try.results12, go_sem]) rfl ?_
    have hB := B1.out
    have hz := hB.size
    have hV := BV.out.trans (hB.mono BV.out.size)
    exact Gives.mk (rfl) (by first | exact hV | (repeat' (first | (with_reducible exact Below.refl _ _) | (with_reducible refine Below.alloc ?_ ?_ _) | (with_reducible refine Below.setCell ?_ ?_ _) | (with_reducible refine Below.drew ?_) | (with_reducible refine Below.trans ?_ (Below.mono (by assumption) ?_)) | (simp; done) | (simp; omega) | omega)))

set_option maxRecDepth 100000 in
set_option maxHeartbeats 4000000 in
theorem Orient_any (a b c : Sp.Pt) (w : World) :
    Calls Try.prog 16 #[.agg #[.int .i64 a.1, .int .i64 a.2], .agg #[.int .i64 b.1, .int .i64 b.2], .agg #[.int .i64 c.1, .int .i64 c.2]] w (Gives (.tuple #[.int .i64 (Sp.orientS a b c).1, .int .i64 (Sp.orientS a b c).2]) w) := by
  unfold Sp.orientS
  rcases Classical.em ((Sp.okP a && Sp.okP b && Sp.okP c) = true) with ok | ok
  · rw [if_pos ok]
    have ck := fun (W : World) T => chk_any (some ⟨w.heap.size + 1 + 1 + 1, 0, none⟩) 3 [a, b, c] (by simp) W T 0 (Sp.chkL_good (by simpa [and_assoc] using ok))
    simp only [Bool.and_eq_true] at ok
    have dv := turn_any a b c ok.1.1 ok.1.2 ok.2
    have K6 := fun (W : World) => Pts.mk3 (g := w.heap.size + 1 + 1 + 1) (w := W) (a := a) (b := b) (c := c)
    clear ok
    generalize Sp.sg (Sp.crs a b c) = v at dv ⊢
    obtain ⟨a1, a2⟩ := a
    obtain ⟨b1, b2⟩ := b
    obtain ⟨c1, c2⟩ := c
    dsimp only at *
    obtain ⟨V, hV⟩ : ∃ V : World, (((w.alloc (Obj.cells #[.int .i64 (a1), .int .i64 (a2)] 23)).alloc (Obj.cells #[.int .i64 (b1), .int .i64 (b2)] 23)).alloc (Obj.cells #[.int .i64 (c1), .int .i64 (c2)] 23)) = V := ⟨_, rfl⟩
    have bV : Below w.heap.size w V := by rw [← hV]; (repeat' (first | (with_reducible exact Below.refl _ _) | (with_reducible refine Below.alloc ?_ ?_ _) | (with_reducible refine Below.setCell ?_ ?_ _) | (with_reducible refine Below.drew ?_) | (with_reducible refine Below.trans ?_ (Below.mono (by assumption) ?_)) | (simp; done) | (simp; omega) | omega))
    have zV : V.heap.size = w.heap.size + 1 + 1 + 1 := by rw [← hV]; simp
    have dV : V.drawn = w.drawn := by rw [← hV]; rfl
    have K : Hid (∀ W' : World, Below V.heap.size V W' → (W'.cell? ⟨w.heap.size, 0, none⟩ = some (.int .i64 a1) ∧ W'.cell? ⟨w.heap.size, 1, none⟩ = some (.int .i64 a2) ∧ W'.cell? ⟨w.heap.size + 1, 0, none⟩ = some (.int .i64 b1) ∧ W'.cell? ⟨w.heap.size + 1, 1, none⟩ = some (.int .i64 b2) ∧ W'.cell? ⟨w.heap.size + 1 + 1, 0, none⟩ = some (.int .i64 c1) ∧ W'.cell? ⟨w.heap.size + 1 + 1, 1, none⟩ = some (.int .i64 c2))) := hid fun W' B => ⟨(B.cell (p := ⟨w.heap.size, 0, none⟩) (by simp only; omega)).trans (by rw [← hV]; simp [go_sem]), (B.cell (p := ⟨w.heap.size, 1, none⟩) (by simp only; omega)).trans (by rw [← hV]; simp [go_sem]), (B.cell (p := ⟨w.heap.size + 1, 0, none⟩) (by simp only; omega)).trans (by rw [← hV]; simp [go_sem]), (B.cell (p := ⟨w.heap.size + 1, 1, none⟩) (by simp only; omega)).trans (by rw [← hV]; simp [go_sem]), (B.cell (p := ⟨w.heap.size + 1 + 1, 0, none⟩) (by simp only; omega)).trans (by rw [← hV]; simp [go_sem]), (B.cell (p := ⟨w.heap.size + 1 + 1, 1, none⟩) (by simp only; omega)).trans (by rw [← hV]; simp [go_sem])⟩
    have HV := hid hV
    have BV := hid bV
    have ZV := hid zV
    have DV := hid dV
    clear hV bV zV dV
    go_enter Try.func16, Try.ntmps16
    go_upto_region 1 with fail
    rw [HV.out]
    obtain ⟨ac0, ac1, bc0, bc1, cc0, cc1⟩ := K.out _ (Below.refl _ _ : Below V.heap.size V V)
    have zl : w.heap.size + 1 + 1 < V.heap.size := by have h1 := ZV.out; have h2 := ((Below.refl _ _ : Below V.heap.size V V)).size; omega
    have hz : V.heap.size = w.heap.size + 1 + 1 + 1 := ZV.out
    go_wp2_with fail
    refine (ck _ (K6 _ (by simp; omega) (by simp [go_sem, ← hz]) (by simp [go_sem, ← hz]) (by simp [go_sem, ← hz]) (by simp [go_sem, ← hz]) (by simp [go_sem, ← hz]) (by simp [go_sem, ← hz]))).mono ?_
    rintro _ u1 ⟨rfl, hb⟩
    have B1 : Below V.heap.size V u1 := by (repeat' (first | (with_reducible exact Below.refl _ _) | (with_reducible refine Below.alloc ?_ ?_ _) | (with_reducible refine Below.setCell ?_ ?_ _) | (with_reducible refine Below.drew ?_) | (with_reducible refine Below.trans ?_ (Below.mono (by assumption) ?_)) | (simp; done) | (simp; omega) | omega))
    clear hb ck K6 hz
    clear ac0 ac1 bc0 bc1 cc0 cc1 zl
    have B1 := hid B1
    obtain ⟨ac0, ac1, bc0, bc1, cc0, cc1⟩ := K.out _ B1.out
    have zl : w.heap.size + 1 + 1 < u1.heap.size := by have h1 := ZV.out; have h2 := (B1.out).size; omega
    go_wp2_with fail
    refine ((dv _).mono (fun _ _ h => h.g)).mono ?_
    rintro _ u2 ⟨rfl, hb⟩
    have B2 : Below V.heap.size V u2 := by have hB := B1.out; have hz := hB.size; repeat' (first | (with_reducible exact Below.refl _ _) | (with_reducible refine Below.alloc ?_ ?_ _) | (with_reducible refine Below.setCell ?_ ?_ _) | (with_reducible refine Below.drew ?_) | (with_reducible refine Below.trans ?_ (Below.mono (by assumption) ?_)) | (simp; done) | (simp; omega) | omega)
    clear hb
    clear ac0 ac1 bc0 bc1 cc0 cc1 zl
    have B2 := hid B2
    obtain ⟨ac0, ac1, bc0, bc1, cc0, cc1⟩ := K.out _ B2.out
    have zl : w.heap.size + 1 + 1 < u2.heap.size := by have h1 := ZV.out; have h2 := (B2.out).size; omega
    go_wp2_with fail
    refine bodyPost_ret (v := .tuple #[.int .i64 v, .int .i64 0]) (by simp [results, Try.results16, go_sem]) rfl ?_
    have hB := B2.out
    have hz := hB.size
    have hV := BV.out.trans (hB.mono BV.out.size)
    exact Gives.mk (rfl) (by first | exact hV | (repeat' (first | (with_reducible exact Below.refl _ _) | (with_reducible refine Below.alloc ?_ ?_ _) | (with_reducible refine Below.setCell ?_ ?_ _) | (with_reducible refine Below.drew ?_) | (with_reducible refine Below.trans ?_ (Below.mono (by assumption) ?_)) | (simp; done) | (simp; omega) | omega)))
  · rw [if_neg ok]
    have ck := fun (W : World) T => chk_any (some ⟨w.heap.size + 1 + 1 + 1, 0, none⟩) 3 [a, b, c] (by simp) W T 2 (Sp.chkL_bad (by simpa [and_assoc] using ok))
    have K6 := fun (W : World) => Pts.mk3 (g := w.heap.size + 1 + 1 + 1) (w := W) (a := a) (b := b) (c := c)
    clear ok
    obtain ⟨a1, a2⟩ := a
    obtain ⟨b1, b2⟩ := b
    obtain ⟨c1, c2⟩ := c
    dsimp only at *
    obtain ⟨V, hV⟩ : ∃ V : World, (((w.alloc (Obj.cells #[.int .i64 (a1), .int .i64 (a2)] 23)).alloc (Obj.cells #[.int .i64 (b1), .int .i64 (b2)] 23)).alloc (Obj.cells #[.int .i64 (c1), .int .i64 (c2)] 23)) = V := ⟨_, rfl⟩
    have bV : Below w.heap.size w V := by rw [← hV]; (repeat' (first | (with_reducible exact Below.refl _ _) | (with_reducible refine Below.alloc ?_ ?_ _) | (with_reducible refine Below.setCell ?_ ?_ _) | (with_reducible refine Below.drew ?_) | (with_reducible refine Below.trans ?_ (Below.mono (by assumption) ?_)) | (simp; done) | (simp; omega) | omega))
    have zV : V.heap.size = w.heap.size + 1 + 1 + 1 := by rw [← hV]; simp
    have dV : V.drawn = w.drawn := by rw [← hV]; rfl
    have K : Hid (∀ W' : World, Below V.heap.size V W' → (W'.cell? ⟨w.heap.size, 0, none⟩ = some (.int .i64 a1) ∧ W'.cell? ⟨w.heap.size, 1, none⟩ = some (.int .i64 a2) ∧ W'.cell? ⟨w.heap.size + 1, 0, none⟩ = some (.int .i64 b1) ∧ W'.cell? ⟨w.heap.size + 1, 1, none⟩ = some (.int .i64 b2) ∧ W'.cell? ⟨w.heap.size + 1 + 1, 0, none⟩ = some (.int .i64 c1) ∧ W'.cell? ⟨w.heap.size + 1 + 1, 1, none⟩ = some (.int .i64 c2))) := hid fun W' B => ⟨(B.cell (p := ⟨w.heap.size, 0, none⟩) (by simp only; omega)).trans (by rw [← hV]; simp [go_sem]), (B.cell (p := ⟨w.heap.size, 1, none⟩) (by simp only; omega)).trans (by rw [← hV]; simp [go_sem]), (B.cell (p := ⟨w.heap.size + 1, 0, none⟩) (by simp only; omega)).trans (by rw [← hV]; simp [go_sem]), (B.cell (p := ⟨w.heap.size + 1, 1, none⟩) (by simp only; omega)).trans (by rw [← hV]; simp [go_sem]), (B.cell (p := ⟨w.heap.size + 1 + 1, 0, none⟩) (by simp only; omega)).trans (by rw [← hV]; simp [go_sem]), (B.cell (p := ⟨w.heap.size + 1 + 1, 1, none⟩) (by simp only; omega)).trans (by rw [← hV]; simp [go_sem])⟩
    have HV := hid hV
    have BV := hid bV
    have ZV := hid zV
    have DV := hid dV
    clear hV bV zV dV
    go_enter Try.func16, Try.ntmps16
    go_upto_region 1 with fail
    rw [HV.out]
    obtain ⟨ac0, ac1, bc0, bc1, cc0, cc1⟩ := K.out _ (Below.refl _ _ : Below V.heap.size V V)
    have zl : w.heap.size + 1 + 1 < V.heap.size := by have h1 := ZV.out; have h2 := ((Below.refl _ _ : Below V.heap.size V V)).size; omega
    have hz : V.heap.size = w.heap.size + 1 + 1 + 1 := ZV.out
    go_wp2_with fail
    refine (ck _ (K6 _ (by simp; omega) (by simp [go_sem, ← hz]) (by simp [go_sem, ← hz]) (by simp [go_sem, ← hz]) (by simp [go_sem, ← hz]) (by simp [go_sem, ← hz]) (by simp [go_sem, ← hz]))).mono ?_
    rintro _ u1 ⟨rfl, hb⟩
    have B1 : Below V.heap.size V u1 := by (repeat' (first | (with_reducible exact Below.refl _ _) | (with_reducible refine Below.alloc ?_ ?_ _) | (with_reducible refine Below.setCell ?_ ?_ _) | (with_reducible refine Below.drew ?_) | (with_reducible refine Below.trans ?_ (Below.mono (by assumption) ?_)) | (simp; done) | (simp; omega) | omega))
    clear hb ck K6 hz
    clear ac0 ac1 bc0 bc1 cc0 cc1 zl
    have B1 := hid B1
    obtain ⟨ac0, ac1, bc0, bc1, cc0, cc1⟩ := K.out _ B1.out
    have zl : w.heap.size + 1 + 1 < u1.heap.size := by have h1 := ZV.out; have h2 := (B1.out).size; omega
    go_wp2_with fail
    refine bodyPost_ret (v := .tuple #[.int .i64 0, .int .i64 2]) (by simp [results, Try.results16, go_sem]) rfl ?_
    have hB := B1.out
    have hz := hB.size
    have hV := BV.out.trans (hB.mono BV.out.size)
    exact Gives.mk (rfl) (by first | exact hV | (repeat' (first | (with_reducible exact Below.refl _ _) | (with_reducible refine Below.alloc ?_ ?_ _) | (with_reducible refine Below.setCell ?_ ?_ _) | (with_reducible refine Below.drew ?_) | (with_reducible refine Below.trans ?_ (Below.mono (by assumption) ?_)) | (simp; done) | (simp; omega) | omega)))

set_option maxRecDepth 100000 in
set_option maxHeartbeats 4000000 in
theorem Dist2_any (a b : Sp.Pt) (w : World) :
    Calls Try.prog 18 #[.agg #[.int .i64 a.1, .int .i64 a.2], .agg #[.int .i64 b.1, .int .i64 b.2]] w (Gives (.tuple #[.int .i64 (Sp.dist2S a b).1, .int .i64 (Sp.dist2S a b).2]) w) := by
  unfold Sp.dist2S
  rcases Classical.em ((Sp.okP a && Sp.okP b) = true) with ok | ok
  · rw [if_pos ok]
    have ck := fun (W : World) T => chk_any (some ⟨w.heap.size + 1 + 1, 0, none⟩) 2 [a, b] (by simp) W T 0 (Sp.chkL_good (by simpa [and_assoc] using ok))
    simp only [Bool.and_eq_true] at ok
    have dv := square_any a b ok.1 ok.2
    have K6 := fun (W : World) => Pts.mk2 (g := w.heap.size + 1 + 1) (w := W) (a := a) (b := b)
    clear ok
    generalize Sp.sq a b = v at dv ⊢
    obtain ⟨a1, a2⟩ := a
    obtain ⟨b1, b2⟩ := b
    dsimp only at *
    obtain ⟨V, hV⟩ : ∃ V : World, ((w.alloc (Obj.cells #[.int .i64 (a1), .int .i64 (a2)] 23)).alloc (Obj.cells #[.int .i64 (b1), .int .i64 (b2)] 23)) = V := ⟨_, rfl⟩
    have bV : Below w.heap.size w V := by rw [← hV]; (repeat' (first | (with_reducible exact Below.refl _ _) | (with_reducible refine Below.alloc ?_ ?_ _) | (with_reducible refine Below.setCell ?_ ?_ _) | (with_reducible refine Below.drew ?_) | (with_reducible refine Below.trans ?_ (Below.mono (by assumption) ?_)) | (simp; done) | (simp; omega) | omega))
    have zV : V.heap.size = w.heap.size + 1 + 1 := by rw [← hV]; simp
    have dV : V.drawn = w.drawn := by rw [← hV]; rfl
    have K : Hid (∀ W' : World, Below V.heap.size V W' → (W'.cell? ⟨w.heap.size, 0, none⟩ = some (.int .i64 a1) ∧ W'.cell? ⟨w.heap.size, 1, none⟩ = some (.int .i64 a2) ∧ W'.cell? ⟨w.heap.size + 1, 0, none⟩ = some (.int .i64 b1) ∧ W'.cell? ⟨w.heap.size + 1, 1, none⟩ = some (.int .i64 b2))) := hid fun W' B => ⟨(B.cell (p := ⟨w.heap.size, 0, none⟩) (by simp only; omega)).trans (by rw [← hV]; simp [go_sem]), (B.cell (p := ⟨w.heap.size, 1, none⟩) (by simp only; omega)).trans (by rw [← hV]; simp [go_sem]), (B.cell (p := ⟨w.heap.size + 1, 0, none⟩) (by simp only; omega)).trans (by rw [← hV]; simp [go_sem]), (B.cell (p := ⟨w.heap.size + 1, 1, none⟩) (by simp only; omega)).trans (by rw [← hV]; simp [go_sem])⟩
    have HV := hid hV
    have BV := hid bV
    have ZV := hid zV
    have DV := hid dV
    clear hV bV zV dV
    go_enter Try.func18, Try.ntmps18
    go_upto_region 1 with fail
    rw [HV.out]
    obtain ⟨ac0, ac1, bc0, bc1⟩ := K.out _ (Below.refl _ _ : Below V.heap.size V V)
    have zl : w.heap.size + 1 < V.heap.size := by have h1 := ZV.out; have h2 := ((Below.refl _ _ : Below V.heap.size V V)).size; omega
    have hz : V.heap.size = w.heap.size + 1 + 1 := ZV.out
    go_wp2_with fail
    refine (ck _ (K6 _ (by simp; omega) (by simp [go_sem, ← hz]) (by simp [go_sem, ← hz]) (by simp [go_sem, ← hz]) (by simp [go_sem, ← hz]))).mono ?_
    rintro _ u1 ⟨rfl, hb⟩
    have B1 : Below V.heap.size V u1 := by (repeat' (first | (with_reducible exact Below.refl _ _) | (with_reducible refine Below.alloc ?_ ?_ _) | (with_reducible refine Below.setCell ?_ ?_ _) | (with_reducible refine Below.drew ?_) | (with_reducible refine Below.trans ?_ (Below.mono (by assumption) ?_)) | (simp; done) | (simp; omega) | omega))
    clear hb ck K6 hz
    clear ac0 ac1 bc0 bc1 zl
    have B1 := hid B1
    obtain ⟨ac0, ac1, bc0, bc1⟩ := K.out _ B1.out
    have zl : w.heap.size + 1 < u1.heap.size := by have h1 := ZV.out; have h2 := (B1.out).size; omega
    go_wp2_with fail
    refine ((dv _).mono (fun _ _ h => h.g)).mono ?_
    rintro _ u2 ⟨rfl, hb⟩
    have B2 : Below V.heap.size V u2 := by have hB := B1.out; have hz := hB.size; repeat' (first | (with_reducible exact Below.refl _ _) | (with_reducible refine Below.alloc ?_ ?_ _) | (with_reducible refine Below.setCell ?_ ?_ _) | (with_reducible refine Below.drew ?_) | (with_reducible refine Below.trans ?_ (Below.mono (by assumption) ?_)) | (simp; done) | (simp; omega) | omega)
    clear hb
    clear ac0 ac1 bc0 bc1 zl
    have B2 := hid B2
    obtain ⟨ac0, ac1, bc0, bc1⟩ := K.out _ B2.out
    have zl : w.heap.size + 1 < u2.heap.size := by have h1 := ZV.out; have h2 := (B2.out).size; omega
    go_wp2_with fail
    refine bodyPost_ret (v := .tuple #[.int .i64 v, .int .i64 0]) (by simp [results, Try.results18, go_sem]) rfl ?_
    have hB := B2.out
    have hz := hB.size
    have hV := BV.out.trans (hB.mono BV.out.size)
    exact Gives.mk (rfl) (by first | exact hV | (repeat' (first | (with_reducible exact Below.refl _ _) | (with_reducible refine Below.alloc ?_ ?_ _) | (with_reducible refine Below.setCell ?_ ?_ _) | (with_reducible refine Below.drew ?_) | (with_reducible refine Below.trans ?_ (Below.mono (by assumption) ?_)) | (simp; done) | (simp; omega) | omega)))
  · rw [if_neg ok]
    have ck := fun (W : World) T => chk_any (some ⟨w.heap.size + 1 + 1, 0, none⟩) 2 [a, b] (by simp) W T 2 (Sp.chkL_bad (by simpa [and_assoc] using ok))
    have K6 := fun (W : World) => Pts.mk2 (g := w.heap.size + 1 + 1) (w := W) (a := a) (b := b)
    clear ok
    obtain ⟨a1, a2⟩ := a
    obtain ⟨b1, b2⟩ := b
    dsimp only at *
    obtain ⟨V, hV⟩ : ∃ V : World, ((w.alloc (Obj.cells #[.int .i64 (a1), .int .i64 (a2)] 23)).alloc (Obj.cells #[.int .i64 (b1), .int .i64 (b2)] 23)) = V := ⟨_, rfl⟩
    have bV : Below w.heap.size w V := by rw [← hV]; (repeat' (first | (with_reducible exact Below.refl _ _) | (with_reducible refine Below.alloc ?_ ?_ _) | (with_reducible refine Below.setCell ?_ ?_ _) | (with_reducible refine Below.drew ?_) | (with_reducible refine Below.trans ?_ (Below.mono (by assumption) ?_)) | (simp; done) | (simp; omega) | omega))
    have zV : V.heap.size = w.heap.size + 1 + 1 := by rw [← hV]; simp
    have dV : V.drawn = w.drawn := by rw [← hV]; rfl
    have K : Hid (∀ W' : World, Below V.heap.size V W' → (W'.cell? ⟨w.heap.size, 0, none⟩ = some (.int .i64 a1) ∧ W'.cell? ⟨w.heap.size, 1, none⟩ = some (.int .i64 a2) ∧ W'.cell? ⟨w.heap.size + 1, 0, none⟩ = some (.int .i64 b1) ∧ W'.cell? ⟨w.heap.size + 1, 1, none⟩ = some (.int .i64 b2))) := hid fun W' B => ⟨(B.cell (p := ⟨w.heap.size, 0, none⟩) (by simp only; omega)).trans (by rw [← hV]; simp [go_sem]), (B.cell (p := ⟨w.heap.size, 1, none⟩) (by simp only; omega)).trans (by rw [← hV]; simp [go_sem]), (B.cell (p := ⟨w.heap.size + 1, 0, none⟩) (by simp only; omega)).trans (by rw [← hV]; simp [go_sem]), (B.cell (p := ⟨w.heap.size + 1, 1, none⟩) (by simp only; omega)).trans (by rw [← hV]; simp [go_sem])⟩
    have HV := hid hV
    have BV := hid bV
    have ZV := hid zV
    have DV := hid dV
    clear hV bV zV dV
    go_enter Try.func18, Try.ntmps18
    go_upto_region 1 with fail
    rw [HV.out]
    obtain ⟨ac0, ac1, bc0, bc1⟩ := K.out _ (Below.refl _ _ : Below V.heap.size V V)
    have zl : w.heap.size + 1 < V.heap.size := by have h1 := ZV.out; have h2 := ((Below.refl _ _ : Below V.heap.size V V)).size; omega
    have hz : V.heap.size = w.heap.size + 1 + 1 := ZV.out
    go_wp2_with fail
    refine (ck _ (K6 _ (by simp; omega) (by simp [go_sem, ← hz]) (by simp [go_sem, ← hz]) (by simp [go_sem, ← hz]) (by simp [go_sem, ← hz]))).mono ?_
    rintro _ u1 ⟨rfl, hb⟩
    have B1 : Below V.heap.size V u1 := by (repeat' (first | (with_reducible exact Below.refl _ _) | (with_reducible refine Below.alloc ?_ ?_ _) | (with_reducible refine Below.setCell ?_ ?_ _) | (with_reducible refine Below.drew ?_) | (with_reducible refine Below.trans ?_ (Below.mono (by assumption) ?_)) | (simp; done) | (simp; omega) | omega))
    clear hb ck K6 hz
    clear ac0 ac1 bc0 bc1 zl
    have B1 := hid B1
    obtain ⟨ac0, ac1, bc0, bc1⟩ := K.out _ B1.out
    have zl : w.heap.size + 1 < u1.heap.size := by have h1 := ZV.out; have h2 := (B1.out).size; omega
    go_wp2_with fail
    refine bodyPost_ret (v := .tuple #[.int .i64 0, .int .i64 2]) (by simp [results, Try.results18, go_sem]) rfl ?_
    have hB := B1.out
    have hz := hB.size
    have hV := BV.out.trans (hB.mono BV.out.size)
    exact Gives.mk (rfl) (by first | exact hV | (repeat' (first | (with_reducible exact Below.refl _ _) | (with_reducible refine Below.alloc ?_ ?_ _) | (with_reducible refine Below.setCell ?_ ?_ _) | (with_reducible refine Below.drew ?_) | (with_reducible refine Below.trans ?_ (Below.mono (by assumption) ?_)) | (simp; done) | (simp; omega) | omega)))

set_option maxRecDepth 100000 in
set_option maxHeartbeats 4000000 in
theorem OnSegment_any (p a b : Sp.Pt) (w : World) :
    Calls Try.prog 23 #[.agg #[.int .i64 p.1, .int .i64 p.2], .agg #[.int .i64 a.1, .int .i64 a.2], .agg #[.int .i64 b.1, .int .i64 b.2]] w (Gives (.tuple #[.bool (Sp.onsegS p a b).1, .int .i64 (Sp.onsegS p a b).2]) w) := by
  unfold Sp.onsegS
  rcases Classical.em ((Sp.okP p && Sp.okP a && Sp.okP b) = true) with ok | ok
  · rw [if_pos ok]
    have ck := fun (W : World) T => chk_any (some ⟨w.heap.size + 1 + 1 + 1, 0, none⟩) 3 [p, a, b] (by simp) W T 0 (Sp.chkL_good (by simpa [and_assoc] using ok))
    simp only [Bool.and_eq_true] at ok
    have dv := on_any p a b ok.1.1 ok.1.2 ok.2
    have K6 := fun (W : World) => Pts.mk3 (g := w.heap.size + 1 + 1 + 1) (w := W) (a := p) (b := a) (c := b)
    clear ok
    generalize Sp.onS p a b = v at dv ⊢
    obtain ⟨p1, p2⟩ := p
    obtain ⟨a1, a2⟩ := a
    obtain ⟨b1, b2⟩ := b
    dsimp only at *
    obtain ⟨V, hV⟩ : ∃ V : World, (((w.alloc (Obj.cells #[.int .i64 (p1), .int .i64 (p2)] 23)).alloc (Obj.cells #[.int .i64 (a1), .int .i64 (a2)] 23)).alloc (Obj.cells #[.int .i64 (b1), .int .i64 (b2)] 23)) = V := ⟨_, rfl⟩
    have bV : Below w.heap.size w V := by rw [← hV]; (repeat' (first | (with_reducible exact Below.refl _ _) | (with_reducible refine Below.alloc ?_ ?_ _) | (with_reducible refine Below.setCell ?_ ?_ _) | (with_reducible refine Below.drew ?_) | (with_reducible refine Below.trans ?_ (Below.mono (by assumption) ?_)) | (simp; done) | (simp; omega) | omega))
    have zV : V.heap.size = w.heap.size + 1 + 1 + 1 := by rw [← hV]; simp
    have dV : V.drawn = w.drawn := by rw [← hV]; rfl
    have K : Hid (∀ W' : World, Below V.heap.size V W' → (W'.cell? ⟨w.heap.size, 0, none⟩ = some (.int .i64 p1) ∧ W'.cell? ⟨w.heap.size, 1, none⟩ = some (.int .i64 p2) ∧ W'.cell? ⟨w.heap.size + 1, 0, none⟩ = some (.int .i64 a1) ∧ W'.cell? ⟨w.heap.size + 1, 1, none⟩ = some (.int .i64 a2) ∧ W'.cell? ⟨w.heap.size + 1 + 1, 0, none⟩ = some (.int .i64 b1) ∧ W'.cell? ⟨w.heap.size + 1 + 1, 1, none⟩ = some (.int .i64 b2))) := hid fun W' B => ⟨(B.cell (p := ⟨w.heap.size, 0, none⟩) (by simp only; omega)).trans (by rw [← hV]; simp [go_sem]), (B.cell (p := ⟨w.heap.size, 1, none⟩) (by simp only; omega)).trans (by rw [← hV]; simp [go_sem]), (B.cell (p := ⟨w.heap.size + 1, 0, none⟩) (by simp only; omega)).trans (by rw [← hV]; simp [go_sem]), (B.cell (p := ⟨w.heap.size + 1, 1, none⟩) (by simp only; omega)).trans (by rw [← hV]; simp [go_sem]), (B.cell (p := ⟨w.heap.size + 1 + 1, 0, none⟩) (by simp only; omega)).trans (by rw [← hV]; simp [go_sem]), (B.cell (p := ⟨w.heap.size + 1 + 1, 1, none⟩) (by simp only; omega)).trans (by rw [← hV]; simp [go_sem])⟩
    have HV := hid hV
    have BV := hid bV
    have ZV := hid zV
    have DV := hid dV
    clear hV bV zV dV
    go_enter Try.func23, Try.ntmps23
    go_upto_region 1 with fail
    rw [HV.out]
    obtain ⟨pc0, pc1, ac0, ac1, bc0, bc1⟩ := K.out _ (Below.refl _ _ : Below V.heap.size V V)
    have zl : w.heap.size + 1 + 1 < V.heap.size := by have h1 := ZV.out; have h2 := ((Below.refl _ _ : Below V.heap.size V V)).size; omega
    have hz : V.heap.size = w.heap.size + 1 + 1 + 1 := ZV.out
    go_wp2_with fail
    refine (ck _ (K6 _ (by simp; omega) (by simp [go_sem, ← hz]) (by simp [go_sem, ← hz]) (by simp [go_sem, ← hz]) (by simp [go_sem, ← hz]) (by simp [go_sem, ← hz]) (by simp [go_sem, ← hz]))).mono ?_
    rintro _ u1 ⟨rfl, hb⟩
    have B1 : Below V.heap.size V u1 := by (repeat' (first | (with_reducible exact Below.refl _ _) | (with_reducible refine Below.alloc ?_ ?_ _) | (with_reducible refine Below.setCell ?_ ?_ _) | (with_reducible refine Below.drew ?_) | (with_reducible refine Below.trans ?_ (Below.mono (by assumption) ?_)) | (simp; done) | (simp; omega) | omega))
    clear hb ck K6 hz
    clear pc0 pc1 ac0 ac1 bc0 bc1 zl
    have B1 := hid B1
    obtain ⟨pc0, pc1, ac0, ac1, bc0, bc1⟩ := K.out _ B1.out
    have zl : w.heap.size + 1 + 1 < u1.heap.size := by have h1 := ZV.out; have h2 := (B1.out).size; omega
    go_wp2_with fail
    refine ((dv _).mono (fun _ _ h => h.g)).mono ?_
    rintro _ u2 ⟨rfl, hb⟩
    have B2 : Below V.heap.size V u2 := by have hB := B1.out; have hz := hB.size; repeat' (first | (with_reducible exact Below.refl _ _) | (with_reducible refine Below.alloc ?_ ?_ _) | (with_reducible refine Below.setCell ?_ ?_ _) | (with_reducible refine Below.drew ?_) | (with_reducible refine Below.trans ?_ (Below.mono (by assumption) ?_)) | (simp; done) | (simp; omega) | omega)
    clear hb
    clear pc0 pc1 ac0 ac1 bc0 bc1 zl
    have B2 := hid B2
    obtain ⟨pc0, pc1, ac0, ac1, bc0, bc1⟩ := K.out _ B2.out
    have zl : w.heap.size + 1 + 1 < u2.heap.size := by have h1 := ZV.out; have h2 := (B2.out).size; omega
    go_wp2_with fail
    refine bodyPost_ret (v := .tuple #[.bool v, .int .i64 0]) (by simp [results, Try.results23, go_sem]) rfl ?_
    have hB := B2.out
    have hz := hB.size
    have hV := BV.out.trans (hB.mono BV.out.size)
    exact Gives.mk (rfl) (by first | exact hV | (repeat' (first | (with_reducible exact Below.refl _ _) | (with_reducible refine Below.alloc ?_ ?_ _) | (with_reducible refine Below.setCell ?_ ?_ _) | (with_reducible refine Below.drew ?_) | (with_reducible refine Below.trans ?_ (Below.mono (by assumption) ?_)) | (simp; done) | (simp; omega) | omega)))
  · rw [if_neg ok]
    have ck := fun (W : World) T => chk_any (some ⟨w.heap.size + 1 + 1 + 1, 0, none⟩) 3 [p, a, b] (by simp) W T 2 (Sp.chkL_bad (by simpa [and_assoc] using ok))
    have K6 := fun (W : World) => Pts.mk3 (g := w.heap.size + 1 + 1 + 1) (w := W) (a := p) (b := a) (c := b)
    clear ok
    obtain ⟨p1, p2⟩ := p
    obtain ⟨a1, a2⟩ := a
    obtain ⟨b1, b2⟩ := b
    dsimp only at *
    obtain ⟨V, hV⟩ : ∃ V : World, (((w.alloc (Obj.cells #[.int .i64 (p1), .int .i64 (p2)] 23)).alloc (Obj.cells #[.int .i64 (a1), .int .i64 (a2)] 23)).alloc (Obj.cells #[.int .i64 (b1), .int .i64 (b2)] 23)) = V := ⟨_, rfl⟩
    have bV : Below w.heap.size w V := by rw [← hV]; (repeat' (first | (with_reducible exact Below.refl _ _) | (with_reducible refine Below.alloc ?_ ?_ _) | (with_reducible refine Below.setCell ?_ ?_ _) | (with_reducible refine Below.drew ?_) | (with_reducible refine Below.trans ?_ (Below.mono (by assumption) ?_)) | (simp; done) | (simp; omega) | omega))
    have zV : V.heap.size = w.heap.size + 1 + 1 + 1 := by rw [← hV]; simp
    have dV : V.drawn = w.drawn := by rw [← hV]; rfl
    have K : Hid (∀ W' : World, Below V.heap.size V W' → (W'.cell? ⟨w.heap.size, 0, none⟩ = some (.int .i64 p1) ∧ W'.cell? ⟨w.heap.size, 1, none⟩ = some (.int .i64 p2) ∧ W'.cell? ⟨w.heap.size + 1, 0, none⟩ = some (.int .i64 a1) ∧ W'.cell? ⟨w.heap.size + 1, 1, none⟩ = some (.int .i64 a2) ∧ W'.cell? ⟨w.heap.size + 1 + 1, 0, none⟩ = some (.int .i64 b1) ∧ W'.cell? ⟨w.heap.size + 1 + 1, 1, none⟩ = some (.int .i64 b2))) := hid fun W' B => ⟨(B.cell (p := ⟨w.heap.size, 0, none⟩) (by simp only; omega)).trans (by rw [← hV]; simp [go_sem]), (B.cell (p := ⟨w.heap.size, 1, none⟩) (by simp only; omega)).trans (by rw [← hV]; simp [go_sem]), (B.cell (p := ⟨w.heap.size + 1, 0, none⟩) (by simp only; omega)).trans (by rw [← hV]; simp [go_sem]), (B.cell (p := ⟨w.heap.size + 1, 1, none⟩) (by simp only; omega)).trans (by rw [← hV]; simp [go_sem]), (B.cell (p := ⟨w.heap.size + 1 + 1, 0, none⟩) (by simp only; omega)).trans (by rw [← hV]; simp [go_sem]), (B.cell (p := ⟨w.heap.size + 1 + 1, 1, none⟩) (by simp only; omega)).trans (by rw [← hV]; simp [go_sem])⟩
    have HV := hid hV
    have BV := hid bV
    have ZV := hid zV
    have DV := hid dV
    clear hV bV zV dV
    go_enter Try.func23, Try.ntmps23
    go_upto_region 1 with fail
    rw [HV.out]
    obtain ⟨pc0, pc1, ac0, ac1, bc0, bc1⟩ := K.out _ (Below.refl _ _ : Below V.heap.size V V)
    have zl : w.heap.size + 1 + 1 < V.heap.size := by have h1 := ZV.out; have h2 := ((Below.refl _ _ : Below V.heap.size V V)).size; omega
    have hz : V.heap.size = w.heap.size + 1 + 1 + 1 := ZV.out
    go_wp2_with fail
    refine (ck _ (K6 _ (by simp; omega) (by simp [go_sem, ← hz]) (by simp [go_sem, ← hz]) (by simp [go_sem, ← hz]) (by simp [go_sem, ← hz]) (by simp [go_sem, ← hz]) (by simp [go_sem, ← hz]))).mono ?_
    rintro _ u1 ⟨rfl, hb⟩
    have B1 : Below V.heap.size V u1 := by (repeat' (first | (with_reducible exact Below.refl _ _) | (with_reducible refine Below.alloc ?_ ?_ _) | (with_reducible refine Below.setCell ?_ ?_ _) | (with_reducible refine Below.drew ?_) | (with_reducible refine Below.trans ?_ (Below.mono (by assumption) ?_)) | (simp; done) | (simp; omega) | omega))
    clear hb ck K6 hz
    clear pc0 pc1 ac0 ac1 bc0 bc1 zl
    have B1 := hid B1
    obtain ⟨pc0, pc1, ac0, ac1, bc0, bc1⟩ := K.out _ B1.out
    have zl : w.heap.size + 1 + 1 < u1.heap.size := by have h1 := ZV.out; have h2 := (B1.out).size; omega
    go_wp2_with fail
    refine bodyPost_ret (v := .tuple #[.bool false, .int .i64 2]) (by simp [results, Try.results23, go_sem]) rfl ?_
    have hB := B1.out
    have hz := hB.size
    have hV := BV.out.trans (hB.mono BV.out.size)
    exact Gives.mk (rfl) (by first | exact hV | (repeat' (first | (with_reducible exact Below.refl _ _) | (with_reducible refine Below.alloc ?_ ?_ _) | (with_reducible refine Below.setCell ?_ ?_ _) | (with_reducible refine Below.drew ?_) | (with_reducible refine Below.trans ?_ (Below.mono (by assumption) ?_)) | (simp; done) | (simp; omega) | omega)))

end Go.Proofs.Ytfdnmlggemonhaa
