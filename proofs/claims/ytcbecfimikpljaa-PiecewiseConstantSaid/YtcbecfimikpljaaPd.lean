/-
  Layer 12: slices.IsSortedFunc, MinFunc, MaxFunc over fraction.Compare, by contract.
-/
import Derived.Test.YtcbecfimikpljaaPa
import Derived.Test.YtcbecfimikpljaaFops2
import Derived.IntWalk
namespace Go.Proofs.Ytcbecfimikpljaa
open Go.RowKit
set_option linter.unusedVariables false
set_option linter.unusedSimpArgs false

/-- The comparison of two numbers of a list. -/
def cmpP (p q : Int × Int) : Int := Sp.cmpF p.1 p.2 q.1 q.2
def UpFrom (l : List (Int × Int)) (j : Nat) : Prop := ∀ k, (h : k + 1 < l.length) → j ≤ k → ¬ cmpP (l[k + 1]) (l[k]) < 0
def SoRel (w : World) (l : List (Int × Int)) (t : Value) (wr : World) : Prop := ∃ j : Nat, t = .int .i64 (j : Int) ∧ j < l.length ∧ UpFrom l j ∧ Below w.heap.size w wr
set_option maxRecDepth 100000 in
set_option maxHeartbeats 2000000 in
theorem sorted_any (A : Option Addr) (cap : Nat) (l : List (Int × Int)) (B : Bool) (w : World) (h0 : 0 < l.length) (hz : FrSized l) (hT : Frs w A l) (hB : B = true ↔ UpFrom l 0) :
    Calls Try.prog 38 #[.slice A l.length cap, .func (.func 39) #[] #[]] w (Gives (.bool B) w) := by
  have HT := hid hT
  have HZ := hid hz
  have HBB := hid hB
  have H0 := hid h0
  obtain ⟨m, hm⟩ : ∃ m, l.length - 1 = m := ⟨_, rfl⟩
  have e1 : wrap64 ((l.length : Int) - 1) = (m : Int) := by have := hz.1; rw [pw64 _ (by omega)]; omega
  have HM := hid hm
  clear hT hz hB h0 hm
  go_enter Try.func38, Try.ntmps38
  go_wp2_with fail
  go_loopw [5] (fun t wr => SoRel w l t wr) (fun t _ => (intOf t).toNat)
  case atStart => exact ⟨m, by first | rfl | (rw [e1]), by have := HM.out; have := H0.out; omega, fun k h hk => by have := HM.out; omega, Below.refl _ _⟩
  case round =>
    obtain ⟨j, rfl, hj, hu, hB⟩ := hrel
    have HB := hid hB
    have HU := hid hu
    clear hB hu e1
    by_cases hp : 0 < j
    · obtain ⟨k, hk⟩ : ∃ k, j - 1 = k := ⟨_, rfl⟩
      have kl : k < l.length := by omega
      obtain ⟨b, off, rfl, bl, q0, q1⟩ := HT.out.at_ HB.out hj
      obtain ⟨b', off', e, bl', r0, r1⟩ := HT.out.at_ HB.out kl
      obtain ⟨rfl, rfl⟩ : b = b' ∧ off = off' := by simpa using e
      have bn := HZ.out.2 _ (List.getElem_mem hj)
      have bm := HZ.out.2 _ (List.getElem_mem kl)
      have st : UpFrom l k ↔ ¬ cmpP (l[j]'hj) (l[k]'kl) < 0 := by
        obtain rfl : j = k + 1 := by omega
        constructor
        · intro h
          exact h k hj (Nat.le_refl _)
        · intro h i hi hki
          by_cases c : i = k
          · subst c; exact h
          · exact HU.out i hi (by omega)
      obtain ⟨⟨n1, d1⟩, hp1⟩ : ∃ c', l[j]'hj = c' := ⟨_, rfl⟩
      obtain ⟨⟨n2, d2⟩, hp2⟩ : ∃ c', l[k]'kl = c' := ⟨_, rfl⟩
      rw [hp1] at q0 q1 bn st
      rw [hp2] at r0 r1 bm st
      unfold cmpP at st
      simp only at q0 q1 r0 r1 bn bm st
      obtain ⟨y, hy⟩ : ∃ y, Sp.cmpF n1 d1 n2 d2 = y := ⟨_, rfl⟩
      have CF := hid (fun W => hy ▸ fcmp_any n1 d1 n2 d2 bn.1.1 bn.1.2 bn.2.1 bn.2.2 bm.1.1 bm.1.2 bm.2.1 bm.2.2 W)
      rw [hy] at st
      have ST := hid st
      have bw : b < wr.heap.size := Nat.lt_of_lt_of_le bl HB.out.size
      have i1 : (0 : Int) < (j : Int) := by omega
      have i2 : (j : Int) < (l.length : Int) := by omega
      have i3 : (0 : Int) ≤ (k : Int) := by omega
      have i4 : (k : Int) < (l.length : Int) := by omega
      have i5 : IntKind.i64.wrap ((j : Int) - 1) = (k : Int) := by have := HZ.out.1; rw [IntWalk.i64_in _ (by omega)]; omega
      have i6 : wrap64 ((j : Int) - 1) = (k : Int) := by have := HZ.out.1; rw [pw64 _ (by omega)]; omega
      have I6 := hid i6
      have HK := hid hk
      have KL := hid kl
      have JL := hid hj
      have JP := hid hp
      have HX := hid (fun W (h : Below wr.heap.size wr W) => (⟨(h.cell (p := ⟨b, off + j * 2, none⟩) bw).trans q0, (h.cell (p := ⟨b, off + j * 2 + 1, none⟩) bw).trans q1, (h.cell (p := ⟨b, off + k * 2, none⟩) bw).trans r0, (h.cell (p := ⟨b, off + k * 2 + 1, none⟩) bw).trans r1⟩ : W.cell? ⟨b, off + j * 2, none⟩ = some (.int .i64 n1) ∧ W.cell? ⟨b, off + j * 2 + 1, none⟩ = some (.int .i64 d1) ∧ W.cell? ⟨b, off + k * 2, none⟩ = some (.int .i64 n2) ∧ W.cell? ⟨b, off + k * 2 + 1, none⟩ = some (.int .i64 d2)))
      clear st hy hp1 hp2 bn bm e bl bl' kl hk hj hp i6
      by_cases c : y < 0
      · have hf : Hid (B = false) := hid (by
          rcases h : B with _ | _
          · rfl
          · exact absurd c (ST.out.1 (fun i hi _ => HBB.out.1 h i hi (Nat.zero_le _))))
        go_wp2_with fail
        go_region_with (go_at_call 39; refine (CF.out _).mono ?_; rintro _ w5 ⟨rfl, hb⟩; have hW : Below wr.heap.size wr w5 := (by repeat' (first | (with_reducible exact Below.refl _ _) | (with_reducible refine Below.alloc ?_ ?_ _) | (with_reducible refine Below.setCell ?_ ?_ _) | (with_reducible refine Below.drew ?_) | (with_reducible refine below_dn ?_ _) | (with_reducible refine Below.trans ?_ (Below.mono (by assumption) ?_)) | (simp; done) | (simp; omega) | omega)); clear hb)
        all_goals go_wp2_with fail
        all_goals go_ret
        all_goals exact Gives.mk (pbool hf.out) (by have hB := HB.out; have hz0 := hB.size; repeat' (first | (with_reducible exact Below.refl _ _) | (with_reducible refine Below.alloc ?_ ?_ _) | (with_reducible refine Below.setCell ?_ ?_ _) | (with_reducible refine Below.drew ?_) | (with_reducible refine below_dn ?_ _) | (with_reducible refine Below.trans ?_ (Below.mono (by assumption) ?_)) | (simp; done) | (simp; omega) | omega))
      · have hf : Hid (UpFrom l k) := hid (ST.out.2 c)
        go_wp2_with fail
        go_region_with (go_at_call 39; refine (CF.out _).mono ?_; rintro _ w5 ⟨rfl, hb⟩; have hW : Below wr.heap.size wr w5 := (by repeat' (first | (with_reducible exact Below.refl _ _) | (with_reducible refine Below.alloc ?_ ?_ _) | (with_reducible refine Below.setCell ?_ ?_ _) | (with_reducible refine Below.drew ?_) | (with_reducible refine below_dn ?_ _) | (with_reducible refine Below.trans ?_ (Below.mono (by assumption) ?_)) | (simp; done) | (simp; omega) | omega)); clear hb)
        all_goals go_wp2_with fail
        all_goals go_roundw
        all_goals first
          | (exact ⟨k, by first | (rw [I6.out]) | go_num, KL.out, hf.out, by have hB := HB.out; have hz0 := hB.size; repeat' (first | (with_reducible exact Below.refl _ _) | (with_reducible refine Below.alloc ?_ ?_ _) | (with_reducible refine Below.setCell ?_ ?_ _) | (with_reducible refine Below.drew ?_) | (with_reducible refine below_dn ?_ _) | (with_reducible refine Below.trans ?_ (Below.mono (by assumption) ?_)) | (simp; done) | (simp; omega) | omega)⟩)
          | (have := HK.out; have := JP.out; simp [intOf]; omega)
    · have e : j = 0 := by omega
      subst e
      have hf : Hid (B = true) := hid (HBB.out.2 HU.out)
      go_wp2_with fail
      go_ret
      exact Gives.mk (pbool hf.out) HB.out

def foldMin : List (Int × Int) → Int × Int → Int × Int
  | [], m => m
  | x :: r, m => foldMin r (if cmpP x m < 0 then x else m)
structure MinAt (w : World) (m : Int × Int) (wr : World) : Prop where
  sz : w.heap.size + 2 ≤ wr.heap.size
  a0 : wr.cell? ⟨w.heap.size, 0, none⟩ = some (.int .i64 0)
  a1 : wr.cell? ⟨w.heap.size, 1, none⟩ = some (.int .i64 0)
  af : ∀ o, wr.frozen? ⟨w.heap.size, o, none⟩ = false
  b0 : wr.cell? ⟨w.heap.size + 1, 0, none⟩ = some (.int .i64 m.1)
  b1 : wr.cell? ⟨w.heap.size + 1, 1, none⟩ = some (.int .i64 m.2)
  bf : ∀ o, wr.frozen? ⟨w.heap.size + 1, o, none⟩ = false
theorem MinAt.below {w wr wx : World} {m : Int × Int} (h : MinAt w m wr) (hb : Below wr.heap.size wr wx) : MinAt w m wx :=
  ⟨Nat.le_trans h.sz hb.size, (hb.cell (p := ⟨w.heap.size, 0, none⟩) (by have := h.sz; simp only; omega)).trans h.a0, (hb.cell (p := ⟨w.heap.size, 1, none⟩) (by have := h.sz; simp only; omega)).trans h.a1, fun o => (hb.frozen (p := ⟨w.heap.size, o, none⟩) (by have := h.sz; simp only; omega)).trans (h.af o),
   (hb.cell (p := ⟨w.heap.size + 1, 0, none⟩) (by have := h.sz; simp only; omega)).trans h.b0, (hb.cell (p := ⟨w.heap.size + 1, 1, none⟩) (by have := h.sz; simp only; omega)).trans h.b1, fun o => (hb.frozen (p := ⟨w.heap.size + 1, o, none⟩) (by have := h.sz; simp only; omega)).trans (h.bf o)⟩
def MinRel (w : World) (l : List (Int × Int)) (P : Int × Int) (t : Value) (wr : World) : Prop := ∃ (j : Nat) (m : Int × Int), t = .int .i64 (j : Int) ∧ j ≤ l.length ∧ ((-9223372036854775808 ≤ m.1 ∧ m.1 ≤ 9223372036854775807) ∧ (-9223372036854775808 ≤ m.2 ∧ m.2 ≤ 9223372036854775807)) ∧ foldMin (l.drop j) m = P ∧ MinAt w m wr ∧ Below w.heap.size w wr
set_option maxRecDepth 100000 in
set_option maxHeartbeats 2000000 in
theorem minfunc_any (A : Option Addr) (cap : Nat) (l : List (Int × Int)) (P : Int × Int) (w : World) (h0 : 0 < l.length) (hz : FrSized l) (hT : Frs w A l) (hP : foldMin (l.drop 1) (l[0]) = P) :
    Calls Try.prog 41 #[.slice A l.length cap, .func (.func 39) #[] #[]] w (Gives (.agg #[.int .i64 P.1, .int .i64 P.2]) w) := by
  have HT := hid hT
  have HZ := hid hz
  have H0 := hid h0
  have L1 : ¬ (l.length : Int) < 1 := by omega
  have L0 : (0 : Int) < (l.length : Int) := by omega
  obtain ⟨b, off, e, bl, q0, q1⟩ := hT.at_ (w' := w.alloc (Obj.cells #[.int .i64 0, .int .i64 0] 26)) ((Below.refl _ _).alloc (Nat.le_refl _) _) h0
  simp only [Nat.zero_mul, Nat.add_zero] at q0 q1
  have bn := hz.2 _ (List.getElem_mem h0)
  obtain ⟨⟨n0, d0⟩, hp0⟩ : ∃ c', l[0]'h0 = c' := ⟨_, rfl⟩
  rw [hp0] at q0 q1 hP bn
  simp only at q0 q1 bn
  have HP := hid hP
  have HE := hid e
  have BN := hid bn
  rw [e]
  obtain ⟨V, hV⟩ : ∃ V, w.alloc (Obj.cells #[.int .i64 0, .int .i64 0] 26) = V := ⟨_, rfl⟩
  rw [hV] at q0 q1
  have VB : Below w.heap.size w V := by rw [← hV]; exact (Below.refl _ _).alloc (Nat.le_refl _) _
  have VS : V.heap.size = w.heap.size + 1 := by rw [← hV]; simp
  have v0 : V.cell? ⟨w.heap.size, 0, none⟩ = some (.int .i64 0) := by rw [← hV]; simp [go_sem]
  have v1 : V.cell? ⟨w.heap.size, 1, none⟩ = some (.int .i64 0) := by rw [← hV]; simp [go_sem]
  have vf : ∀ o, V.frozen? ⟨w.heap.size, o, none⟩ = false := by intro o; rw [← hV]; simp [go_sem]
  have HV := hid hV
  have HVB := hid VB
  have bw : b < V.heap.size := by omega
  have VV := hid (show MinAt w (n0, d0) (V.alloc (Obj.cells #[.int .i64 n0, .int .i64 d0] 26)) from ⟨by simp [VS], by simp [go_sem, VS, v0], by simp [go_sem, VS, v1], fun o => by simp [go_sem, VS, vf], by rw [← VS]; simp [go_sem], by rw [← VS]; simp [go_sem], fun o => by rw [← VS]; simp [go_sem]⟩)
  have VSS := hid VS
  clear hT hz h0 hP e bl hp0 bn hV VB v0 v1 vf
  go_enter Try.func41, Try.ntmps41
  go_upto_region 1 with fail
  rw [HV.out]
  go_wp2_with fail
  go_loopw [6] (fun t wr => MinRel w l P t wr) (fun t _ => l.length - (intOf t).toNat)
  case atStart => exact ⟨1, (n0, d0), rfl, by have := H0.out; omega, BN.out, HP.out, VV.out, HVB.out.trans (((Below.refl _ _).alloc (Nat.le_refl _) _).mono HVB.out.size)⟩
  case round =>
    obtain ⟨j, ⟨mn, md⟩, rfl, hj, hm, hd, hA, hB⟩ := hrel
    have HD := hid hd
    have HB := hid hB
    have HA := hid hA
    clear hd hB q0 q1 bw
    by_cases hlt : j < l.length
    · obtain ⟨b', off', e, bl, q0, q1⟩ := HT.out.at_ HB.out hlt
      rw [HE.out] at e
      obtain ⟨rfl, rfl⟩ : b = b' ∧ off = off' := by simpa using e
      have hd := HD.out
      rw [List.drop_eq_getElem_cons hlt] at hd
      unfold foldMin at hd
      have bn := HZ.out.2 _ (List.getElem_mem hlt)
      obtain ⟨⟨n, d⟩, hp⟩ : ∃ c', l[j]'hlt = c' := ⟨_, rfl⟩
      rw [hp] at q0 q1 hd bn
      unfold cmpP at hd
      simp only at q0 q1 hd bn hm
      obtain ⟨y, hy⟩ : ∃ y, Sp.cmpF n d mn md = y := ⟨_, rfl⟩
      have CF := hid (fun W => hy ▸ fcmp_any n d mn md bn.1.1 bn.1.2 bn.2.1 bn.2.2 hm.1.1 hm.1.2 hm.2.1 hm.2.2 W)
      rw [hy] at hd
      have MM := hid hm
      have BN := hid bn
      have i0 : (0 : Int) ≤ (j : Int) := by omega
      have i1 : (j : Int) < (l.length : Int) := by omega
      have bw : b < wr.heap.size := Nat.lt_of_lt_of_le bl HB.out.size
      have HJ := hid hlt
      have ej : wrap64 ((j : Int) + 1) = (j : Int) + 1 := pw64 _ (by have := HZ.out.1; have := HJ.out; omega)
      have x0 := hA.b0
      have x1 := hA.b1
      have xz : w.heap.size + 1 < wr.heap.size := by have := hA.sz; omega
      have HX := hid (fun W (h : Below wr.heap.size wr W) => (⟨(h.cell (p := ⟨b, off + j * 2, none⟩) bw).trans q0, (h.cell (p := ⟨b, off + j * 2 + 1, none⟩) bw).trans q1⟩ : W.cell? ⟨b, off + j * 2, none⟩ = some (.int .i64 n) ∧ W.cell? ⟨b, off + j * 2 + 1, none⟩ = some (.int .i64 d)))
      have nb : ¬ b = w.heap.size + 1 := by omega
      have nb0 : ¬ b = w.heap.size := by omega
      simp only at x0 x1
      clear hy hp bn hm hA e bl hlt hj
      by_cases c : y < 0
      · rw [if_pos c] at hd
        have HF := hid hd
        clear hd
        go_wp2_with fail
        go_region_with (go_at_call 39; refine (CF.out _).mono ?_; rintro _ w5 ⟨rfl, hb⟩; have hW : Below wr.heap.size wr w5 := (by repeat' (first | (with_reducible exact Below.refl _ _) | (with_reducible refine Below.alloc ?_ ?_ _) | (with_reducible refine Below.setCell ?_ ?_ _) | (with_reducible refine Below.drew ?_) | (with_reducible refine below_dn ?_ _) | (with_reducible refine Below.trans ?_ (Below.mono (by assumption) ?_)) | (simp; done) | (simp; omega) | omega)); have G5 := HA.out.below hW; obtain ⟨q0', q1'⟩ := HX.out _ hW; have y0 := G5.b0; have y1 := G5.b1; have yf := G5.bf; have yz : w.heap.size + 1 < w5.heap.size := (by have := G5.sz; omega); have bw5 : b < w5.heap.size := Nat.lt_of_lt_of_le bw hW.size; simp only at y0 y1; clear hb)
        all_goals go_wp2_with fail
        all_goals go_roundw
        all_goals first
          | (exact ⟨j + 1, (n, d), by go_num, by have := HJ.out; omega, BN.out, HF.out, ⟨by simp; exact G5.sz, by simp [go_sem, G5.a0], by simp [go_sem, G5.a1], fun o => by simp [go_sem, G5.af], by simp [go_sem, y0, y1], by simp [go_sem, y0, y1], fun o => by simp [go_sem, yf]⟩, by have hB := HB.out; have hz0 := hB.size; repeat' (first | (with_reducible exact Below.refl _ _) | (with_reducible refine Below.alloc ?_ ?_ _) | (with_reducible refine Below.setCell ?_ ?_ _) | (with_reducible refine Below.drew ?_) | (with_reducible refine below_dn ?_ _) | (with_reducible refine Below.trans ?_ (Below.mono (by assumption) ?_)) | (simp; done) | (simp; omega) | omega)⟩)
          | (exact pmeas _ _ HJ.out)
          | (rw [ej]; exact pmeas _ _ HJ.out)
      · rw [if_neg c] at hd
        have HF := hid hd
        clear hd
        go_wp2_with fail
        go_region_with (go_at_call 39; refine (CF.out _).mono ?_; rintro _ w5 ⟨rfl, hb⟩; have hW : Below wr.heap.size wr w5 := (by repeat' (first | (with_reducible exact Below.refl _ _) | (with_reducible refine Below.alloc ?_ ?_ _) | (with_reducible refine Below.setCell ?_ ?_ _) | (with_reducible refine Below.drew ?_) | (with_reducible refine below_dn ?_ _) | (with_reducible refine Below.trans ?_ (Below.mono (by assumption) ?_)) | (simp; done) | (simp; omega) | omega)); clear hb)
        all_goals go_wp2_with fail
        all_goals go_roundw
        all_goals first
          | (exact ⟨j + 1, (mn, md), by go_num, by have := HJ.out; omega, MM.out, HF.out, HA.out.below (by repeat' (first | (with_reducible exact Below.refl _ _) | (with_reducible refine Below.alloc ?_ ?_ _) | (with_reducible refine Below.setCell ?_ ?_ _) | (with_reducible refine Below.drew ?_) | (with_reducible refine below_dn ?_ _) | (with_reducible refine Below.trans ?_ (Below.mono (by assumption) ?_)) | (simp; done) | (simp; omega) | omega)), by have hB := HB.out; have hz0 := hB.size; repeat' (first | (with_reducible exact Below.refl _ _) | (with_reducible refine Below.alloc ?_ ?_ _) | (with_reducible refine Below.setCell ?_ ?_ _) | (with_reducible refine Below.drew ?_) | (with_reducible refine below_dn ?_ _) | (with_reducible refine Below.trans ?_ (Below.mono (by assumption) ?_)) | (simp; done) | (simp; omega) | omega)⟩)
          | (exact pmeas _ _ HJ.out)
          | (rw [ej]; exact pmeas _ _ HJ.out)
    · have i1 : ¬ (j : Int) < (l.length : Int) := by omega
      have hd := HD.out
      rw [List.drop_eq_nil_of_le (by omega)] at hd
      obtain rfl : (mn, md) = P := hd
      have x0 := hA.b0
      have x1 := hA.b1
      have y0 := hA.a0
      have y1 := hA.a1
      have yf := hA.af
      have xz : w.heap.size + 1 < wr.heap.size := by have := hA.sz; omega
      have yz : w.heap.size < wr.heap.size := by omega
      simp only at x0 x1
      clear hA
      go_wp2_with fail
      refine bodyPost_ret (v := .agg #[.int .i64 mn, .int .i64 md]) (by simp [results, Try.results41, go_sem, y0, y1]) rfl ?_
      exact Gives.mk rfl (by have hB := HB.out; repeat' (first | (with_reducible exact Below.refl _ _) | (with_reducible refine Below.alloc ?_ ?_ _) | (with_reducible refine Below.setCell ?_ ?_ _) | (with_reducible refine Below.drew ?_) | (with_reducible refine below_dn ?_ _) | (with_reducible refine Below.trans ?_ (Below.mono (by assumption) ?_)) | (simp; done) | (simp; omega) | omega))

def foldMax : List (Int × Int) → Int × Int → Int × Int
  | [], m => m
  | x :: r, m => foldMax r (if 0 < cmpP x m then x else m)
structure MaxAt (w : World) (m : Int × Int) (wr : World) : Prop where
  sz : w.heap.size + 2 ≤ wr.heap.size
  a0 : wr.cell? ⟨w.heap.size, 0, none⟩ = some (.int .i64 0)
  a1 : wr.cell? ⟨w.heap.size, 1, none⟩ = some (.int .i64 0)
  af : ∀ o, wr.frozen? ⟨w.heap.size, o, none⟩ = false
  b0 : wr.cell? ⟨w.heap.size + 1, 0, none⟩ = some (.int .i64 m.1)
  b1 : wr.cell? ⟨w.heap.size + 1, 1, none⟩ = some (.int .i64 m.2)
  bf : ∀ o, wr.frozen? ⟨w.heap.size + 1, o, none⟩ = false
theorem MaxAt.below {w wr wx : World} {m : Int × Int} (h : MaxAt w m wr) (hb : Below wr.heap.size wr wx) : MaxAt w m wx :=
  ⟨Nat.le_trans h.sz hb.size, (hb.cell (p := ⟨w.heap.size, 0, none⟩) (by have := h.sz; simp only; omega)).trans h.a0, (hb.cell (p := ⟨w.heap.size, 1, none⟩) (by have := h.sz; simp only; omega)).trans h.a1, fun o => (hb.frozen (p := ⟨w.heap.size, o, none⟩) (by have := h.sz; simp only; omega)).trans (h.af o),
   (hb.cell (p := ⟨w.heap.size + 1, 0, none⟩) (by have := h.sz; simp only; omega)).trans h.b0, (hb.cell (p := ⟨w.heap.size + 1, 1, none⟩) (by have := h.sz; simp only; omega)).trans h.b1, fun o => (hb.frozen (p := ⟨w.heap.size + 1, o, none⟩) (by have := h.sz; simp only; omega)).trans (h.bf o)⟩
def MaxRel (w : World) (l : List (Int × Int)) (P : Int × Int) (t : Value) (wr : World) : Prop := ∃ (j : Nat) (m : Int × Int), t = .int .i64 (j : Int) ∧ j ≤ l.length ∧ ((-9223372036854775808 ≤ m.1 ∧ m.1 ≤ 9223372036854775807) ∧ (-9223372036854775808 ≤ m.2 ∧ m.2 ≤ 9223372036854775807)) ∧ foldMax (l.drop j) m = P ∧ MaxAt w m wr ∧ Below w.heap.size w wr
set_option maxRecDepth 100000 in
set_option maxHeartbeats 2000000 in
theorem maxfunc_any (A : Option Addr) (cap : Nat) (l : List (Int × Int)) (P : Int × Int) (w : World) (h0 : 0 < l.length) (hz : FrSized l) (hT : Frs w A l) (hP : foldMax (l.drop 1) (l[0]) = P) :
    Calls Try.prog 42 #[.slice A l.length cap, .func (.func 39) #[] #[]] w (Gives (.agg #[.int .i64 P.1, .int .i64 P.2]) w) := by
  have HT := hid hT
  have HZ := hid hz
  have H0 := hid h0
  have L1 : ¬ (l.length : Int) < 1 := by omega
  have L0 : (0 : Int) < (l.length : Int) := by omega
  obtain ⟨b, off, e, bl, q0, q1⟩ := hT.at_ (w' := w.alloc (Obj.cells #[.int .i64 0, .int .i64 0] 26)) ((Below.refl _ _).alloc (Nat.le_refl _) _) h0
  simp only [Nat.zero_mul, Nat.add_zero] at q0 q1
  have bn := hz.2 _ (List.getElem_mem h0)
  obtain ⟨⟨n0, d0⟩, hp0⟩ : ∃ c', l[0]'h0 = c' := ⟨_, rfl⟩
  rw [hp0] at q0 q1 hP bn
  simp only at q0 q1 bn
  have HP := hid hP
  have HE := hid e
  have BN := hid bn
  rw [e]
  obtain ⟨V, hV⟩ : ∃ V, w.alloc (Obj.cells #[.int .i64 0, .int .i64 0] 26) = V := ⟨_, rfl⟩
  rw [hV] at q0 q1
  have VB : Below w.heap.size w V := by rw [← hV]; exact (Below.refl _ _).alloc (Nat.le_refl _) _
  have VS : V.heap.size = w.heap.size + 1 := by rw [← hV]; simp
  have v0 : V.cell? ⟨w.heap.size, 0, none⟩ = some (.int .i64 0) := by rw [← hV]; simp [go_sem]
  have v1 : V.cell? ⟨w.heap.size, 1, none⟩ = some (.int .i64 0) := by rw [← hV]; simp [go_sem]
  have vf : ∀ o, V.frozen? ⟨w.heap.size, o, none⟩ = false := by intro o; rw [← hV]; simp [go_sem]
  have HV := hid hV
  have HVB := hid VB
  have bw : b < V.heap.size := by omega
  have VV := hid (show MaxAt w (n0, d0) (V.alloc (Obj.cells #[.int .i64 n0, .int .i64 d0] 26)) from ⟨by simp [VS], by simp [go_sem, VS, v0], by simp [go_sem, VS, v1], fun o => by simp [go_sem, VS, vf], by rw [← VS]; simp [go_sem], by rw [← VS]; simp [go_sem], fun o => by rw [← VS]; simp [go_sem]⟩)
  have VSS := hid VS
  clear hT hz h0 hP e bl hp0 bn hV VB v0 v1 vf
  go_enter Try.func42, Try.ntmps42
  go_upto_region 1 with fail
  rw [HV.out]
  go_wp2_with fail
  go_loopw [6] (fun t wr => MaxRel w l P t wr) (fun t _ => l.length - (intOf t).toNat)
  case atStart => exact ⟨1, (n0, d0), rfl, by have := H0.out; omega, BN.out, HP.out, VV.out, HVB.out.trans (((Below.refl _ _).alloc (Nat.le_refl _) _).mono HVB.out.size)⟩
  case round =>
    obtain ⟨j, ⟨mn, md⟩, rfl, hj, hm, hd, hA, hB⟩ := hrel
    have HD := hid hd
    have HB := hid hB
    have HA := hid hA
    clear hd hB q0 q1 bw
    by_cases hlt : j < l.length
    · obtain ⟨b', off', e, bl, q0, q1⟩ := HT.out.at_ HB.out hlt
      rw [HE.out] at e
      obtain ⟨rfl, rfl⟩ : b = b' ∧ off = off' := by simpa using e
      have hd := HD.out
      rw [List.drop_eq_getElem_cons hlt] at hd
      unfold foldMax at hd
      have bn := HZ.out.2 _ (List.getElem_mem hlt)
      obtain ⟨⟨n, d⟩, hp⟩ : ∃ c', l[j]'hlt = c' := ⟨_, rfl⟩
      rw [hp] at q0 q1 hd bn
      unfold cmpP at hd
      simp only at q0 q1 hd bn hm
      obtain ⟨y, hy⟩ : ∃ y, Sp.cmpF n d mn md = y := ⟨_, rfl⟩
      have CF := hid (fun W => hy ▸ fcmp_any n d mn md bn.1.1 bn.1.2 bn.2.1 bn.2.2 hm.1.1 hm.1.2 hm.2.1 hm.2.2 W)
      rw [hy] at hd
      have MM := hid hm
      have BN := hid bn
      have i0 : (0 : Int) ≤ (j : Int) := by omega
      have i1 : (j : Int) < (l.length : Int) := by omega
      have bw : b < wr.heap.size := Nat.lt_of_lt_of_le bl HB.out.size
      have HJ := hid hlt
      have ej : wrap64 ((j : Int) + 1) = (j : Int) + 1 := pw64 _ (by have := HZ.out.1; have := HJ.out; omega)
      have x0 := hA.b0
      have x1 := hA.b1
      have xz : w.heap.size + 1 < wr.heap.size := by have := hA.sz; omega
      have HX := hid (fun W (h : Below wr.heap.size wr W) => (⟨(h.cell (p := ⟨b, off + j * 2, none⟩) bw).trans q0, (h.cell (p := ⟨b, off + j * 2 + 1, none⟩) bw).trans q1⟩ : W.cell? ⟨b, off + j * 2, none⟩ = some (.int .i64 n) ∧ W.cell? ⟨b, off + j * 2 + 1, none⟩ = some (.int .i64 d)))
      have nb : ¬ b = w.heap.size + 1 := by omega
      have nb0 : ¬ b = w.heap.size := by omega
      simp only at x0 x1
      clear hy hp bn hm hA e bl hlt hj
      by_cases c : 0 < y
      · rw [if_pos c] at hd
        have HF := hid hd
        clear hd
        go_wp2_with fail
        go_region_with (go_at_call 39; refine (CF.out _).mono ?_; rintro _ w5 ⟨rfl, hb⟩; have hW : Below wr.heap.size wr w5 := (by repeat' (first | (with_reducible exact Below.refl _ _) | (with_reducible refine Below.alloc ?_ ?_ _) | (with_reducible refine Below.setCell ?_ ?_ _) | (with_reducible refine Below.drew ?_) | (with_reducible refine below_dn ?_ _) | (with_reducible refine Below.trans ?_ (Below.mono (by assumption) ?_)) | (simp; done) | (simp; omega) | omega)); have G5 := HA.out.below hW; obtain ⟨q0', q1'⟩ := HX.out _ hW; have y0 := G5.b0; have y1 := G5.b1; have yf := G5.bf; have yz : w.heap.size + 1 < w5.heap.size := (by have := G5.sz; omega); have bw5 : b < w5.heap.size := Nat.lt_of_lt_of_le bw hW.size; simp only at y0 y1; clear hb)
        all_goals go_wp2_with fail
        all_goals go_roundw
        all_goals first
          | (exact ⟨j + 1, (n, d), by go_num, by have := HJ.out; omega, BN.out, HF.out, ⟨by simp; exact G5.sz, by simp [go_sem, G5.a0], by simp [go_sem, G5.a1], fun o => by simp [go_sem, G5.af], by simp [go_sem, y0, y1], by simp [go_sem, y0, y1], fun o => by simp [go_sem, yf]⟩, by have hB := HB.out; have hz0 := hB.size; repeat' (first | (with_reducible exact Below.refl _ _) | (with_reducible refine Below.alloc ?_ ?_ _) | (with_reducible refine Below.setCell ?_ ?_ _) | (with_reducible refine Below.drew ?_) | (with_reducible refine below_dn ?_ _) | (with_reducible refine Below.trans ?_ (Below.mono (by assumption) ?_)) | (simp; done) | (simp; omega) | omega)⟩)
          | (exact pmeas _ _ HJ.out)
          | (rw [ej]; exact pmeas _ _ HJ.out)
      · rw [if_neg c] at hd
        have HF := hid hd
        clear hd
        go_wp2_with fail
        go_region_with (go_at_call 39; refine (CF.out _).mono ?_; rintro _ w5 ⟨rfl, hb⟩; have hW : Below wr.heap.size wr w5 := (by repeat' (first | (with_reducible exact Below.refl _ _) | (with_reducible refine Below.alloc ?_ ?_ _) | (with_reducible refine Below.setCell ?_ ?_ _) | (with_reducible refine Below.drew ?_) | (with_reducible refine below_dn ?_ _) | (with_reducible refine Below.trans ?_ (Below.mono (by assumption) ?_)) | (simp; done) | (simp; omega) | omega)); clear hb)
        all_goals go_wp2_with fail
        all_goals go_roundw
        all_goals first
          | (exact ⟨j + 1, (mn, md), by go_num, by have := HJ.out; omega, MM.out, HF.out, HA.out.below (by repeat' (first | (with_reducible exact Below.refl _ _) | (with_reducible refine Below.alloc ?_ ?_ _) | (with_reducible refine Below.setCell ?_ ?_ _) | (with_reducible refine Below.drew ?_) | (with_reducible refine below_dn ?_ _) | (with_reducible refine Below.trans ?_ (Below.mono (by assumption) ?_)) | (simp; done) | (simp; omega) | omega)), by have hB := HB.out; have hz0 := hB.size; repeat' (first | (with_reducible exact Below.refl _ _) | (with_reducible refine Below.alloc ?_ ?_ _) | (with_reducible refine Below.setCell ?_ ?_ _) | (with_reducible refine Below.drew ?_) | (with_reducible refine below_dn ?_ _) | (with_reducible refine Below.trans ?_ (Below.mono (by assumption) ?_)) | (simp; done) | (simp; omega) | omega)⟩)
          | (exact pmeas _ _ HJ.out)
          | (rw [ej]; exact pmeas _ _ HJ.out)
    · have i1 : ¬ (j : Int) < (l.length : Int) := by omega
      have hd := HD.out
      rw [List.drop_eq_nil_of_le (by omega)] at hd
      obtain rfl : (mn, md) = P := hd
      have x0 := hA.b0
      have x1 := hA.b1
      have y0 := hA.a0
      have y1 := hA.a1
      have yf := hA.af
      have xz : w.heap.size + 1 < wr.heap.size := by have := hA.sz; omega
      have yz : w.heap.size < wr.heap.size := by omega
      simp only at x0 x1
      clear hA
      go_wp2_with fail
      refine bodyPost_ret (v := .agg #[.int .i64 mn, .int .i64 md]) (by simp [results, Try.results42, go_sem, y0, y1]) rfl ?_
      exact Gives.mk rfl (by have hB := HB.out; repeat' (first | (with_reducible exact Below.refl _ _) | (with_reducible refine Below.alloc ?_ ?_ _) | (with_reducible refine Below.setCell ?_ ?_ _) | (with_reducible refine Below.drew ?_) | (with_reducible refine below_dn ?_ _) | (with_reducible refine Below.trans ?_ (Below.mono (by assumption) ?_)) | (simp; done) | (simp; omega) | omega))
end Go.Proofs.Ytcbecfimikpljaa
