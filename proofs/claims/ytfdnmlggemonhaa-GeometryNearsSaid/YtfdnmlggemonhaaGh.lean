/-
  Layer 7: Length of package geometry and of the reference, by contract.
-/
import Derived.Test.YtfdnmlggemonhaaGg
import Derived.Deep.Cut
import Derived.Deep.RegionWith
namespace Go.Proofs.Ytfdnmlggemonhaa
open Go.RowKit
set_option linter.unusedVariables false
set_option linter.unusedSimpArgs false

namespace Sp
noncomputable def rt (d : Int) : Int := Classical.epsilon (IsRoot d)
theorem rt_is {d : Int} (h : 0 ≤ d) : IsRoot d (rt d) := Classical.epsilon_spec (root_ex h)
noncomputable def lenS (a b : Pt) : (Int × Int) × Int := if (okP a && okP b) = true then ((rt (sq a b), hiS (sq a b) (rt (sq a b))), 0) else ((0, 0), 2)
end Sp
set_option maxRecDepth 100000 in
set_option maxHeartbeats 4000000 in
theorem len_good (a b : Sp.Pt) (ok : (Sp.okP a && Sp.okP b) = true) (lo : Int) (hr : Sp.IsRoot (Sp.sq a b) lo) (w : World) :
    Calls Try.prog 20 #[.agg #[.int .i64 a.1, .int .i64 a.2], .agg #[.int .i64 b.1, .int .i64 b.2]] w (Gives (.tuple #[.agg #[.int .i64 lo, .int .i64 (Sp.hiS (Sp.sq a b) lo)], .int .i64 0]) w) := by
  have ck := fun (W : World) T => chk_any (some ⟨w.heap.size + 1 + 1 + 1, 0, none⟩) 2 [a, b] (by simp) W T 0 (Sp.chkL_good (by simpa [and_assoc] using ok))
  have K6 := fun (W : World) => Pts.mk2 (g := w.heap.size + 1 + 1 + 1) (w := W) (a := a) (b := b)
  simp only [Bool.and_eq_true] at ok
  have dv := square_any a b ok.1 ok.2
  have db := Sp.sq_b ok.1 ok.2
  generalize Sp.sq a b = D at dv hr db ⊢
  have sv := fun (g : Nat) (W : World) (h : W.cell? ⟨g, 0, none⟩ = some (.int .i64 D)) => search_any D lo g hr db.2 W h
  have lb := Sp.root_b hr db.2
  have hz := sq_w (x := lo) lb.1 (by omega)
  obtain ⟨hi, hhi⟩ : ∃ x, Sp.hiS D lo = x := ⟨_, rfl⟩
  rw [hhi]
  unfold Sp.hiS at hhi
  obtain ⟨q, eq⟩ : ∃ q, lo * lo = q := ⟨_, rfl⟩
  rw [eq] at hhi hz
  have HH := hid hhi
  have SV := hid sv
  clear ok hr hhi sv
  obtain ⟨a1, a2⟩ := a
  obtain ⟨b1, b2⟩ := b
  dsimp only at *
  go_enter Try.func20, Try.ntmps20
  go_wp2_with fail
  refine (ck _ (K6 _ (by simp) (by simp [go_sem]) (by simp [go_sem]) (by simp [go_sem]) (by simp [go_sem]))).mono ?_
  rintro _ u1 ⟨rfl, hb⟩
  have pz : w.heap.size < (u1).heap.size := Nat.lt_of_lt_of_le (show w.heap.size < _ from (by first | assumption | (simp; done) | (simp; omega) | (dsimp only; omega) | omega)) hb.size; have p0 : (u1).cell? ⟨w.heap.size, 0, none⟩ = some (.int .i64 (a1)) := (hb.cell (p := ⟨w.heap.size, 0, none⟩) (by first | assumption | (simp; done) | (simp; omega) | (dsimp only; omega) | omega)).trans (by first | assumption | (simp [go_sem]; done) | (simp [go_sem, *]; done)); have p1 : (u1).cell? ⟨w.heap.size, 1, none⟩ = some (.int .i64 (a2)) := (hb.cell (p := ⟨w.heap.size, 1, none⟩) (by first | assumption | (simp; done) | (simp; omega) | (dsimp only; omega) | omega)).trans (by first | assumption | (simp [go_sem]; done) | (simp [go_sem, *]; done))
  have qz : w.heap.size + 1 < (u1).heap.size := Nat.lt_of_lt_of_le (show w.heap.size + 1 < _ from (by first | assumption | (simp; done) | (simp; omega) | (dsimp only; omega) | omega)) hb.size; have q0 : (u1).cell? ⟨w.heap.size + 1, 0, none⟩ = some (.int .i64 (b1)) := (hb.cell (p := ⟨w.heap.size + 1, 0, none⟩) (by first | assumption | (simp; done) | (simp; omega) | (dsimp only; omega) | omega)).trans (by first | assumption | (simp [go_sem]; done) | (simp [go_sem, *]; done)); have q1 : (u1).cell? ⟨w.heap.size + 1, 1, none⟩ = some (.int .i64 (b2)) := (hb.cell (p := ⟨w.heap.size + 1, 1, none⟩) (by first | assumption | (simp; done) | (simp; omega) | (dsimp only; omega) | omega)).trans (by first | assumption | (simp [go_sem]; done) | (simp [go_sem, *]; done))
  have rz : w.heap.size + 1 + 1 < (u1).heap.size := Nat.lt_of_lt_of_le (show w.heap.size + 1 + 1 < _ from (by first | assumption | (simp; done) | (simp; omega) | (dsimp only; omega) | omega)) hb.size; have r0 : (u1).cell? ⟨w.heap.size + 1 + 1, 0, none⟩ = some (.int .i64 (0)) := (hb.cell (p := ⟨w.heap.size + 1 + 1, 0, none⟩) (by first | assumption | (simp; done) | (simp; omega) | (dsimp only; omega) | omega)).trans (by first | assumption | (simp [go_sem]; done) | (simp [go_sem, *]; done)); have r1 : (u1).cell? ⟨w.heap.size + 1 + 1, 1, none⟩ = some (.int .i64 (0)) := (hb.cell (p := ⟨w.heap.size + 1 + 1, 1, none⟩) (by first | assumption | (simp; done) | (simp; omega) | (dsimp only; omega) | omega)).trans (by first | assumption | (simp [go_sem]; done) | (simp [go_sem, *]; done)); have rf : ∀ o, (u1).frozen? ⟨w.heap.size + 1 + 1, o, none⟩ = false := fun o => (hb.frozen (p := ⟨w.heap.size + 1 + 1, o, none⟩) (by first | assumption | (simp; done) | (simp; omega) | (dsimp only; omega) | omega)).trans (by first | (simp [go_sem]; done) | (simp [go_sem, *]; done))
  have B1 : Below w.heap.size w u1 := by repeat' (first | (with_reducible exact Below.refl _ _) | (with_reducible refine Below.alloc ?_ ?_ _) | (with_reducible refine Below.setCell ?_ ?_ _) | (with_reducible refine Below.drew ?_) | (with_reducible refine Below.trans ?_ (Below.mono (by assumption) ?_)) | (simp; done) | (simp; omega) | omega)
  have BH1 := hid B1
  clear hb ck K6 B1
  go_wp2_with fail
  refine (dv _).mono ?_
  rintro _ u2 ⟨rfl, hb, hd⟩
  have sz : w.heap.size + 1 + 1 < (u2).heap.size := Nat.lt_of_lt_of_le (show w.heap.size + 1 + 1 < _ from (by first | assumption | (simp; done) | (simp; omega) | (dsimp only; omega) | omega)) hb.size; have s0 : (u2).cell? ⟨w.heap.size + 1 + 1, 0, none⟩ = some (.int .i64 (0)) := (hb.cell (p := ⟨w.heap.size + 1 + 1, 0, none⟩) (by first | assumption | (simp; done) | (simp; omega) | (dsimp only; omega) | omega)).trans (by first | assumption | (simp [go_sem]; done) | (simp [go_sem, *]; done)); have s1 : (u2).cell? ⟨w.heap.size + 1 + 1, 1, none⟩ = some (.int .i64 (0)) := (hb.cell (p := ⟨w.heap.size + 1 + 1, 1, none⟩) (by first | assumption | (simp; done) | (simp; omega) | (dsimp only; omega) | omega)).trans (by first | assumption | (simp [go_sem]; done) | (simp [go_sem, *]; done)); have sf : ∀ o, (u2).frozen? ⟨w.heap.size + 1 + 1, o, none⟩ = false := fun o => (hb.frozen (p := ⟨w.heap.size + 1 + 1, o, none⟩) (by first | assumption | (simp; done) | (simp; omega) | (dsimp only; omega) | omega)).trans (by first | (simp [go_sem]; done) | (simp [go_sem, *]; done))
  have BH2 := hid (BH1.out.trans (hb.mono BH1.out.size))
  clear hb hd pz p0 p1 qz q0 q1 rz r0 r1 rf dv
  go_wp2_with fail
  refine (SV.out _ _ (by simp [go_sem])).mono ?_
  rintro _ u3 ⟨rfl, rfl⟩
  by_cases c : q < D
  · have hH := HH.out
    rw [if_pos c] at hH
    subst hH
    go_wp2_with fail
    refine bodyPost_ret (v := .tuple #[.agg #[.int .i64 lo, .int .i64 (lo + 1)], .int .i64 0]) (by simp [results, Try.results20, go_sem, s0, s1, sz]) rfl ?_
    have hB := BH2.out
    have hs := hB.size
    exact Gives.mk rfl (by repeat' (first | (with_reducible exact Below.refl _ _) | (with_reducible refine Below.alloc ?_ ?_ _) | (with_reducible refine Below.setCell ?_ ?_ _) | (with_reducible refine Below.drew ?_) | (with_reducible refine Below.trans ?_ (Below.mono (by assumption) ?_)) | (simp; done) | (simp; omega) | omega))
  · have hH := HH.out
    rw [if_neg c] at hH
    subst hH
    go_wp2_with fail
    refine bodyPost_ret (v := .tuple #[.agg #[.int .i64 lo, .int .i64 lo], .int .i64 0]) (by simp [results, Try.results20, go_sem, s0, s1, sz]) rfl ?_
    have hB := BH2.out
    have hs := hB.size
    exact Gives.mk rfl (by repeat' (first | (with_reducible exact Below.refl _ _) | (with_reducible refine Below.alloc ?_ ?_ _) | (with_reducible refine Below.setCell ?_ ?_ _) | (with_reducible refine Below.drew ?_) | (with_reducible refine Below.trans ?_ (Below.mono (by assumption) ?_)) | (simp; done) | (simp; omega) | omega))
set_option maxRecDepth 100000 in
set_option maxHeartbeats 4000000 in
theorem len_bad (a b : Sp.Pt) (ok : ¬ (Sp.okP a && Sp.okP b) = true) (w : World) :
    Calls Try.prog 20 #[.agg #[.int .i64 a.1, .int .i64 a.2], .agg #[.int .i64 b.1, .int .i64 b.2]] w (Gives (.tuple #[.agg #[.int .i64 0, .int .i64 0], .int .i64 2]) w) := by
  have ck := fun (W : World) T => chk_any (some ⟨w.heap.size + 1 + 1 + 1, 0, none⟩) 2 [a, b] (by simp) W T 2 (Sp.chkL_bad (by simpa [and_assoc] using ok))
  have K6 := fun (W : World) => Pts.mk2 (g := w.heap.size + 1 + 1 + 1) (w := W) (a := a) (b := b)
  clear ok
  obtain ⟨a1, a2⟩ := a
  obtain ⟨b1, b2⟩ := b
  dsimp only at *
  go_enter Try.func20, Try.ntmps20
  go_wp2_with fail
  refine (ck _ (K6 _ (by simp) (by simp [go_sem]) (by simp [go_sem]) (by simp [go_sem]) (by simp [go_sem]))).mono ?_
  rintro _ u1 ⟨rfl, hb⟩
  have rz : w.heap.size + 1 + 1 < (u1).heap.size := Nat.lt_of_lt_of_le (show w.heap.size + 1 + 1 < _ from (by first | assumption | (simp; done) | (simp; omega) | (dsimp only; omega) | omega)) hb.size; have r0 : (u1).cell? ⟨w.heap.size + 1 + 1, 0, none⟩ = some (.int .i64 (0)) := (hb.cell (p := ⟨w.heap.size + 1 + 1, 0, none⟩) (by first | assumption | (simp; done) | (simp; omega) | (dsimp only; omega) | omega)).trans (by first | assumption | (simp [go_sem]; done) | (simp [go_sem, *]; done)); have r1 : (u1).cell? ⟨w.heap.size + 1 + 1, 1, none⟩ = some (.int .i64 (0)) := (hb.cell (p := ⟨w.heap.size + 1 + 1, 1, none⟩) (by first | assumption | (simp; done) | (simp; omega) | (dsimp only; omega) | omega)).trans (by first | assumption | (simp [go_sem]; done) | (simp [go_sem, *]; done)); have rf : ∀ o, (u1).frozen? ⟨w.heap.size + 1 + 1, o, none⟩ = false := fun o => (hb.frozen (p := ⟨w.heap.size + 1 + 1, o, none⟩) (by first | assumption | (simp; done) | (simp; omega) | (dsimp only; omega) | omega)).trans (by first | (simp [go_sem]; done) | (simp [go_sem, *]; done))
  have B1 : Below w.heap.size w u1 := by repeat' (first | (with_reducible exact Below.refl _ _) | (with_reducible refine Below.alloc ?_ ?_ _) | (with_reducible refine Below.setCell ?_ ?_ _) | (with_reducible refine Below.drew ?_) | (with_reducible refine Below.trans ?_ (Below.mono (by assumption) ?_)) | (simp; done) | (simp; omega) | omega)
  have BH1 := hid B1
  clear hb ck K6 B1
  go_wp2_with fail
  refine bodyPost_ret (v := .tuple #[.agg #[.int .i64 0, .int .i64 0], .int .i64 2]) (by simp [results, Try.results20, go_sem, r0, r1, rz]) rfl ?_
  have hB := BH1.out
  have hs := hB.size
  exact Gives.mk rfl (by repeat' (first | (with_reducible exact Below.refl _ _) | (with_reducible refine Below.alloc ?_ ?_ _) | (with_reducible refine Below.setCell ?_ ?_ _) | (with_reducible refine Below.drew ?_) | (with_reducible refine Below.trans ?_ (Below.mono (by assumption) ?_)) | (simp; done) | (simp; omega) | omega))
theorem Length_any (a b : Sp.Pt) (w : World) :
    Calls Try.prog 20 #[.agg #[.int .i64 a.1, .int .i64 a.2], .agg #[.int .i64 b.1, .int .i64 b.2]] w (Gives (.tuple #[.agg #[.int .i64 (Sp.lenS a b).1.1, .int .i64 (Sp.lenS a b).1.2], .int .i64 (Sp.lenS a b).2]) w) := by
  by_cases ok : (Sp.okP a && Sp.okP b) = true
  · unfold Sp.lenS
    rw [if_pos ok]
    exact len_good a b ok _ (Sp.rt_is (Sp.sq_0 a b)) w
  · unfold Sp.lenS
    rw [if_neg ok]
    exact len_bad a b ok w
set_option maxRecDepth 100000 in
set_option maxHeartbeats 4000000 in
theorem rLength_any (a b : Sp.Pt) (w : World) :
    Calls Try.prog 21 #[.agg #[.int .i64 a.1, .int .i64 a.2], .agg #[.int .i64 b.1, .int .i64 b.2]] w (Gives (.tuple #[.agg #[.int .i64 (Sp.lenS a b).1.1, .int .i64 (Sp.lenS a b).1.2], .int .i64 (Sp.lenS a b).2]) w) := by
  have dv := rDist2_any a b
  by_cases ok : (Sp.okP a && Sp.okP b) = true
  · unfold Sp.lenS
    rw [if_pos ok]
    unfold Sp.dist2S at dv
    rw [if_pos ok] at dv
    simp only [Bool.and_eq_true] at ok
    have rv := rroot_any (Sp.sq a b) _ (Sp.rt_is (Sp.sq_0 a b)) (Sp.sq_b ok.1 ok.2).2
    generalize Sp.rt (Sp.sq a b) = lo at rv ⊢
    generalize Sp.hiS (Sp.sq a b) lo = hi at rv ⊢
    generalize Sp.sq a b = D at rv dv
    clear ok
    obtain ⟨a1, a2⟩ := a
    obtain ⟨b1, b2⟩ := b
    dsimp only at *
    go_enter Try.func21, Try.ntmps21
    go_wp2_with fail
    refine (dv _).mono ?_
    rintro _ u1 ⟨rfl, hb⟩
    have rz : w.heap.size + 1 + 1 < (u1).heap.size := Nat.lt_of_lt_of_le (show w.heap.size + 1 + 1 < _ from (by first | assumption | (simp; done) | (simp; omega) | (dsimp only; omega) | omega)) hb.size; have r0 : (u1).cell? ⟨w.heap.size + 1 + 1, 0, none⟩ = some (.int .i64 (0)) := (hb.cell (p := ⟨w.heap.size + 1 + 1, 0, none⟩) (by first | assumption | (simp; done) | (simp; omega) | (dsimp only; omega) | omega)).trans (by first | assumption | (simp [go_sem]; done) | (simp [go_sem, *]; done)); have r1 : (u1).cell? ⟨w.heap.size + 1 + 1, 1, none⟩ = some (.int .i64 (0)) := (hb.cell (p := ⟨w.heap.size + 1 + 1, 1, none⟩) (by first | assumption | (simp; done) | (simp; omega) | (dsimp only; omega) | omega)).trans (by first | assumption | (simp [go_sem]; done) | (simp [go_sem, *]; done)); have rf : ∀ o, (u1).frozen? ⟨w.heap.size + 1 + 1, o, none⟩ = false := fun o => (hb.frozen (p := ⟨w.heap.size + 1 + 1, o, none⟩) (by first | assumption | (simp; done) | (simp; omega) | (dsimp only; omega) | omega)).trans (by first | (simp [go_sem]; done) | (simp [go_sem, *]; done))
    have B1 : Below w.heap.size w u1 := by repeat' (first | (with_reducible exact Below.refl _ _) | (with_reducible refine Below.alloc ?_ ?_ _) | (with_reducible refine Below.setCell ?_ ?_ _) | (with_reducible refine Below.drew ?_) | (with_reducible refine Below.trans ?_ (Below.mono (by assumption) ?_)) | (simp; done) | (simp; omega) | omega)
    have BH1 := hid B1
    clear hb B1
    go_wp2_with fail
    refine (rv _).mono ?_
    rintro _ u2 ⟨rfl, hb⟩
    have sz : w.heap.size + 1 + 1 < (u2).heap.size := Nat.lt_of_lt_of_le (show w.heap.size + 1 + 1 < _ from (by first | assumption | (simp; done) | (simp; omega) | (dsimp only; omega) | omega)) hb.size; have s0 : (u2).cell? ⟨w.heap.size + 1 + 1, 0, none⟩ = some (.int .i64 (0)) := (hb.cell (p := ⟨w.heap.size + 1 + 1, 0, none⟩) (by first | assumption | (simp; done) | (simp; omega) | (dsimp only; omega) | omega)).trans (by first | assumption | (simp [go_sem]; done) | (simp [go_sem, *]; done)); have s1 : (u2).cell? ⟨w.heap.size + 1 + 1, 1, none⟩ = some (.int .i64 (0)) := (hb.cell (p := ⟨w.heap.size + 1 + 1, 1, none⟩) (by first | assumption | (simp; done) | (simp; omega) | (dsimp only; omega) | omega)).trans (by first | assumption | (simp [go_sem]; done) | (simp [go_sem, *]; done)); have sf : ∀ o, (u2).frozen? ⟨w.heap.size + 1 + 1, o, none⟩ = false := fun o => (hb.frozen (p := ⟨w.heap.size + 1 + 1, o, none⟩) (by first | assumption | (simp; done) | (simp; omega) | (dsimp only; omega) | omega)).trans (by first | (simp [go_sem]; done) | (simp [go_sem, *]; done))
    have BH2 := hid (BH1.out.trans (hb.mono BH1.out.size))
    clear hb rz r0 r1 rf
    go_wp2_with fail
    refine bodyPost_ret (v := .tuple #[.agg #[.int .i64 lo, .int .i64 hi], .int .i64 0]) (by simp [results, Try.results21, go_sem, s0, s1, sz]) rfl ?_
    have hB := BH2.out
    have hs := hB.size
    exact Gives.mk rfl (by repeat' (first | (with_reducible exact Below.refl _ _) | (with_reducible refine Below.alloc ?_ ?_ _) | (with_reducible refine Below.setCell ?_ ?_ _) | (with_reducible refine Below.drew ?_) | (with_reducible refine Below.trans ?_ (Below.mono (by assumption) ?_)) | (simp; done) | (simp; omega) | omega))
  · unfold Sp.lenS
    rw [if_neg ok]
    unfold Sp.dist2S at dv
    rw [if_neg ok] at dv
    clear ok
    obtain ⟨a1, a2⟩ := a
    obtain ⟨b1, b2⟩ := b
    dsimp only at *
    go_enter Try.func21, Try.ntmps21
    go_wp2_with fail
    refine (dv _).mono ?_
    rintro _ u1 ⟨rfl, hb⟩
    have rz : w.heap.size + 1 + 1 < (u1).heap.size := Nat.lt_of_lt_of_le (show w.heap.size + 1 + 1 < _ from (by first | assumption | (simp; done) | (simp; omega) | (dsimp only; omega) | omega)) hb.size; have r0 : (u1).cell? ⟨w.heap.size + 1 + 1, 0, none⟩ = some (.int .i64 (0)) := (hb.cell (p := ⟨w.heap.size + 1 + 1, 0, none⟩) (by first | assumption | (simp; done) | (simp; omega) | (dsimp only; omega) | omega)).trans (by first | assumption | (simp [go_sem]; done) | (simp [go_sem, *]; done)); have r1 : (u1).cell? ⟨w.heap.size + 1 + 1, 1, none⟩ = some (.int .i64 (0)) := (hb.cell (p := ⟨w.heap.size + 1 + 1, 1, none⟩) (by first | assumption | (simp; done) | (simp; omega) | (dsimp only; omega) | omega)).trans (by first | assumption | (simp [go_sem]; done) | (simp [go_sem, *]; done)); have rf : ∀ o, (u1).frozen? ⟨w.heap.size + 1 + 1, o, none⟩ = false := fun o => (hb.frozen (p := ⟨w.heap.size + 1 + 1, o, none⟩) (by first | assumption | (simp; done) | (simp; omega) | (dsimp only; omega) | omega)).trans (by first | (simp [go_sem]; done) | (simp [go_sem, *]; done))
    have B1 : Below w.heap.size w u1 := by repeat' (first | (with_reducible exact Below.refl _ _) | (with_reducible refine Below.alloc ?_ ?_ _) | (with_reducible refine Below.setCell ?_ ?_ _) | (with_reducible refine Below.drew ?_) | (with_reducible refine Below.trans ?_ (Below.mono (by assumption) ?_)) | (simp; done) | (simp; omega) | omega)
    have BH1 := hid B1
    clear hb B1
    go_wp2_with fail
    refine bodyPost_ret (v := .tuple #[.agg #[.int .i64 0, .int .i64 0], .int .i64 2]) (by simp [results, Try.results21, go_sem, r0, r1, rz]) rfl ?_
    have hB := BH1.out
    have hs := hB.size
    exact Gives.mk rfl (by repeat' (first | (with_reducible exact Below.refl _ _) | (with_reducible refine Below.alloc ?_ ?_ _) | (with_reducible refine Below.setCell ?_ ?_ _) | (with_reducible refine Below.drew ?_) | (with_reducible refine Below.trans ?_ (Below.mono (by assumption) ?_)) | (simp; done) | (simp; omega) | omega))
end Go.Proofs.Ytfdnmlggemonhaa
