/-
  Layer 14: the law's line, example and awake, by contract.
-/
import Derived.Test.YtdimncchejbaaaaVvl
namespace Go.Proofs.Ytdimncchejbaaaa
open Go.RowKit
set_option linter.unusedVariables false
set_option linter.unusedSimpArgs false
/-- The law's line. -/
def lnL (A : Option Addr) (up a n d : Int) : List Sp.Pd := [⟨0, up, A, 2, [(a, 1), (n, d)]⟩]
/-- The law's line in memory: one piece at g, its two coefficients at k. -/
structure LnAt (w : World) (g k : Nat) (up a n d : Int) : Prop where
  g0 : w.cell? ⟨g, 0, none⟩ = some (.int .i64 0)
  g1 : w.cell? ⟨g, 1, none⟩ = some (.int .i64 up)
  g2 : w.cell? ⟨g, 2, none⟩ = some (.slice (some ⟨k, 0, none⟩) 2 2)
  gl : g < w.heap.size
  k0 : w.cell? ⟨k, 0, none⟩ = some (.int .i64 a)
  k1 : w.cell? ⟨k, 1, none⟩ = some (.int .i64 1)
  k2 : w.cell? ⟨k, 2, none⟩ = some (.int .i64 n)
  k3 : w.cell? ⟨k, 3, none⟩ = some (.int .i64 d)
  kl : k < w.heap.size
theorem LnAt.same {w w' : World} {g k : Nat} {up a n d : Int} (h : LnAt w g k up a n d) (hs : w.heap.size ≤ w'.heap.size) (hg : w'.heap[g]? = w.heap[g]?) (hk : w'.heap[k]? = w.heap[k]?) : LnAt w' g k up a n d := by
  have cg : ∀ o, w'.cell? ⟨g, o, none⟩ = w.cell? ⟨g, o, none⟩ := fun o => World.cell?_of_block (a := ⟨g, o, none⟩) hg
  have ck : ∀ o, w'.cell? ⟨k, o, none⟩ = w.cell? ⟨k, o, none⟩ := fun o => World.cell?_of_block (a := ⟨k, o, none⟩) hk
  exact ⟨(cg _).trans h.g0, (cg _).trans h.g1, (cg _).trans h.g2, Nat.lt_of_lt_of_le h.gl hs, (ck _).trans h.k0, (ck _).trans h.k1, (ck _).trans h.k2, (ck _).trans h.k3, Nat.lt_of_lt_of_le h.kl hs⟩
theorem LnAt.below {w w' : World} {g k : Nat} {up a n d : Int} (h : LnAt w g k up a n d) (hb : Below w.heap.size w w') : LnAt w' g k up a n d := h.same hb.size (hb.block g h.gl) (hb.block k h.kl)
theorem LnAt.pcs {w : World} {g k : Nat} {up a n d : Int} (h : LnAt w g k up a n d) : Pcs w (some ⟨g, 0, none⟩) (lnL (some ⟨k, 0, none⟩) up a n d) := by
  refine ⟨fun _ => ⟨_, 0, rfl, h.gl, fun j hj => ?_⟩, fun p hp => ?_⟩
  · match j, hj with
    | 0, _ => exact ⟨h.g0, h.g1, h.g2⟩
    | j + 1, hj => simp [lnL] at hj
  · simp [lnL] at hp
    subst hp
    exact frs_two h.kl h.k0 h.k1 h.k2 h.k3
def LnPost (w : World) (up a n d : Int) (e : Ending) (w' : World) : Prop :=
  Below w.heap.size w w' ∧ ∃ g k : Nat, w.heap.size ≤ g ∧ w.heap.size ≤ k ∧ e = .returned (.slice (some ⟨g, 0, none⟩) 1 1) ∧ LnAt w' g k up a n d
set_option maxRecDepth 100000 in
theorem vline_any (up a n d : Int) (w : World) : Calls Try.prog 28 #[.int .i64 up, .int .i64 a, .int .i64 n, .int .i64 d] w (LnPost w up a n d) := by
  go_enter Try.func28, Try.ntmps28
  go_wp2_with fail
  go_ret
  exact ⟨by repeat' (first | (with_reducible exact Below.refl _ _) | (with_reducible refine Below.alloc ?_ ?_ _) | (with_reducible refine Below.setCell ?_ ?_ _) | (with_reducible refine Below.drew ?_) | (with_reducible refine Below.trans ?_ (Below.mono (by assumption) ?_)) | (simp; done) | (simp; omega) | omega), w.heap.size + 1, w.heap.size, by omega, by omega, rfl, ⟨by simp [go_sem], by simp [go_sem], by simp [go_sem], by simp, by simp [go_sem], by simp [go_sem], by simp [go_sem], by simp [go_sem], (by simp; omega)⟩⟩
theorem ln_sized (A : Option Addr) (up a n d : Int) (t0 : -1000000 ≤ up ∧ up ≤ 1000000) (a0 : -1000000 ≤ a ∧ a ≤ 1000000) (n0 : -1000000 ≤ n ∧ n ≤ 1000000) (d0 : -1000000 ≤ d ∧ d ≤ 1000000) : PcSized (lnL A up a n d) := by
  refine ⟨by simp [lnL], fun p hp => ?_⟩
  simp [lnL] at hp
  subst hp
  refine ⟨by simp only; omega, by simp only; omega, by simp, fun q hq => ?_⟩
  simp at hq
  rcases hq with rfl | rfl <;> (simp only; omega)
def VxPost (w : World) (e : Ending) (w' : World) : Prop :=
  Below w.heap.size w w' ∧ ∃ g1 k1 g2 k2 : Nat, e = .returned (.agg #[.slice (some ⟨g1, 0, none⟩) 1 1, .int .i64 500, .slice (some ⟨g2, 0, none⟩) 1 1]) ∧ LnAt w' g1 k1 1000 13 1 2 ∧ LnAt w' g2 k2 1000 1000 (-1) 1
set_option maxRecDepth 100000 in
theorem vexample_any (w : World) : Calls Try.prog 30 #[] w (VxPost w) := by
  have z : Below w.heap.size w (w.alloc (.cells #[.slice none 0 0, .int .i64 0, .slice none 0 0] 24)) := balloc _ _
  have VB := curAt_new w none none 0 0 0 0 0
  have zf : ∀ o, (w.alloc (.cells #[.slice none 0 0, .int .i64 0, .slice none 0 0] 24)).frozen? ⟨w.heap.size, o, none⟩ = false := fun o => by simp [go_sem]
  generalize hU : w.alloc (.cells #[.slice none 0 0, .int .i64 0, .slice none 0 0] 24) = U at z VB zf
  have HU := hid hU
  have HZ := hid z
  have HV := hid VB
  have HF := hid zf
  clear hU z VB zf
  go_enter Try.func30, Try.ntmps30
  go_upto_region 1 with fail
  rw [HU.out]
  go_wp2_with (first
    | (go_at_call 28; (with_reducible refine (vline_any 1000 13 1 2 _).mono ?_); rintro _ w5 ⟨hb5, g1, l1, G1, L1, rfl, F1⟩; have B5 := hid hb5; have H1 := hid F1; clear hb5 F1)
    | (go_at_call 28; (with_reducible refine (vline_any 1000 1000 (-1) 1 _).mono ?_); rintro _ w6 ⟨hb6, g2, l2, G2, L2, rfl, F2⟩; have B6 := hid hb6; have H2 := hid F2; have V6 := HV.out.below (bthen B5.out hb6); have v0 := V6.c0; have v1 := V6.c1; have v2 := V6.c2; have vl := V6.lt; have vf : ∀ o, w6.frozen? ⟨w.heap.size, o, none⟩ = false := fun o => ((bthen B5.out hb6).frozen (p := ⟨w.heap.size, o, none⟩) HV.out.lt).trans (HF.out o); clear hb6 F2 V6))
  refine bodyPost_ret (v := .agg #[.slice (some ⟨g1, 0, none⟩) 1 1, .int .i64 500, .slice (some ⟨g2, 0, none⟩) 1 1]) (by simp [results, Try.results30, go_sem, v0, v1, v2, vf, vl]) rfl ?_
  have b6 := bthen HZ.out (bthen B5.out B6.out)
  have us := HV.out.lt
  have s5 := B5.out.size
  have ge : ∀ (X : World) (k o : Nat) (v : Value), k ≠ w.heap.size → (X.setCell ⟨w.heap.size, o, none⟩ v).heap[k]? = X.heap[k]? := fun X k o v hk => Below.heap_setCell _ _ _ k hk
  refine ⟨((b6.setCell (p := ⟨w.heap.size, 0, none⟩) (Nat.le_refl _) _).setCell (p := ⟨w.heap.size, 1, none⟩) (Nat.le_refl _) _).setCell (p := ⟨w.heap.size, 2, none⟩) (Nat.le_refl _) _, g1, l1, g2, l2, rfl, ?_, ?_⟩
  · exact (H1.out.below B6.out).same (by simp) (by rw [ge _ _ _ _ (by omega), ge _ _ _ _ (by omega), ge _ _ _ _ (by omega)]) (by rw [ge _ _ _ _ (by omega), ge _ _ _ _ (by omega), ge _ _ _ _ (by omega)])
  · exact H2.out.same (by simp) (by rw [ge _ _ _ _ (by omega), ge _ _ _ _ (by omega), ge _ _ _ _ (by omega)]) (by rw [ge _ _ _ _ (by omega), ge _ _ _ _ (by omega), ge _ _ _ _ (by omega)])
theorem ln_one (A : Option Addr) (up a n d : Int) : (lnL A up a n d).length = 1 := rfl
theorem vx_h (A1 A2 : Option Addr) : Sp.heiS (lnL A1 1000 13 1 2) 500 (lnL A2 1000 1000 (-1) 1) 200 = (113, 0) := by kernel_rfl
theorem vx_v (A1 A2 : Option Addr) : Sp.volE (lnL A1 1000 13 1 2) 500 (lnL A2 1000 1000 (-1) 1) 200 100 = (157, 158, 0) := by kernel_rfl
theorem vx_d (A1 A2 : Option Addr) : Sp.diamS (lnL A1 1000 13 1 2) 500 (lnL A2 1000 1000 (-1) 1) 200 100 25 = (150, 0) := by kernel_rfl
theorem vx_s (A1 A2 : Option Addr) : Sp.secS (lnL A1 1000 13 1 2) 500 (lnL A2 1000 1000 (-1) 1) 200 100 99 100 = (0, 1, 0) := by kernel_rfl
theorem vx_c (A1 A2 : Option Addr) : Sp.curE (lnL A1 1000 13 1 2) 500 (lnL A2 1000 1000 (-1) 1) = 0 := by kernel_rfl
set_option maxRecDepth 100000 in
theorem vawake_any (w : World) : Calls Try.prog 12 #[] w (Gives (.bool true) w) := by
  go_enter Try.func12, Try.ntmps12
  go_wp2_with fail
  refine (vexample_any _).mono ?_
  rintro _ w5 ⟨hb5, g1, l1, g2, l2, rfl, L1, L2⟩
  have B5 := hid hb5
  have P1 := hid L1.pcs
  have P2 := hid L2.pcs
  have S1 := hid (ln_sized (some ⟨l1, 0, none⟩) 1000 13 1 2 (by omega) (by omega) (by omega) (by omega))
  have S2 := hid (ln_sized (some ⟨l2, 0, none⟩) 1000 1000 (-1) 1 (by omega) (by omega) (by omega) (by omega))
  have H := hid (fun (W : World) (hb : Below w5.heap.size w5 W) => vhei_any (some ⟨g1, 0, none⟩) (some ⟨g2, 0, none⟩) 1 1 _ _ 500 200 113 0 W S1.out S2.out (P1.out.below hb) (P2.out.below hb) (vx_h _ _))
  have V := hid (fun (W : World) (hb : Below w5.heap.size w5 W) => vvol_any (some ⟨g1, 0, none⟩) (some ⟨g2, 0, none⟩) 1 1 _ _ 500 200 100 157 158 0 W S1.out S2.out (P1.out.below hb) (P2.out.below hb) (vx_v _ _))
  have D := hid (fun (W : World) (hb : Below w5.heap.size w5 W) => vdiam2_any (some ⟨g1, 0, none⟩) (some ⟨g2, 0, none⟩) 1 1 _ _ 500 200 100 25 150 0 W S1.out S2.out (P1.out.below hb) (P2.out.below hb) (vx_d _ _))
  have S := hid (fun (W : World) (hb : Below w5.heap.size w5 W) => vsec_any (some ⟨g1, 0, none⟩) (some ⟨g2, 0, none⟩) 1 1 _ _ 500 200 100 99 100 0 1 0 W S1.out S2.out (P1.out.below hb) (P2.out.below hb) (vx_s _ _))
  have C := hid (fun (W : World) (hb : Below w5.heap.size w5 W) => vcheck_any (some ⟨g1, 0, none⟩) (some ⟨g2, 0, none⟩) 1 1 _ _ 500 W S1.out S2.out (P1.out.below hb) (P2.out.below hb))
  rw [vx_c] at C
  simp only [ln_one] at H V D S C
  have VB := curAt_new w5 (some ⟨g1, 0, none⟩) (some ⟨g2, 0, none⟩) 1 1 1 1 500
  have b0 : Below w5.heap.size w5 (w5.alloc (.cells #[.slice (some ⟨g1, 0, none⟩) 1 1, .int .i64 500, .slice (some ⟨g2, 0, none⟩) 1 1] 24)) := balloc _ _
  generalize hU : w5.alloc (.cells #[.slice (some ⟨g1, 0, none⟩) 1 1, .int .i64 500, .slice (some ⟨g2, 0, none⟩) 1 1] 24) = U at VB b0
  have HU := hid hU
  have B0 := hid b0
  have VC := hid VB
  clear hb5 L1 L2 P1 P2 S1 S2 hU b0
  go_upto_region 2 with fail
  rw [HU.out]
  have q0 := VB.c0
  have q1 := VB.c1
  have q2 := VB.c2
  have ql := VB.lt
  clear VB
  go_wp2_with fail
  refine (H.out _ B0.out).mono ?_
  rintro _ w6 ⟨rfl, hb6⟩
  have B6 := hid hb6
  have T6 := hid (bthen B0.out hb6)
  have Q6 := hid (VC.out.below hb6)
  have q0 := Q6.out.c0
  have q1 := Q6.out.c1
  have q2 := Q6.out.c2
  have ql := Q6.out.lt
  clear hb6
  go_wp2_with fail
  refine (V.out _ T6.out).mono ?_
  rintro _ w7 ⟨rfl, hb7⟩
  have B7 := hid hb7
  have T7 := hid (bthen T6.out hb7)
  have Q7 := hid (Q6.out.below hb7)
  have q0 := Q7.out.c0
  have q1 := Q7.out.c1
  have q2 := Q7.out.c2
  have ql := Q7.out.lt
  clear hb7
  go_wp2_with fail
  refine (D.out _ (bthen T7.out (balloc _ _))).mono ?_
  rintro _ w8 ⟨rfl, hb8⟩
  have B8 := hid (bthen (balloc w7 (Obj.cells #[.int .i64 157, .int .i64 158] 32)) hb8)
  have T8 := hid (bthen T7.out B8.out)
  have Q8 := hid (Q7.out.below B8.out)
  have q0 := Q8.out.c0
  have q1 := Q8.out.c1
  have q2 := Q8.out.c2
  have ql := Q8.out.lt
  have a0 : w8.cell? ⟨w7.heap.size, 0, none⟩ = some (.int .i64 157) := (hb8.cell (p := ⟨w7.heap.size, 0, none⟩) (by simp)).trans (by simp [go_sem])
  have a1 : w8.cell? ⟨w7.heap.size, 1, none⟩ = some (.int .i64 158) := (hb8.cell (p := ⟨w7.heap.size, 1, none⟩) (by simp)).trans (by simp [go_sem])
  have al : w7.heap.size < w8.heap.size := by have := hb8.size; simp at this; omega
  clear hb8
  go_wp2_with fail
  refine (S.out _ T8.out).mono ?_
  rintro _ w9 ⟨rfl, hb9⟩
  have B9 := hid hb9
  have T9 := hid (bthen T8.out hb9)
  have Q9 := hid (Q8.out.below hb9)
  have q0 := Q9.out.c0
  have q1 := Q9.out.c1
  have q2 := Q9.out.c2
  have ql := Q9.out.lt
  have a0 := (hb9.cell (p := ⟨w7.heap.size, 0, none⟩) al).trans a0
  have a1 := (hb9.cell (p := ⟨w7.heap.size, 1, none⟩) al).trans a1
  have al2 : w7.heap.size < w9.heap.size := Nat.lt_of_lt_of_le al hb9.size
  have an : ¬ w7.heap.size = w9.heap.size := by omega
  have qn : ¬ w5.heap.size = w9.heap.size := by omega
  clear hb9
  go_wp2_with fail
  refine (C.out _ (bthen T9.out (balloc _ _))).mono ?_
  rintro _ w10 ⟨rfl, hb10⟩
  have B10 := hid hb10
  clear hb10
  go_wp2_with fail
  go_ret
  exact Gives.mk rfl (bthen B5.out (bthen (bthen T9.out (balloc _ _)) B10.out))
end Go.Proofs.Ytdimncchejbaaaa
