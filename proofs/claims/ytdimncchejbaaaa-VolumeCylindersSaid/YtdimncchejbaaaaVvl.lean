/-
  Layer 14: Section of package volume for every input, by contract.
-/
import Derived.Test.YtdimncchejbaaaaVvk
namespace Go.Proofs.Ytdimncchejbaaaa
open Go.RowKit
set_option linter.unusedVariables false
set_option linter.unusedSimpArgs false
theorem vsec_bad (A A' : Option Addr) (cap cap' : Nat) (h t : List Sp.Pd) (f : Int) (d x a b e : Int) (w : World) (hz : PcSized h) (tz : PcSized t) (hT : Pcs w A h) (tT : Pcs w A' t) (he : (Sp.stemP h f t d x [a, b] ≠ 0 ∧ e = Sp.stemP h f t d x [a, b]) ∨ (Sp.stemP h f t d x [a, b] = 0 ∧ b < a ∧ e = 9)) :
    Calls Try.prog 23 #[.agg #[.slice A h.length cap, .int .i64 f, .slice A' t.length cap'], .int .i64 d, .int .i64 x, .int .i64 a, .int .i64 b] w (Gives (.tuple #[.agg #[.int .i64 0, .int .i64 0], .int .i64 e]) w) := by
  have VB : VBox w (((w.alloc (Obj.cells #[.slice A h.length cap, .int .i64 f, .slice A' t.length cap'] 24)).alloc (Obj.cells #[.int .i64 0, .int .i64 0] 32)).alloc (.cells #[.int .i64 a, .int .i64 b] 3)) A h.length cap f A' t.length cap' := (VBox.new w A h.length cap f A' t.length cap').below (balloc _ _)
  have hI : Ints (((w.alloc (Obj.cells #[.slice A h.length cap, .int .i64 f, .slice A' t.length cap'] 24)).alloc (Obj.cells #[.int .i64 0, .int .i64 0] 32)).alloc (.cells #[.int .i64 a, .int .i64 b] 3)) (some ⟨w.heap.size + 1 + 1, 0, none⟩) [a, b] := fun _ => ⟨w.heap.size + 1 + 1, 0, rfl, by simp, fun j hj => by
    match j, hj with
    | 0, _ => simp [go_sem]
    | 1, _ => simp [go_sem]⟩
  generalize hU : ((w.alloc (Obj.cells #[.slice A h.length cap, .int .i64 f, .slice A' t.length cap'] 24)).alloc (Obj.cells #[.int .i64 0, .int .i64 0] 32)).alloc (.cells #[.int .i64 a, .int .i64 b] 3) = U at VB hI
  have CK := hid (vstemp_any A A' cap cap' h t f d x (some ⟨w.heap.size + 1 + 1, 0, none⟩) 2 [a, b] U hz tz (hT.below VB.bl) (tT.below VB.bl) (by simp) hI)
  simp only [List.length_cons, List.length_nil, Nat.zero_add, Nat.reduceAdd] at CK
  generalize Sp.stemP h f t d x [a, b] = E at CK he
  have HU := hid hU
  have HV := hid VB
  clear hz tz hT tT hU VB hI
  go_enter Try.func23, Try.ntmps23
  go_upto_region 1 with fail
  go_wp2_with fail
  rw [HU.out]
  refine CK.out.mono ?_
  rintro _ w5 ⟨rfl, hb⟩
  have V5 := hid (HV.out.below hb)
  have z0 := V5.out.z0
  have z1 := V5.out.z1
  have zf := V5.out.zf
  have zz := V5.out.zz
  clear hb
  rcases he with ⟨h1, rfl⟩ | ⟨rfl, h2, rfl⟩
  · have hn : (e == 0) = false := by simpa using h1
    go_wp2_with fail
    refine bodyPost_ret (v := .tuple #[.agg #[.int .i64 0, .int .i64 0], .int .i64 e]) (by simp [results, Try.results23, go_sem, z0, z1, zf, zz]) rfl ?_
    exact Gives.mk rfl (by have hB := V5.out.bl; repeat' (first | (with_reducible exact Below.refl _ _) | (with_reducible refine Below.alloc ?_ ?_ _) | (with_reducible refine Below.setCell ?_ ?_ _) | (with_reducible refine Below.drew ?_) | (with_reducible refine Below.trans ?_ (Below.mono (by assumption) ?_)) | (simp; done) | (simp; omega) | omega))
  · have hd : decide (b < a) = true := decide_eq_true h2
    go_wp2_with fail
    refine bodyPost_ret (v := .tuple #[.agg #[.int .i64 0, .int .i64 0], .int .i64 9]) (by simp [results, Try.results23, go_sem, z0, z1, zf, zz]) rfl ?_
    exact Gives.mk rfl (by have hB := V5.out.bl; repeat' (first | (with_reducible exact Below.refl _ _) | (with_reducible refine Below.alloc ?_ ?_ _) | (with_reducible refine Below.setCell ?_ ?_ _) | (with_reducible refine Below.drew ?_) | (with_reducible refine Below.trans ?_ (Below.mono (by assumption) ?_)) | (simp; done) | (simp; omega) | omega))
theorem vsec_any (A A' : Option Addr) (cap cap' : Nat) (h t : List Sp.Pd) (f : Int) (d x a b lo hi e : Int) (w : World) (hz : PcSized h) (tz : PcSized t) (hT : Pcs w A h) (tT : Pcs w A' t) (hv : Sp.secS h f t d x a b = (lo, hi, e)) :
    Calls Try.prog 23 #[.agg #[.slice A h.length cap, .int .i64 f, .slice A' t.length cap'], .int .i64 d, .int .i64 x, .int .i64 a, .int .i64 b] w (Gives (.tuple #[.agg #[.int .i64 lo, .int .i64 hi], .int .i64 e]) w) := by
  unfold Sp.secS at hv
  by_cases c1 : Sp.stemP h f t d x [a, b] = 0
  · rw [if_neg (fun k => k c1)] at hv
    by_cases c2 : b < a
    · rw [if_pos c2] at hv
      obtain ⟨rfl, hv2⟩ := Prod.mk.inj hv
      obtain ⟨rfl, rfl⟩ := Prod.mk.inj hv2
      exact vsec_bad A A' cap cap' h t f d x a b _ w hz tz hT tT (.inr ⟨c1, c2, rfl⟩)
    · rw [if_neg c2] at hv
      obtain ⟨k1, k2⟩ := Sp.stemP_zero c1
      obtain ⟨-, z1, z2, z3, z4⟩ := Sp.stemE_zero k1
      obtain ⟨z5, z6, k3⟩ := Sp.plE_cons k2
      obtain ⟨z7, z8, -⟩ := Sp.plE_cons k3
      exact vsec_main A A' cap cap' h t f d x a b lo hi e _ _ (Sp.diaS t d x) w hz tz hT tT c1 c2 rfl z5 (by omega) rfl (Sp.diaS_in t d x)
        (fun z W h0 h1 hb r e he => vdia_any A A' cap cap' h t f d x z r e W tz (tT.below hb) z1 z2 z3 z4 h0 (by omega) he) hv
  · rw [if_pos c1] at hv
    obtain ⟨rfl, hv2⟩ := Prod.mk.inj hv
    obtain ⟨rfl, rfl⟩ := Prod.mk.inj hv2
    exact vsec_bad A A' cap cap' h t f d x a b _ w hz tz hT tT (.inl ⟨c1, rfl⟩)
end Go.Proofs.Ytdimncchejbaaaa
