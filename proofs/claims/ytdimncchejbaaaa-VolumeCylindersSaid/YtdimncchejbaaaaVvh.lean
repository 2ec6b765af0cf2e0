/-
  Layer 14: Diameter of package volume, by contract.
-/
import Derived.Test.YtdimncchejbaaaaVvg
namespace Go.Proofs.Ytdimncchejbaaaa
open Go.RowKit
set_option linter.unusedVariables false
set_option linter.unusedSimpArgs false
/-- What Diameter answers. -/
def Sp.diamS (h : List Sp.Pd) (f : Int) (t : List Sp.Pd) (d x a : Int) : Int × Int := if Sp.stemP h f t d x [a] ≠ 0 then (0, Sp.stemP h f t d x [a]) else Sp.diaS t d x a
theorem Sp.plE_cons {x a : Int} {l : List Int} (h : Sp.plE x (a :: l) = 0) : 0 ≤ a ∧ a ≤ x ∧ Sp.plE x l = 0 := by
  unfold Sp.plE at h
  by_cases c : (decide (0 ≤ a) && decide (a ≤ x)) = false
  · rw [if_pos c] at h; omega
  · rw [if_neg c] at h
    simp at c
    exact ⟨c.1, c.2, h⟩
theorem Sp.stemP_zero {h : List Sp.Pd} {f : Int} {t : List Sp.Pd} {d x : Int} {l : List Int} (e : Sp.stemP h f t d x l = 0) : Sp.stemE h f t d x = 0 ∧ Sp.plE x l = 0 := by
  unfold Sp.stemP at e
  by_cases c : Sp.stemE h f t d x = 0
  · rw [if_neg (fun k => k c)] at e; exact ⟨c, e⟩
  · rw [if_pos c] at e; exact absurd e c
theorem vdiam2_any (A A' : Option Addr) (cap cap' : Nat) (h t : List Sp.Pd) (f : Int) (d x a r e : Int) (w : World) (hz : PcSized h) (tz : PcSized t) (hT : Pcs w A h) (tT : Pcs w A' t) (hv : Sp.diamS h f t d x a = (r, e)) :
    Calls Try.prog 21 #[.agg #[.slice A h.length cap, .int .i64 f, .slice A' t.length cap'], .int .i64 d, .int .i64 x, .int .i64 a] w (Gives (.tuple #[.int .i64 r, .int .i64 e]) w) := by
  have VB : CurAt ((w.alloc (Obj.cells #[.slice A h.length cap, .int .i64 f, .slice A' t.length cap'] 24)).alloc (.cells #[.int .i64 a] 3)) w.heap.size A h.length cap f A' t.length cap' := (curAt_new w A A' h.length cap t.length cap' f).below (balloc _ _)
  have b0 : Below w.heap.size w ((w.alloc (Obj.cells #[.slice A h.length cap, .int .i64 f, .slice A' t.length cap'] 24)).alloc (.cells #[.int .i64 a] 3)) := bthen (balloc _ _) (balloc _ _)
  have hI : Ints ((w.alloc (Obj.cells #[.slice A h.length cap, .int .i64 f, .slice A' t.length cap'] 24)).alloc (.cells #[.int .i64 a] 3)) (some ⟨w.heap.size + 1, 0, none⟩) [a] := fun _ => ⟨w.heap.size + 1, 0, rfl, by simp, fun j hj => by
    have : j = 0 := by simpa using hj
    subst this
    simp [go_sem]⟩
  generalize hU : (w.alloc (Obj.cells #[.slice A h.length cap, .int .i64 f, .slice A' t.length cap'] 24)).alloc (.cells #[.int .i64 a] 3) = U at VB b0 hI
  have CK := hid (vstemp_any A A' cap cap' h t f d x (some ⟨w.heap.size + 1, 0, none⟩) 1 [a] U hz tz (hT.below b0) (tT.below b0) (by simp) hI)
  unfold Sp.diamS at hv
  have DA := hid (fun (k : Sp.stemP h f t d x [a] = 0) W (hb : Below w.heap.size w W) (r e : Int) hv => by
    obtain ⟨k1, k2⟩ := Sp.stemP_zero k
    obtain ⟨-, z1, z2, z3, z4⟩ := Sp.stemE_zero k1
    obtain ⟨z5, z6, -⟩ := Sp.plE_cons k2
    exact vdia_any A A' cap cap' h t f d x a r e W tz (tT.below hb) z1 z2 z3 z4 z5 (by omega) hv)
  generalize Sp.stemP h f t d x [a] = E at CK hv DA
  have HV := hid hv
  have HU := hid hU
  have HB := hid b0
  have HC := hid VB
  have k0 := VB.c0
  have k1 := VB.c1
  have k2 := VB.c2
  simp only [List.length_cons, List.length_nil, Nat.zero_add] at CK
  clear hz tz hT tT hv hU b0 VB hI
  go_enter Try.func21, Try.ntmps21
  go_upto_region 1 with fail
  go_wp2_with fail
  rw [HU.out]
  refine CK.out.mono ?_
  rintro _ w5 ⟨rfl, hb⟩
  have Q5 := HC.out.below hb
  have q0 := Q5.c0
  have q1 := Q5.c1
  have q2 := Q5.c2
  have B5 := hid (bthen HB.out hb)
  clear hb k0 k1 k2 Q5
  by_cases c1 : E = 0
  · subst c1
    have hv := HV.out
    rw [if_neg (fun k => k rfl)] at hv
    have DA2 := hid (DA.out rfl w5 B5.out r e hv)
    clear hv HV DA
    go_wp2_with fail
    refine DA2.out.mono ?_
    rintro _ w6 ⟨rfl, hb⟩
    have B6 := hid (bthen B5.out hb)
    clear hb
    go_wp2_with fail
    refine bodyPost_ret (v := .tuple #[.int .i64 r, .int .i64 e]) (by simp [results, Try.results21, go_sem]) rfl ?_
    exact Gives.mk rfl B6.out
  · have hv := HV.out
    rw [if_pos c1] at hv
    obtain ⟨rfl, rfl⟩ := Prod.mk.inj hv
    have hn : (E == 0) = false := by simpa using c1
    clear hv HV DA
    go_wp2_with fail
    refine bodyPost_ret (v := .tuple #[.int .i64 0, .int .i64 E]) (by simp [results, Try.results21, go_sem]) rfl ?_
    exact Gives.mk rfl B5.out
end Go.Proofs.Ytdimncchejbaaaa
