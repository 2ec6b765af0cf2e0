/-
  Layer 14: Volume of package volume, by contract.
-/
import Derived.Test.YtdimncchejbaaaaVvc
namespace Go.Proofs.Ytdimncchejbaaaa
open Go.RowKit
set_option linter.unusedVariables false
set_option linter.unusedSimpArgs false
/-- A curve's box and a span's box behind it, made in w. -/
structure VBox (w W : World) (A : Option Addr) (n cap : Nat) (f : Int) (A' : Option Addr) (n' cap' : Nat) : Prop where
  bl : Below w.heap.size w W
  cu : CurAt W w.heap.size A n cap f A' n' cap'
  z0 : W.cell? ⟨w.heap.size + 1, 0, none⟩ = some (.int .i64 0)
  z1 : W.cell? ⟨w.heap.size + 1, 1, none⟩ = some (.int .i64 0)
  zf : ∀ o, W.frozen? ⟨w.heap.size + 1, o, none⟩ = false
  zz : w.heap.size + 1 < W.heap.size
theorem VBox.new (w : World) (A : Option Addr) (n cap : Nat) (f : Int) (A' : Option Addr) (n' cap' : Nat) :
    VBox w ((w.alloc (.cells #[.slice A n cap, .int .i64 f, .slice A' n' cap'] 24)).alloc (Obj.cells #[.int .i64 0, .int .i64 0] 32)) A n cap f A' n' cap' :=
  ⟨((Below.refl _ _).alloc (Nat.le_refl _) _).alloc (by simp) _, (curAt_new w A A' n cap n' cap' f).below (balloc _ _), by simp [go_sem], by simp [go_sem], fun o => by simp [go_sem], by simp⟩
theorem VBox.below {w W W' : World} {A A' : Option Addr} {n cap n' cap' : Nat} {f : Int} (h : VBox w W A n cap f A' n' cap') (hb : Below W.heap.size W W') : VBox w W' A n cap f A' n' cap' :=
  ⟨bthen h.bl hb, h.cu.below hb, (hb.cell (p := ⟨w.heap.size + 1, 0, none⟩) h.zz).trans h.z0, (hb.cell (p := ⟨w.heap.size + 1, 1, none⟩) h.zz).trans h.z1, fun o => (hb.frozen (p := ⟨w.heap.size + 1, o, none⟩) h.zz).trans (h.zf o), Nat.lt_of_lt_of_le h.zz hb.size⟩
/-- What Volume answers. -/
def Sp.volE (h : List Sp.Pd) (f : Int) (t : List Sp.Pd) (d x : Int) : Int × Int × Int :=
  if Sp.stemE h f t d x ≠ 0 then (0, 0, Sp.stemE h f t d x) else ((Sp.volS f d x).1, (Sp.volS f d x).2, 0)
theorem Sp.stemE_zero {h : List Sp.Pd} {f : Int} {t : List Sp.Pd} {d x : Int} (e : Sp.stemE h f t d x = 0) : Sp.curE h f t = 0 ∧ 1 ≤ d ∧ d ≤ 3000 ∧ 1 ≤ x ∧ x ≤ 1000 := by
  unfold Sp.stemE at e
  by_cases c : Sp.curE h f t = 0
  · rw [if_neg (fun k => k c)] at e
    by_cases c1 : (decide (1 ≤ d) && decide (d ≤ 3000)) = false
    · rw [if_pos c1] at e; omega
    · rw [if_neg c1] at e
      by_cases c2 : (decide (1 ≤ x) && decide (x ≤ 1000)) = false
      · rw [if_pos c2] at e; omega
      · simp at c1 c2
        exact ⟨c, by omega, by omega, by omega, by omega⟩
  · rw [if_pos c] at e; exact absurd e c
theorem vvol_bad (A A' : Option Addr) (cap cap' : Nat) (h t : List Sp.Pd) (f : Int) (d x : Int) (w : World) (hz : PcSized h) (tz : PcSized t) (hT : Pcs w A h) (tT : Pcs w A' t) (hE : Sp.stemE h f t d x ≠ 0) :
    Calls Try.prog 15 #[.agg #[.slice A h.length cap, .int .i64 f, .slice A' t.length cap'], .int .i64 d, .int .i64 x] w (Gives (.tuple #[.agg #[.int .i64 0, .int .i64 0], .int .i64 (Sp.stemE h f t d x)]) w) := by
  have VB := VBox.new w A h.length cap f A' t.length cap'
  generalize hU : (w.alloc (Obj.cells #[.slice A h.length cap, .int .i64 f, .slice A' t.length cap'] 24)).alloc (Obj.cells #[.int .i64 0, .int .i64 0] 32) = U at VB
  have ST := hid (vstem_any A A' cap cap' h t f d x U hz tz (hT.below VB.bl) (tT.below VB.bl))
  have HB := hid VB
  have HU := hid hU
  generalize Sp.stemE h f t d x = E at ST hE ⊢
  have hn : (E == 0) = false := by simpa using hE
  have k0 := VB.cu.c0
  have k1 := VB.cu.c1
  have k2 := VB.cu.c2
  clear VB hU hz tz hT tT hE
  go_enter Try.func15, Try.ntmps15
  go_upto_region 1 with fail
  rw [HU.out]
  go_wp2_with fail
  refine ST.out.mono ?_
  rintro _ w5 ⟨rfl, hb⟩
  have V5 := hid (HB.out.below hb)
  have z0 := V5.out.z0
  have z1 := V5.out.z1
  have zf := V5.out.zf
  have zz := V5.out.zz
  have zl := V5.out.cu.lt
  clear hb k0 k1 k2
  go_wp2_with fail
  refine bodyPost_ret (v := .tuple #[.agg #[.int .i64 0, .int .i64 0], .int .i64 E]) (by simp [results, Try.results15, go_sem, z0, z1, zf, zz]) rfl ?_
  exact Gives.mk rfl (by have hB := V5.out.bl; repeat' (first | (with_reducible exact Below.refl _ _) | (with_reducible refine Below.alloc ?_ ?_ _) | (with_reducible refine Below.setCell ?_ ?_ _) | (with_reducible refine Below.drew ?_) | (with_reducible refine Below.trans ?_ (Below.mono (by assumption) ?_)) | (simp; done) | (simp; omega) | omega))
theorem vvol_good (A A' : Option Addr) (cap cap' : Nat) (h t : List Sp.Pd) (f : Int) (d x lo hi n1 n2 n : Int) (w : World) (hz : PcSized h) (tz : PcSized t) (hT : Pcs w A h) (tT : Pcs w A' t) (hE : Sp.stemE h f t d x = 0) (h1 : f * d = n1) (h2 : n1 * d = n2) (h3 : n2 * x = n)
    (b1 : 0 ≤ n1 ∧ n1 ≤ 3000000) (b2 : 0 ≤ n2 ∧ n2 ≤ 9000000000) (b3 : 0 ≤ n ∧ n ≤ 9000000000000)
    (en : ∀ w, Calls Try.prog 40 #[.int .i64 n, .int .i64 n, .int .i64 10000000000000] w (Gives (.agg #[.int .i64 lo, .int .i64 hi]) w)) :
    Calls Try.prog 15 #[.agg #[.slice A h.length cap, .int .i64 f, .slice A' t.length cap'], .int .i64 d, .int .i64 x] w (Gives (.tuple #[.agg #[.int .i64 lo, .int .i64 hi], .int .i64 0]) w) := by
  have VB := VBox.new w A h.length cap f A' t.length cap'
  generalize hU : (w.alloc (Obj.cells #[.slice A h.length cap, .int .i64 f, .slice A' t.length cap'] 24)).alloc (Obj.cells #[.int .i64 0, .int .i64 0] 32) = U at VB
  have ST := hid (vstem_any A A' cap cap' h t f d x U hz tz (hT.below VB.bl) (tT.below VB.bl))
  rw [hE] at ST
  have HB := hid VB
  have HU := hid hU
  have EN := hid en
  have k0 := VB.cu.c0
  have k1 := VB.cu.c1
  have k2 := VB.cu.c2
  clear VB hU hz tz hT tT hE en
  go_enter Try.func15, Try.ntmps15
  go_upto_region 1 with fail
  rw [HU.out]
  go_wp2_with fail
  refine ST.out.mono ?_
  rintro _ w5 ⟨rfl, hb⟩
  have V5 := hid (HB.out.below hb)
  have q1 := V5.out.cu.c1
  have zl := V5.out.cu.lt
  clear hb k0 k1 k2
  go_wp2_with fail
  refine (EN.out _).mono ?_
  rintro _ w6 ⟨rfl, hb⟩
  have V6 := hid (V5.out.below hb)
  have z0 := V6.out.z0
  have z1 := V6.out.z1
  have zf := V6.out.zf
  have zz := V6.out.zz
  clear hb q1 zl
  go_wp2_with fail
  refine bodyPost_ret (v := .tuple #[.agg #[.int .i64 lo, .int .i64 hi], .int .i64 0]) (by simp [results, Try.results15, go_sem, z0, z1, zf, zz]) rfl ?_
  exact Gives.mk rfl (by have hB := V6.out.bl; repeat' (first | (with_reducible exact Below.refl _ _) | (with_reducible refine Below.alloc ?_ ?_ _) | (with_reducible refine Below.setCell ?_ ?_ _) | (with_reducible refine Below.drew ?_) | (with_reducible refine Below.trans ?_ (Below.mono (by assumption) ?_)) | (simp; done) | (simp; omega) | omega))
theorem vvol_any (A A' : Option Addr) (cap cap' : Nat) (h t : List Sp.Pd) (f : Int) (d x lo hi e : Int) (w : World) (hz : PcSized h) (tz : PcSized t) (hT : Pcs w A h) (tT : Pcs w A' t) (hv : Sp.volE h f t d x = (lo, hi, e)) :
    Calls Try.prog 15 #[.agg #[.slice A h.length cap, .int .i64 f, .slice A' t.length cap'], .int .i64 d, .int .i64 x] w (Gives (.tuple #[.agg #[.int .i64 lo, .int .i64 hi], .int .i64 e]) w) := by
  unfold Sp.volE at hv
  by_cases c : Sp.stemE h f t d x = 0
  · rw [if_neg (fun k => k c)] at hv
    obtain ⟨rfl, hv2⟩ := Prod.mk.inj hv
    obtain ⟨rfl, rfl⟩ := Prod.mk.inj hv2
    obtain ⟨z0, z1, z2, z3, z4⟩ := Sp.stemE_zero c
    obtain ⟨y0, y1, y2, y3, y4, y5⟩ := Sp.curE_zero z0
    obtain ⟨p1, p2, p3⟩ := vol_prod y1 y2 z1 z2 z3 z4
    exact vvol_good A A' cap cap' h t f d x _ _ _ _ _ w hz tz hT tT c rfl rfl rfl p1 p2 p3 (fun w => venc_any _ _ _ p3.1 p3.2 p3.1 p3.2 (by omega) (by omega) w)
  · rw [if_pos c] at hv
    obtain ⟨rfl, hv2⟩ := Prod.mk.inj hv
    obtain ⟨rfl, rfl⟩ := Prod.mk.inj hv2
    exact vvol_bad A A' cap cap' h t f d x w hz tz hT tT c
end Go.Proofs.Ytdimncchejbaaaa
