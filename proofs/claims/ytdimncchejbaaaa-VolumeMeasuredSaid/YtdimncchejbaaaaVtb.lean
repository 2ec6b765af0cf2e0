/-
  Layer 14: VolumeMeasured: mathematics, and the walk for every input.
-/
import Derived.Test.YtdimncchejbaaaaVta
namespace Go.Proofs.Ytdimncchejbaaaa
open Go.RowKit
set_option linter.unusedVariables false
set_option linter.unusedSimpArgs false
/-- The boxes of a law's parameters: a curve, a stem. -/
structure CS (w W : World) (A : Option Addr) (n cap : Nat) (f : Int) (A' : Option Addr) (n' cap' : Nat) (d x : Int) : Prop where
  bl : Below w.heap.size w W
  cu : CurAt W w.heap.size A n cap f A' n' cap'
  st : StemAt W (w.heap.size + 1) d x
theorem CS.new (w : World) (A : Option Addr) (n cap : Nat) (f : Int) (A' : Option Addr) (n' cap' : Nat) (d x : Int) :
    CS w ((w.alloc (.cells #[.slice A n cap, .int .i64 f, .slice A' n' cap'] 24)).alloc (.cells #[.int .i64 d, .int .i64 x] 26)) A n cap f A' n' cap' d x :=
  ⟨bthen (balloc _ _) (balloc _ _), (curAt_new w A A' n cap n' cap' f).below (balloc _ _), by
    have h := stemAt_new (w.alloc (.cells #[.slice A n cap, .int .i64 f, .slice A' n' cap'] 24)) d x
    have e : (w.alloc (.cells #[.slice A n cap, .int .i64 f, .slice A' n' cap'] 24)).heap.size = w.heap.size + 1 := by simp
    rw [e] at h
    exact h⟩
theorem CS.below {w W W' : World} {A A' : Option Addr} {n cap n' cap' : Nat} {f d x : Int} (h : CS w W A n cap f A' n' cap' d x) (hb : Below W.heap.size W W') : CS w W' A n cap f A' n' cap' d x := ⟨bthen h.bl hb, h.cu.below hb, h.st.below hb⟩
/-- A span's box. -/
structure SpanAt (w : World) (g : Nat) (lo hi : Int) : Prop where
  lt : g < w.heap.size
  c0 : w.cell? ⟨g, 0, none⟩ = some (.int .i64 lo)
  c1 : w.cell? ⟨g, 1, none⟩ = some (.int .i64 hi)
theorem SpanAt.below {w w' : World} {g : Nat} {d x : Int} (h : SpanAt w g d x) (hb : Below w.heap.size w w') : SpanAt w' g d x :=
  ⟨Nat.lt_of_lt_of_le h.lt hb.size, (hb.cell (p := ⟨g, 0, none⟩) h.lt).trans h.c0, (hb.cell (p := ⟨g, 1, none⟩) h.lt).trans h.c1⟩
theorem spanAt_new (w : World) (d x : Int) : SpanAt (w.alloc (Obj.cells #[.int .i64 d, .int .i64 x] 32)) w.heap.size d x := ⟨by simp, by simp [go_sem], by simp [go_sem]⟩
theorem SpanAt.set {w : World} {g : Nat} {lo hi : Int} (h : SpanAt w g lo hi) {b : Nat} (hb : g ≠ b) (v : Value) : SpanAt (w.setCell ⟨b, 0, none⟩ v) g lo hi := by
  have e : ∀ o, (w.setCell ⟨b, 0, none⟩ v).cell? ⟨g, o, none⟩ = w.cell? ⟨g, o, none⟩ := fun o => World.cell?_of_block (a := ⟨g, o, none⟩) (Below.heap_setCell _ _ _ g hb)
  exact ⟨by simpa using h.lt, (e 0).trans h.c0, (e 1).trans h.c1⟩
theorem StemAt.set {w : World} {g : Nat} {d x : Int} (h : StemAt w g d x) {b : Nat} (hb : g ≠ b) (v : Value) : StemAt (w.setCell ⟨b, 0, none⟩ v) g d x := by
  have e : ∀ o, (w.setCell ⟨b, 0, none⟩ v).cell? ⟨g, o, none⟩ = w.cell? ⟨g, o, none⟩ := fun o => World.cell?_of_block (a := ⟨g, o, none⟩) (Below.heap_setCell _ _ _ g hb)
  exact ⟨by simpa using h.lt, (e 0).trans h.c0, (e 1).trans h.c1⟩
/-- One curve in a block of its own. -/
theorem cvs_one (W : World) (c : Sp.Cv) (h1 : Pcs W c.A c.h) (h2 : Pcs W c.B c.t) : Cvs (W.alloc (.cells #[.slice c.A c.h.length c.k, .int .i64 c.f, .slice c.B c.t.length c.m] 24)) (some ⟨W.heap.size, 0, none⟩) [c] :=
  ⟨fun _ => ⟨W.heap.size, 0, rfl, by simp, fun j hj => by
    have : j = 0 := by simpa using hj
    subst this
    exact ⟨by simp [go_sem], by simp [go_sem], by simp [go_sem]⟩⟩, fun p hp => by
    have : p = c := by simpa using hp
    subst this
    exact ⟨h1.below (balloc _ _), h2.below (balloc _ _)⟩⟩
theorem Sp.tree_one (c : Sp.Cv) (d x : Int) : Sp.treeS [c] 0 d x = Sp.tree1 c d x := by
  unfold Sp.treeS
  rw [dif_pos ⟨by omega, by simp⟩]
  rfl
theorem Sp.heiS_good {h : List Sp.Pd} {f : Int} {t : List Sp.Pd} {d r : Int} (e : Sp.heiS h f t d = (r, 0)) : Sp.curE h f t = 0 ∧ (1 ≤ d ∧ d ≤ 3000) ∧ (1 ≤ r ∧ r ≤ 1000) := by
  unfold Sp.heiS at e
  by_cases c : Sp.curE h f t = 0
  · rw [if_neg (fun k => k c)] at e
    by_cases c1 : (decide (1 ≤ d) && decide (d ≤ 3000)) = false
    · rw [if_pos c1] at e; exact absurd (Prod.mk.inj e).2 (by decide)
    · rw [if_neg c1] at e
      by_cases c2 : (Sp.evalS h d).2.2 = 0
      · rw [if_neg (fun k => k c2)] at e
        by_cases c3 : (decide (1 ≤ Sp.roundF (Sp.evalS h d).1 (Sp.evalS h d).2.1) && decide (Sp.roundF (Sp.evalS h d).1 (Sp.evalS h d).2.1 ≤ 1000)) = false
        · rw [if_pos c3] at e; exact absurd (Prod.mk.inj e).2 (by decide)
        · rw [if_neg c3] at e
          have hr := (Prod.mk.inj e).1
          rw [hr] at c3
          simp at c1 c3
          exact ⟨c, c1, c3⟩
      · rw [if_pos c2] at e; exact absurd (Prod.mk.inj e).2 c2
  · rw [if_pos c] at e; exact absurd (Prod.mk.inj e).2 c
theorem Sp.volE_good {h : List Sp.Pd} {f : Int} {t : List Sp.Pd} {d x : Int} (c : Sp.curE h f t = 0) (hd : 1 ≤ d ∧ d ≤ 3000) (hx : 1 ≤ x ∧ x ≤ 1000) : Sp.volE h f t d x = ((Sp.volS f d x).1, (Sp.volS f d x).2, 0) := by
  have e : Sp.stemE h f t d x = 0 := by
    unfold Sp.stemE
    rw [c, if_neg (fun k => k rfl), if_neg (by simp; omega), if_neg (by simp; omega)]
  unfold Sp.volE
  rw [e, if_neg (fun k => k rfl)]
theorem m_check (A : Option Addr) : Sp.pcheck (lnL A 3000 20 0 1) = 0 := by kernel_rfl
theorem m_cur (A : Option Addr) {h t : List Sp.Pd} {f : Int} (c : Sp.curE h f t = 0) : Sp.curE (lnL A 3000 20 0 1) f t = 0 := by
  obtain ⟨k0, k1, k2, k3, k4, k5⟩ := Sp.curE_zero c
  unfold Sp.curE
  rw [if_neg (fun k => k (m_check A)), if_neg (by omega), if_neg (fun k => k k3), if_pos ⟨k4, k5⟩]
set_option maxRecDepth 100000 in
set_option maxHeartbeats 4000000 in
theorem vmeas_any (d x : Int) (d0 : -9223372036854775808 ≤ d) (d1 : d ≤ 9223372036854775807) (x0 : -9223372036854775808 ≤ x) (x1 : x ≤ 9223372036854775807)
    (A A' : Option Addr) (cap cap' : Nat) (h t : List Sp.Pd) (f : Int) (w : World) (bf : -9223372036854775808 ≤ f ∧ f ≤ 9223372036854775807) (hz : PcSized h) (tz : PcSized t) (hT : Pcs w A h) (tT : Pcs w A' t) :
    Calls Try.prog 10 #[.agg #[.slice A h.length cap, .int .i64 f, .slice A' t.length cap'], .agg #[.int .i64 d, .int .i64 x]] w (Gives (.bool true) w) := by
  have AW := hid vawake_any
  have VB := CS.new w A h.length cap f A' t.length cap' d x
  generalize hU : (w.alloc (Obj.cells #[.slice A h.length cap, .int .i64 f, .slice A' t.length cap'] 24)).alloc (.cells #[.int .i64 d, .int .i64 x] 26) = U at VB
  have FE := hid (r14few_any A A' cap cap' h t f U hz tz (hT.below VB.bl) (tT.below VB.bl))
  generalize (fewS h 3000 && fewS t 3000) = BB at FE
  obtain ⟨⟨r, y⟩, hr⟩ : ∃ z, Sp.heiS h f t d = z := ⟨_, rfl⟩
  have H1 := hid (fun W (hb : Below w.heap.size w W) => vhei_any A A' cap cap' h t f d r y W hz tz (hT.below hb) (tT.below hb) hr)
  have TR := hid (fun (q lo hi e : Int) (hq : Sp.tree1 ⟨A, cap, h, f, A', cap', t⟩ d q = (lo, hi, e)) W (hb : Below w.heap.size w W) => vtree_any (some ⟨W.heap.size, 0, none⟩) 1 [⟨A, cap, h, f, A', cap', t⟩] 0 d q 0 lo hi e _ ⟨by simp, fun c hc => by
    have : c = ⟨A, cap, h, f, A', cap', t⟩ := by simpa using hc
    subst this
    exact ⟨hz, tz⟩⟩ (cvs_one W ⟨A, cap, h, f, A', cap', t⟩ (hT.below hb) (tT.below hb)) (by rw [Sp.tree_one]; exact hq))
  have TR2 := hid (fun (g k : Nat) (q lo hi e : Int) (hq : Sp.tree1 ⟨some ⟨g, 0, none⟩, 1, lnL (some ⟨k, 0, none⟩) 3000 20 0 1, f, A', cap', t⟩ d q = (lo, hi, e)) W (hb : Below w.heap.size w W) (hL : LnAt W g k 3000 20 0 1) => vtree_any (some ⟨W.heap.size, 0, none⟩) 1 [⟨some ⟨g, 0, none⟩, 1, lnL (some ⟨k, 0, none⟩) 3000 20 0 1, f, A', cap', t⟩] 0 d q 0 lo hi e _ ⟨by simp, fun c hc => by
    have : c = ⟨some ⟨g, 0, none⟩, 1, lnL (some ⟨k, 0, none⟩) 3000 20 0 1, f, A', cap', t⟩ := by simpa using hc
    subst this
    exact ⟨ln_sized _ 3000 20 0 1 (by omega) (by omega) (by omega) (by omega), tz⟩⟩ (cvs_one W ⟨some ⟨g, 0, none⟩, 1, lnL (some ⟨k, 0, none⟩) 3000 20 0 1, f, A', cap', t⟩ hL.pcs (tT.below hb)) (by rw [Sp.tree_one]; exact hq))
  simp only [List.length_cons, List.length_nil, Nat.zero_add, ln_one] at TR TR2
  have T0 := hid (show Sp.tree1 ⟨A, cap, h, f, A', cap', t⟩ d 0 = (if y ≠ 0 then (0, 0, y) else Sp.volE h f t d r) by unfold Sp.tree1; rw [if_pos rfl]; simp only [hr])
  have GD := hid (fun (k : y = 0) => Sp.heiS_good (k ▸ hr))
  have HU := hid hU
  have HV := hid VB
  have k0 := VB.cu.c0
  have k1 := VB.cu.c1
  have k2 := VB.cu.c2
  have kl := VB.cu.lt
  clear hz tz hT tT hU VB hr d0 d1 x0 x1 bf
  go_enter Try.func10, Try.ntmps10
  go_upto_region 1 with fail
  rw [HU.out]
  go_wp2_with fail
  refine FE.out.mono ?_
  rintro _ w5 ⟨rfl, hb⟩
  have V5 := hid (HV.out.below hb)
  clear hb k0 k1 k2 kl
  cases BB
  · go_wp2_with fail
    refine (AW.out _).mono ?_
    rintro _ w20 ⟨rfl, hb⟩
    have B20 := hid hb
    clear hb
    go_wp2_with fail
    go_ret
    exact Gives.mk rfl (bthen V5.out.bl B20.out)
  · have k0 := V5.out.cu.c0
    have k1 := V5.out.cu.c1
    have k2 := V5.out.cu.c2
    have kl := V5.out.cu.lt
    have s0 := V5.out.st.c0
    have sl := V5.out.st.lt
    go_wp2_with fail
    refine (H1.out _ V5.out.bl).mono ?_
    rintro _ w6 ⟨rfl, hb⟩
    have V6 := hid (V5.out.below hb)
    clear hb k0 k1 k2 kl s0 sl
    have k0 := V6.out.cu.c0
    have k1 := V6.out.cu.c1
    have k2 := V6.out.cu.c2
    have kl := V6.out.cu.lt
    have s0 := V6.out.st.c0
    have sl := V6.out.st.lt
    by_cases cy : y = 0
    · subst cy
      obtain ⟨g1, g2, g3⟩ := GD.out rfl
      obtain ⟨lo, hlo⟩ : ∃ z, (Sp.volS f d r).1 = z := ⟨_, rfl⟩
      obtain ⟨hi, hhi⟩ : ∃ z, (Sp.volS f d r).2 = z := ⟨_, rfl⟩
      have e0 : Sp.tree1 ⟨A, cap, h, f, A', cap', t⟩ d 0 = (lo, hi, 0) := by rw [T0.out, if_neg (fun k => k rfl), Sp.volE_good g1 g2 g3, hlo, hhi]
      have r0 : ¬ r = 0 := by omega
      have e1 : Sp.tree1 ⟨A, cap, h, f, A', cap', t⟩ d r = (lo, hi, 0) := by unfold Sp.tree1; rw [if_neg r0]; simp only; rw [Sp.volE_good g1 g2 g3, hlo, hhi]
      have e2 := hid (fun (g k : Nat) => (show Sp.tree1 ⟨some ⟨g, 0, none⟩, 1, lnL (some ⟨k, 0, none⟩) 3000 20 0 1, f, A', cap', t⟩ d r = (lo, hi, 0) by unfold Sp.tree1; rw [if_neg r0]; simp only; rw [Sp.volE_good (m_cur _ g1) g2 g3, hlo, hhi]))
      have Q0 := hid (TR.out 0 lo hi 0 e0)
      have Q1 := hid (TR.out r lo hi 0 e1)
      clear e0 e1 g1 g2 g3 hlo hhi T0 GD r0
      go_wp2_with fail
      (with_reducible refine (Q0.out w6 V6.out.bl).mono ?_)
      rintro _ w7 ⟨rfl, hb⟩
      have V7 := hid ((V6.out.below (balloc _ _)).below hb)
      have V7a := hid (V7.out.below (balloc w7 (Obj.cells #[.int .i64 lo, .int .i64 hi] 32)))
      clear hb k0 k1 k2 kl s0 sl
      have k0 := V7.out.cu.c0
      have k1 := V7.out.cu.c1
      have k2 := V7.out.cu.c2
      have kl := V7.out.cu.lt
      have s0 := V7.out.st.c0
      have sl := V7.out.st.lt
      have n1 : ¬ w.heap.size = w7.heap.size := by omega
      have n2 : ¬ w.heap.size + 1 = w7.heap.size := by omega
      go_wp2_with fail
      have eS : (w7.alloc (Obj.cells #[.int .i64 lo, .int .i64 hi] 32)).heap.size = w7.heap.size + 1 := by simp
      have P1 := Q1.out (w7.alloc (Obj.cells #[.int .i64 lo, .int .i64 hi] 32)) V7a.out.bl
      rw [eS] at P1
      (with_reducible refine P1.mono ?_)
      rintro _ w8 ⟨rfl, hb⟩
      have bb := bthen (balloc (w7.alloc (Obj.cells #[.int .i64 lo, .int .i64 hi] 32)) (Obj.cells #[.slice A h.length cap, .int .i64 f, .slice A' t.length cap'] 24)) hb
      have V8 := hid (V7a.out.below bb)
      have A8 := hid ((spanAt_new w7 lo hi).below bb)
      clear hb bb k0 k1 k2 kl s0 sl n1 n2 eS P1
      have k0 := V8.out.cu.c0
      have k1 := V8.out.cu.c1
      have k2 := V8.out.cu.c2
      have kl := V8.out.cu.lt
      have n1 : ¬ w.heap.size = w8.heap.size := by omega
      have bX := bthen (balloc w8 (Obj.cells #[.int .i64 lo, .int .i64 hi] 32)) (balloc (w8.alloc (Obj.cells #[.int .i64 lo, .int .i64 hi] 32)) (Obj.cells #[.slice A h.length cap, .int .i64 f, .slice A' t.length cap'] 24))
      have CX := curAt_new (w8.alloc (Obj.cells #[.int .i64 lo, .int .i64 hi] 32)) A A' h.length cap t.length cap' f
      have eX : (w8.alloc (Obj.cells #[.int .i64 lo, .int .i64 hi] 32)).heap.size = w8.heap.size + 1 := by simp
      rw [eX] at CX
      have BX := (spanAt_new w8 lo hi).below (balloc (w8.alloc (Obj.cells #[.int .i64 lo, .int .i64 hi] 32)) (Obj.cells #[.slice A h.length cap, .int .i64 f, .slice A' t.length cap'] 24))
      have fX : ∀ o, ((w8.alloc (Obj.cells #[.int .i64 lo, .int .i64 hi] 32)).alloc (Obj.cells #[.slice A h.length cap, .int .i64 f, .slice A' t.length cap'] 24)).frozen? ⟨w8.heap.size + 1, o, none⟩ = false := fun o => by simp [go_sem]
      have zX : ((w8.alloc (Obj.cells #[.int .i64 lo, .int .i64 hi] 32)).alloc (Obj.cells #[.slice A h.length cap, .int .i64 f, .slice A' t.length cap'] 24)).heap.size = w8.heap.size + 1 + 1 := by simp
      go_upto_region 9 with fail
      generalize hX : (w8.alloc (Obj.cells #[.int .i64 lo, .int .i64 hi] 32)).alloc (Obj.cells #[.slice A h.length cap, .int .i64 f, .slice A' t.length cap'] 24) = X at bX CX BX fX zX ⊢
      have VX := hid (V8.out.below bX)
      have AX := hid (A8.out.below bX)
      have BX2 := hid BX
      have CX2 := hid CX
      have FX := hid fX
      have ZX := hid zX
      have x0 := CX.c0
      have x1 := CX.c1
      have x2 := CX.c2
      have xl := CX.lt
      clear hX bX CX BX fX zX eX k0 k1 k2 kl n1
      go_wp2_with fail
      refine (vline_any 3000 20 0 1 _).mono ?_
      rintro _ w9 ⟨hb, g, k, G, K, rfl, L⟩
      have V9 := VX.out.below hb
      have A9 := AX.out.below hb
      have B9 := BX2.out.below hb
      have C9 := CX2.out.below hb
      have f9 : ∀ o, w9.frozen? ⟨w8.heap.size + 1, o, none⟩ = false := fun o => (hb.frozen (p := ⟨w8.heap.size + 1, o, none⟩) CX2.out.lt).trans (FX.out o)
      have y0 := C9.c0
      have yl := C9.lt
      have zx := ZX.out
      have a9 := A8.out.lt
      have ge : ∀ (m : Nat), m ≠ w8.heap.size + 1 → (w9.setCell ⟨w8.heap.size + 1, 0, none⟩ (.slice (some ⟨g, 0, none⟩) 1 1)).heap[m]? = w9.heap[m]? := fun m hm => Below.heap_setCell _ _ _ m hm
      have vz := V8.out.bl.size
      have vl := V8.out.st.lt
      have bY : Below w.heap.size w (w9.setCell ⟨w8.heap.size + 1, 0, none⟩ (.slice (some ⟨g, 0, none⟩) 1 1)) := V9.bl.setCell (p := ⟨w8.heap.size + 1, 0, none⟩) (by simp only; omega) _
      have LY : LnAt (w9.setCell ⟨w8.heap.size + 1, 0, none⟩ (.slice (some ⟨g, 0, none⟩) 1 1)) g k 3000 20 0 1 := L.same (by simp) (ge _ (by omega)) (ge _ (by omega))
      have SY := V9.st.set (b := w8.heap.size + 1) (by omega) (.slice (some ⟨g, 0, none⟩) 1 1)
      have AY := A9.set (b := w8.heap.size + 1) (by omega) (.slice (some ⟨g, 0, none⟩) 1 1)
      have BY := B9.set (b := w8.heap.size + 1) (by omega) (.slice (some ⟨g, 0, none⟩) 1 1)
      have cY0 : (w9.setCell ⟨w8.heap.size + 1, 0, none⟩ (.slice (some ⟨g, 0, none⟩) 1 1)).cell? ⟨w8.heap.size + 1, 0, none⟩ = some (.slice (some ⟨g, 0, none⟩) 1 1) := by simp [go_sem, y0]
      have cY1 : (w9.setCell ⟨w8.heap.size + 1, 0, none⟩ (.slice (some ⟨g, 0, none⟩) 1 1)).cell? ⟨w8.heap.size + 1, 1, none⟩ = some (.int .i64 f) := by simp [go_sem, C9.c1]
      have cY2 : (w9.setCell ⟨w8.heap.size + 1, 0, none⟩ (.slice (some ⟨g, 0, none⟩) 1 1)).cell? ⟨w8.heap.size + 1, 2, none⟩ = some (.slice A' t.length cap') := by simp [go_sem, C9.c2]
      have lY : w8.heap.size + 1 < (w9.setCell ⟨w8.heap.size + 1, 0, none⟩ (.slice (some ⟨g, 0, none⟩) 1 1)).heap.size := by simpa using yl
      go_upto_region 10 with fail
      generalize hY : w9.setCell ⟨w8.heap.size + 1, 0, none⟩ (.slice (some ⟨g, 0, none⟩) 1 1) = Y at bY LY SY AY BY cY0 cY1 cY2 lY ⊢
      have s0 := SY.c0
      have sl := SY.lt
      have Q2 := hid (TR2.out g k r lo hi 0 (e2.out g k) Y bY LY)
      have AYh := hid AY
      have BYh := hid BY
      have bYh := hid bY
      clear hb V9 A9 B9 C9 f9 y0 yl zx a9 ge vz vl hY bY LY SY AY BY L G K x0 x1 x2 xl
      go_wp2_with fail
      (with_reducible refine Q2.out.mono ?_)
      rintro _ w10 ⟨rfl, hb⟩
      have bb := bthen (balloc Y (.cells #[.slice (some ⟨g, 0, none⟩) 1 1, .int .i64 f, .slice A' t.length cap'] 24)) hb
      have A10 := AYh.out.below bb
      have B10 := BYh.out.below bb
      have T10 := hid (bthen bYh.out bb)
      have a0 := A10.c0
      have a1 := A10.c1
      have al := A10.lt
      have b0 := B10.c0
      have b1 := B10.c1
      have bl := B10.lt
      have an : ¬ w7.heap.size = w10.heap.size := by omega
      have bn : ¬ w8.heap.size = w10.heap.size := by omega
      clear hb bb A10 B10 s0 sl cY0 cY1 cY2 lY
      go_wp2_with fail
      refine (AW.out _).mono ?_
      rintro _ w20 ⟨rfl, hb⟩
      have B20 := hid hb
      clear hb
      go_wp2_with fail
      go_ret
      exact Gives.mk rfl (bthen T10.out (bthen (balloc _ _) B20.out))
    · have e0 : Sp.tree1 ⟨A, cap, h, f, A', cap', t⟩ d 0 = (0, 0, y) := by rw [T0.out, if_pos cy]
      have Q0 := hid (TR.out 0 0 0 y e0)
      have hn : (y == 0) = false := by simpa using cy
      clear e0 T0 GD TR2
      go_wp2_with fail
      (with_reducible refine (Q0.out w6 V6.out.bl).mono ?_)
      rintro _ w7 ⟨rfl, hb⟩
      have V7 := hid ((V6.out.below (balloc _ _)).below hb)
      clear hb k0 k1 k2 kl s0 sl
      go_wp2_with fail
      refine (AW.out _).mono ?_
      rintro _ w20 ⟨rfl, hb⟩
      have B20 := hid hb
      clear hb
      go_wp2_with fail
      go_ret
      exact Gives.mk rfl (bthen V7.out.bl (bthen (balloc _ _) B20.out))
end Go.Proofs.Ytdimncchejbaaaa
