/-
  Layer 14: VolumeGrows: the walk for every input.
-/
import Derived.Test.YtdimncchejbaaaaQvc
namespace Go.Proofs.Ytdimncchejbaaaa
open Go.RowKit
set_option linter.unusedVariables false
set_option linter.unusedSimpArgs false
/-- The boxes of the law's parameters: a curve, a stem, three numbers. -/
structure VG (w W : World) (A : Option Addr) (n cap : Nat) (f : Int) (A' : Option Addr) (n' cap' : Nat) (d x m0 m1 m2 : Int) : Prop where
  bl : Below w.heap.size w W
  cu : CurAt W w.heap.size A n cap f A' n' cap'
  st : StemAt W (w.heap.size + 1) d x
  g0 : W.cell? ⟨w.heap.size + 1 + 1, 0, none⟩ = some (.int .u8 m0)
  g1 : W.cell? ⟨w.heap.size + 1 + 1, 1, none⟩ = some (.int .u8 m1)
  g2 : W.cell? ⟨w.heap.size + 1 + 1, 2, none⟩ = some (.int .u8 m2)
  gl : w.heap.size + 1 + 1 < W.heap.size
theorem VG.new (w : World) (A : Option Addr) (n cap : Nat) (f : Int) (A' : Option Addr) (n' cap' : Nat) (d x m0 m1 m2 : Int) :
    VG w (((w.alloc (.cells #[.slice A n cap, .int .i64 f, .slice A' n' cap'] 24)).alloc (.cells #[.int .i64 d, .int .i64 x] 26)).alloc (.cells #[.int .u8 m0, .int .u8 m1, .int .u8 m2] 47)) A n cap f A' n' cap' d x m0 m1 m2 :=
  ⟨bthen (balloc _ _) (bthen (balloc _ _) (balloc _ _)), (curAt_new w A A' n cap n' cap' f).below (bthen (balloc _ _) (balloc _ _)), by
    have h := (stemAt_new (w.alloc (.cells #[.slice A n cap, .int .i64 f, .slice A' n' cap'] 24)) d x).below (balloc _ (.cells #[.int .u8 m0, .int .u8 m1, .int .u8 m2] 47))
    have e : (w.alloc (.cells #[.slice A n cap, .int .i64 f, .slice A' n' cap'] 24)).heap.size = w.heap.size + 1 := by simp
    rw [e] at h
    exact h, by simp [go_sem], by simp [go_sem], by simp [go_sem], by simp⟩
theorem VG.below {w W W' : World} {A A' : Option Addr} {n cap n' cap' : Nat} {f d x m0 m1 m2 : Int} (h : VG w W A n cap f A' n' cap' d x m0 m1 m2) (hb : Below W.heap.size W W') : VG w W' A n cap f A' n' cap' d x m0 m1 m2 :=
  ⟨bthen h.bl hb, h.cu.below hb, h.st.below hb, (hb.cell (p := ⟨w.heap.size + 1 + 1, 0, none⟩) h.gl).trans h.g0, (hb.cell (p := ⟨w.heap.size + 1 + 1, 1, none⟩) h.gl).trans h.g1, (hb.cell (p := ⟨w.heap.size + 1 + 1, 2, none⟩) h.gl).trans h.g2, Nat.lt_of_lt_of_le h.gl hb.size⟩
set_option maxRecDepth 100000 in
set_option maxHeartbeats 1000000 in
theorem vgrow_any (d x m0 m1 m2 : Int) (d0 : -9223372036854775808 ≤ d) (d1 : d ≤ 9223372036854775807) (x0 : -9223372036854775808 ≤ x) (x1 : x ≤ 9223372036854775807) (m00 : 0 ≤ m0) (m01 : m0 ≤ 255) (m10 : 0 ≤ m1) (m11 : m1 ≤ 255) (m20 : 0 ≤ m2) (m21 : m2 ≤ 255)
    (A A' : Option Addr) (cap cap' : Nat) (h t : List Sp.Pd) (f : Int) (w : World) (bf : -9223372036854775808 ≤ f ∧ f ≤ 9223372036854775807) (hz : PcSized h) (tz : PcSized t) (hT : Pcs w A h) (tT : Pcs w A' t) :
    Calls Try.prog 7 #[.agg #[.slice A h.length cap, .int .i64 f, .slice A' t.length cap'], .agg #[.int .i64 d, .int .i64 x], .agg #[.int .u8 m0, .int .u8 m1, .int .u8 m2]] w (Gives (.bool true) w) := by
  have AW := hid vawake_any
  have VB := VG.new w A h.length cap f A' t.length cap' d x m0 m1 m2
  generalize hU : ((w.alloc (Obj.cells #[.slice A h.length cap, .int .i64 f, .slice A' t.length cap'] 24)).alloc (.cells #[.int .i64 d, .int .i64 x] 26)).alloc (.cells #[.int .u8 m0, .int .u8 m1, .int .u8 m2] 47) = U at VB
  have FE := hid (r14few_any A A' cap cap' h t f U hz tz (hT.below VB.bl) (tT.below VB.bl))
  generalize (fewS h 3000 && fewS t 3000) = BB at FE
  obtain ⟨⟨lo, hi, e⟩, he⟩ : ∃ z, Sp.volE h f t d x = z := ⟨_, rfl⟩
  obtain ⟨⟨lo2, hi2, e2⟩, he2⟩ : ∃ z, Sp.volE h (f + m2) t (d + m0) (x + m1) = z := ⟨_, rfl⟩
  have V1 := hid (fun W (hb : Below w.heap.size w W) => vvol_any A A' cap cap' h t f d x lo hi e W hz tz (hT.below hb) (tT.below hb) he)
  have V2 := hid (fun W (hb : Below w.heap.size w W) => vvol_any A A' cap cap' h t (f + m2) (d + m0) (x + m1) lo2 hi2 e2 W hz tz (hT.below hb) (tT.below hb) he2)
  have FC := hid (fun (k : e = 0) => (show (1 ≤ f ∧ f ≤ 1000) ∧ (1 ≤ d ∧ d ≤ 3000) ∧ (1 ≤ x ∧ x ≤ 1000) ∧ (0 ≤ lo ∧ lo ≤ hi ∧ hi ≤ 1000000 ∧ hi - lo ≤ 2) ∧ (e2 ≠ 0 → e2 = 2) ∧ (e2 = 0 → lo ≤ lo2 ∧ hi ≤ hi2) from by
    rcases Sp.volE_cases (h := h) (f := f) (t := t) (d := d) (x := x) with ⟨g0, g1, g2, g3, g4, g5⟩ | ⟨g0, g1⟩
    · rw [he] at g5
      obtain ⟨rfl, g6⟩ := Prod.mk.inj g5
      obtain ⟨rfl, -⟩ := Prod.mk.inj g6
      refine ⟨g2, g3, g4, Sp.volS_in g2.1 g2.2 g3.1 g3.2 g4.1 g4.2, fun k2 => ?_, fun k2 => ?_⟩
      · rcases Sp.volE_cases (h := h) (f := f + m2) (t := t) (d := d + m0) (x := x + m1) with ⟨q0, -⟩ | ⟨q0, q1⟩
        · rw [he2] at q0; exact absurd q0 k2
        · rw [he2] at q1
          obtain ⟨-, q2⟩ := Prod.mk.inj q1
          obtain ⟨-, q3⟩ := Prod.mk.inj q2
          rw [q3]
          exact Sp.stemE_form g1 (by rw [← q3]; exact k2)
      · rcases Sp.volE_cases (h := h) (f := f + m2) (t := t) (d := d + m0) (x := x + m1) with ⟨q0, -, -, -, -, q5⟩ | ⟨q0, q1⟩
        · rw [he2] at q5
          obtain ⟨rfl, q6⟩ := Prod.mk.inj q5
          obtain ⟨rfl, -⟩ := Prod.mk.inj q6
          exact Sp.volS_grow g2.1 g3.1 g4.1 (by omega) (by omega) (by omega)
        · rw [he2] at q0; exact absurd k2 q0
    · rw [he] at g0; exact absurd k g0))
  have HU := hid hU
  have HV := hid VB
  have k0 := VB.cu.c0
  have k1 := VB.cu.c1
  have k2 := VB.cu.c2
  have kl := VB.cu.lt
  clear hz tz hT tT hU VB he he2 d0 d1 x0 x1 bf
  go_enter Try.func7, Try.ntmps7
  go_upto_region 1 with fail
  rw [HU.out]
  go_wp2_with fail
  refine FE.out.mono ?_
  rintro _ w5 ⟨rfl, hb⟩
  have V5 := hid (HV.out.below hb)
  have k0 := V5.out.cu.c0
  have k1 := V5.out.cu.c1
  have k2 := V5.out.cu.c2
  have kl := V5.out.cu.lt
  have s0 := V5.out.st.c0
  have s1 := V5.out.st.c1
  have sl := V5.out.st.lt
  clear hb
  cases BB
  · go_wp2_with fail
    refine (AW.out _).mono ?_
    rintro _ w6 ⟨rfl, hb⟩
    have B6 := hid hb
    clear hb
    go_wp2_with fail
    go_ret
    exact Gives.mk rfl (bthen V5.out.bl B6.out)
  · go_wp2_with fail
    refine (V1.out _ V5.out.bl).mono ?_
    rintro _ w6 ⟨rfl, hb⟩
    have V6 := hid (V5.out.below hb)
    have V6a := hid (V6.out.below (balloc w6 (Obj.cells #[.int .i64 lo, .int .i64 hi] 32)))
    clear hb k0 k1 k2 kl s0 s1 sl
    by_cases c1 : e = 0
    · subst c1
      obtain ⟨⟨F0, F1⟩, ⟨D0, D1⟩, ⟨X0, X1⟩, ⟨L0, L1, L2, L3⟩, E2, G2⟩ := FC.out rfl
      have WW := hid (iwidth_any lo hi (hi - lo) 0 (by unfold Sp.widthS; rw [if_neg (fun k => k (Sp.chk_zero.2 ⟨L1, by omega, by omega⟩))]))
      have e2' := hid E2
      have g2' := hid G2
      have fm : wrap64 (f + m2) = f + m2 := pw64 _ (by omega)
      have dm : wrap64 (d + m0) = d + m0 := pw64 _ (by omega)
      have xm : wrap64 (x + m1) = x + m1 := pw64 _ (by omega)
      have w0 : wrap64 m0 = m0 := pw64 _ (by omega)
      have w1 : wrap64 m1 = m1 := pw64 _ (by omega)
      have w2 : wrap64 m2 = m2 := pw64 _ (by omega)
      obtain ⟨q, hq⟩ : ∃ q, lo.tdiv 785398 = q := ⟨_, rfl⟩
      have q0 : 0 ≤ q := by rw [← hq]; exact Int.tdiv_nonneg L0 (by omega)
      have q1 : q ≤ 1000000 := by rw [← hq, Int.tdiv_eq_ediv_of_nonneg L0]; omega
      have wq : wrap64 q = q := pw64 _ (by omega)
      have wq2 : wrap64 (2 + q) = 2 + q := pw64 _ (by omega)
      have r1 : decide (0 ≤ lo) = true := decide_eq_true L0
      have r2 : decide (hi - lo ≤ 2 + q) = true := decide_eq_true (by omega)
      have k0 := V6.out.cu.c0
      have k1 := V6.out.cu.c1
      have k2 := V6.out.cu.c2
      have kl := V6.out.cu.lt
      have s0 := V6.out.st.c0
      have s1 := V6.out.st.c1
      have sl := V6.out.st.lt
      have t0 := V6.out.g0
      have t1 := V6.out.g1
      have t2 := V6.out.g2
      have tl := V6.out.gl
      have n1 : ¬ w.heap.size = w6.heap.size := by omega
      have n2 : ¬ w.heap.size + 1 = w6.heap.size := by omega
      have n3 : ¬ w.heap.size + 1 + 1 = w6.heap.size := by omega
      have n4 : ¬ w.heap.size = w6.heap.size + 1 := by omega
      have n5 : ¬ w.heap.size + 1 = w6.heap.size + 1 := by omega
      have n6 : ¬ w.heap.size + 1 + 1 = w6.heap.size + 1 := by omega
      clear F0 F1 D0 D1 X0 X1 L0 L1 L2 L3 E2 G2 FC q0 q1 m00 m01 m10 m11 m20 m21
      go_wp2_with fail
      refine (V2.out _ (bthen V6a.out.bl (balloc _ _))).mono ?_
      rintro _ w7 ⟨rfl, hb⟩
      have a0 : w7.cell? ⟨w6.heap.size, 0, none⟩ = some (.int .i64 lo) := (hb.cell (p := ⟨w6.heap.size, 0, none⟩) (by simp; omega)).trans (by simp [go_sem])
      have a1 : w7.cell? ⟨w6.heap.size, 1, none⟩ = some (.int .i64 hi) := (hb.cell (p := ⟨w6.heap.size, 1, none⟩) (by simp; omega)).trans (by simp [go_sem])
      have al : w6.heap.size < w7.heap.size := by have := hb.size; simp at this; omega
      have an : ¬ w6.heap.size = w7.heap.size := by omega
      have B7 := hid (bthen V6a.out.bl (bthen (balloc _ _) hb))
      clear hb k0 k1 k2 kl s0 s1 sl t0 t1 t2 tl n1 n2 n3 n4 n5 n6
      by_cases c2 : e2 = 0
      · subst c2
        obtain ⟨y1, y2⟩ := g2'.out rfl
        have r3 : decide (lo ≤ lo2) = true := decide_eq_true y1
        have r4 : decide (hi ≤ hi2) = true := decide_eq_true y2
        clear y1 y2
        go_wp2_with fail
        refine (WW.out _).mono ?_
        rintro _ w8 ⟨rfl, hb⟩
        have b0 : w8.cell? ⟨w6.heap.size, 0, none⟩ = some (.int .i64 lo) := (hb.cell (p := ⟨w6.heap.size, 0, none⟩) (by simp; omega)).trans (by simp [go_sem, a0, al, an])
        have b1 : w8.cell? ⟨w6.heap.size, 1, none⟩ = some (.int .i64 hi) := (hb.cell (p := ⟨w6.heap.size, 1, none⟩) (by simp; omega)).trans (by simp [go_sem, a1, al, an])
        have b2 : w8.cell? ⟨w7.heap.size, 0, none⟩ = some (.int .i64 lo2) := (hb.cell (p := ⟨w7.heap.size, 0, none⟩) (by simp)).trans (by simp [go_sem])
        have b3 : w8.cell? ⟨w7.heap.size, 1, none⟩ = some (.int .i64 hi2) := (hb.cell (p := ⟨w7.heap.size, 1, none⟩) (by simp)).trans (by simp [go_sem])
        have B8 := hid (bthen B7.out (bthen (balloc _ _) hb))
        clear hb a0 a1 al an
        go_wp2_with fail
        refine (AW.out _).mono ?_
        rintro _ w9 ⟨rfl, hb⟩
        have B9 := hid (bthen B8.out hb)
        clear hb
        go_wp2_with fail
        go_ret
        exact Gives.mk rfl B9.out
      · obtain rfl := e2'.out c2
        go_wp2_with fail
        refine (AW.out _).mono ?_
        rintro _ w8 ⟨rfl, hb⟩
        have B8 := hid (bthen (bthen B7.out (balloc _ _)) hb)
        clear hb
        go_wp2_with fail
        go_ret
        exact Gives.mk rfl B8.out
    · have hn : (e == 0) = false := by simpa using c1
      go_wp2_with fail
      refine (AW.out _).mono ?_
      rintro _ w7 ⟨rfl, hb⟩
      have B7 := hid hb
      clear hb
      go_wp2_with fail
      go_ret
      exact Gives.mk rfl (bthen V6a.out.bl B7.out)
end Go.Proofs.Ytdimncchejbaaaa
