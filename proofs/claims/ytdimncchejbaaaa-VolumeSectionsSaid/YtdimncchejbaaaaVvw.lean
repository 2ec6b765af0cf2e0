/-
  Layer 14: VolumeSections: the walk for every input.
-/
import Derived.Test.YtdimncchejbaaaaQvd
namespace Go.Proofs.Ytdimncchejbaaaa
open Go.RowKit
set_option linter.unusedVariables false
set_option linter.unusedSimpArgs false
/-- The boxes of the law's parameters: a curve, a stem, two heights. -/
structure CT (w W : World) (A : Option Addr) (n cap : Nat) (f : Int) (A' : Option Addr) (n' cap' : Nat) (d x a b : Int) : Prop where
  cs : CS w W A n cap f A' n' cap' d x
  g0 : W.cell? ⟨w.heap.size + 1 + 1, 0, none⟩ = some (.int .i64 a)
  g1 : W.cell? ⟨w.heap.size + 1 + 1, 1, none⟩ = some (.int .i64 b)
  gl : w.heap.size + 1 + 1 < W.heap.size
theorem CT.new (w : World) (A : Option Addr) (n cap : Nat) (f : Int) (A' : Option Addr) (n' cap' : Nat) (d x a b : Int) :
    CT w (((w.alloc (.cells #[.slice A n cap, .int .i64 f, .slice A' n' cap'] 24)).alloc (.cells #[.int .i64 d, .int .i64 x] 26)).alloc (.cells #[.int .i64 a, .int .i64 b] 44)) A n cap f A' n' cap' d x a b :=
  ⟨(CS.new w A n cap f A' n' cap' d x).below (balloc _ _), by simp [go_sem], by simp [go_sem], by simp⟩
theorem CT.below {w W W' : World} {A A' : Option Addr} {n cap n' cap' : Nat} {f d x a b : Int} (h : CT w W A n cap f A' n' cap' d x a b) (hb : Below W.heap.size W W') : CT w W' A n cap f A' n' cap' d x a b :=
  ⟨h.cs.below hb, (hb.cell (p := ⟨w.heap.size + 1 + 1, 0, none⟩) h.gl).trans h.g0, (hb.cell (p := ⟨w.heap.size + 1 + 1, 1, none⟩) h.gl).trans h.g1, Nat.lt_of_lt_of_le h.gl hb.size⟩
set_option maxRecDepth 100000 in
set_option maxHeartbeats 2000000 in
theorem vsections_any (d x a b : Int) (d0 : -9223372036854775808 ≤ d) (d1 : d ≤ 9223372036854775807) (x0 : -9223372036854775808 ≤ x) (x1 : x ≤ 9223372036854775807) (a0 : -9223372036854775808 ≤ a) (a1 : a ≤ 9223372036854775807) (b0 : -9223372036854775808 ≤ b) (b1 : b ≤ 9223372036854775807)
    (A A' : Option Addr) (cap cap' : Nat) (h t : List Sp.Pd) (f : Int) (w : World) (bf : -9223372036854775808 ≤ f ∧ f ≤ 9223372036854775807) (hz : PcSized h) (tz : PcSized t) (hT : Pcs w A h) (tT : Pcs w A' t) :
    Calls Try.prog 6 #[.agg #[.slice A h.length cap, .int .i64 f, .slice A' t.length cap'], .agg #[.int .i64 d, .int .i64 x], .agg #[.int .i64 a, .int .i64 b]] w (Gives (.bool true) w) := by
  have AW := hid vawake_any
  have VB := CT.new w A h.length cap f A' t.length cap' d x a b
  generalize hU : ((w.alloc (Obj.cells #[.slice A h.length cap, .int .i64 f, .slice A' t.length cap'] 24)).alloc (.cells #[.int .i64 d, .int .i64 x] 26)).alloc (.cells #[.int .i64 a, .int .i64 b] 44) = U at VB
  have FE := hid (r14few_any A A' cap cap' h t f U hz tz (hT.below VB.cs.bl) (tT.below VB.cs.bl))
  generalize (fewS h 3000 && fewS t 3000) = BB at FE
  obtain ⟨⟨lo, hi, e⟩, he⟩ : ∃ z, Sp.secS h f t d x a b = z := ⟨_, rfl⟩
  have H1 := hid (fun W (hb : Below w.heap.size w W) => vsec_any A A' cap cap' h t f d x a b lo hi e W hz tz (hT.below hb) (tT.below hb) he)
  have H2 := hid (fun W (hb : Below w.heap.size w W) => r14sec_any A A' cap cap' h t f d x a b lo hi e W hz tz (hT.below hb) (tT.below hb) he)
  have HU := hid hU
  have HV := hid VB
  have k0 := VB.cs.cu.c0
  have k1 := VB.cs.cu.c1
  have k2 := VB.cs.cu.c2
  have kl := VB.cs.cu.lt
  clear hz tz hT tT hU VB he d0 d1 x0 x1 bf
  go_enter Try.func6, Try.ntmps6
  go_upto_region 1 with fail
  rw [HU.out]
  go_wp2_with fail
  refine FE.out.mono ?_
  rintro _ w5 ⟨rfl, hb⟩
  have V5 := hid (HV.out.below hb)
  clear hb k0 k1 k2 kl
  cases BB
  · go_wp2_with fail
    refine (AW.out _).mono ?_
    rintro _ w6 ⟨rfl, hb⟩
    have B6 := hid hb
    clear hb
    go_wp2_with fail
    go_ret
    exact Gives.mk rfl (bthen V5.out.cs.bl B6.out)
  · have k0 := V5.out.cs.cu.c0
    have k1 := V5.out.cs.cu.c1
    have k2 := V5.out.cs.cu.c2
    have kl := V5.out.cs.cu.lt
    have s0 := V5.out.cs.st.c0
    have s1 := V5.out.cs.st.c1
    have sl := V5.out.cs.st.lt
    have t0 := V5.out.g0
    have t1 := V5.out.g1
    have tl := V5.out.gl
    by_cases q : 0 ≤ a ∧ a < b ∧ 150 < b - a
    · obtain ⟨q1, q2, q3⟩ := q
      have f1 : decide (0 ≤ a) = true := decide_eq_true q1
      have f2 : decide (a < b) = true := decide_eq_true q2
      have f3 : decide (150 < b - a) = true := decide_eq_true q3
      have wb : wrap64 (b - a) = b - a := pw64 _ (by omega)
      clear q1 q2 q3 a0 a1 b0 b1
      go_wp2_with fail
      refine (AW.out _).mono ?_
      rintro _ w6 ⟨rfl, hb⟩
      have B6 := hid hb
      clear hb
      go_wp2_with fail
      go_ret
      exact Gives.mk rfl (bthen V5.out.cs.bl B6.out)
    · have key : ∃ B1 B2 B3, decide (0 ≤ a) = B1 ∧ decide (a < b) = B2 ∧ (B1 = true → B2 = true → decide (150 < b - a) = B3 ∧ wrap64 (b - a) = b - a) ∧ (B1 && (B2 && B3)) = false := by
        by_cases q1 : 0 ≤ a
        · by_cases q2 : a < b
          · have q3 : ¬ 150 < b - a := fun k => q ⟨q1, q2, k⟩
            exact ⟨_, _, false, decide_eq_true q1, decide_eq_true q2, fun _ _ => ⟨decide_eq_false q3, pw64 _ (by omega)⟩, rfl⟩
          · exact ⟨_, _, false, decide_eq_true q1, decide_eq_false q2, fun _ k => (by cases k), rfl⟩
        · exact ⟨_, _, false, decide_eq_false q1, rfl, fun k _ => (by cases k), rfl⟩
      obtain ⟨B1, B2, B3, f1, f2, f3, f4⟩ := key
      have F3 := hid f3
      have F4 := hid f4
      clear q f3 f4 a0 a1 b0 b1
      cases B1
      case' true => cases B2
      case' true.true =>
        obtain ⟨f3, wb⟩ := F3.out rfl rfl
        cases B3
        case' true => exact absurd F4.out (by simp)
      all_goals
        go_wp2_with fail
        refine (H1.out _ V5.out.cs.bl).mono ?_
        rintro _ w6 ⟨rfl, hb⟩
        have V6 := hid (V5.out.below hb)
        have V6a := hid (V6.out.below (balloc w6 (Obj.cells #[.int .i64 lo, .int .i64 hi] 32)))
        clear hb k0 k1 k2 kl s0 s1 sl t0 t1 tl
        have k0 := V6.out.cs.cu.c0
        have k1 := V6.out.cs.cu.c1
        have k2 := V6.out.cs.cu.c2
        have kl := V6.out.cs.cu.lt
        have s0 := V6.out.cs.st.c0
        have s1 := V6.out.cs.st.c1
        have sl := V6.out.cs.st.lt
        have t0 := V6.out.g0
        have t1 := V6.out.g1
        have tl := V6.out.gl
        go_wp2_with fail
        refine (H2.out _ V6a.out.cs.bl).mono ?_
        rintro _ w7 ⟨rfl, hb⟩
        have V7 := hid (V6a.out.below hb)
        have a0 : w7.cell? ⟨w6.heap.size, 0, none⟩ = some (.int .i64 lo) := (hb.cell (p := ⟨w6.heap.size, 0, none⟩) (by simp)).trans (by simp [go_sem])
        have a1 : w7.cell? ⟨w6.heap.size, 1, none⟩ = some (.int .i64 hi) := (hb.cell (p := ⟨w6.heap.size, 1, none⟩) (by simp)).trans (by simp [go_sem])
        have al : w6.heap.size < w7.heap.size := by have := hb.size; simp at this; omega
        have an : ¬ w6.heap.size = w7.heap.size := by omega
        clear hb k0 k1 k2 kl s0 s1 sl t0 t1 tl
        go_wp2_with fail
        refine (AW.out _).mono ?_
        rintro _ w8 ⟨rfl, hb⟩
        have B8 := hid (bthen V7.out.cs.bl (bthen (balloc _ _) hb))
        clear hb
        go_wp2_with fail
        go_ret
        exact Gives.mk rfl B8.out
end Go.Proofs.Ytdimncchejbaaaa
