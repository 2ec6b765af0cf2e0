/-
  Layer 14: VolumeCylinders: the walk for every input.
-/
import Derived.Test.YtdimncchejbaaaaVvn
namespace Go.Proofs.Ytdimncchejbaaaa
open Go.RowKit
set_option linter.unusedVariables false
set_option linter.unusedSimpArgs false
/-- A stem's box. -/
structure StemAt (w : World) (g : Nat) (d x : Int) : Prop where
  lt : g < w.heap.size
  c0 : w.cell? ⟨g, 0, none⟩ = some (.int .i64 d)
  c1 : w.cell? ⟨g, 1, none⟩ = some (.int .i64 x)
theorem StemAt.below {w w' : World} {g : Nat} {d x : Int} (h : StemAt w g d x) (hb : Below w.heap.size w w') : StemAt w' g d x :=
  ⟨Nat.lt_of_lt_of_le h.lt hb.size, (hb.cell (p := ⟨g, 0, none⟩) h.lt).trans h.c0, (hb.cell (p := ⟨g, 1, none⟩) h.lt).trans h.c1⟩
theorem stemAt_new (w : World) (d x : Int) : StemAt (w.alloc (.cells #[.int .i64 d, .int .i64 x] 26)) w.heap.size d x := ⟨by simp, by simp [go_sem], by simp [go_sem]⟩
theorem vcyl_out (d x : Int) (w : World) (h : x < 1 ∨ 100 < x ∨ d < 1 ∨ 3000 < d) : Calls Try.prog 9 #[.agg #[.int .i64 d, .int .i64 x]] w (Gives (.bool true) w) := by
  have AW := hid vawake_any
  have b0 : Below w.heap.size w (w.alloc (.cells #[.int .i64 d, .int .i64 x] 26)) := balloc _ _
  have SB := stemAt_new w d x
  generalize hU : w.alloc (.cells #[.int .i64 d, .int .i64 x] 26) = U at b0 SB
  have HU := hid hU
  have B0 := hid b0
  have c0 := SB.c0
  have c1 := SB.c1
  have cl := SB.lt
  clear hU b0 SB
  by_cases g1 : x < 1
  · have f1 : decide (x < 1) = true := decide_eq_true g1
    clear h g1
    go_enter Try.func9, Try.ntmps9
    go_upto_region 1 with fail
    rw [HU.out]
    go_wp2_with fail
    refine (AW.out _).mono ?_
    rintro _ w5 ⟨rfl, hb⟩
    have B5 := hid hb
    clear hb
    go_wp2_with fail
    go_ret
    exact Gives.mk rfl (bthen B0.out B5.out)
  · have f1 : decide (x < 1) = false := decide_eq_false g1
    by_cases g2 : 100 < x
    · have f2 : decide (100 < x) = true := decide_eq_true g2
      clear h g1 g2
      go_enter Try.func9, Try.ntmps9
      go_upto_region 1 with fail
      rw [HU.out]
      go_wp2_with fail
      refine (AW.out _).mono ?_
      rintro _ w5 ⟨rfl, hb⟩
      have B5 := hid hb
      clear hb
      go_wp2_with fail
      go_ret
      exact Gives.mk rfl (bthen B0.out B5.out)
    · have f2 : decide (100 < x) = false := decide_eq_false g2
      by_cases g3 : d < 1
      · have f3 : decide (d < 1) = true := decide_eq_true g3
        clear h g1 g2 g3
        go_enter Try.func9, Try.ntmps9
        go_upto_region 1 with fail
        rw [HU.out]
        go_wp2_with fail
        refine (AW.out _).mono ?_
        rintro _ w5 ⟨rfl, hb⟩
        have B5 := hid hb
        clear hb
        go_wp2_with fail
        go_ret
        exact Gives.mk rfl (bthen B0.out B5.out)
      · have f3 : decide (d < 1) = false := decide_eq_false g3
        have f4 : decide (3000 < d) = true := decide_eq_true (by omega)
        clear h g1 g2 g3
        go_enter Try.func9, Try.ntmps9
        go_upto_region 1 with fail
        rw [HU.out]
        go_wp2_with fail
        refine (AW.out _).mono ?_
        rintro _ w5 ⟨rfl, hb⟩
        have B5 := hid hb
        clear hb
        go_wp2_with fail
        go_ret
        exact Gives.mk rfl (bthen B0.out B5.out)
set_option maxRecDepth 100000 in
theorem vcyl_in (d x : Int) (w : World) (x0 : 1 ≤ x) (x1 : x ≤ 100) (d0 : 1 ≤ d) (d1 : d ≤ 3000) : Calls Try.prog 9 #[.agg #[.int .i64 d, .int .i64 x]] w (Gives (.bool true) w) := by
  have AW := hid vawake_any
  have b0 : Below w.heap.size w (w.alloc (.cells #[.int .i64 d, .int .i64 x] 26)) := balloc _ _
  have SB := stemAt_new w d x
  generalize hU : w.alloc (.cells #[.int .i64 d, .int .i64 x] 26) = U at b0 SB
  have HU := hid hU
  have B0 := hid b0
  have SU := hid SB
  have f1 : decide (x < 1) = false := decide_eq_false (by omega)
  have f2 : decide (100 < x) = false := decide_eq_false (by omega)
  have f3 : decide (d < 1) = false := decide_eq_false (by omega)
  have f4 : decide (3000 < d) = false := decide_eq_false (by omega)
  have TV := hid (fun A1 A2 => tp_vol A1 A2 d0 d1 x0 x1)
  have TS := hid (fun A1 A2 => tp_sec A1 A2 d0 d1 x0 x1)
  have TD := hid (fun A1 A2 => tp_diam A1 A2 d0 d1 x0 x1)
  generalize (Sp.volS 1000 d x).1 = lo at TV TS
  generalize (Sp.volS 1000 d x).2 = hi at TV TS
  have q0 : 0 ≤ x.tdiv 2 := Int.tdiv_nonneg (by omega) (by omega)
  have q1 : x.tdiv 2 ≤ x := by rw [Int.tdiv_eq_ediv_of_nonneg (by omega)]; exact Int.ediv_le_self _ (by omega)
  generalize hq : x.tdiv 2 = q at TD q0 q1
  have wq : wrap64 q = q := pwk q0 (by omega)
  clear hU b0 q0 q1 x0 x1 d0 d1
  go_enter Try.func9, Try.ntmps9
  go_upto_region 1 with fail
  rw [HU.out]
  have c0 := SB.c0
  have c1 := SB.c1
  have cl := SB.lt
  go_wp2_with fail
  refine (vline_any 3000 13 1 20 _).mono ?_
  rintro _ w5 ⟨hb5, g1, l1, G1, L1, rfl, F1⟩
  have bX : Below w5.heap.size w5 (((w5.alloc (.cells #[.int .i64 1000, .int .i64 1] 56)).alloc (.cells #[.int .i64 0, .int .i64 1000, .slice (some ⟨w5.heap.size, 0, none⟩) 1 1] 59)).alloc (.cells #[.slice (some ⟨g1, 0, none⟩) 1 1, .int .i64 1000, .slice (some ⟨w5.heap.size + 1, 0, none⟩) 1 1] 24)) := bthen (balloc _ _) (bthen (balloc _ _) (balloc _ _))
  have CX := curAt_new ((w5.alloc (.cells #[.int .i64 1000, .int .i64 1] 56)).alloc (.cells #[.int .i64 0, .int .i64 1000, .slice (some ⟨w5.heap.size, 0, none⟩) 1 1] 59)) (some ⟨g1, 0, none⟩) (some ⟨w5.heap.size + 1, 0, none⟩) 1 1 1 1 1000
  have PX : Pcs (((w5.alloc (.cells #[.int .i64 1000, .int .i64 1] 56)).alloc (.cells #[.int .i64 0, .int .i64 1000, .slice (some ⟨w5.heap.size, 0, none⟩) 1 1] 59)).alloc (.cells #[.slice (some ⟨g1, 0, none⟩) 1 1, .int .i64 1000, .slice (some ⟨w5.heap.size + 1, 0, none⟩) 1 1] 24)) (some ⟨w5.heap.size + 1, 0, none⟩) (tpL (some ⟨w5.heap.size, 0, none⟩)) := by
    refine ⟨fun _ => ⟨_, 0, rfl, (by simp), fun j hj => ?_⟩, fun p hp => ?_⟩
    · match j, hj with
      | 0, _ => exact ⟨by simp [go_sem, tpL], by simp [go_sem, tpL], by simp [go_sem, tpL]⟩
      | j + 1, hj => simp [tpL] at hj
    · simp [tpL] at hp
      subst hp
      exact fun _ => ⟨_, 0, rfl, (by simp; omega), fun j hj => by
        match j, hj with
        | 0, _ => exact ⟨by simp [go_sem], by simp [go_sem]⟩
        | j + 1, hj => simp at hj⟩
  have P1 := F1.pcs.below bX
  have eg : ((w5.alloc (.cells #[.int .i64 1000, .int .i64 1] 56)).alloc (.cells #[.int .i64 0, .int .i64 1000, .slice (some ⟨w5.heap.size, 0, none⟩) 1 1] 59)).heap.size = w5.heap.size + 1 + 1 := by simp
  rw [eg] at CX
  generalize hX : ((w5.alloc (.cells #[.int .i64 1000, .int .i64 1] 56)).alloc (.cells #[.int .i64 0, .int .i64 1000, .slice (some ⟨w5.heap.size, 0, none⟩) 1 1] 59)).alloc (.cells #[.slice (some ⟨g1, 0, none⟩) 1 1, .int .i64 1000, .slice (some ⟨w5.heap.size + 1, 0, none⟩) 1 1] 24) = X at bX CX PX P1
  have HX := hid hX
  have V := hid (fun (W : World) (hb : Below X.heap.size X W) => vvol_any (some ⟨g1, 0, none⟩) (some ⟨w5.heap.size + 1, 0, none⟩) 1 1 _ _ 1000 d x lo hi 0 W (ln_sized (some ⟨l1, 0, none⟩) 3000 13 1 20 (by omega) (by omega) (by omega) (by omega)) (tp_sized _) (P1.below hb) (PX.below hb) (TV.out _ _))
  have S := hid (fun (W : World) (hb : Below X.heap.size X W) => vsec_any (some ⟨g1, 0, none⟩) (some ⟨w5.heap.size + 1, 0, none⟩) 1 1 _ _ 1000 d x 0 x lo hi 0 W (ln_sized (some ⟨l1, 0, none⟩) 3000 13 1 20 (by omega) (by omega) (by omega) (by omega)) (tp_sized _) (P1.below hb) (PX.below hb) (TS.out _ _))
  have D := hid (fun (W : World) (hb : Below X.heap.size X W) => vdiam2_any (some ⟨g1, 0, none⟩) (some ⟨w5.heap.size + 1, 0, none⟩) 1 1 _ _ 1000 d x q d 0 W (ln_sized (some ⟨l1, 0, none⟩) 3000 13 1 20 (by omega) (by omega) (by omega) (by omega)) (tp_sized _) (P1.below hb) (PX.below hb) (TD.out _ _))
  have ll : (lnL (some ⟨l1, 0, none⟩) 3000 13 1 20).length = 1 := rfl
  have l2 : (tpL (some ⟨w5.heap.size, 0, none⟩)).length = 1 := rfl
  simp only [ll, l2] at V S D
  have SX := hid (SU.out.below (bthen hb5 bX))
  have BX := hid (bthen B0.out (bthen hb5 bX))
  have VC := hid CX
  clear hX bX PX P1 F1 eg ll l2 hb5 c0 c1 cl SB CX L1 G1 TV TS TD
  go_upto_region 4 with fail
  rw [HX.out]
  have c0 := SX.out.c0
  have c1 := SX.out.c1
  have cl := SX.out.lt
  have v0 := VC.out.c0
  have v1 := VC.out.c1
  have v2 := VC.out.c2
  have vl := VC.out.lt
  go_wp2_with fail
  refine (V.out _ (Below.refl _ _)).mono ?_
  rintro _ w6 ⟨rfl, hb6⟩
  have T6 := hid hb6
  have T6a := hid (bthen hb6 (balloc w6 (Obj.cells #[.int .i64 lo, .int .i64 hi] 32)))
  have S6 := hid (SX.out.below hb6)
  have V6 := hid (VC.out.below hb6)
  have c0 := S6.out.c0
  have c1 := S6.out.c1
  have cl := S6.out.lt
  have v0 := V6.out.c0
  have v1 := V6.out.c1
  have v2 := V6.out.c2
  have vl := V6.out.lt
  clear hb6
  go_wp2_with fail
  refine (S.out _ T6a.out).mono ?_
  rintro _ w7 ⟨rfl, hb7⟩
  have B7 := hid (bthen (balloc w6 (Obj.cells #[.int .i64 lo, .int .i64 hi] 32)) hb7)
  have T7a := hid (bthen T6a.out (bthen hb7 (balloc w7 (Obj.cells #[.int .i64 lo, .int .i64 hi] 32))))
  have S7 := hid (S6.out.below B7.out)
  have V7 := hid (V6.out.below B7.out)
  have c0 := S7.out.c0
  have c1 := S7.out.c1
  have cl := S7.out.lt
  have v0 := V7.out.c0
  have v1 := V7.out.c1
  have v2 := V7.out.c2
  have vl := V7.out.lt
  have a0 : w7.cell? ⟨w6.heap.size, 0, none⟩ = some (.int .i64 lo) := (hb7.cell (p := ⟨w6.heap.size, 0, none⟩) (by simp)).trans (by simp [go_sem])
  have a1 : w7.cell? ⟨w6.heap.size, 1, none⟩ = some (.int .i64 hi) := (hb7.cell (p := ⟨w6.heap.size, 1, none⟩) (by simp)).trans (by simp [go_sem])
  have al : w6.heap.size < w7.heap.size := by have := hb7.size; simp at this; omega
  have an : ¬ w6.heap.size = w7.heap.size := by omega
  clear hb7
  go_wp2_with fail
  refine (D.out _ T7a.out).mono ?_
  rintro _ w8 ⟨rfl, hb8⟩
  have B8 := hid (bthen (balloc w7 (Obj.cells #[.int .i64 lo, .int .i64 hi] 32)) hb8)
  have T8 := hid (bthen T7a.out hb8)
  have S8 := hid (S7.out.below B8.out)
  have c0 := S8.out.c0
  have c1 := S8.out.c1
  have cl := S8.out.lt
  have e0 : w8.cell? ⟨w6.heap.size, 0, none⟩ = some (.int .i64 lo) := (B8.out.cell (p := ⟨w6.heap.size, 0, none⟩) al).trans a0
  have e1 : w8.cell? ⟨w6.heap.size, 1, none⟩ = some (.int .i64 hi) := (B8.out.cell (p := ⟨w6.heap.size, 1, none⟩) al).trans a1
  have e2 : w8.cell? ⟨w7.heap.size, 0, none⟩ = some (.int .i64 lo) := (hb8.cell (p := ⟨w7.heap.size, 0, none⟩) (by simp)).trans (by simp [go_sem])
  have e3 : w8.cell? ⟨w7.heap.size, 1, none⟩ = some (.int .i64 hi) := (hb8.cell (p := ⟨w7.heap.size, 1, none⟩) (by simp)).trans (by simp [go_sem])
  clear hb8
  go_wp2_with fail
  refine (AW.out _).mono ?_
  rintro _ w9 ⟨rfl, hb9⟩
  have B9 := hid hb9
  clear hb9
  go_wp2_with fail
  go_ret
  exact Gives.mk rfl (bthen BX.out (bthen T8.out B9.out))
theorem vcyl_any (d x : Int) (d0 : -9223372036854775808 ≤ d) (d1 : d ≤ 9223372036854775807) (x0 : -9223372036854775808 ≤ x) (x1 : x ≤ 9223372036854775807) (w : World) : Calls Try.prog 9 #[.agg #[.int .i64 d, .int .i64 x]] w (Gives (.bool true) w) := by
  by_cases h : x < 1 ∨ 100 < x ∨ d < 1 ∨ 3000 < d
  · exact vcyl_out d x w h
  · exact vcyl_in d x w (by omega) (by omega) (by omega) (by omega)
end Go.Proofs.Ytdimncchejbaaaa
