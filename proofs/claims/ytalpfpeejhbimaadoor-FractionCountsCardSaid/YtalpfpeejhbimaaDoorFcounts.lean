/-
  FractionCounts: the walk.
-/
import Derived.Test.YtalpfpeejhbimaaDoorFcnt2
import Derived.Test.YtalpfpeejhbimaaDoorFcnt3
import Derived.Test.YtalpfpeejhbimaaDoorFcnt4
namespace Go.Proofs.YtalpfpeejhbimaaDoor
open Go.RowKit
set_option linter.unusedVariables false
set_option linter.unusedSimpArgs false

set_option maxRecDepth 100000 in
set_option maxHeartbeats 8000000 in
theorem fcounts_walk (a b c d l0 h0 e0 l1 h1 e1 l2 h2 e2 l3 h3 e3 l4 h4 e4 r : Int) (w : World)
    (aw : ∀ W, Below w.heap.size w W → Calls Tryd.prog 11 #[] W (Gives (.bool true) W))
    (q00 : ∀ w : World, Calls Tryd.prog 19 #[.agg #[.int .i64 a, .int .i64 b], .agg #[.int .i64 c, .int .i64 d]] w (Gives (.tuple #[.agg #[.int .i64 l0, .int .i64 h0], .int .i64 e0]) w))
    (q01 : ∀ w : World, Calls Tryd.prog 20 #[.agg #[.int .i64 a, .int .i64 b], .agg #[.int .i64 c, .int .i64 d]] w (Gives (.tuple #[.agg #[.int .i64 l0, .int .i64 h0], .int .i64 e0]) w))
    (q10 : ∀ w : World, Calls Tryd.prog 21 #[.agg #[.int .i64 a, .int .i64 b], .agg #[.int .i64 c, .int .i64 d]] w (Gives (.tuple #[.agg #[.int .i64 l1, .int .i64 h1], .int .i64 e1]) w))
    (q11 : ∀ w : World, Calls Tryd.prog 22 #[.agg #[.int .i64 a, .int .i64 b], .agg #[.int .i64 c, .int .i64 d]] w (Gives (.tuple #[.agg #[.int .i64 l1, .int .i64 h1], .int .i64 e1]) w))
    (q20 : ∀ w : World, Calls Tryd.prog 23 #[.agg #[.int .i64 a, .int .i64 b], .agg #[.int .i64 c, .int .i64 d]] w (Gives (.tuple #[.agg #[.int .i64 l2, .int .i64 h2], .int .i64 e2]) w))
    (q21 : ∀ w : World, Calls Tryd.prog 24 #[.agg #[.int .i64 a, .int .i64 b], .agg #[.int .i64 c, .int .i64 d]] w (Gives (.tuple #[.agg #[.int .i64 l2, .int .i64 h2], .int .i64 e2]) w))
    (q30 : ∀ w : World, Calls Tryd.prog 25 #[.agg #[.int .i64 a, .int .i64 b], .agg #[.int .i64 c, .int .i64 d]] w (Gives (.tuple #[.agg #[.int .i64 l3, .int .i64 h3], .int .i64 e3]) w))
    (q31 : ∀ w : World, Calls Tryd.prog 26 #[.agg #[.int .i64 a, .int .i64 b], .agg #[.int .i64 c, .int .i64 d]] w (Gives (.tuple #[.agg #[.int .i64 l3, .int .i64 h3], .int .i64 e3]) w))
    (q40 : ∀ w : World, Calls Tryd.prog 27 #[.agg #[.int .i64 a, .int .i64 b]] w (Gives (.tuple #[.agg #[.int .i64 l4, .int .i64 h4], .int .i64 e4]) w))
    (q41 : ∀ w : World, Calls Tryd.prog 28 #[.agg #[.int .i64 a, .int .i64 b]] w (Gives (.tuple #[.agg #[.int .i64 l4, .int .i64 h4], .int .i64 e4]) w))
    (k1 : ∀ w : World, Calls Tryd.prog 29 #[.agg #[.int .i64 a, .int .i64 b], .agg #[.int .i64 c, .int .i64 d]] w (Gives (.int .i64 r) w)) (k2 : ∀ w : World, Calls Tryd.prog 30 #[.agg #[.int .i64 a, .int .i64 b], .agg #[.int .i64 c, .int .i64 d]] w (Gives (.int .i64 r) w)) :
    Calls Tryd.prog 4 #[.agg #[.int .i64 a, .int .i64 b], .agg #[.int .i64 c, .int .i64 d]] w (Gives (.bool true) w) := by
  go_enter Tryd.func4, Tryd.ntmps4
  go_wp2_with fail
  refine (aw _ (by repeat' (first | (with_reducible exact Below.refl _ _) | (with_reducible refine Below.alloc ?_ ?_ _) | (with_reducible refine Below.setCell ?_ ?_ _) | (with_reducible refine Below.drew ?_) | (with_reducible refine Below.trans ?_ (Below.mono (by assumption) ?_)) | (simp; done) | (simp; omega) | omega))).mono ?_; rintro _ u1 ⟨rfl, hb⟩
  have BN : Below w.heap.size w u1 := by repeat' (first | (with_reducible exact Below.refl _ _) | (with_reducible refine Below.alloc ?_ ?_ _) | (with_reducible refine Below.setCell ?_ ?_ _) | (with_reducible refine Below.drew ?_) | (with_reducible refine Below.trans ?_ (Below.mono (by assumption) ?_)) | (simp; done) | (simp; omega) | omega)
  have pz : w.heap.size < (u1).heap.size := Nat.lt_of_lt_of_le (show w.heap.size < _ from (by first | assumption | (simp; done) | (simp; omega) | (dsimp only; omega) | omega)) hb.size; have p0 : (u1).cell? ⟨w.heap.size, 0, none⟩ = some (.int .i64 (a)) := (hb.cell (p := ⟨w.heap.size, 0, none⟩) (by first | assumption | (simp; done) | (simp; omega) | (dsimp only; omega) | omega)).trans (by first | assumption | (simp [go_sem]; done) | (simp [go_sem, *]; done)); have p1 : (u1).cell? ⟨w.heap.size, 1, none⟩ = some (.int .i64 (b)) := (hb.cell (p := ⟨w.heap.size, 1, none⟩) (by first | assumption | (simp; done) | (simp; omega) | (dsimp only; omega) | omega)).trans (by first | assumption | (simp [go_sem]; done) | (simp [go_sem, *]; done))
  have qz : w.heap.size + 1 < (u1).heap.size := Nat.lt_of_lt_of_le (show w.heap.size + 1 < _ from (by first | assumption | (simp; done) | (simp; omega) | (dsimp only; omega) | omega)) hb.size; have q0 : (u1).cell? ⟨w.heap.size + 1, 0, none⟩ = some (.int .i64 (c)) := (hb.cell (p := ⟨w.heap.size + 1, 0, none⟩) (by first | assumption | (simp; done) | (simp; omega) | (dsimp only; omega) | omega)).trans (by first | assumption | (simp [go_sem]; done) | (simp [go_sem, *]; done)); have q1 : (u1).cell? ⟨w.heap.size + 1, 1, none⟩ = some (.int .i64 (d)) := (hb.cell (p := ⟨w.heap.size + 1, 1, none⟩) (by first | assumption | (simp; done) | (simp; omega) | (dsimp only; omega) | omega)).trans (by first | assumption | (simp [go_sem]; done) | (simp [go_sem, *]; done))
  have BH := hid BN
  have hsz := BN.size
  have KA := hid (And.intro pz (And.intro p0 p1))
  have KB := hid (And.intro qz (And.intro q0 q1))
  clear BN hb

  go_upto_region 5 with fail
  have F0 : FrB u1.heap.size (fun _ => 0) (fun _ => 0) (fun _ => 0) (fun _ => 0) ((((u1.alloc (Obj.cells #[.int .i64 0, .int .i64 0, .int .i64 0, .int .i64 0, .int .i64 0, .int .i64 0, .int .i64 0, .int .i64 0, .int .i64 0, .int .i64 0] 31)).alloc (Obj.cells #[.int .i64 0, .int .i64 0, .int .i64 0, .int .i64 0, .int .i64 0, .int .i64 0, .int .i64 0, .int .i64 0, .int .i64 0, .int .i64 0] 31)).alloc (Obj.cells #[.int .i64 0, .int .i64 0, .int .i64 0, .int .i64 0, .int .i64 0] 32)).alloc (Obj.cells #[.int .i64 0, .int .i64 0, .int .i64 0, .int .i64 0, .int .i64 0] 32)) := by
    refine ⟨by first | (simp; done) | (simp; omega), fun i hi => ?_, fun i hi => ?_, fun i hi => ?_, fun i hi => ?_, fun o => by simp [go_sem], fun o => by simp [go_sem], fun o => by simp [go_sem], fun o => by simp [go_sem]⟩
    · have hc : i = 0 ∨ i = 1 ∨ i = 2 ∨ i = 3 ∨ i = 4 ∨ i = 5 ∨ i = 6 ∨ i = 7 ∨ i = 8 ∨ i = 9 := by omega
      rcases hc with rfl | rfl | rfl | rfl | rfl | rfl | rfl | rfl | rfl | rfl <;> simp [go_sem]
    · have hc : i = 0 ∨ i = 1 ∨ i = 2 ∨ i = 3 ∨ i = 4 ∨ i = 5 ∨ i = 6 ∨ i = 7 ∨ i = 8 ∨ i = 9 := by omega
      rcases hc with rfl | rfl | rfl | rfl | rfl | rfl | rfl | rfl | rfl | rfl <;> simp [go_sem]
    · have hc : i = 0 ∨ i = 1 ∨ i = 2 ∨ i = 3 ∨ i = 4 := by omega
      rcases hc with rfl | rfl | rfl | rfl | rfl <;> simp [go_sem]
    · have hc : i = 0 ∨ i = 1 ∨ i = 2 ∨ i = 3 ∨ i = 4 := by omega
      rcases hc with rfl | rfl | rfl | rfl | rfl <;> simp [go_sem]
  have B0 : Below u1.heap.size u1 ((((u1.alloc (Obj.cells #[.int .i64 0, .int .i64 0, .int .i64 0, .int .i64 0, .int .i64 0, .int .i64 0, .int .i64 0, .int .i64 0, .int .i64 0, .int .i64 0] 31)).alloc (Obj.cells #[.int .i64 0, .int .i64 0, .int .i64 0, .int .i64 0, .int .i64 0, .int .i64 0, .int .i64 0, .int .i64 0, .int .i64 0, .int .i64 0] 31)).alloc (Obj.cells #[.int .i64 0, .int .i64 0, .int .i64 0, .int .i64 0, .int .i64 0] 32)).alloc (Obj.cells #[.int .i64 0, .int .i64 0, .int .i64 0, .int .i64 0, .int .i64 0] 32)) := by repeat' (first | (with_reducible exact Below.refl _ _) | (with_reducible refine Below.alloc ?_ ?_ _) | (with_reducible refine Below.setCell ?_ ?_ _) | (with_reducible refine Below.drew ?_) | (with_reducible refine Below.trans ?_ (Below.mono (by assumption) ?_)) | (simp; done) | (simp; omega) | omega)
  generalize HW0 : ((((u1.alloc (Obj.cells #[.int .i64 0, .int .i64 0, .int .i64 0, .int .i64 0, .int .i64 0, .int .i64 0, .int .i64 0, .int .i64 0, .int .i64 0, .int .i64 0] 31)).alloc (Obj.cells #[.int .i64 0, .int .i64 0, .int .i64 0, .int .i64 0, .int .i64 0, .int .i64 0, .int .i64 0, .int .i64 0, .int .i64 0, .int .i64 0] 31)).alloc (Obj.cells #[.int .i64 0, .int .i64 0, .int .i64 0, .int .i64 0, .int .i64 0] 32)).alloc (Obj.cells #[.int .i64 0, .int .i64 0, .int .i64 0, .int .i64 0, .int .i64 0] 32)) = v0 at F0 B0 ⊢
  have P0 := hid F0
  have C0 := hid B0
  clear HW0 F0 B0 p0 p1 q0 q1 pz qz
  have a0 := (C0.out.cell (p := ⟨w.heap.size, 0, none⟩) KA.out.1).trans KA.out.2.1
  have a1 := (C0.out.cell (p := ⟨w.heap.size, 1, none⟩) KA.out.1).trans KA.out.2.2
  have b0 := (C0.out.cell (p := ⟨w.heap.size + 1, 0, none⟩) KB.out.1).trans KB.out.2.1
  have b1 := (C0.out.cell (p := ⟨w.heap.size + 1, 1, none⟩) KB.out.1).trans KB.out.2.2
  go_upto_region 6 with (go_at_call 19; (with_reducible refine (q00 _).mono ?_); rintro _ u ⟨rfl, hb⟩; have F := P0.out.below hb; have fx := F.fx; have fe := F.fe; have s0 := F.x 0 (by omega); have s1 := F.x 1 (by omega); have s2 := F.e 0 (by omega))
  have P1 := hid (((F.putx (p := 0) (v := l0) (by omega)).putx (p := 1) (v := h0) (by omega)).pute (p := 0) (v := e0) (by omega))
  have C1 := hid ((((C0.out.trans (hb.mono C0.out.size)).setCell (p := ⟨u1.heap.size, 0, none⟩) (by simp) (.int .i64 l0)).setCell (p := ⟨u1.heap.size, 1, none⟩) (by simp) (.int .i64 h0)).setCell (p := ⟨u1.heap.size + 1 + 1, 0, none⟩) (by simp; omega) (.int .i64 e0))
  generalize HW : ((u.setCell ⟨u1.heap.size, 0, none⟩ (.int .i64 l0)).setCell ⟨u1.heap.size, 1, none⟩ (.int .i64 h0)).setCell ⟨u1.heap.size + 1 + 1, 0, none⟩ (.int .i64 e0) = v1 at P1 C1 ⊢
  clear HW F fx fe s0 s1 s2 hb a0 a1 b0 b1 P0 C0
  have a0 := (C1.out.cell (p := ⟨w.heap.size, 0, none⟩) KA.out.1).trans KA.out.2.1
  have a1 := (C1.out.cell (p := ⟨w.heap.size, 1, none⟩) KA.out.1).trans KA.out.2.2
  have b0 := (C1.out.cell (p := ⟨w.heap.size + 1, 0, none⟩) KB.out.1).trans KB.out.2.1
  have b1 := (C1.out.cell (p := ⟨w.heap.size + 1, 1, none⟩) KB.out.1).trans KB.out.2.2
  go_upto_region 7 with (go_at_call 20; (with_reducible refine (q01 _).mono ?_); rintro _ u ⟨rfl, hb⟩; have F := P1.out.below hb; have fx := F.fy; have fe := F.ff; have s0 := F.y 0 (by omega); have s1 := F.y 1 (by omega); have s2 := F.f 0 (by omega))
  have P2 := hid (((F.puty (p := 0) (v := l0) (by omega)).puty (p := 1) (v := h0) (by omega)).putf (p := 0) (v := e0) (by omega))
  have C2 := hid ((((C1.out.trans (hb.mono C1.out.size)).setCell (p := ⟨u1.heap.size + 1, 0, none⟩) (by simp) (.int .i64 l0)).setCell (p := ⟨u1.heap.size + 1, 1, none⟩) (by simp) (.int .i64 h0)).setCell (p := ⟨u1.heap.size + 1 + 1 + 1, 0, none⟩) (by simp; omega) (.int .i64 e0))
  generalize HW : ((u.setCell ⟨u1.heap.size + 1, 0, none⟩ (.int .i64 l0)).setCell ⟨u1.heap.size + 1, 1, none⟩ (.int .i64 h0)).setCell ⟨u1.heap.size + 1 + 1 + 1, 0, none⟩ (.int .i64 e0) = v2 at P2 C2 ⊢
  clear HW F fx fe s0 s1 s2 hb a0 a1 b0 b1 P1 C1
  have a0 := (C2.out.cell (p := ⟨w.heap.size, 0, none⟩) KA.out.1).trans KA.out.2.1
  have a1 := (C2.out.cell (p := ⟨w.heap.size, 1, none⟩) KA.out.1).trans KA.out.2.2
  have b0 := (C2.out.cell (p := ⟨w.heap.size + 1, 0, none⟩) KB.out.1).trans KB.out.2.1
  have b1 := (C2.out.cell (p := ⟨w.heap.size + 1, 1, none⟩) KB.out.1).trans KB.out.2.2
  go_upto_region 8 with (go_at_call 21; (with_reducible refine (q10 _).mono ?_); rintro _ u ⟨rfl, hb⟩; have F := P2.out.below hb; have fx := F.fx; have fe := F.fe; have s0 := F.x 2 (by omega); have s1 := F.x 3 (by omega); have s2 := F.e 1 (by omega))
  have P3 := hid (((F.putx (p := 2) (v := l1) (by omega)).putx (p := 3) (v := h1) (by omega)).pute (p := 1) (v := e1) (by omega))
  have C3 := hid ((((C2.out.trans (hb.mono C2.out.size)).setCell (p := ⟨u1.heap.size, 2, none⟩) (by simp) (.int .i64 l1)).setCell (p := ⟨u1.heap.size, 3, none⟩) (by simp) (.int .i64 h1)).setCell (p := ⟨u1.heap.size + 1 + 1, 1, none⟩) (by simp; omega) (.int .i64 e1))
  generalize HW : ((u.setCell ⟨u1.heap.size, 2, none⟩ (.int .i64 l1)).setCell ⟨u1.heap.size, 3, none⟩ (.int .i64 h1)).setCell ⟨u1.heap.size + 1 + 1, 1, none⟩ (.int .i64 e1) = v3 at P3 C3 ⊢
  clear HW F fx fe s0 s1 s2 hb a0 a1 b0 b1 P2 C2
  have a0 := (C3.out.cell (p := ⟨w.heap.size, 0, none⟩) KA.out.1).trans KA.out.2.1
  have a1 := (C3.out.cell (p := ⟨w.heap.size, 1, none⟩) KA.out.1).trans KA.out.2.2
  have b0 := (C3.out.cell (p := ⟨w.heap.size + 1, 0, none⟩) KB.out.1).trans KB.out.2.1
  have b1 := (C3.out.cell (p := ⟨w.heap.size + 1, 1, none⟩) KB.out.1).trans KB.out.2.2
  go_upto_region 9 with (go_at_call 22; (with_reducible refine (q11 _).mono ?_); rintro _ u ⟨rfl, hb⟩; have F := P3.out.below hb; have fx := F.fy; have fe := F.ff; have s0 := F.y 2 (by omega); have s1 := F.y 3 (by omega); have s2 := F.f 1 (by omega))
  have P4 := hid (((F.puty (p := 2) (v := l1) (by omega)).puty (p := 3) (v := h1) (by omega)).putf (p := 1) (v := e1) (by omega))
  have C4 := hid ((((C3.out.trans (hb.mono C3.out.size)).setCell (p := ⟨u1.heap.size + 1, 2, none⟩) (by simp) (.int .i64 l1)).setCell (p := ⟨u1.heap.size + 1, 3, none⟩) (by simp) (.int .i64 h1)).setCell (p := ⟨u1.heap.size + 1 + 1 + 1, 1, none⟩) (by simp; omega) (.int .i64 e1))
  generalize HW : ((u.setCell ⟨u1.heap.size + 1, 2, none⟩ (.int .i64 l1)).setCell ⟨u1.heap.size + 1, 3, none⟩ (.int .i64 h1)).setCell ⟨u1.heap.size + 1 + 1 + 1, 1, none⟩ (.int .i64 e1) = v4 at P4 C4 ⊢
  clear HW F fx fe s0 s1 s2 hb a0 a1 b0 b1 P3 C3
  have a0 := (C4.out.cell (p := ⟨w.heap.size, 0, none⟩) KA.out.1).trans KA.out.2.1
  have a1 := (C4.out.cell (p := ⟨w.heap.size, 1, none⟩) KA.out.1).trans KA.out.2.2
  have b0 := (C4.out.cell (p := ⟨w.heap.size + 1, 0, none⟩) KB.out.1).trans KB.out.2.1
  have b1 := (C4.out.cell (p := ⟨w.heap.size + 1, 1, none⟩) KB.out.1).trans KB.out.2.2
  go_upto_region 10 with (go_at_call 23; (with_reducible refine (q20 _).mono ?_); rintro _ u ⟨rfl, hb⟩; have F := P4.out.below hb; have fx := F.fx; have fe := F.fe; have s0 := F.x 4 (by omega); have s1 := F.x 5 (by omega); have s2 := F.e 2 (by omega))
  have P5 := hid (((F.putx (p := 4) (v := l2) (by omega)).putx (p := 5) (v := h2) (by omega)).pute (p := 2) (v := e2) (by omega))
  have C5 := hid ((((C4.out.trans (hb.mono C4.out.size)).setCell (p := ⟨u1.heap.size, 4, none⟩) (by simp) (.int .i64 l2)).setCell (p := ⟨u1.heap.size, 5, none⟩) (by simp) (.int .i64 h2)).setCell (p := ⟨u1.heap.size + 1 + 1, 2, none⟩) (by simp; omega) (.int .i64 e2))
  generalize HW : ((u.setCell ⟨u1.heap.size, 4, none⟩ (.int .i64 l2)).setCell ⟨u1.heap.size, 5, none⟩ (.int .i64 h2)).setCell ⟨u1.heap.size + 1 + 1, 2, none⟩ (.int .i64 e2) = v5 at P5 C5 ⊢
  clear HW F fx fe s0 s1 s2 hb a0 a1 b0 b1 P4 C4
  have a0 := (C5.out.cell (p := ⟨w.heap.size, 0, none⟩) KA.out.1).trans KA.out.2.1
  have a1 := (C5.out.cell (p := ⟨w.heap.size, 1, none⟩) KA.out.1).trans KA.out.2.2
  have b0 := (C5.out.cell (p := ⟨w.heap.size + 1, 0, none⟩) KB.out.1).trans KB.out.2.1
  have b1 := (C5.out.cell (p := ⟨w.heap.size + 1, 1, none⟩) KB.out.1).trans KB.out.2.2
  go_upto_region 11 with (go_at_call 24; (with_reducible refine (q21 _).mono ?_); rintro _ u ⟨rfl, hb⟩; have F := P5.out.below hb; have fx := F.fy; have fe := F.ff; have s0 := F.y 4 (by omega); have s1 := F.y 5 (by omega); have s2 := F.f 2 (by omega))
  have P6 := hid (((F.puty (p := 4) (v := l2) (by omega)).puty (p := 5) (v := h2) (by omega)).putf (p := 2) (v := e2) (by omega))
  have C6 := hid ((((C5.out.trans (hb.mono C5.out.size)).setCell (p := ⟨u1.heap.size + 1, 4, none⟩) (by simp) (.int .i64 l2)).setCell (p := ⟨u1.heap.size + 1, 5, none⟩) (by simp) (.int .i64 h2)).setCell (p := ⟨u1.heap.size + 1 + 1 + 1, 2, none⟩) (by simp; omega) (.int .i64 e2))
  generalize HW : ((u.setCell ⟨u1.heap.size + 1, 4, none⟩ (.int .i64 l2)).setCell ⟨u1.heap.size + 1, 5, none⟩ (.int .i64 h2)).setCell ⟨u1.heap.size + 1 + 1 + 1, 2, none⟩ (.int .i64 e2) = v6 at P6 C6 ⊢
  clear HW F fx fe s0 s1 s2 hb a0 a1 b0 b1 P5 C5
  have a0 := (C6.out.cell (p := ⟨w.heap.size, 0, none⟩) KA.out.1).trans KA.out.2.1
  have a1 := (C6.out.cell (p := ⟨w.heap.size, 1, none⟩) KA.out.1).trans KA.out.2.2
  have b0 := (C6.out.cell (p := ⟨w.heap.size + 1, 0, none⟩) KB.out.1).trans KB.out.2.1
  have b1 := (C6.out.cell (p := ⟨w.heap.size + 1, 1, none⟩) KB.out.1).trans KB.out.2.2
  go_upto_region 12 with (go_at_call 25; (with_reducible refine (q30 _).mono ?_); rintro _ u ⟨rfl, hb⟩; have F := P6.out.below hb; have fx := F.fx; have fe := F.fe; have s0 := F.x 6 (by omega); have s1 := F.x 7 (by omega); have s2 := F.e 3 (by omega))
  have P7 := hid (((F.putx (p := 6) (v := l3) (by omega)).putx (p := 7) (v := h3) (by omega)).pute (p := 3) (v := e3) (by omega))
  have C7 := hid ((((C6.out.trans (hb.mono C6.out.size)).setCell (p := ⟨u1.heap.size, 6, none⟩) (by simp) (.int .i64 l3)).setCell (p := ⟨u1.heap.size, 7, none⟩) (by simp) (.int .i64 h3)).setCell (p := ⟨u1.heap.size + 1 + 1, 3, none⟩) (by simp; omega) (.int .i64 e3))
  generalize HW : ((u.setCell ⟨u1.heap.size, 6, none⟩ (.int .i64 l3)).setCell ⟨u1.heap.size, 7, none⟩ (.int .i64 h3)).setCell ⟨u1.heap.size + 1 + 1, 3, none⟩ (.int .i64 e3) = v7 at P7 C7 ⊢
  clear HW F fx fe s0 s1 s2 hb a0 a1 b0 b1 P6 C6
  have a0 := (C7.out.cell (p := ⟨w.heap.size, 0, none⟩) KA.out.1).trans KA.out.2.1
  have a1 := (C7.out.cell (p := ⟨w.heap.size, 1, none⟩) KA.out.1).trans KA.out.2.2
  have b0 := (C7.out.cell (p := ⟨w.heap.size + 1, 0, none⟩) KB.out.1).trans KB.out.2.1
  have b1 := (C7.out.cell (p := ⟨w.heap.size + 1, 1, none⟩) KB.out.1).trans KB.out.2.2
  go_upto_region 13 with (go_at_call 26; (with_reducible refine (q31 _).mono ?_); rintro _ u ⟨rfl, hb⟩; have F := P7.out.below hb; have fx := F.fy; have fe := F.ff; have s0 := F.y 6 (by omega); have s1 := F.y 7 (by omega); have s2 := F.f 3 (by omega))
  have P8 := hid (((F.puty (p := 6) (v := l3) (by omega)).puty (p := 7) (v := h3) (by omega)).putf (p := 3) (v := e3) (by omega))
  have C8 := hid ((((C7.out.trans (hb.mono C7.out.size)).setCell (p := ⟨u1.heap.size + 1, 6, none⟩) (by simp) (.int .i64 l3)).setCell (p := ⟨u1.heap.size + 1, 7, none⟩) (by simp) (.int .i64 h3)).setCell (p := ⟨u1.heap.size + 1 + 1 + 1, 3, none⟩) (by simp; omega) (.int .i64 e3))
  generalize HW : ((u.setCell ⟨u1.heap.size + 1, 6, none⟩ (.int .i64 l3)).setCell ⟨u1.heap.size + 1, 7, none⟩ (.int .i64 h3)).setCell ⟨u1.heap.size + 1 + 1 + 1, 3, none⟩ (.int .i64 e3) = v8 at P8 C8 ⊢
  clear HW F fx fe s0 s1 s2 hb a0 a1 b0 b1 P7 C7
  have a0 := (C8.out.cell (p := ⟨w.heap.size, 0, none⟩) KA.out.1).trans KA.out.2.1
  have a1 := (C8.out.cell (p := ⟨w.heap.size, 1, none⟩) KA.out.1).trans KA.out.2.2
  have b0 := (C8.out.cell (p := ⟨w.heap.size + 1, 0, none⟩) KB.out.1).trans KB.out.2.1
  have b1 := (C8.out.cell (p := ⟨w.heap.size + 1, 1, none⟩) KB.out.1).trans KB.out.2.2
  go_upto_region 14 with (go_at_call 27; (with_reducible refine (q40 _).mono ?_); rintro _ u ⟨rfl, hb⟩; have F := P8.out.below hb; have fx := F.fx; have fe := F.fe; have s0 := F.x 8 (by omega); have s1 := F.x 9 (by omega); have s2 := F.e 4 (by omega))
  have P9 := hid (((F.putx (p := 8) (v := l4) (by omega)).putx (p := 9) (v := h4) (by omega)).pute (p := 4) (v := e4) (by omega))
  have C9 := hid ((((C8.out.trans (hb.mono C8.out.size)).setCell (p := ⟨u1.heap.size, 8, none⟩) (by simp) (.int .i64 l4)).setCell (p := ⟨u1.heap.size, 9, none⟩) (by simp) (.int .i64 h4)).setCell (p := ⟨u1.heap.size + 1 + 1, 4, none⟩) (by simp; omega) (.int .i64 e4))
  generalize HW : ((u.setCell ⟨u1.heap.size, 8, none⟩ (.int .i64 l4)).setCell ⟨u1.heap.size, 9, none⟩ (.int .i64 h4)).setCell ⟨u1.heap.size + 1 + 1, 4, none⟩ (.int .i64 e4) = v9 at P9 C9 ⊢
  clear HW F fx fe s0 s1 s2 hb a0 a1 b0 b1 P8 C8
  have a0 := (C9.out.cell (p := ⟨w.heap.size, 0, none⟩) KA.out.1).trans KA.out.2.1
  have a1 := (C9.out.cell (p := ⟨w.heap.size, 1, none⟩) KA.out.1).trans KA.out.2.2
  have b0 := (C9.out.cell (p := ⟨w.heap.size + 1, 0, none⟩) KB.out.1).trans KB.out.2.1
  have b1 := (C9.out.cell (p := ⟨w.heap.size + 1, 1, none⟩) KB.out.1).trans KB.out.2.2
  go_upto_region 15 with (go_at_call 28; (with_reducible refine (q41 _).mono ?_); rintro _ u ⟨rfl, hb⟩; have F := P9.out.below hb; have fx := F.fy; have fe := F.ff; have s0 := F.y 8 (by omega); have s1 := F.y 9 (by omega); have s2 := F.f 4 (by omega))
  have P10 := hid (((F.puty (p := 8) (v := l4) (by omega)).puty (p := 9) (v := h4) (by omega)).putf (p := 4) (v := e4) (by omega))
  have C10 := hid ((((C9.out.trans (hb.mono C9.out.size)).setCell (p := ⟨u1.heap.size + 1, 8, none⟩) (by simp) (.int .i64 l4)).setCell (p := ⟨u1.heap.size + 1, 9, none⟩) (by simp) (.int .i64 h4)).setCell (p := ⟨u1.heap.size + 1 + 1 + 1, 4, none⟩) (by simp; omega) (.int .i64 e4))
  generalize HW : ((u.setCell ⟨u1.heap.size + 1, 8, none⟩ (.int .i64 l4)).setCell ⟨u1.heap.size + 1, 9, none⟩ (.int .i64 h4)).setCell ⟨u1.heap.size + 1 + 1 + 1, 4, none⟩ (.int .i64 e4) = v10 at P10 C10 ⊢
  clear HW F fx fe s0 s1 s2 hb a0 a1 b0 b1 P9 C9

  have K : Hid (∀ W', Below v10.heap.size v10 W' → (Below v10.heap.size v10 W' ∧ W'.cell? ⟨u1.heap.size, 0, none⟩ = some (.int .i64 l0) ∧ W'.cell? ⟨u1.heap.size, 1, none⟩ = some (.int .i64 h0) ∧ W'.cell? ⟨u1.heap.size, 2, none⟩ = some (.int .i64 l1) ∧ W'.cell? ⟨u1.heap.size, 3, none⟩ = some (.int .i64 h1) ∧ W'.cell? ⟨u1.heap.size, 4, none⟩ = some (.int .i64 l2) ∧ W'.cell? ⟨u1.heap.size, 5, none⟩ = some (.int .i64 h2) ∧ W'.cell? ⟨u1.heap.size, 6, none⟩ = some (.int .i64 l3) ∧ W'.cell? ⟨u1.heap.size, 7, none⟩ = some (.int .i64 h3) ∧ W'.cell? ⟨u1.heap.size, 8, none⟩ = some (.int .i64 l4) ∧ W'.cell? ⟨u1.heap.size, 9, none⟩ = some (.int .i64 h4) ∧ W'.cell? ⟨u1.heap.size + 1, 0, none⟩ = some (.int .i64 l0) ∧ W'.cell? ⟨u1.heap.size + 1, 1, none⟩ = some (.int .i64 h0) ∧ W'.cell? ⟨u1.heap.size + 1, 2, none⟩ = some (.int .i64 l1) ∧ W'.cell? ⟨u1.heap.size + 1, 3, none⟩ = some (.int .i64 h1) ∧ W'.cell? ⟨u1.heap.size + 1, 4, none⟩ = some (.int .i64 l2) ∧ W'.cell? ⟨u1.heap.size + 1, 5, none⟩ = some (.int .i64 h2) ∧ W'.cell? ⟨u1.heap.size + 1, 6, none⟩ = some (.int .i64 l3) ∧ W'.cell? ⟨u1.heap.size + 1, 7, none⟩ = some (.int .i64 h3) ∧ W'.cell? ⟨u1.heap.size + 1, 8, none⟩ = some (.int .i64 l4) ∧ W'.cell? ⟨u1.heap.size + 1, 9, none⟩ = some (.int .i64 h4) ∧ W'.cell? ⟨u1.heap.size + 1 + 1, 0, none⟩ = some (.int .i64 e0) ∧ W'.cell? ⟨u1.heap.size + 1 + 1, 1, none⟩ = some (.int .i64 e1) ∧ W'.cell? ⟨u1.heap.size + 1 + 1, 2, none⟩ = some (.int .i64 e2) ∧ W'.cell? ⟨u1.heap.size + 1 + 1, 3, none⟩ = some (.int .i64 e3) ∧ W'.cell? ⟨u1.heap.size + 1 + 1, 4, none⟩ = some (.int .i64 e4) ∧ W'.cell? ⟨u1.heap.size + 1 + 1 + 1, 0, none⟩ = some (.int .i64 e0) ∧ W'.cell? ⟨u1.heap.size + 1 + 1 + 1, 1, none⟩ = some (.int .i64 e1) ∧ W'.cell? ⟨u1.heap.size + 1 + 1 + 1, 2, none⟩ = some (.int .i64 e2) ∧ W'.cell? ⟨u1.heap.size + 1 + 1 + 1, 3, none⟩ = some (.int .i64 e3) ∧ W'.cell? ⟨u1.heap.size + 1 + 1 + 1, 4, none⟩ = some (.int .i64 e4) ∧ W'.cell? ⟨w.heap.size, 0, none⟩ = some (.int .i64 a) ∧ W'.cell? ⟨w.heap.size, 1, none⟩ = some (.int .i64 b) ∧ W'.cell? ⟨w.heap.size + 1, 0, none⟩ = some (.int .i64 c) ∧ W'.cell? ⟨w.heap.size + 1, 1, none⟩ = some (.int .i64 d))) := hid fun W' B =>
    ⟨B, (P10.out.below B).x 0 (by omega), (P10.out.below B).x 1 (by omega), (P10.out.below B).x 2 (by omega), (P10.out.below B).x 3 (by omega), (P10.out.below B).x 4 (by omega), (P10.out.below B).x 5 (by omega), (P10.out.below B).x 6 (by omega), (P10.out.below B).x 7 (by omega), (P10.out.below B).x 8 (by omega), (P10.out.below B).x 9 (by omega), (P10.out.below B).y 0 (by omega), (P10.out.below B).y 1 (by omega), (P10.out.below B).y 2 (by omega), (P10.out.below B).y 3 (by omega), (P10.out.below B).y 4 (by omega), (P10.out.below B).y 5 (by omega), (P10.out.below B).y 6 (by omega), (P10.out.below B).y 7 (by omega), (P10.out.below B).y 8 (by omega), (P10.out.below B).y 9 (by omega), (P10.out.below B).e 0 (by omega), (P10.out.below B).e 1 (by omega), (P10.out.below B).e 2 (by omega), (P10.out.below B).e 3 (by omega), (P10.out.below B).e 4 (by omega), (P10.out.below B).f 0 (by omega), (P10.out.below B).f 1 (by omega), (P10.out.below B).f 2 (by omega), (P10.out.below B).f 3 (by omega), (P10.out.below B).f 4 (by omega), (B.cell (p := ⟨w.heap.size, 0, none⟩) (Nat.lt_of_lt_of_le KA.out.1 C10.out.size)).trans ((C10.out.cell (p := ⟨w.heap.size, 0, none⟩) KA.out.1).trans KA.out.2.1), (B.cell (p := ⟨w.heap.size, 1, none⟩) (Nat.lt_of_lt_of_le KA.out.1 C10.out.size)).trans ((C10.out.cell (p := ⟨w.heap.size, 1, none⟩) KA.out.1).trans KA.out.2.2), (B.cell (p := ⟨w.heap.size + 1, 0, none⟩) (Nat.lt_of_lt_of_le KB.out.1 C10.out.size)).trans ((C10.out.cell (p := ⟨w.heap.size + 1, 0, none⟩) KB.out.1).trans KB.out.2.1), (B.cell (p := ⟨w.heap.size + 1, 1, none⟩) (Nat.lt_of_lt_of_le KB.out.1 C10.out.size)).trans ((C10.out.cell (p := ⟨w.heap.size + 1, 1, none⟩) KB.out.1).trans KB.out.2.2)⟩
  have eqx := fun W => eq_fracs W l0 h0 l1 h1 l2 h2 l3 h3 l4 h4
  have eqe := fun W => eq_ints W e0 e1 e2 e3 e4
  clear q00 q01 q10 q11 q20 q21 q30 q31 q40 q41 aw P10 KA KB
  go_region_held3 (fun W' => Below v10.heap.size v10 W' ∧ W'.cell? ⟨u1.heap.size, 0, none⟩ = some (.int .i64 l0) ∧ W'.cell? ⟨u1.heap.size, 1, none⟩ = some (.int .i64 h0) ∧ W'.cell? ⟨u1.heap.size, 2, none⟩ = some (.int .i64 l1) ∧ W'.cell? ⟨u1.heap.size, 3, none⟩ = some (.int .i64 h1) ∧ W'.cell? ⟨u1.heap.size, 4, none⟩ = some (.int .i64 l2) ∧ W'.cell? ⟨u1.heap.size, 5, none⟩ = some (.int .i64 h2) ∧ W'.cell? ⟨u1.heap.size, 6, none⟩ = some (.int .i64 l3) ∧ W'.cell? ⟨u1.heap.size, 7, none⟩ = some (.int .i64 h3) ∧ W'.cell? ⟨u1.heap.size, 8, none⟩ = some (.int .i64 l4) ∧ W'.cell? ⟨u1.heap.size, 9, none⟩ = some (.int .i64 h4) ∧ W'.cell? ⟨u1.heap.size + 1, 0, none⟩ = some (.int .i64 l0) ∧ W'.cell? ⟨u1.heap.size + 1, 1, none⟩ = some (.int .i64 h0) ∧ W'.cell? ⟨u1.heap.size + 1, 2, none⟩ = some (.int .i64 l1) ∧ W'.cell? ⟨u1.heap.size + 1, 3, none⟩ = some (.int .i64 h1) ∧ W'.cell? ⟨u1.heap.size + 1, 4, none⟩ = some (.int .i64 l2) ∧ W'.cell? ⟨u1.heap.size + 1, 5, none⟩ = some (.int .i64 h2) ∧ W'.cell? ⟨u1.heap.size + 1, 6, none⟩ = some (.int .i64 l3) ∧ W'.cell? ⟨u1.heap.size + 1, 7, none⟩ = some (.int .i64 h3) ∧ W'.cell? ⟨u1.heap.size + 1, 8, none⟩ = some (.int .i64 l4) ∧ W'.cell? ⟨u1.heap.size + 1, 9, none⟩ = some (.int .i64 h4) ∧ W'.cell? ⟨u1.heap.size + 1 + 1, 0, none⟩ = some (.int .i64 e0) ∧ W'.cell? ⟨u1.heap.size + 1 + 1, 1, none⟩ = some (.int .i64 e1) ∧ W'.cell? ⟨u1.heap.size + 1 + 1, 2, none⟩ = some (.int .i64 e2) ∧ W'.cell? ⟨u1.heap.size + 1 + 1, 3, none⟩ = some (.int .i64 e3) ∧ W'.cell? ⟨u1.heap.size + 1 + 1, 4, none⟩ = some (.int .i64 e4) ∧ W'.cell? ⟨u1.heap.size + 1 + 1 + 1, 0, none⟩ = some (.int .i64 e0) ∧ W'.cell? ⟨u1.heap.size + 1 + 1 + 1, 1, none⟩ = some (.int .i64 e1) ∧ W'.cell? ⟨u1.heap.size + 1 + 1 + 1, 2, none⟩ = some (.int .i64 e2) ∧ W'.cell? ⟨u1.heap.size + 1 + 1 + 1, 3, none⟩ = some (.int .i64 e3) ∧ W'.cell? ⟨u1.heap.size + 1 + 1 + 1, 4, none⟩ = some (.int .i64 e4) ∧ W'.cell? ⟨w.heap.size, 0, none⟩ = some (.int .i64 a) ∧ W'.cell? ⟨w.heap.size, 1, none⟩ = some (.int .i64 b) ∧ W'.cell? ⟨w.heap.size + 1, 0, none⟩ = some (.int .i64 c) ∧ W'.cell? ⟨w.heap.size + 1, 1, none⟩ = some (.int .i64 d)) ((exact K.out _ (by repeat' (first | (with_reducible exact Below.refl _ _) | (with_reducible refine Below.alloc ?_ ?_ _) | (with_reducible refine Below.setCell ?_ ?_ _) | (with_reducible refine Below.drew ?_) | (with_reducible refine below_dn ?_ _) | (with_reducible refine Below.trans ?_ (Below.mono (by assumption) ?_)) | (simp; done) | (simp; omega) | omega))))
    (first | (go_at_call 29; (with_reducible refine (k1 _).mono ?_); rintro _ w5 ⟨rfl, hb5⟩; have z5 : Below v10.heap.size v10 w5 := (by repeat' (first | (with_reducible exact Below.refl _ _) | (with_reducible refine Below.alloc ?_ ?_ _) | (with_reducible refine Below.setCell ?_ ?_ _) | (with_reducible refine Below.drew ?_) | (with_reducible refine below_dn ?_ _) | (with_reducible refine Below.trans ?_ (Below.mono (by assumption) ?_)) | (simp; done) | (simp; omega) | omega)); have z5s : v10.heap.size ≤ w5.heap.size := z5.size; clear hb5) | (go_at_call 30; (with_reducible refine (k2 _).mono ?_); rintro _ w6 ⟨rfl, hb6⟩; have z6 : Below v10.heap.size v10 w6 := (by repeat' (first | (with_reducible exact Below.refl _ _) | (with_reducible refine Below.alloc ?_ ?_ _) | (with_reducible refine Below.setCell ?_ ?_ _) | (with_reducible refine Below.drew ?_) | (with_reducible refine below_dn ?_ _) | (with_reducible refine Below.trans ?_ (Below.mono (by assumption) ?_)) | (simp; done) | (simp; omega) | omega)); clear hb6))
  all_goals
    go_wp2
    go_ret
    exact Gives.mk rfl (BH.out.trans ((C10.out.trans (z6.mono C10.out.size)).mono hsz))

theorem fcounts_as (a b c d : Int) (A0 : -9223372036854775808 ≤ a) (A1 : a ≤ 9223372036854775807) (B0 : -9223372036854775808 ≤ b) (B1 : b ≤ 9223372036854775807) (C0 : -9223372036854775808 ≤ c) (C1 : c ≤ 9223372036854775807) (D0 : -9223372036854775808 ≤ d) (D1 : d ≤ 9223372036854775807) (w : World) (ht : Lib.TabIs Tryd.prog w "internal/strconv.uint64pow10" .u64 Lib.pow10Tab) :
    Calls Tryd.prog 4 #[.agg #[.int .i64 a, .int .i64 b], .agg #[.int .i64 c, .int .i64 d]] w (Gives (.bool true) w) := by
  obtain ⟨⟨l0, h0, e0⟩, r0⟩ : ∃ r, Sp.addF a b c d = r := ⟨_, rfl⟩
  obtain ⟨⟨l1, h1, e1⟩, r1⟩ : ∃ r, Sp.subF a b c d = r := ⟨_, rfl⟩
  obtain ⟨⟨l2, h2, e2⟩, r2⟩ : ∃ r, Sp.mulF a b c d = r := ⟨_, rfl⟩
  obtain ⟨⟨l3, h3, e3⟩, r3⟩ : ∃ r, Sp.divF a b c d = r := ⟨_, rfl⟩
  obtain ⟨⟨l4, h4, e4⟩, r4⟩ : ∃ r, Sp.negF a b = r := ⟨_, rfl⟩
  exact fcounts_walk a b c d l0 h0 e0 l1 h1 e1 l2 h2 e2 l3 h3 e3 l4 h4 e4 _ w (fun W h => fawake_any W (tab_below gPow ht h))
    (fun w => fadd_any a b c d l0 h0 e0 A0 A1 B0 B1 C0 C1 D0 D1 r0 w) (fun w => radd_any a b c d l0 h0 e0 A0 A1 B0 B1 C0 C1 D0 D1 r0 w)
    (fun w => fsub_any a b c d l1 h1 e1 A0 A1 B0 B1 C0 C1 D0 D1 r1 w) (fun w => rsub_any a b c d l1 h1 e1 A0 A1 B0 B1 C0 C1 D0 D1 r1 w)
    (fun w => fmul_any a b c d l2 h2 e2 A0 A1 B0 B1 C0 C1 D0 D1 r2 w) (fun w => rmul_any a b c d l2 h2 e2 A0 A1 B0 B1 C0 C1 D0 D1 r2 w)
    (fun w => fdiv_any a b c d l3 h3 e3 A0 A1 B0 B1 C0 C1 D0 D1 r3 w) (fun w => rdiv_any a b c d l3 h3 e3 A0 A1 B0 B1 C0 C1 D0 D1 r3 w)
    (fun w => fneg_any a b l4 h4 e4 A0 A1 B0 B1 r4 w) (fun w => rneg_any a b l4 h4 e4 A0 A1 B0 B1 r4 w)
    (fun w => fcmp_any a b c d A0 A1 B0 B1 C0 C1 D0 D1 w) (fun w => rcmp_any a b c d A0 A1 B0 B1 C0 C1 D0 D1 w)

end Go.Proofs.YtalpfpeejhbimaaDoor
