/-
  FractionLaws: the walk.
-/
import Derived.Test.YtjbnejhpfknfcaaDoorFlaw0
import Derived.Test.YtjbnejhpfknfcaaDoorFcnt1
namespace Go.Proofs.YtjbnejhpfknfcaaDoor
open Go.RowKit
set_option linter.unusedVariables false
set_option linter.unusedSimpArgs false
set_option maxRecDepth 100000 in
set_option maxHeartbeats 8000000 in
theorem flaws_walk (m0 m1 m2 d0 d1 d2 a1 a2 b1 b2 c1 c2 p1 p2 l1 l2 t1 t2 x1 x2 y1 y2 z1 z2 r1 r2 f : Int) (w : World)
    (aw : ∀ W, Below w.heap.size w W → Calls Tryd.prog 11 #[] W (Gives (.bool true) W))
    (s1 : ∀ w : World, Calls Tryd.prog 43 #[.int .i16 m0, .int .u8 d0] w (Gives (.agg #[.int .i64 a1, .int .i64 a2]) w)) (s2 : ∀ w : World, Calls Tryd.prog 43 #[.int .i16 m1, .int .u8 d1] w (Gives (.agg #[.int .i64 b1, .int .i64 b2]) w)) (s3 : ∀ w : World, Calls Tryd.prog 43 #[.int .i16 m2, .int .u8 d2] w (Gives (.agg #[.int .i64 c1, .int .i64 c2]) w))
    (hab : ∀ w : World, Calls Tryd.prog 19 #[.agg #[.int .i64 a1, .int .i64 a2], .agg #[.int .i64 b1, .int .i64 b2]] w (Gives (.tuple #[.agg #[.int .i64 p1, .int .i64 p2], .int .i64 0]) w))
    (hba : ∀ w : World, Calls Tryd.prog 19 #[.agg #[.int .i64 b1, .int .i64 b2], .agg #[.int .i64 a1, .int .i64 a2]] w (Gives (.tuple #[.agg #[.int .i64 p1, .int .i64 p2], .int .i64 0]) w))
    (hle : ∀ w : World, Calls Tryd.prog 19 #[.agg #[.int .i64 p1, .int .i64 p2], .agg #[.int .i64 c1, .int .i64 c2]] w (Gives (.tuple #[.agg #[.int .i64 l1, .int .i64 l2], .int .i64 0]) w))
    (hbc : ∀ w : World, Calls Tryd.prog 19 #[.agg #[.int .i64 b1, .int .i64 b2], .agg #[.int .i64 c1, .int .i64 c2]] w (Gives (.tuple #[.agg #[.int .i64 t1, .int .i64 t2], .int .i64 0]) w))
    (hri : ∀ w : World, Calls Tryd.prog 19 #[.agg #[.int .i64 a1, .int .i64 a2], .agg #[.int .i64 t1, .int .i64 t2]] w (Gives (.tuple #[.agg #[.int .i64 l1, .int .i64 l2], .int .i64 0]) w))
    (hx : ∀ w : World, Calls Tryd.prog 23 #[.agg #[.int .i64 a1, .int .i64 a2], .agg #[.int .i64 t1, .int .i64 t2]] w (Gives (.tuple #[.agg #[.int .i64 x1, .int .i64 x2], .int .i64 0]) w))
    (hy : ∀ w : World, Calls Tryd.prog 23 #[.agg #[.int .i64 a1, .int .i64 a2], .agg #[.int .i64 b1, .int .i64 b2]] w (Gives (.tuple #[.agg #[.int .i64 y1, .int .i64 y2], .int .i64 0]) w))
    (hz : ∀ w : World, Calls Tryd.prog 23 #[.agg #[.int .i64 a1, .int .i64 a2], .agg #[.int .i64 c1, .int .i64 c2]] w (Gives (.tuple #[.agg #[.int .i64 z1, .int .i64 z2], .int .i64 0]) w))
    (hw : ∀ w : World, Calls Tryd.prog 19 #[.agg #[.int .i64 y1, .int .i64 y2], .agg #[.int .i64 z1, .int .i64 z2]] w (Gives (.tuple #[.agg #[.int .i64 x1, .int .i64 x2], .int .i64 0]) w))
    (hv : ∀ w : World, Calls Tryd.prog 23 #[.agg #[.int .i64 b1, .int .i64 b2], .agg #[.int .i64 a1, .int .i64 a2]] w (Gives (.tuple #[.agg #[.int .i64 y1, .int .i64 y2], .int .i64 0]) w))
    (hu : ∀ w : World, Calls Tryd.prog 21 #[.agg #[.int .i64 p1, .int .i64 p2], .agg #[.int .i64 b1, .int .i64 b2]] w (Gives (.tuple #[.agg #[.int .i64 a1, .int .i64 a2], .int .i64 0]) w))
    (hq : ∀ w : World, Calls Tryd.prog 25 #[.agg #[.int .i64 y1, .int .i64 y2], .agg #[.int .i64 b1, .int .i64 b2]] w (Gives (.tuple #[.agg #[.int .i64 r1, .int .i64 r2], .int .i64 f]) w))
    (hfin : (b1 = 0 ∧ f = 18) ∨ (¬ b1 = 0 ∧ f = 0 ∧ r1 = a1 ∧ r2 = a2)) :
    Calls Tryd.prog 8 #[.agg #[.int .i16 m0, .int .i16 m1, .int .i16 m2], .agg #[.int .u8 d0, .int .u8 d1, .int .u8 d2]] w (Gives (.bool true) w) := by
  go_enter Tryd.func8, Tryd.ntmps8
  go_wp2_with fail
  refine (aw _ (by repeat' (first | (with_reducible exact Below.refl _ _) | (with_reducible refine Below.alloc ?_ ?_ _) | (with_reducible refine Below.setCell ?_ ?_ _) | (with_reducible refine Below.drew ?_) | (with_reducible refine Below.trans ?_ (Below.mono (by assumption) ?_)) | (simp; done) | (simp; omega) | omega))).mono ?_; rintro _ u1 ⟨rfl, hb⟩
  have BN : Below w.heap.size w u1 := by repeat' (first | (with_reducible exact Below.refl _ _) | (with_reducible refine Below.alloc ?_ ?_ _) | (with_reducible refine Below.setCell ?_ ?_ _) | (with_reducible refine Below.drew ?_) | (with_reducible refine Below.trans ?_ (Below.mono (by assumption) ?_)) | (simp; done) | (simp; omega) | omega)
  have n0 := (hb.cell (p := ⟨w.heap.size, 0, none⟩) (by first | assumption | (simp; done) | (simp; omega) | (dsimp only; omega) | omega)).trans (show _ = some (.int .i16 m0) from (by first | assumption | (simp [go_sem]; done) | (simp [go_sem, *]; done)))
  have n1 := (hb.cell (p := ⟨w.heap.size, 1, none⟩) (by first | assumption | (simp; done) | (simp; omega) | (dsimp only; omega) | omega)).trans (show _ = some (.int .i16 m1) from (by first | assumption | (simp [go_sem]; done) | (simp [go_sem, *]; done)))
  have n2 := (hb.cell (p := ⟨w.heap.size, 2, none⟩) (by first | assumption | (simp; done) | (simp; omega) | (dsimp only; omega) | omega)).trans (show _ = some (.int .i16 m2) from (by first | assumption | (simp [go_sem]; done) | (simp [go_sem, *]; done)))
  have e0 := (hb.cell (p := ⟨w.heap.size + 1, 0, none⟩) (by first | assumption | (simp; done) | (simp; omega) | (dsimp only; omega) | omega)).trans (show _ = some (.int .u8 d0) from (by first | assumption | (simp [go_sem]; done) | (simp [go_sem, *]; done)))
  have e1 := (hb.cell (p := ⟨w.heap.size + 1, 1, none⟩) (by first | assumption | (simp; done) | (simp; omega) | (dsimp only; omega) | omega)).trans (show _ = some (.int .u8 d1) from (by first | assumption | (simp [go_sem]; done) | (simp [go_sem, *]; done)))
  have e2 := (hb.cell (p := ⟨w.heap.size + 1, 2, none⟩) (by first | assumption | (simp; done) | (simp; omega) | (dsimp only; omega) | omega)).trans (show _ = some (.int .u8 d2) from (by first | assumption | (simp [go_sem]; done) | (simp [go_sem, *]; done)))
  have z0 : w.heap.size < u1.heap.size := Nat.lt_of_lt_of_le (show w.heap.size < _ from (by first | assumption | (simp; done) | (simp; omega) | (dsimp only; omega) | omega)) hb.size
  have z1 : w.heap.size + 1 < u1.heap.size := Nat.lt_of_lt_of_le (show w.heap.size + 1 < _ from (by first | assumption | (simp; done) | (simp; omega) | (dsimp only; omega) | omega)) hb.size
  have BH := hid BN
  have hsz := BN.size
  clear BN hb
  go_upto_region 3 with fail
  go_cut [5, 6, 7] (fun va vb vc wx => Sm3 u1 a1 a2 b1 b2 c1 c2 va vb vc wx)
  case first =>
    refine wp_region_any (by kernel_rfl) ?_
    change wpAny _ _ _ _ _ _ _ (World.drew _)
    refine wpAny_inv (LInv 5 _ u1 (F15 27 w.heap.size (w.heap.size + 1) m0 m1 m2 d0 d1 d2 a1 a2 b1 b2 c1 c2) (fun j => if j = 0 then a1 else if j = 1 then b1 else c1) (fun j => if j = 0 then a2 else if j = 1 then b2 else c2)) ?_ ?_ 21 _ _ _ (by decide) (LInv.start (fun t ht => by have := (F15_slot t ht).2; omega) (by repeat' (first | (with_reducible exact Below.refl _ _) | (with_reducible refine Below.alloc ?_ ?_ _) | (with_reducible refine Below.setCell ?_ ?_ _) | (with_reducible refine Below.drew ?_) | (with_reducible refine Below.trans ?_ (Below.mono (by assumption) ?_)) | (simp; done) | (simp; omega) | omega)))
    · intro listed a w' i I hr
      have hi : i < 21 := by
        obtain ⟨_, o, ho, _⟩ := mem_ready.1 hr
        have := Array.getElem?_eq_some_iff.1 ho
        exact this.1
      have hun := (mem_ready.1 hr).1
      have hF : ∀ t ∈ F15 27 w.heap.size (w.heap.size + 1) m0 m1 m2 d0 d1 d2 a1 a2 b1 b2 c1 c2, t.1 < 15 ∧ ∀ i, i < 3 → t.2.1 ≠ 5 + i := fun t ht => ⟨(F15_slot t ht).2, fun i hi => by have := (F15_slot t ht).1; omega⟩
      have g2 : a.tmps[2]? = some (.pointer (some ⟨w.heap.size, 0, none⟩)) := (I.ot 2 (fun t ht => by have := (F15_slot t ht).1; omega) (by omega)).trans rfl
      have g3 : a.tmps[3]? = some (.pointer (some ⟨w.heap.size + 1, 0, none⟩)) := (I.ot 3 (fun t ht => by have := (F15_slot t ht).1; omega) (by omega)).trans rfl
      have hc : i = 0 ∨ i = 1 ∨ i = 2 ∨ i = 3 ∨ i = 4 ∨ i = 5 ∨ i = 6 ∨ i = 7 ∨ i = 8 ∨ i = 9 ∨ i = 10 ∨ i = 11 ∨ i = 12 ∨ i = 13 ∨ i = 14 ∨ i = 15 ∨ i = 16 ∨ i = 17 ∨ i = 18 ∨ i = 19 ∨ i = 20 := by omega
      rcases hc with rfl | rfl | rfl | rfl | rfl | rfl | rfl | rfl | rfl | rfl | rfl | rfl | rfl | rfl | rfl | rfl | rfl | rfl | rfl | rfl | rfl
      · -- 0
        refine wpOp_step rfl fun K' hK => ?_
        clear hun hr
        go_simp
        exact hK _ _ (I.fix15 (i := 0) (d := 27) (by simp [F15]) (by omega) (by simp) (Below.refl _ _))
      · -- 1
        have hall := after_of hr rfl
        simp [Region.binds] at hall
        have gp := I.fx (0, 27, .pointer (some ⟨w.heap.size, 0, none⟩)) (by simp [F15]) (by simpa using hall)
        simp only at gp
        have gc := (I.bw.cell (p := ⟨w.heap.size, 0, none⟩) z0).trans n0
        refine wpOp_step rfl fun K' hK => ?_
        clear hun hr hall
        go_simp
        exact hK _ _ (I.fix15 (i := 1) (d := 28) (by simp [F15]) (by omega) (by simp) (Below.refl _ _))
      · -- 2
        refine wpOp_step rfl fun K' hK => ?_
        clear hun hr
        go_simp
        exact hK _ _ (I.fix15 (i := 2) (d := 29) (by simp [F15]) (by omega) (by simp) (Below.refl _ _))
      · -- 3
        have hall := after_of hr rfl
        simp [Region.binds] at hall
        have gp := I.fx (2, 29, .pointer (some ⟨w.heap.size + 1, 0, none⟩)) (by simp [F15]) (by simpa using hall)
        simp only at gp
        have gc := (I.bw.cell (p := ⟨w.heap.size + 1, 0, none⟩) z1).trans e0
        refine wpOp_step rfl fun K' hK => ?_
        clear hun hr hall
        go_simp
        exact hK _ _ (I.fix15 (i := 3) (d := 30) (by simp [F15]) (by omega) (by simp) (Below.refl _ _))
      · -- 4
        have hall := after_of hr rfl
        simp [Region.binds] at hall
        have gp := I.fx (1, 28, .int .i16 m0) (by simp [F15]) (by simpa using hall.1)
        have gq := I.fx (3, 30, .int .u8 d0) (by simp [F15]) (by first | simpa using hall.2 | simpa using hall.2.1)
        simp only at gp gq
        refine wpOp_step rfl fun K' hK => ?_
        clear hun hr hall
        go_simp
        refine (s1 _).mono ?_; rintro _ w5 ⟨rfl, hb⟩
        exact hK _ _ (I.fix15 (i := 4) (d := 31) (by simp [F15]) (by omega) (by simp) hb)
      · -- 5
        refine wpOp_step rfl fun K' hK => ?_
        clear hun hr
        go_simp
        exact hK _ _ (I.fix15 (i := 5) (d := 32) (by simp [F15]) (by omega) (by simp) (Below.refl _ _))
      · -- 6
        have hall := after_of hr rfl
        simp [Region.binds] at hall
        have gp := I.fx (5, 32, .pointer (some ⟨w.heap.size, 1, none⟩)) (by simp [F15]) (by simpa using hall)
        simp only at gp
        have gc := (I.bw.cell (p := ⟨w.heap.size, 1, none⟩) z0).trans n1
        refine wpOp_step rfl fun K' hK => ?_
        clear hun hr hall
        go_simp
        exact hK _ _ (I.fix15 (i := 6) (d := 33) (by simp [F15]) (by omega) (by simp) (Below.refl _ _))
      · -- 7
        refine wpOp_step rfl fun K' hK => ?_
        clear hun hr
        go_simp
        exact hK _ _ (I.fix15 (i := 7) (d := 34) (by simp [F15]) (by omega) (by simp) (Below.refl _ _))
      · -- 8
        have hall := after_of hr rfl
        simp [Region.binds] at hall
        have gp := I.fx (7, 34, .pointer (some ⟨w.heap.size + 1, 1, none⟩)) (by simp [F15]) (by simpa using hall)
        simp only at gp
        have gc := (I.bw.cell (p := ⟨w.heap.size + 1, 1, none⟩) z1).trans e1
        refine wpOp_step rfl fun K' hK => ?_
        clear hun hr hall
        go_simp
        exact hK _ _ (I.fix15 (i := 8) (d := 35) (by simp [F15]) (by omega) (by simp) (Below.refl _ _))
      · -- 9
        have hall := after_of hr rfl
        simp [Region.binds] at hall
        have gp := I.fx (6, 33, .int .i16 m1) (by simp [F15]) (by simpa using hall.1)
        have gq := I.fx (8, 35, .int .u8 d1) (by simp [F15]) (by first | simpa using hall.2 | simpa using hall.2.1)
        simp only at gp gq
        refine wpOp_step rfl fun K' hK => ?_
        clear hun hr hall
        go_simp
        refine (s2 _).mono ?_; rintro _ w5 ⟨rfl, hb⟩
        exact hK _ _ (I.fix15 (i := 9) (d := 36) (by simp [F15]) (by omega) (by simp) hb)
      · -- 10
        refine wpOp_step rfl fun K' hK => ?_
        clear hun hr
        go_simp
        exact hK _ _ (I.fix15 (i := 10) (d := 37) (by simp [F15]) (by omega) (by simp) (Below.refl _ _))
      · -- 11
        have hall := after_of hr rfl
        simp [Region.binds] at hall
        have gp := I.fx (10, 37, .pointer (some ⟨w.heap.size, 2, none⟩)) (by simp [F15]) (by simpa using hall)
        simp only at gp
        have gc := (I.bw.cell (p := ⟨w.heap.size, 2, none⟩) z0).trans n2
        refine wpOp_step rfl fun K' hK => ?_
        clear hun hr hall
        go_simp
        exact hK _ _ (I.fix15 (i := 11) (d := 38) (by simp [F15]) (by omega) (by simp) (Below.refl _ _))
      · -- 12
        refine wpOp_step rfl fun K' hK => ?_
        clear hun hr
        go_simp
        exact hK _ _ (I.fix15 (i := 12) (d := 39) (by simp [F15]) (by omega) (by simp) (Below.refl _ _))
      · -- 13
        have hall := after_of hr rfl
        simp [Region.binds] at hall
        have gp := I.fx (12, 39, .pointer (some ⟨w.heap.size + 1, 2, none⟩)) (by simp [F15]) (by simpa using hall)
        simp only at gp
        have gc := (I.bw.cell (p := ⟨w.heap.size + 1, 2, none⟩) z1).trans e2
        refine wpOp_step rfl fun K' hK => ?_
        clear hun hr hall
        go_simp
        exact hK _ _ (I.fix15 (i := 13) (d := 40) (by simp [F15]) (by omega) (by simp) (Below.refl _ _))
      · -- 14
        have hall := after_of hr rfl
        simp [Region.binds] at hall
        have gp := I.fx (11, 38, .int .i16 m2) (by simp [F15]) (by simpa using hall.1)
        have gq := I.fx (13, 40, .int .u8 d2) (by simp [F15]) (by first | simpa using hall.2 | simpa using hall.2.1)
        simp only at gp gq
        refine wpOp_step rfl fun K' hK => ?_
        clear hun hr hall
        go_simp
        refine (s3 _).mono ?_; rintro _ w5 ⟨rfl, hb⟩
        exact hK _ _ (I.fix15 (i := 14) (d := 41) (by simp [F15]) (by omega) (by simp) hb)
      · -- 15
        refine wpOp_step rfl fun K' hK => ?_
        clear hr
        go_simp
        exact hK _ _ (I.made (j := 0) (by omega) hun hF (by simp))
      · -- 16
        refine wpOp_step rfl fun K' hK => ?_
        clear hr
        go_simp
        exact hK _ _ (I.made (j := 1) (by omega) hun hF (by simp))
      · -- 17
        refine wpOp_step rfl fun K' hK => ?_
        clear hr
        go_simp
        exact hK _ _ (I.made (j := 2) (by omega) hun hF (by simp))
      · -- 18
        have hall := after_of hr rfl
        simp [Region.binds] at hall
        have hl1 : listed.getD 15 false = true := by first | simpa using hall.1 | simpa using hall
        have hl2 : listed.getD 4 false = true := by first | simpa using hall.2.1 | simpa using hall.2
        have gv := I.fx (4, 31, .agg #[.int .i64 a1, .int .i64 a2]) (by simp [F15]) hl2
        simp only at gv
        obtain ⟨k, hk, hne⟩ := I.bx
        obtain ⟨gp, gb⟩ := hk 0 (by omega) hl1
        have q0 := gb.2.2.1
        have q1 := gb.2.2.2.1
        have qf := gb.2.2.2.2
        simp only [Nat.reduceAdd] at gp
        have M := I.filled (j := 0) (by omega) hl1 (fun t ht => (F15_slot t ht).2) (k 0) gp
        generalize k 0 = kk at gp q0 q1 qf M
        clear hk hne gb
        refine wpOp_step rfl fun K' hK => ?_
        clear hun hr hall
        go_simp
        exact hK _ _ M
      · -- 19
        have hall := after_of hr rfl
        simp [Region.binds] at hall
        have hl1 : listed.getD 16 false = true := by first | simpa using hall.1 | simpa using hall
        have hl2 : listed.getD 9 false = true := by first | simpa using hall.2.1 | simpa using hall.2
        have gv := I.fx (9, 36, .agg #[.int .i64 b1, .int .i64 b2]) (by simp [F15]) hl2
        simp only at gv
        obtain ⟨k, hk, hne⟩ := I.bx
        obtain ⟨gp, gb⟩ := hk 1 (by omega) hl1
        have q0 := gb.2.2.1
        have q1 := gb.2.2.2.1
        have qf := gb.2.2.2.2
        simp only [Nat.reduceAdd] at gp
        have M := I.filled (j := 1) (by omega) hl1 (fun t ht => (F15_slot t ht).2) (k 1) gp
        generalize k 1 = kk at gp q0 q1 qf M
        clear hk hne gb
        refine wpOp_step rfl fun K' hK => ?_
        clear hun hr hall
        go_simp
        exact hK _ _ M
      · -- 20
        have hall := after_of hr rfl
        simp [Region.binds] at hall
        have hl1 : listed.getD 17 false = true := by first | simpa using hall.1 | simpa using hall
        have hl2 : listed.getD 14 false = true := by first | simpa using hall.2.1 | simpa using hall.2
        have gv := I.fx (14, 41, .agg #[.int .i64 c1, .int .i64 c2]) (by simp [F15]) hl2
        simp only at gv
        obtain ⟨k, hk, hne⟩ := I.bx
        obtain ⟨gp, gb⟩ := hk 2 (by omega) hl1
        have q0 := gb.2.2.1
        have q1 := gb.2.2.2.1
        have qf := gb.2.2.2.2
        simp only [Nat.reduceAdd] at gp
        have M := I.filled (j := 2) (by omega) hl1 (fun t ht => (F15_slot t ht).2) (k 2) gp
        generalize k 2 = kk at gp q0 q1 qf M
        clear hk hne gb
        refine wpOp_step rfl fun K' hK => ?_
        clear hun hr hall
        go_simp
        exact hK _ _ M
    · intro listed a w' I hr
      have hs := I.sz
      have l0 : listed.getD 0 false = true := all_listed hr (i := 0) rfl (by omega) (by simp [Region.binds])
      have n0 : listed[0]?.getD false = true := by simpa using l0
      have l1 : listed.getD 1 false = true := all_listed hr (i := 1) rfl (by omega) (by simp [Region.binds, n0])
      have n1 : listed[1]?.getD false = true := by simpa using l1
      have l2 : listed.getD 2 false = true := all_listed hr (i := 2) rfl (by omega) (by simp [Region.binds, n0, n1])
      have n2 : listed[2]?.getD false = true := by simpa using l2
      have l3 : listed.getD 3 false = true := all_listed hr (i := 3) rfl (by omega) (by simp [Region.binds, n0, n1, n2])
      have n3 : listed[3]?.getD false = true := by simpa using l3
      have l4 : listed.getD 4 false = true := all_listed hr (i := 4) rfl (by omega) (by simp [Region.binds, n0, n1, n2, n3])
      have n4 : listed[4]?.getD false = true := by simpa using l4
      have l5 : listed.getD 5 false = true := all_listed hr (i := 5) rfl (by omega) (by simp [Region.binds, n0, n1, n2, n3, n4])
      have n5 : listed[5]?.getD false = true := by simpa using l5
      have l6 : listed.getD 6 false = true := all_listed hr (i := 6) rfl (by omega) (by simp [Region.binds, n0, n1, n2, n3, n4, n5])
      have n6 : listed[6]?.getD false = true := by simpa using l6
      have l7 : listed.getD 7 false = true := all_listed hr (i := 7) rfl (by omega) (by simp [Region.binds, n0, n1, n2, n3, n4, n5, n6])
      have n7 : listed[7]?.getD false = true := by simpa using l7
      have l8 : listed.getD 8 false = true := all_listed hr (i := 8) rfl (by omega) (by simp [Region.binds, n0, n1, n2, n3, n4, n5, n6, n7])
      have n8 : listed[8]?.getD false = true := by simpa using l8
      have l9 : listed.getD 9 false = true := all_listed hr (i := 9) rfl (by omega) (by simp [Region.binds, n0, n1, n2, n3, n4, n5, n6, n7, n8])
      have n9 : listed[9]?.getD false = true := by simpa using l9
      have l10 : listed.getD 10 false = true := all_listed hr (i := 10) rfl (by omega) (by simp [Region.binds, n0, n1, n2, n3, n4, n5, n6, n7, n8, n9])
      have n10 : listed[10]?.getD false = true := by simpa using l10
      have l11 : listed.getD 11 false = true := all_listed hr (i := 11) rfl (by omega) (by simp [Region.binds, n0, n1, n2, n3, n4, n5, n6, n7, n8, n9, n10])
      have n11 : listed[11]?.getD false = true := by simpa using l11
      have l12 : listed.getD 12 false = true := all_listed hr (i := 12) rfl (by omega) (by simp [Region.binds, n0, n1, n2, n3, n4, n5, n6, n7, n8, n9, n10, n11])
      have n12 : listed[12]?.getD false = true := by simpa using l12
      have l13 : listed.getD 13 false = true := all_listed hr (i := 13) rfl (by omega) (by simp [Region.binds, n0, n1, n2, n3, n4, n5, n6, n7, n8, n9, n10, n11, n12])
      have n13 : listed[13]?.getD false = true := by simpa using l13
      have l14 : listed.getD 14 false = true := all_listed hr (i := 14) rfl (by omega) (by simp [Region.binds, n0, n1, n2, n3, n4, n5, n6, n7, n8, n9, n10, n11, n12, n13])
      have n14 : listed[14]?.getD false = true := by simpa using l14
      have l15 : listed.getD 15 false = true := all_listed hr (i := 15) rfl (by omega) (by simp [Region.binds, n0, n1, n2, n3, n4, n5, n6, n7, n8, n9, n10, n11, n12, n13, n14])
      have n15 : listed[15]?.getD false = true := by simpa using l15
      have l16 : listed.getD 16 false = true := all_listed hr (i := 16) rfl (by omega) (by simp [Region.binds, n0, n1, n2, n3, n4, n5, n6, n7, n8, n9, n10, n11, n12, n13, n14, n15])
      have n16 : listed[16]?.getD false = true := by simpa using l16
      have l17 : listed.getD 17 false = true := all_listed hr (i := 17) rfl (by omega) (by simp [Region.binds, n0, n1, n2, n3, n4, n5, n6, n7, n8, n9, n10, n11, n12, n13, n14, n15, n16])
      have n17 : listed[17]?.getD false = true := by simpa using l17
      have l18 : listed.getD 18 false = true := all_listed hr (i := 18) rfl (by omega) (by simp [Region.binds, n0, n1, n2, n3, n4, n5, n6, n7, n8, n9, n10, n11, n12, n13, n14, n15, n16, n17])
      have n18 : listed[18]?.getD false = true := by simpa using l18
      have l19 : listed.getD 19 false = true := all_listed hr (i := 19) rfl (by omega) (by simp [Region.binds, n0, n1, n2, n3, n4, n5, n6, n7, n8, n9, n10, n11, n12, n13, n14, n15, n16, n17, n18])
      have n19 : listed[19]?.getD false = true := by simpa using l19
      have l20 : listed.getD 20 false = true := all_listed hr (i := 20) rfl (by omega) (by simp [Region.binds, n0, n1, n2, n3, n4, n5, n6, n7, n8, n9, n10, n11, n12, n13, n14, n15, n16, n17, n18, n19])
      have n20 : listed[20]?.getD false = true := by simpa using l20
      have hall : ∀ i, i < 21 → listed.getD i false = true := by
        intro i hi
        have hc : i = 0 ∨ i = 1 ∨ i = 2 ∨ i = 3 ∨ i = 4 ∨ i = 5 ∨ i = 6 ∨ i = 7 ∨ i = 8 ∨ i = 9 ∨ i = 10 ∨ i = 11 ∨ i = 12 ∨ i = 13 ∨ i = 14 ∨ i = 15 ∨ i = 16 ∨ i = 17 ∨ i = 18 ∨ i = 19 ∨ i = 20 := by omega
        rcases hc with rfl | rfl | rfl | rfl | rfl | rfl | rfl | rfl | rfl | rfl | rfl | rfl | rfl | rfl | rfl | rfl | rfl | rfl | rfl | rfl | rfl <;> assumption
      obtain ⟨ka, kb, kc, rfl, hab, hac, hbc, ba, bb, bc, bw⟩ := I.final hall (by omega) (by simp)
      clear I l0 n0 l1 n1 l2 n2 l3 n3 l4 n4 l5 n5 l6 n6 l7 n7 l8 n8 l9 n9 l10 n10 l11 n11 l12 n12 l13 n13 l14 n14 l15 n15 l16 n16 l17 n17 l18 n18 l19 n19 l20 n20 hall hs hr
      simp only [putL, F15, List.map_cons, List.map_nil, List.cons_append, List.nil_append, List.foldl_cons, List.foldl_nil, Nat.reduceAdd]
      go_wp2_with fail
      go_meet
      exact ⟨ka, kb, kc, rfl, rfl, rfl, ba.1, bb.1, bc.1, ⟨ba.2.1, ba.2.2.1, ba.2.2.2.1⟩, ⟨bb.2.1, bb.2.2.1, bb.2.2.2.1⟩, ⟨bc.2.1, bc.2.2.1, bc.2.2.2.1⟩, bw⟩
  case rest =>
    obtain ⟨ka, kb, kc, rfl, rfl, rfl, loa, lob, loc, A0, B0, C0, W0⟩ := hcut
    have hszc := W0.size
    have B0W : Hid (Below w.heap.size w wc) := hid (BH.out.trans (W0.mono hsz))
    clear BH W0 n0 n1 n2 e0 e1 e2 z0 z1 aw s1 s2 s3 loa lob loc
    have Fa := A0
    have Fb := B0
    have Fc := C0
    clear A0 B0 C0
    have p_0 := Fa.2.1
    have p_1 := Fa.2.2
    have q_0 := Fb.2.1
    have q_1 := Fb.2.2
    go_upto_region 5 with (go_at_call 19; (with_reducible refine (hab _).mono ?_); rintro _ u ⟨rfl, hb⟩)
    have Fab : FB u.heap.size p1 p2 (u.alloc (Obj.cells #[.int .i64 p1, .int .i64 p2] 23)) := ⟨by simp, by simp [go_sem], by simp [go_sem]⟩
    have BW : Below wc.heap.size wc (u.alloc (Obj.cells #[.int .i64 p1, .int .i64 p2] 23)) := Below.alloc hb hb.size _
    clear p_0 p_1 q_0 q_1 hb
    replace Fa := Fa.below BW
    replace Fb := Fb.below BW
    replace Fc := Fc.below BW
    have B1W := hid (B0W.out.trans (BW.mono B0W.out.size))
    clear BW B0W
    generalize (u.alloc (Obj.cells #[.int .i64 p1, .int .i64 p2] 23)) = v1 at Fa Fb Fc Fab B1W ⊢
    generalize u.heap.size = kab at Fab ⊢
    clear u
    have p_0 := Fb.2.1
    have p_1 := Fb.2.2
    have q_0 := Fa.2.1
    have q_1 := Fa.2.2
    go_upto_region 6 with (go_at_call 19; (with_reducible refine (hba _).mono ?_); rintro _ u ⟨rfl, hb⟩)
    have Fba : FB u.heap.size p1 p2 (u.alloc (Obj.cells #[.int .i64 p1, .int .i64 p2] 23)) := ⟨by simp, by simp [go_sem], by simp [go_sem]⟩
    have BW : Below v1.heap.size v1 (u.alloc (Obj.cells #[.int .i64 p1, .int .i64 p2] 23)) := Below.alloc hb hb.size _
    clear p_0 p_1 q_0 q_1 hb
    replace Fa := Fa.below BW
    replace Fb := Fb.below BW
    replace Fc := Fc.below BW
    replace Fab := Fab.below BW
    have B2W := hid (B1W.out.trans (BW.mono B1W.out.size))
    clear BW B1W
    generalize (u.alloc (Obj.cells #[.int .i64 p1, .int .i64 p2] 23)) = v2 at Fa Fb Fc Fab Fba B2W ⊢
    generalize u.heap.size = kba at Fba ⊢
    clear u
    have p_0 := Fab.2.1
    have p_1 := Fab.2.2
    have q_0 := Fc.2.1
    have q_1 := Fc.2.2
    go_upto_region 7 with (go_at_call 19; (with_reducible refine (hle _).mono ?_); rintro _ u ⟨rfl, hb⟩)
    have Fle : FB u.heap.size l1 l2 (u.alloc (Obj.cells #[.int .i64 l1, .int .i64 l2] 23)) := ⟨by simp, by simp [go_sem], by simp [go_sem]⟩
    have BW : Below v2.heap.size v2 (u.alloc (Obj.cells #[.int .i64 l1, .int .i64 l2] 23)) := Below.alloc hb hb.size _
    clear p_0 p_1 q_0 q_1 hb
    replace Fa := Fa.below BW
    replace Fb := Fb.below BW
    replace Fc := Fc.below BW
    replace Fab := Fab.below BW
    replace Fba := Fba.below BW
    have B3W := hid (B2W.out.trans (BW.mono B2W.out.size))
    clear BW B2W
    generalize (u.alloc (Obj.cells #[.int .i64 l1, .int .i64 l2] 23)) = v3 at Fa Fb Fc Fab Fba Fle B3W ⊢
    generalize u.heap.size = kle at Fle ⊢
    clear u
    have p_0 := Fb.2.1
    have p_1 := Fb.2.2
    have q_0 := Fc.2.1
    have q_1 := Fc.2.2
    go_upto_region 8 with (go_at_call 19; (with_reducible refine (hbc _).mono ?_); rintro _ u ⟨rfl, hb⟩)
    have Fbc : FB u.heap.size t1 t2 (u.alloc (Obj.cells #[.int .i64 t1, .int .i64 t2] 23)) := ⟨by simp, by simp [go_sem], by simp [go_sem]⟩
    have BW : Below v3.heap.size v3 (u.alloc (Obj.cells #[.int .i64 t1, .int .i64 t2] 23)) := Below.alloc hb hb.size _
    clear p_0 p_1 q_0 q_1 hb
    replace Fa := Fa.below BW
    replace Fb := Fb.below BW
    replace Fc := Fc.below BW
    replace Fab := Fab.below BW
    replace Fba := Fba.below BW
    replace Fle := Fle.below BW
    have B4W := hid (B3W.out.trans (BW.mono B3W.out.size))
    clear BW B3W
    generalize (u.alloc (Obj.cells #[.int .i64 t1, .int .i64 t2] 23)) = v4 at Fa Fb Fc Fab Fba Fle Fbc B4W ⊢
    generalize u.heap.size = kbc at Fbc ⊢
    clear u
    have p_0 := Fa.2.1
    have p_1 := Fa.2.2
    have q_0 := Fbc.2.1
    have q_1 := Fbc.2.2
    go_upto_region 9 with (go_at_call 19; (with_reducible refine (hri _).mono ?_); rintro _ u ⟨rfl, hb⟩)
    have Fri : FB u.heap.size l1 l2 (u.alloc (Obj.cells #[.int .i64 l1, .int .i64 l2] 23)) := ⟨by simp, by simp [go_sem], by simp [go_sem]⟩
    have BW : Below v4.heap.size v4 (u.alloc (Obj.cells #[.int .i64 l1, .int .i64 l2] 23)) := Below.alloc hb hb.size _
    clear p_0 p_1 q_0 q_1 hb
    replace Fa := Fa.below BW
    replace Fb := Fb.below BW
    replace Fc := Fc.below BW
    replace Fab := Fab.below BW
    replace Fba := Fba.below BW
    replace Fle := Fle.below BW
    replace Fbc := Fbc.below BW
    have B5W := hid (B4W.out.trans (BW.mono B4W.out.size))
    clear BW B4W
    generalize (u.alloc (Obj.cells #[.int .i64 l1, .int .i64 l2] 23)) = v5 at Fa Fb Fc Fab Fba Fle Fbc Fri B5W ⊢
    generalize u.heap.size = kri at Fri ⊢
    clear u
    have ab_0 := Fab.2.1
    have ab_1 := Fab.2.2
    have ba_0 := Fba.2.1
    have ba_1 := Fba.2.2
    have le_0 := Fle.2.1
    have le_1 := Fle.2.2
    have ri_0 := Fri.2.1
    have ri_1 := Fri.2.2
    go_upto_region 11 with fail
    clear ab_0 ab_1 ba_0 ba_1 le_0 le_1 ri_0 ri_1
    clear Fba
    clear Fle
    clear Fri
    have p_0 := Fa.2.1
    have p_1 := Fa.2.2
    have q_0 := Fbc.2.1
    have q_1 := Fbc.2.2
    go_upto_region 12 with (go_at_call 23; (with_reducible refine (hx _).mono ?_); rintro _ u ⟨rfl, hb⟩)
    have Fx : FB u.heap.size x1 x2 (u.alloc (Obj.cells #[.int .i64 x1, .int .i64 x2] 23)) := ⟨by simp, by simp [go_sem], by simp [go_sem]⟩
    have BW : Below v5.heap.size v5 (u.alloc (Obj.cells #[.int .i64 x1, .int .i64 x2] 23)) := Below.alloc hb hb.size _
    clear p_0 p_1 q_0 q_1 hb
    replace Fa := Fa.below BW
    replace Fb := Fb.below BW
    replace Fc := Fc.below BW
    replace Fab := Fab.below BW
    replace Fbc := Fbc.below BW
    have B6W := hid (B5W.out.trans (BW.mono B5W.out.size))
    clear BW B5W
    generalize (u.alloc (Obj.cells #[.int .i64 x1, .int .i64 x2] 23)) = v6 at Fa Fb Fc Fab Fbc Fx B6W ⊢
    generalize u.heap.size = kx at Fx ⊢
    clear u
    clear Fbc
    have p_0 := Fa.2.1
    have p_1 := Fa.2.2
    have q_0 := Fb.2.1
    have q_1 := Fb.2.2
    go_upto_region 13 with (go_at_call 23; (with_reducible refine (hy _).mono ?_); rintro _ u ⟨rfl, hb⟩)
    have Fy : FB u.heap.size y1 y2 (u.alloc (Obj.cells #[.int .i64 y1, .int .i64 y2] 23)) := ⟨by simp, by simp [go_sem], by simp [go_sem]⟩
    have BW : Below v6.heap.size v6 (u.alloc (Obj.cells #[.int .i64 y1, .int .i64 y2] 23)) := Below.alloc hb hb.size _
    clear p_0 p_1 q_0 q_1 hb
    replace Fa := Fa.below BW
    replace Fb := Fb.below BW
    replace Fc := Fc.below BW
    replace Fab := Fab.below BW
    replace Fx := Fx.below BW
    have B7W := hid (B6W.out.trans (BW.mono B6W.out.size))
    clear BW B6W
    generalize (u.alloc (Obj.cells #[.int .i64 y1, .int .i64 y2] 23)) = v7 at Fa Fb Fc Fab Fx Fy B7W ⊢
    generalize u.heap.size = ky at Fy ⊢
    clear u
    have p_0 := Fa.2.1
    have p_1 := Fa.2.2
    have q_0 := Fc.2.1
    have q_1 := Fc.2.2
    go_upto_region 14 with (go_at_call 23; (with_reducible refine (hz _).mono ?_); rintro _ u ⟨rfl, hb⟩)
    have Fz : FB u.heap.size z1 z2 (u.alloc (Obj.cells #[.int .i64 z1, .int .i64 z2] 23)) := ⟨by simp, by simp [go_sem], by simp [go_sem]⟩
    have BW : Below v7.heap.size v7 (u.alloc (Obj.cells #[.int .i64 z1, .int .i64 z2] 23)) := Below.alloc hb hb.size _
    clear p_0 p_1 q_0 q_1 hb
    replace Fa := Fa.below BW
    replace Fb := Fb.below BW
    replace Fc := Fc.below BW
    replace Fab := Fab.below BW
    replace Fx := Fx.below BW
    replace Fy := Fy.below BW
    have B8W := hid (B7W.out.trans (BW.mono B7W.out.size))
    clear BW B7W
    generalize (u.alloc (Obj.cells #[.int .i64 z1, .int .i64 z2] 23)) = v8 at Fa Fb Fc Fab Fx Fy Fz B8W ⊢
    generalize u.heap.size = kz at Fz ⊢
    clear u
    clear Fc
    have p_0 := Fy.2.1
    have p_1 := Fy.2.2
    have q_0 := Fz.2.1
    have q_1 := Fz.2.2
    go_upto_region 15 with (go_at_call 19; (with_reducible refine (hw _).mono ?_); rintro _ u ⟨rfl, hb⟩)
    have Fw : FB u.heap.size x1 x2 (u.alloc (Obj.cells #[.int .i64 x1, .int .i64 x2] 23)) := ⟨by simp, by simp [go_sem], by simp [go_sem]⟩
    have BW : Below v8.heap.size v8 (u.alloc (Obj.cells #[.int .i64 x1, .int .i64 x2] 23)) := Below.alloc hb hb.size _
    clear p_0 p_1 q_0 q_1 hb
    replace Fa := Fa.below BW
    replace Fb := Fb.below BW
    replace Fab := Fab.below BW
    replace Fx := Fx.below BW
    replace Fy := Fy.below BW
    replace Fz := Fz.below BW
    have B9W := hid (B8W.out.trans (BW.mono B8W.out.size))
    clear BW B8W
    generalize (u.alloc (Obj.cells #[.int .i64 x1, .int .i64 x2] 23)) = v9 at Fa Fb Fab Fx Fy Fz Fw B9W ⊢
    generalize u.heap.size = kw at Fw ⊢
    clear u
    clear Fz
    have p_0 := Fb.2.1
    have p_1 := Fb.2.2
    have q_0 := Fa.2.1
    have q_1 := Fa.2.2
    go_upto_region 16 with (go_at_call 23; (with_reducible refine (hv _).mono ?_); rintro _ u ⟨rfl, hb⟩)
    have Fv : FB u.heap.size y1 y2 (u.alloc (Obj.cells #[.int .i64 y1, .int .i64 y2] 23)) := ⟨by simp, by simp [go_sem], by simp [go_sem]⟩
    have BW : Below v9.heap.size v9 (u.alloc (Obj.cells #[.int .i64 y1, .int .i64 y2] 23)) := Below.alloc hb hb.size _
    clear p_0 p_1 q_0 q_1 hb
    replace Fa := Fa.below BW
    replace Fb := Fb.below BW
    replace Fab := Fab.below BW
    replace Fx := Fx.below BW
    replace Fy := Fy.below BW
    replace Fw := Fw.below BW
    have B10W := hid (B9W.out.trans (BW.mono B9W.out.size))
    clear BW B9W
    generalize (u.alloc (Obj.cells #[.int .i64 y1, .int .i64 y2] 23)) = v10 at Fa Fb Fab Fx Fy Fw Fv B10W ⊢
    generalize u.heap.size = kv at Fv ⊢
    clear u
    have x_0 := Fx.2.1
    have x_1 := Fx.2.2
    have w_0 := Fw.2.1
    have w_1 := Fw.2.2
    have v_0 := Fv.2.1
    have v_1 := Fv.2.2
    have y_0 := Fy.2.1
    have y_1 := Fy.2.2
    go_upto_region 18 with fail
    clear x_0 x_1 w_0 w_1 v_0 v_1 y_0 y_1
    clear Fx
    clear Fw
    clear Fv
    have p_0 := Fab.2.1
    have p_1 := Fab.2.2
    have q_0 := Fb.2.1
    have q_1 := Fb.2.2
    go_upto_region 19 with (go_at_call 21; (with_reducible refine (hu _).mono ?_); rintro _ u ⟨rfl, hb⟩)
    have Fu : FB u.heap.size a1 a2 (u.alloc (Obj.cells #[.int .i64 a1, .int .i64 a2] 23)) := ⟨by simp, by simp [go_sem], by simp [go_sem]⟩
    have BW : Below v10.heap.size v10 (u.alloc (Obj.cells #[.int .i64 a1, .int .i64 a2] 23)) := Below.alloc hb hb.size _
    clear p_0 p_1 q_0 q_1 hb
    replace Fa := Fa.below BW
    replace Fb := Fb.below BW
    replace Fab := Fab.below BW
    replace Fy := Fy.below BW
    have B11W := hid (B10W.out.trans (BW.mono B10W.out.size))
    clear BW B10W
    generalize (u.alloc (Obj.cells #[.int .i64 a1, .int .i64 a2] 23)) = v11 at Fa Fb Fab Fy Fu B11W ⊢
    generalize u.heap.size = ku at Fu ⊢
    clear u
    clear Fab
    have u_0 := Fu.2.1
    have u_1 := Fu.2.2
    have a_0 := Fa.2.1
    have a_1 := Fa.2.2
    go_upto_region 21 with fail
    clear u_0 u_1 a_0 a_1
    clear Fu
    have p_0 := Fy.2.1
    have p_1 := Fy.2.2
    have q_0 := Fb.2.1
    have q_1 := Fb.2.2
    go_upto_region 22 with (go_at_call 25; (with_reducible refine (hq _).mono ?_); rintro _ u ⟨rfl, hb⟩)
    have Fq : FB u.heap.size r1 r2 (u.alloc (Obj.cells #[.int .i64 r1, .int .i64 r2] 23)) := ⟨by simp, by simp [go_sem], by simp [go_sem]⟩
    have BW : Below v11.heap.size v11 (u.alloc (Obj.cells #[.int .i64 r1, .int .i64 r2] 23)) := Below.alloc hb hb.size _
    clear p_0 p_1 q_0 q_1 hb
    replace Fa := Fa.below BW
    replace Fb := Fb.below BW
    replace Fy := Fy.below BW
    have B12W := hid (B11W.out.trans (BW.mono B11W.out.size))
    clear BW B11W
    generalize (u.alloc (Obj.cells #[.int .i64 r1, .int .i64 r2] 23)) = v12 at Fa Fb Fy Fq B12W ⊢
    generalize u.heap.size = kq at Fq ⊢
    clear u
    clear Fy
    have b_0 := Fb.2.1
    have q_0 := Fq.2.1
    have q_1 := Fq.2.2
    have a_0 := Fa.2.1
    have a_1 := Fa.2.2
    rcases hfin with ⟨rfl, rfl⟩ | ⟨nb, rfl, rfl, rfl⟩
    · go_wp2_with fail
      all_goals
        go_ret
        exact Gives.mk rfl (by have BB := B12W.out; repeat' (first | (with_reducible exact Below.refl _ _) | (with_reducible refine Below.alloc ?_ ?_ _) | (with_reducible refine Below.setCell ?_ ?_ _) | (with_reducible refine Below.drew ?_) | (with_reducible refine below_dn ?_ _) | (with_reducible refine Below.trans ?_ (Below.mono (by assumption) ?_)) | (simp; done) | (simp; omega) | omega))
    · have nb' : (b1 == 0) = false := by simp; exact nb
      have nb2 : (b1 != 0) = true := by simp; exact nb
      go_wp2_with fail
      all_goals
        go_ret
        exact Gives.mk rfl (by have BB := B12W.out; repeat' (first | (with_reducible exact Below.refl _ _) | (with_reducible refine Below.alloc ?_ ?_ _) | (with_reducible refine Below.setCell ?_ ?_ _) | (with_reducible refine Below.drew ?_) | (with_reducible refine below_dn ?_ _) | (with_reducible refine Below.trans ?_ (Below.mono (by assumption) ?_)) | (simp; done) | (simp; omega) | omega))
end Go.Proofs.YtjbnejhpfknfcaaDoor
