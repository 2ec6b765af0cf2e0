/-
  FractionOrders: the walk.
-/
import Derived.Test.YtjbnejhpfknfcaaDoorFlaw0
import Derived.Test.YtjbnejhpfknfcaaDoorFcnt1
namespace Go.Proofs.YtjbnejhpfknfcaaDoor
open Go.RowKit
set_option linter.unusedVariables false
set_option linter.unusedSimpArgs false
set_option maxRecDepth 100000 in
set_option maxHeartbeats 8000000 in
theorem fords_walk (m0 m1 m2 d0 d1 d2 a1 a2 b1 b2 c1 c2 p1 p2 q1 q2 fl up want X Y N M : Int) (w : World)
    (aw : ∀ W, Below w.heap.size w W → Calls Tryd.prog 11 #[] W (Gives (.bool true) W))
    (s1 : ∀ w : World, Calls Tryd.prog 43 #[.int .i16 m0, .int .u8 d0] w (Gives (.agg #[.int .i64 a1, .int .i64 a2]) w)) (s2 : ∀ w : World, Calls Tryd.prog 43 #[.int .i16 m1, .int .u8 d1] w (Gives (.agg #[.int .i64 b1, .int .i64 b2]) w)) (s3 : ∀ w : World, Calls Tryd.prog 43 #[.int .i16 m2, .int .u8 d2] w (Gives (.agg #[.int .i64 c1, .int .i64 c2]) w))
    (hac : ∀ w : World, Calls Tryd.prog 19 #[.agg #[.int .i64 a1, .int .i64 a2], .agg #[.int .i64 c1, .int .i64 c2]] w (Gives (.tuple #[.agg #[.int .i64 p1, .int .i64 p2], .int .i64 0]) w))
    (hbc : ∀ w : World, Calls Tryd.prog 19 #[.agg #[.int .i64 b1, .int .i64 b2], .agg #[.int .i64 c1, .int .i64 c2]] w (Gives (.tuple #[.agg #[.int .i64 q1, .int .i64 q2], .int .i64 0]) w))
    (hfl : ∀ w : World, Calls Tryd.prog 31 #[.agg #[.int .i64 a1, .int .i64 a2]] w (Gives (.int .i64 fl) w)) (hce : ∀ w : World, Calls Tryd.prog 33 #[.agg #[.int .i64 a1, .int .i64 a2]] w (Gives (.int .i64 up) w))
    (hcm : ∀ w : World, Calls Tryd.prog 29 #[.agg #[.int .i64 a1, .int .i64 a2], .agg #[.int .i64 b1, .int .i64 b2]] w (Gives (.int .i64 want) w)) (hcn : ∀ w : World, Calls Tryd.prog 29 #[.agg #[.int .i64 p1, .int .i64 p2], .agg #[.int .i64 q1, .int .i64 q2]] w (Gives (.int .i64 want) w))
    (hX : a1 * b2 = X) (hY : b1 * a2 = Y) (X0 : -9000000 ≤ X) (X1 : X ≤ 9000000) (Y0 : -9000000 ≤ Y) (Y1 : Y ≤ 9000000)
    (hN : fl * a2 = N) (hM : (fl + 1) * a2 = M) (N0 : -40000 ≤ N) (N1 : N ≤ a1) (M0 : a1 < M) (M1 : M ≤ 40000) (f0 : -32768 ≤ fl) (f1 : fl ≤ 32768)
    (hwant : (X < Y ∧ want = -1) ∨ (X = Y ∧ want = 0) ∨ (Y < X ∧ want = 1)) (hwhole : (up = fl ∧ a2 = 1) ∨ (up = fl + 1 ∧ ¬ a2 = 1)) :
    Calls Tryd.prog 9 #[.agg #[.int .i16 m0, .int .i16 m1, .int .i16 m2], .agg #[.int .u8 d0, .int .u8 d1, .int .u8 d2]] w (Gives (.bool true) w) := by
  go_enter Tryd.func9, Tryd.ntmps9
  go_wp2_with fail
  refine (aw _ (by repeat' (first | (with_reducible exact Below.refl _ _) | (with_reducible refine Below.alloc ?_ ?_ _) | (with_reducible refine Below.setCell ?_ ?_ _) | (with_reducible refine Below.drew ?_) | (with_reducible refine Below.trans ?_ (Below.mono (by assumption) ?_)) | (simp; done) | (simp; omega) | omega))).mono ?_; rintro _ u1 ⟨rfl, hb⟩
  have BN : Below w.heap.size w u1 := by repeat' (first | (with_reducible exact Below.refl _ _) | (with_reducible refine Below.alloc ?_ ?_ _) | (with_reducible refine Below.setCell ?_ ?_ _) | (with_reducible refine Below.drew ?_) | (with_reducible refine Below.trans ?_ (Below.mono (by assumption) ?_)) | (simp; done) | (simp; omega) | omega)
  have n0 := (hb.cell (p := ⟨w.heap.size, 0, none⟩) (by first | assumption | (simp; done) | (simp; omega) | (dsimp only; omega) | omega)).trans (show _ = some (.int .i16 m0) from (by first | assumption | (simp [go_sem]; done) | (simp [go_sem, *]; done)))
  have n1 := (hb.cell (p := ⟨w.heap.size, 1, none⟩) (by first | assumption | (simp; done) | (simp; omega) | (dsimp only; omega) | omega)).trans (show _ = some (.int .i16 m1) from (by first | assumption | (simp [go_sem]; done) | (simp [go_sem, *]; done)))
  have n2 := (hb.cell (p := ⟨w.heap.size, 2, none⟩) (by first | assumption | (simp; done) | (simp; omega) | (dsimp only; omega) | omega)).trans (show _ = some (.int .i16 m2) from (by first | assumption | (simp [go_sem]; done) | (simp [go_sem, *]; done)))
  have e0 := (hb.cell (p := ⟨w.heap.size + 1, 0, none⟩) (by first | assumption | (simp; done) | (simp; omega) | (dsimp only; omega) | omega)).trans (show _ = some (.int .u8 d0) from (by first | assumption | (simp [go_sem]; done) | (simp [go_sem, *]; done)))
  have e1 := (hb.cell (p := ⟨w.heap.size + 1, 1, none⟩) (by first | assumption | (simp; done) | (simp; omega) | (dsimp only; omega) | omega)).trans (show _ = some (.int .u8 d1) from (by first | assumption | (simp [go_sem]; done) | (simp [go_sem, *]; done)))
  have e2 := (hb.cell (p := ⟨w.heap.size + 1, 2, none⟩) (by first | assumption | (simp; done) | (simp; omega) | (dsimp only; omega) | omega)).trans (show _ = some (.int .u8 d2) from (by first | assumption | (simp [go_sem]; done) | (simp [go_sem, *]; done)))
  have z0 : w.heap.size < u1.heap.size := Nat.lt_of_lt_of_le (show w.heap.size < _ from (by first | assumption | (simp; done) | (simp; omega) | (dsimp only; omega) | omega)) hb.size
  have z1 : w.heap.size + 1 < u1.heap.size := Nat.lt_of_lt_of_le (show w.heap.size + 1 < _ from (by first | assumption | (simp; done) | (simp; omega) | (dsimp only; omega) | omega)) hb.size
  have BH := hid BN
  have hsz := BN.size
  clear BN hb
  go_upto_region 3 with fail
  go_cut [5, 6, 7] (fun va vb vc wx => Sm3 u1 a1 a2 b1 b2 c1 c2 va vb vc wx)
  case first =>
    refine wp_region_any (by kernel_rfl) ?_
    change wpAny _ _ _ _ _ _ _ (World.drew _)
    refine wpAny_inv (LInv 5 _ u1 (F15 20 w.heap.size (w.heap.size + 1) m0 m1 m2 d0 d1 d2 a1 a2 b1 b2 c1 c2) (fun j => if j = 0 then a1 else if j = 1 then b1 else c1) (fun j => if j = 0 then a2 else if j = 1 then b2 else c2)) ?_ ?_ 21 _ _ _ (by decide) (LInv.start (fun t ht => by have := (F15_slot t ht).2; omega) (by repeat' (first | (with_reducible exact Below.refl _ _) | (with_reducible refine Below.alloc ?_ ?_ _) | (with_reducible refine Below.setCell ?_ ?_ _) | (with_reducible refine Below.drew ?_) | (with_reducible refine Below.trans ?_ (Below.mono (by assumption) ?_)) | (simp; done) | (simp; omega) | omega)))
    · intro listed a w' i I hr
      have hi : i < 21 := by
        obtain ⟨_, o, ho, _⟩ := mem_ready.1 hr
        have := Array.getElem?_eq_some_iff.1 ho
        exact this.1
      have hun := (mem_ready.1 hr).1
      have hF : ∀ t ∈ F15 20 w.heap.size (w.heap.size + 1) m0 m1 m2 d0 d1 d2 a1 a2 b1 b2 c1 c2, t.1 < 15 ∧ ∀ i, i < 3 → t.2.1 ≠ 5 + i := fun t ht => ⟨(F15_slot t ht).2, fun i hi => by have := (F15_slot t ht).1; omega⟩
      have g2 : a.tmps[2]? = some (.pointer (some ⟨w.heap.size, 0, none⟩)) := (I.ot 2 (fun t ht => by have := (F15_slot t ht).1; omega) (by omega)).trans rfl
      have g3 : a.tmps[3]? = some (.pointer (some ⟨w.heap.size + 1, 0, none⟩)) := (I.ot 3 (fun t ht => by have := (F15_slot t ht).1; omega) (by omega)).trans rfl
      have hc : i = 0 ∨ i = 1 ∨ i = 2 ∨ i = 3 ∨ i = 4 ∨ i = 5 ∨ i = 6 ∨ i = 7 ∨ i = 8 ∨ i = 9 ∨ i = 10 ∨ i = 11 ∨ i = 12 ∨ i = 13 ∨ i = 14 ∨ i = 15 ∨ i = 16 ∨ i = 17 ∨ i = 18 ∨ i = 19 ∨ i = 20 := by omega
      rcases hc with rfl | rfl | rfl | rfl | rfl | rfl | rfl | rfl | rfl | rfl | rfl | rfl | rfl | rfl | rfl | rfl | rfl | rfl | rfl | rfl | rfl
      · -- 0
        refine wpOp_step rfl fun K' hK => ?_
        clear hun hr
        go_simp
        exact hK _ _ (I.fix15 (i := 0) (d := 20) (by simp [F15]) (by omega) (by simp) (Below.refl _ _))
      · -- 1
        have hall := after_of hr rfl
        simp [Region.binds] at hall
        have gp := I.fx (0, 20, .pointer (some ⟨w.heap.size, 0, none⟩)) (by simp [F15]) (by simpa using hall)
        simp only at gp
        have gc := (I.bw.cell (p := ⟨w.heap.size, 0, none⟩) z0).trans n0
        refine wpOp_step rfl fun K' hK => ?_
        clear hun hr hall
        go_simp
        exact hK _ _ (I.fix15 (i := 1) (d := 21) (by simp [F15]) (by omega) (by simp) (Below.refl _ _))
      · -- 2
        refine wpOp_step rfl fun K' hK => ?_
        clear hun hr
        go_simp
        exact hK _ _ (I.fix15 (i := 2) (d := 22) (by simp [F15]) (by omega) (by simp) (Below.refl _ _))
      · -- 3
        have hall := after_of hr rfl
        simp [Region.binds] at hall
        have gp := I.fx (2, 22, .pointer (some ⟨w.heap.size + 1, 0, none⟩)) (by simp [F15]) (by simpa using hall)
        simp only at gp
        have gc := (I.bw.cell (p := ⟨w.heap.size + 1, 0, none⟩) z1).trans e0
        refine wpOp_step rfl fun K' hK => ?_
        clear hun hr hall
        go_simp
        exact hK _ _ (I.fix15 (i := 3) (d := 23) (by simp [F15]) (by omega) (by simp) (Below.refl _ _))
      · -- 4
        have hall := after_of hr rfl
        simp [Region.binds] at hall
        have gp := I.fx (1, 21, .int .i16 m0) (by simp [F15]) (by simpa using hall.1)
        have gq := I.fx (3, 23, .int .u8 d0) (by simp [F15]) (by first | simpa using hall.2 | simpa using hall.2.1)
        simp only at gp gq
        refine wpOp_step rfl fun K' hK => ?_
        clear hun hr hall
        go_simp
        refine (s1 _).mono ?_; rintro _ w5 ⟨rfl, hb⟩
        exact hK _ _ (I.fix15 (i := 4) (d := 24) (by simp [F15]) (by omega) (by simp) hb)
      · -- 5
        refine wpOp_step rfl fun K' hK => ?_
        clear hun hr
        go_simp
        exact hK _ _ (I.fix15 (i := 5) (d := 25) (by simp [F15]) (by omega) (by simp) (Below.refl _ _))
      · -- 6
        have hall := after_of hr rfl
        simp [Region.binds] at hall
        have gp := I.fx (5, 25, .pointer (some ⟨w.heap.size, 1, none⟩)) (by simp [F15]) (by simpa using hall)
        simp only at gp
        have gc := (I.bw.cell (p := ⟨w.heap.size, 1, none⟩) z0).trans n1
        refine wpOp_step rfl fun K' hK => ?_
        clear hun hr hall
        go_simp
        exact hK _ _ (I.fix15 (i := 6) (d := 26) (by simp [F15]) (by omega) (by simp) (Below.refl _ _))
      · -- 7
        refine wpOp_step rfl fun K' hK => ?_
        clear hun hr
        go_simp
        exact hK _ _ (I.fix15 (i := 7) (d := 27) (by simp [F15]) (by omega) (by simp) (Below.refl _ _))
      · -- 8
        have hall := after_of hr rfl
        simp [Region.binds] at hall
        have gp := I.fx (7, 27, .pointer (some ⟨w.heap.size + 1, 1, none⟩)) (by simp [F15]) (by simpa using hall)
        simp only at gp
        have gc := (I.bw.cell (p := ⟨w.heap.size + 1, 1, none⟩) z1).trans e1
        refine wpOp_step rfl fun K' hK => ?_
        clear hun hr hall
        go_simp
        exact hK _ _ (I.fix15 (i := 8) (d := 28) (by simp [F15]) (by omega) (by simp) (Below.refl _ _))
      · -- 9
        have hall := after_of hr rfl
        simp [Region.binds] at hall
        have gp := I.fx (6, 26, .int .i16 m1) (by simp [F15]) (by simpa using hall.1)
        have gq := I.fx (8, 28, .int .u8 d1) (by simp [F15]) (by first | simpa using hall.2 | simpa using hall.2.1)
        simp only at gp gq
        refine wpOp_step rfl fun K' hK => ?_
        clear hun hr hall
        go_simp
        refine (s2 _).mono ?_; rintro _ w5 ⟨rfl, hb⟩
        exact hK _ _ (I.fix15 (i := 9) (d := 29) (by simp [F15]) (by omega) (by simp) hb)
      · -- 10
        refine wpOp_step rfl fun K' hK => ?_
        clear hun hr
        go_simp
        exact hK _ _ (I.fix15 (i := 10) (d := 30) (by simp [F15]) (by omega) (by simp) (Below.refl _ _))
      · -- 11
        have hall := after_of hr rfl
        simp [Region.binds] at hall
        have gp := I.fx (10, 30, .pointer (some ⟨w.heap.size, 2, none⟩)) (by simp [F15]) (by simpa using hall)
        simp only at gp
        have gc := (I.bw.cell (p := ⟨w.heap.size, 2, none⟩) z0).trans n2
        refine wpOp_step rfl fun K' hK => ?_
        clear hun hr hall
        go_simp
        exact hK _ _ (I.fix15 (i := 11) (d := 31) (by simp [F15]) (by omega) (by simp) (Below.refl _ _))
      · -- 12
        refine wpOp_step rfl fun K' hK => ?_
        clear hun hr
        go_simp
        exact hK _ _ (I.fix15 (i := 12) (d := 32) (by simp [F15]) (by omega) (by simp) (Below.refl _ _))
      · -- 13
        have hall := after_of hr rfl
        simp [Region.binds] at hall
        have gp := I.fx (12, 32, .pointer (some ⟨w.heap.size + 1, 2, none⟩)) (by simp [F15]) (by simpa using hall)
        simp only at gp
        have gc := (I.bw.cell (p := ⟨w.heap.size + 1, 2, none⟩) z1).trans e2
        refine wpOp_step rfl fun K' hK => ?_
        clear hun hr hall
        go_simp
        exact hK _ _ (I.fix15 (i := 13) (d := 33) (by simp [F15]) (by omega) (by simp) (Below.refl _ _))
      · -- 14
        have hall := after_of hr rfl
        simp [Region.binds] at hall
        have gp := I.fx (11, 31, .int .i16 m2) (by simp [F15]) (by simpa using hall.1)
        have gq := I.fx (13, 33, .int .u8 d2) (by simp [F15]) (by first | simpa using hall.2 | simpa using hall.2.1)
        simp only at gp gq
        refine wpOp_step rfl fun K' hK => ?_
        clear hun hr hall
        go_simp
        refine (s3 _).mono ?_; rintro _ w5 ⟨rfl, hb⟩
        exact hK _ _ (I.fix15 (i := 14) (d := 34) (by simp [F15]) (by omega) (by simp) hb)
      · -- 15
        refine wpOp_step rfl fun K' hK => ?_
        clear hr
        go_simp
        exact hK _ _ (I.made (j := 0) (by omega) hun hF (by simp))
      · -- 16
        refine wpOp_step rfl fun K' hK => ?_
        clear hr
        go_simp
        exact hK _ _ (I.made (j := 1) (by omega) hun hF (by simp))
      · -- 17
        refine wpOp_step rfl fun K' hK => ?_
        clear hr
        go_simp
        exact hK _ _ (I.made (j := 2) (by omega) hun hF (by simp))
      · -- 18
        have hall := after_of hr rfl
        simp [Region.binds] at hall
        have hl1 : listed.getD 15 false = true := by first | simpa using hall.1 | simpa using hall
        have hl2 : listed.getD 4 false = true := by first | simpa using hall.2.1 | simpa using hall.2
        have gv := I.fx (4, 24, .agg #[.int .i64 a1, .int .i64 a2]) (by simp [F15]) hl2
        simp only at gv
        obtain ⟨k, hk, hne⟩ := I.bx
        obtain ⟨gp, gb⟩ := hk 0 (by omega) hl1
        have q0 := gb.2.2.1
        have q1 := gb.2.2.2.1
        have qf := gb.2.2.2.2
        simp only [Nat.reduceAdd] at gp
        have M := I.filled (j := 0) (by omega) hl1 (fun t ht => (F15_slot t ht).2) (k 0) gp
        generalize k 0 = kk at gp q0 q1 qf M
        clear hk hne gb
        refine wpOp_step rfl fun K' hK => ?_
        clear hun hr hall
        go_simp
        exact hK _ _ M
      · -- 19
        have hall := after_of hr rfl
        simp [Region.binds] at hall
        have hl1 : listed.getD 16 false = true := by first | simpa using hall.1 | simpa using hall
        have hl2 : listed.getD 9 false = true := by first | simpa using hall.2.1 | simpa using hall.2
        have gv := I.fx (9, 29, .agg #[.int .i64 b1, .int .i64 b2]) (by simp [F15]) hl2
        simp only at gv
        obtain ⟨k, hk, hne⟩ := I.bx
        obtain ⟨gp, gb⟩ := hk 1 (by omega) hl1
        have q0 := gb.2.2.1
        have q1 := gb.2.2.2.1
        have qf := gb.2.2.2.2
        simp only [Nat.reduceAdd] at gp
        have M := I.filled (j := 1) (by omega) hl1 (fun t ht => (F15_slot t ht).2) (k 1) gp
        generalize k 1 = kk at gp q0 q1 qf M
        clear hk hne gb
        refine wpOp_step rfl fun K' hK => ?_
        clear hun hr hall
        go_simp
        exact hK _ _ M
      · -- 20
        have hall := after_of hr rfl
        simp [Region.binds] at hall
        have hl1 : listed.getD 17 false = true := by first | simpa using hall.1 | simpa using hall
        have hl2 : listed.getD 14 false = true := by first | simpa using hall.2.1 | simpa using hall.2
        have gv := I.fx (14, 34, .agg #[.int .i64 c1, .int .i64 c2]) (by simp [F15]) hl2
        simp only at gv
        obtain ⟨k, hk, hne⟩ := I.bx
        obtain ⟨gp, gb⟩ := hk 2 (by omega) hl1
        have q0 := gb.2.2.1
        have q1 := gb.2.2.2.1
        have qf := gb.2.2.2.2
        simp only [Nat.reduceAdd] at gp
        have M := I.filled (j := 2) (by omega) hl1 (fun t ht => (F15_slot t ht).2) (k 2) gp
        generalize k 2 = kk at gp q0 q1 qf M
        clear hk hne gb
        refine wpOp_step rfl fun K' hK => ?_
        clear hun hr hall
        go_simp
        exact hK _ _ M
    · intro listed a w' I hr
      have hs := I.sz
      have l0 : listed.getD 0 false = true := all_listed hr (i := 0) rfl (by omega) (by simp [Region.binds])
      have n0 : listed[0]?.getD false = true := by simpa using l0
      have l1 : listed.getD 1 false = true := all_listed hr (i := 1) rfl (by omega) (by simp [Region.binds, n0])
      have n1 : listed[1]?.getD false = true := by simpa using l1
      have l2 : listed.getD 2 false = true := all_listed hr (i := 2) rfl (by omega) (by simp [Region.binds, n0, n1])
      have n2 : listed[2]?.getD false = true := by simpa using l2
      have l3 : listed.getD 3 false = true := all_listed hr (i := 3) rfl (by omega) (by simp [Region.binds, n0, n1, n2])
      have n3 : listed[3]?.getD false = true := by simpa using l3
      have l4 : listed.getD 4 false = true := all_listed hr (i := 4) rfl (by omega) (by simp [Region.binds, n0, n1, n2, n3])
      have n4 : listed[4]?.getD false = true := by simpa using l4
      have l5 : listed.getD 5 false = true := all_listed hr (i := 5) rfl (by omega) (by simp [Region.binds, n0, n1, n2, n3, n4])
      have n5 : listed[5]?.getD false = true := by simpa using l5
      have l6 : listed.getD 6 false = true := all_listed hr (i := 6) rfl (by omega) (by simp [Region.binds, n0, n1, n2, n3, n4, n5])
      have n6 : listed[6]?.getD false = true := by simpa using l6
      have l7 : listed.getD 7 false = true := all_listed hr (i := 7) rfl (by omega) (by simp [Region.binds, n0, n1, n2, n3, n4, n5, n6])
      have n7 : listed[7]?.getD false = true := by simpa using l7
      have l8 : listed.getD 8 false = true := all_listed hr (i := 8) rfl (by omega) (by simp [Region.binds, n0, n1, n2, n3, n4, n5, n6, n7])
      have n8 : listed[8]?.getD false = true := by simpa using l8
      have l9 : listed.getD 9 false = true := all_listed hr (i := 9) rfl (by omega) (by simp [Region.binds, n0, n1, n2, n3, n4, n5, n6, n7, n8])
      have n9 : listed[9]?.getD false = true := by simpa using l9
      have l10 : listed.getD 10 false = true := all_listed hr (i := 10) rfl (by omega) (by simp [Region.binds, n0, n1, n2, n3, n4, n5, n6, n7, n8, n9])
      have n10 : listed[10]?.getD false = true := by simpa using l10
      have l11 : listed.getD 11 false = true := all_listed hr (i := 11) rfl (by omega) (by simp [Region.binds, n0, n1, n2, n3, n4, n5, n6, n7, n8, n9, n10])
      have n11 : listed[11]?.getD false = true := by simpa using l11
      have l12 : listed.getD 12 false = true := all_listed hr (i := 12) rfl (by omega) (by simp [Region.binds, n0, n1, n2, n3, n4, n5, n6, n7, n8, n9, n10, n11])
      have n12 : listed[12]?.getD false = true := by simpa using l12
      have l13 : listed.getD 13 false = true := all_listed hr (i := 13) rfl (by omega) (by simp [Region.binds, n0, n1, n2, n3, n4, n5, n6, n7, n8, n9, n10, n11, n12])
      have n13 : listed[13]?.getD false = true := by simpa using l13
      have l14 : listed.getD 14 false = true := all_listed hr (i := 14) rfl (by omega) (by simp [Region.binds, n0, n1, n2, n3, n4, n5, n6, n7, n8, n9, n10, n11, n12, n13])
      have n14 : listed[14]?.getD false = true := by simpa using l14
      have l15 : listed.getD 15 false = true := all_listed hr (i := 15) rfl (by omega) (by simp [Region.binds, n0, n1, n2, n3, n4, n5, n6, n7, n8, n9, n10, n11, n12, n13, n14])
      have n15 : listed[15]?.getD false = true := by simpa using l15
      have l16 : listed.getD 16 false = true := all_listed hr (i := 16) rfl (by omega) (by simp [Region.binds, n0, n1, n2, n3, n4, n5, n6, n7, n8, n9, n10, n11, n12, n13, n14, n15])
      have n16 : listed[16]?.getD false = true := by simpa using l16
      have l17 : listed.getD 17 false = true := all_listed hr (i := 17) rfl (by omega) (by simp [Region.binds, n0, n1, n2, n3, n4, n5, n6, n7, n8, n9, n10, n11, n12, n13, n14, n15, n16])
      have n17 : listed[17]?.getD false = true := by simpa using l17
      have l18 : listed.getD 18 false = true := all_listed hr (i := 18) rfl (by omega) (by simp [Region.binds, n0, n1, n2, n3, n4, n5, n6, n7, n8, n9, n10, n11, n12, n13, n14, n15, n16, n17])
      have n18 : listed[18]?.getD false = true := by simpa using l18
      have l19 : listed.getD 19 false = true := all_listed hr (i := 19) rfl (by omega) (by simp [Region.binds, n0, n1, n2, n3, n4, n5, n6, n7, n8, n9, n10, n11, n12, n13, n14, n15, n16, n17, n18])
      have n19 : listed[19]?.getD false = true := by simpa using l19
      have l20 : listed.getD 20 false = true := all_listed hr (i := 20) rfl (by omega) (by simp [Region.binds, n0, n1, n2, n3, n4, n5, n6, n7, n8, n9, n10, n11, n12, n13, n14, n15, n16, n17, n18, n19])
      have n20 : listed[20]?.getD false = true := by simpa using l20
      have hall : ∀ i, i < 21 → listed.getD i false = true := by
        intro i hi
        have hc : i = 0 ∨ i = 1 ∨ i = 2 ∨ i = 3 ∨ i = 4 ∨ i = 5 ∨ i = 6 ∨ i = 7 ∨ i = 8 ∨ i = 9 ∨ i = 10 ∨ i = 11 ∨ i = 12 ∨ i = 13 ∨ i = 14 ∨ i = 15 ∨ i = 16 ∨ i = 17 ∨ i = 18 ∨ i = 19 ∨ i = 20 := by omega
        rcases hc with rfl | rfl | rfl | rfl | rfl | rfl | rfl | rfl | rfl | rfl | rfl | rfl | rfl | rfl | rfl | rfl | rfl | rfl | rfl | rfl | rfl <;> assumption
      obtain ⟨ka, kb, kc, rfl, hab, hac, hbc, ba, bb, bc, bw⟩ := I.final hall (by omega) (by simp)
      clear I l0 n0 l1 n1 l2 n2 l3 n3 l4 n4 l5 n5 l6 n6 l7 n7 l8 n8 l9 n9 l10 n10 l11 n11 l12 n12 l13 n13 l14 n14 l15 n15 l16 n16 l17 n17 l18 n18 l19 n19 l20 n20 hall hs hr
      simp only [putL, F15, List.map_cons, List.map_nil, List.cons_append, List.nil_append, List.foldl_cons, List.foldl_nil, Nat.reduceAdd]
      go_wp2_with fail
      go_meet
      exact ⟨ka, kb, kc, rfl, rfl, rfl, ba.1, bb.1, bc.1, ⟨ba.2.1, ba.2.2.1, ba.2.2.2.1⟩, ⟨bb.2.1, bb.2.2.1, bb.2.2.2.1⟩, ⟨bc.2.1, bc.2.2.1, bc.2.2.2.1⟩, bw⟩
  case rest =>
    obtain ⟨ka, kb, kc, rfl, rfl, rfl, loa, lob, loc, A0, B0, C0, W0⟩ := hcut
    have hszc := W0.size
    have B0W : Hid (Below w.heap.size w wc) := hid (BH.out.trans (W0.mono hsz))
    clear BH W0 n0 n1 n2 e0 e1 e2 z0 z1 aw s1 s2 s3 loa lob loc
    have a_0 := A0.2.1
    have a_1 := A0.2.2
    have b_0 := B0.2.1
    have b_1 := B0.2.2
    go_upto_region 4 with fail
    go_quiet (fail)
    have BD : Below wc.heap.size wc (wc.drewN nq) := below_dn (Below.refl _ _) _
    have Fa := A0.below BD
    have Fb := B0.below BD
    have Fc := C0.below BD
    have B1W := hid (B0W.out.trans (BD.mono B0W.out.size))
    clear A0 B0 C0 a_0 a_1 b_0 b_1 B0W BD hszc hsz hX hY
    generalize wc.drewN nq = v0 at Fa Fb Fc B1W ⊢
    clear wc
    have kN : decide (N ≤ a1) = true := decide_eq_true N1
    have kM : decide (a1 < M) = true := decide_eq_true M0
    rcases hwant with ⟨hw, rfl⟩ | ⟨hw, rfl⟩ | ⟨hw, rfl⟩
    · have k1 : decide (X < Y) = true := decide_eq_true hw
      have k2 : decide (Y < X) = false := decide_eq_false (by omega)
      go_upto_region 10 with fail
      clear k1 k2 hw X0 X1 Y0 Y1
      have p_0 := Fa.2.1
      have p_1 := Fa.2.2
      have q_0 := Fc.2.1
      have q_1 := Fc.2.2
      go_upto_region 11 with (go_at_call 19; (with_reducible refine (hac _).mono ?_); rintro _ u ⟨rfl, hb⟩)
      have Fp : FB u.heap.size p1 p2 (u.alloc (Obj.cells #[.int .i64 p1, .int .i64 p2] 23)) := ⟨by simp, by simp [go_sem], by simp [go_sem]⟩
      have BW : Below v0.heap.size v0 (u.alloc (Obj.cells #[.int .i64 p1, .int .i64 p2] 23)) := Below.alloc hb hb.size _
      clear p_0 p_1 q_0 q_1 hb
      replace Fa := Fa.below BW
      replace Fb := Fb.below BW
      replace Fc := Fc.below BW
      have B2W := hid (B1W.out.trans (BW.mono B1W.out.size))
      clear BW B1W
      generalize (u.alloc (Obj.cells #[.int .i64 p1, .int .i64 p2] 23)) = v1 at Fa Fb Fc Fp B2W ⊢
      generalize u.heap.size = kp at Fp ⊢
      clear u
      have p_0 := Fb.2.1
      have p_1 := Fb.2.2
      have q_0 := Fc.2.1
      have q_1 := Fc.2.2
      go_upto_region 12 with (go_at_call 19; (with_reducible refine (hbc _).mono ?_); rintro _ u ⟨rfl, hb⟩)
      have Fq : FB u.heap.size q1 q2 (u.alloc (Obj.cells #[.int .i64 q1, .int .i64 q2] 23)) := ⟨by simp, by simp [go_sem], by simp [go_sem]⟩
      have BW : Below v1.heap.size v1 (u.alloc (Obj.cells #[.int .i64 q1, .int .i64 q2] 23)) := Below.alloc hb hb.size _
      clear p_0 p_1 q_0 q_1 hb
      replace Fa := Fa.below BW
      replace Fb := Fb.below BW
      replace Fc := Fc.below BW
      replace Fp := Fp.below BW
      have B3W := hid (B2W.out.trans (BW.mono B2W.out.size))
      clear BW B2W
      generalize (u.alloc (Obj.cells #[.int .i64 q1, .int .i64 q2] 23)) = v2 at Fa Fb Fc Fp Fq B3W ⊢
      generalize u.heap.size = kq at Fq ⊢
      clear u
      clear Fc
      have p_0 := Fa.2.1
      have p_1 := Fa.2.2
      go_upto_region 13 with (go_at_call 31; (with_reducible refine (hfl _).mono ?_); rintro _ v3 ⟨rfl, hb⟩)
      clear p_0 p_1
      replace Fa := Fa.below hb
      replace Fb := Fb.below hb
      replace Fp := Fp.below hb
      replace Fq := Fq.below hb
      have B4W := hid (B3W.out.trans (hb.mono B3W.out.size))
      clear hb B3W v2
      have p_0 := Fa.2.1
      have p_1 := Fa.2.2
      go_upto_region 14 with (go_at_call 33; (with_reducible refine (hce _).mono ?_); rintro _ v4 ⟨rfl, hb⟩)
      clear p_0 p_1
      replace Fa := Fa.below hb
      replace Fb := Fb.below hb
      replace Fp := Fp.below hb
      replace Fq := Fq.below hb
      have B5W := hid (B4W.out.trans (hb.mono B4W.out.size))
      clear hb B4W v3
      have a_0 := Fa.2.1
      have a_1 := Fa.2.2
      have b_0 := Fb.2.1
      have b_1 := Fb.2.2
      rcases hwhole with ⟨hu, h1⟩ | ⟨hu, h1⟩
      · have kw : (a2 == 1) = true := by simp; omega
        have kq : (fl == up) = true := by simp; omega
        have ku : 0 = 0 := rfl
        clear hu h1
        go_wp2_with (first | (go_at_call 29; (with_reducible refine (hcm _).mono ?_); rintro _ x1 ⟨rfl, hb⟩; have Ga := Fa.below hb; have Gp := Fp.below hb; have Gq := Fq.below hb; have g_0 := Ga.2.1; have g_1 := Ga.2.2; have gp_0 := Gp.2.1; have gp_1 := Gp.2.2; have gq_0 := Gq.2.1; have gq_1 := Gq.2.2; have BX := hid (B5W.out.trans (hb.mono B5W.out.size)); clear hb) | (go_at_call 29; (with_reducible refine (hcn _).mono ?_); rintro _ x2 ⟨rfl, hb⟩; have Ha := Ga.below hb; have h_0 := Ha.2.1; have h_1 := Ha.2.2; have BY := hid (BX.out.trans (hb.mono BX.out.size)); clear hb))
        go_ret
        exact Gives.mk rfl BY.out
      · have kw : (a2 == 1) = false := by simp; omega
        have kq : (fl == up) = false := by simp; omega
        have ku : (up == fl + 1) = true := by simp; omega
        clear hu h1
        go_wp2_with (first | (go_at_call 29; (with_reducible refine (hcm _).mono ?_); rintro _ x1 ⟨rfl, hb⟩; have Ga := Fa.below hb; have Gp := Fp.below hb; have Gq := Fq.below hb; have g_0 := Ga.2.1; have g_1 := Ga.2.2; have gp_0 := Gp.2.1; have gp_1 := Gp.2.2; have gq_0 := Gq.2.1; have gq_1 := Gq.2.2; have BX := hid (B5W.out.trans (hb.mono B5W.out.size)); clear hb) | (go_at_call 29; (with_reducible refine (hcn _).mono ?_); rintro _ x2 ⟨rfl, hb⟩; have Ha := Ga.below hb; have h_0 := Ha.2.1; have h_1 := Ha.2.2; have BY := hid (BX.out.trans (hb.mono BX.out.size)); clear hb))
        go_ret
        exact Gives.mk rfl BY.out
    · have k1 : decide (X < Y) = false := decide_eq_false (by omega)
      have k2 : decide (Y < X) = false := decide_eq_false (by omega)
      go_upto_region 10 with fail
      clear k1 k2 hw X0 X1 Y0 Y1
      have p_0 := Fa.2.1
      have p_1 := Fa.2.2
      have q_0 := Fc.2.1
      have q_1 := Fc.2.2
      go_upto_region 11 with (go_at_call 19; (with_reducible refine (hac _).mono ?_); rintro _ u ⟨rfl, hb⟩)
      have Fp : FB u.heap.size p1 p2 (u.alloc (Obj.cells #[.int .i64 p1, .int .i64 p2] 23)) := ⟨by simp, by simp [go_sem], by simp [go_sem]⟩
      have BW : Below v0.heap.size v0 (u.alloc (Obj.cells #[.int .i64 p1, .int .i64 p2] 23)) := Below.alloc hb hb.size _
      clear p_0 p_1 q_0 q_1 hb
      replace Fa := Fa.below BW
      replace Fb := Fb.below BW
      replace Fc := Fc.below BW
      have B2W := hid (B1W.out.trans (BW.mono B1W.out.size))
      clear BW B1W
      generalize (u.alloc (Obj.cells #[.int .i64 p1, .int .i64 p2] 23)) = v1 at Fa Fb Fc Fp B2W ⊢
      generalize u.heap.size = kp at Fp ⊢
      clear u
      have p_0 := Fb.2.1
      have p_1 := Fb.2.2
      have q_0 := Fc.2.1
      have q_1 := Fc.2.2
      go_upto_region 12 with (go_at_call 19; (with_reducible refine (hbc _).mono ?_); rintro _ u ⟨rfl, hb⟩)
      have Fq : FB u.heap.size q1 q2 (u.alloc (Obj.cells #[.int .i64 q1, .int .i64 q2] 23)) := ⟨by simp, by simp [go_sem], by simp [go_sem]⟩
      have BW : Below v1.heap.size v1 (u.alloc (Obj.cells #[.int .i64 q1, .int .i64 q2] 23)) := Below.alloc hb hb.size _
      clear p_0 p_1 q_0 q_1 hb
      replace Fa := Fa.below BW
      replace Fb := Fb.below BW
      replace Fc := Fc.below BW
      replace Fp := Fp.below BW
      have B3W := hid (B2W.out.trans (BW.mono B2W.out.size))
      clear BW B2W
      generalize (u.alloc (Obj.cells #[.int .i64 q1, .int .i64 q2] 23)) = v2 at Fa Fb Fc Fp Fq B3W ⊢
      generalize u.heap.size = kq at Fq ⊢
      clear u
      clear Fc
      have p_0 := Fa.2.1
      have p_1 := Fa.2.2
      go_upto_region 13 with (go_at_call 31; (with_reducible refine (hfl _).mono ?_); rintro _ v3 ⟨rfl, hb⟩)
      clear p_0 p_1
      replace Fa := Fa.below hb
      replace Fb := Fb.below hb
      replace Fp := Fp.below hb
      replace Fq := Fq.below hb
      have B4W := hid (B3W.out.trans (hb.mono B3W.out.size))
      clear hb B3W v2
      have p_0 := Fa.2.1
      have p_1 := Fa.2.2
      go_upto_region 14 with (go_at_call 33; (with_reducible refine (hce _).mono ?_); rintro _ v4 ⟨rfl, hb⟩)
      clear p_0 p_1
      replace Fa := Fa.below hb
      replace Fb := Fb.below hb
      replace Fp := Fp.below hb
      replace Fq := Fq.below hb
      have B5W := hid (B4W.out.trans (hb.mono B4W.out.size))
      clear hb B4W v3
      have a_0 := Fa.2.1
      have a_1 := Fa.2.2
      have b_0 := Fb.2.1
      have b_1 := Fb.2.2
      rcases hwhole with ⟨hu, h1⟩ | ⟨hu, h1⟩
      · have kw : (a2 == 1) = true := by simp; omega
        have kq : (fl == up) = true := by simp; omega
        have ku : 0 = 0 := rfl
        clear hu h1
        go_wp2_with (first | (go_at_call 29; (with_reducible refine (hcm _).mono ?_); rintro _ x1 ⟨rfl, hb⟩; have Ga := Fa.below hb; have Gp := Fp.below hb; have Gq := Fq.below hb; have g_0 := Ga.2.1; have g_1 := Ga.2.2; have gp_0 := Gp.2.1; have gp_1 := Gp.2.2; have gq_0 := Gq.2.1; have gq_1 := Gq.2.2; have BX := hid (B5W.out.trans (hb.mono B5W.out.size)); clear hb) | (go_at_call 29; (with_reducible refine (hcn _).mono ?_); rintro _ x2 ⟨rfl, hb⟩; have Ha := Ga.below hb; have h_0 := Ha.2.1; have h_1 := Ha.2.2; have BY := hid (BX.out.trans (hb.mono BX.out.size)); clear hb))
        go_ret
        exact Gives.mk rfl BY.out
      · have kw : (a2 == 1) = false := by simp; omega
        have kq : (fl == up) = false := by simp; omega
        have ku : (up == fl + 1) = true := by simp; omega
        clear hu h1
        go_wp2_with (first | (go_at_call 29; (with_reducible refine (hcm _).mono ?_); rintro _ x1 ⟨rfl, hb⟩; have Ga := Fa.below hb; have Gp := Fp.below hb; have Gq := Fq.below hb; have g_0 := Ga.2.1; have g_1 := Ga.2.2; have gp_0 := Gp.2.1; have gp_1 := Gp.2.2; have gq_0 := Gq.2.1; have gq_1 := Gq.2.2; have BX := hid (B5W.out.trans (hb.mono B5W.out.size)); clear hb) | (go_at_call 29; (with_reducible refine (hcn _).mono ?_); rintro _ x2 ⟨rfl, hb⟩; have Ha := Ga.below hb; have h_0 := Ha.2.1; have h_1 := Ha.2.2; have BY := hid (BX.out.trans (hb.mono BX.out.size)); clear hb))
        go_ret
        exact Gives.mk rfl BY.out
    · have k1 : decide (X < Y) = false := decide_eq_false (by omega)
      have k2 : decide (Y < X) = true := decide_eq_true hw
      go_upto_region 10 with fail
      clear k1 k2 hw X0 X1 Y0 Y1
      have p_0 := Fa.2.1
      have p_1 := Fa.2.2
      have q_0 := Fc.2.1
      have q_1 := Fc.2.2
      go_upto_region 11 with (go_at_call 19; (with_reducible refine (hac _).mono ?_); rintro _ u ⟨rfl, hb⟩)
      have Fp : FB u.heap.size p1 p2 (u.alloc (Obj.cells #[.int .i64 p1, .int .i64 p2] 23)) := ⟨by simp, by simp [go_sem], by simp [go_sem]⟩
      have BW : Below v0.heap.size v0 (u.alloc (Obj.cells #[.int .i64 p1, .int .i64 p2] 23)) := Below.alloc hb hb.size _
      clear p_0 p_1 q_0 q_1 hb
      replace Fa := Fa.below BW
      replace Fb := Fb.below BW
      replace Fc := Fc.below BW
      have B2W := hid (B1W.out.trans (BW.mono B1W.out.size))
      clear BW B1W
      generalize (u.alloc (Obj.cells #[.int .i64 p1, .int .i64 p2] 23)) = v1 at Fa Fb Fc Fp B2W ⊢
      generalize u.heap.size = kp at Fp ⊢
      clear u
      have p_0 := Fb.2.1
      have p_1 := Fb.2.2
      have q_0 := Fc.2.1
      have q_1 := Fc.2.2
      go_upto_region 12 with (go_at_call 19; (with_reducible refine (hbc _).mono ?_); rintro _ u ⟨rfl, hb⟩)
      have Fq : FB u.heap.size q1 q2 (u.alloc (Obj.cells #[.int .i64 q1, .int .i64 q2] 23)) := ⟨by simp, by simp [go_sem], by simp [go_sem]⟩
      have BW : Below v1.heap.size v1 (u.alloc (Obj.cells #[.int .i64 q1, .int .i64 q2] 23)) := Below.alloc hb hb.size _
      clear p_0 p_1 q_0 q_1 hb
      replace Fa := Fa.below BW
      replace Fb := Fb.below BW
      replace Fc := Fc.below BW
      replace Fp := Fp.below BW
      have B3W := hid (B2W.out.trans (BW.mono B2W.out.size))
      clear BW B2W
      generalize (u.alloc (Obj.cells #[.int .i64 q1, .int .i64 q2] 23)) = v2 at Fa Fb Fc Fp Fq B3W ⊢
      generalize u.heap.size = kq at Fq ⊢
      clear u
      clear Fc
      have p_0 := Fa.2.1
      have p_1 := Fa.2.2
      go_upto_region 13 with (go_at_call 31; (with_reducible refine (hfl _).mono ?_); rintro _ v3 ⟨rfl, hb⟩)
      clear p_0 p_1
      replace Fa := Fa.below hb
      replace Fb := Fb.below hb
      replace Fp := Fp.below hb
      replace Fq := Fq.below hb
      have B4W := hid (B3W.out.trans (hb.mono B3W.out.size))
      clear hb B3W v2
      have p_0 := Fa.2.1
      have p_1 := Fa.2.2
      go_upto_region 14 with (go_at_call 33; (with_reducible refine (hce _).mono ?_); rintro _ v4 ⟨rfl, hb⟩)
      clear p_0 p_1
      replace Fa := Fa.below hb
      replace Fb := Fb.below hb
      replace Fp := Fp.below hb
      replace Fq := Fq.below hb
      have B5W := hid (B4W.out.trans (hb.mono B4W.out.size))
      clear hb B4W v3
      have a_0 := Fa.2.1
      have a_1 := Fa.2.2
      have b_0 := Fb.2.1
      have b_1 := Fb.2.2
      rcases hwhole with ⟨hu, h1⟩ | ⟨hu, h1⟩
      · have kw : (a2 == 1) = true := by simp; omega
        have kq : (fl == up) = true := by simp; omega
        have ku : 0 = 0 := rfl
        clear hu h1
        go_wp2_with (first | (go_at_call 29; (with_reducible refine (hcm _).mono ?_); rintro _ x1 ⟨rfl, hb⟩; have Ga := Fa.below hb; have Gp := Fp.below hb; have Gq := Fq.below hb; have g_0 := Ga.2.1; have g_1 := Ga.2.2; have gp_0 := Gp.2.1; have gp_1 := Gp.2.2; have gq_0 := Gq.2.1; have gq_1 := Gq.2.2; have BX := hid (B5W.out.trans (hb.mono B5W.out.size)); clear hb) | (go_at_call 29; (with_reducible refine (hcn _).mono ?_); rintro _ x2 ⟨rfl, hb⟩; have Ha := Ga.below hb; have h_0 := Ha.2.1; have h_1 := Ha.2.2; have BY := hid (BX.out.trans (hb.mono BX.out.size)); clear hb))
        go_ret
        exact Gives.mk rfl BY.out
      · have kw : (a2 == 1) = false := by simp; omega
        have kq : (fl == up) = false := by simp; omega
        have ku : (up == fl + 1) = true := by simp; omega
        clear hu h1
        go_wp2_with (first | (go_at_call 29; (with_reducible refine (hcm _).mono ?_); rintro _ x1 ⟨rfl, hb⟩; have Ga := Fa.below hb; have Gp := Fp.below hb; have Gq := Fq.below hb; have g_0 := Ga.2.1; have g_1 := Ga.2.2; have gp_0 := Gp.2.1; have gp_1 := Gp.2.2; have gq_0 := Gq.2.1; have gq_1 := Gq.2.2; have BX := hid (B5W.out.trans (hb.mono B5W.out.size)); clear hb) | (go_at_call 29; (with_reducible refine (hcn _).mono ?_); rintro _ x2 ⟨rfl, hb⟩; have Ha := Ga.below hb; have h_0 := Ha.2.1; have h_1 := Ha.2.2; have BY := hid (BX.out.trans (hb.mono BX.out.size)); clear hb))
        go_ret
        exact Gives.mk rfl BY.out
end Go.Proofs.YtjbnejhpfknfcaaDoor
