/-
  Layer 4: the examples of the chapter.
-/
import Derived.Test.YtgfjofdjicepiaaDoorUany
import Derived.Test.YtgfjofdjicepiaaDoorUtany
namespace Go.Proofs.YtgfjofdjicepiaaDoor
open Go.RowKit
set_option linter.unusedVariables false
set_option linter.unusedSimpArgs false

theorem uwrites_of (k n : Int) (S : ByteArray) (w : World) (fm : ∀ w : World, Calls Tryd.prog 15 #[.int .i64 k, .int .i64 n] w (Gives (.tuple #[.string S, .int .i64 0]) w)) : Calls Tryd.prog 39 #[.int .i64 k, .int .i64 n, .string S] w (Gives (.bool true) w) := by
  go_enter Tryd.func39, Tryd.ntmps39
  go_wp2_with fail
  refine (fm _).mono ?_; rintro _ w1 ⟨rfl, hb⟩
  go_wp2_with fail
  go_ret
  exact Gives.mk rfl (by repeat' (first | (with_reducible exact Below.refl _ _) | (with_reducible refine Below.alloc ?_ ?_ _) | (with_reducible refine Below.setCell ?_ ?_ _) | (with_reducible refine Below.drew ?_) | (with_reducible refine Below.trans ?_ (Below.mono (by assumption) ?_)) | (simp; done) | (simp; omega) | omega))
theorem uwrites_at (k n : Int) (S : ByteArray) (w : World) (fm : ∀ W, Below w.heap.size w W → Calls Tryd.prog 15 #[.int .i64 k, .int .i64 n] W (Gives (.tuple #[.string S, .int .i64 0]) W)) : Calls Tryd.prog 39 #[.int .i64 k, .int .i64 n, .string S] w (Gives (.bool true) w) := by
  go_enter Tryd.func39, Tryd.ntmps39
  go_wp2_with fail
  refine (fm _ (Below.refl _ _)).mono ?_; rintro _ w1 ⟨rfl, hb⟩
  go_wp2_with fail
  go_ret
  exact Gives.mk rfl (by repeat' (first | (with_reducible exact Below.refl _ _) | (with_reducible refine Below.alloc ?_ ?_ _) | (with_reducible refine Below.setCell ?_ ?_ _) | (with_reducible refine Below.drew ?_) | (with_reducible refine Below.trans ?_ (Below.mono (by assumption) ?_)) | (simp; done) | (simp; omega) | omega))
theorem ureads_at (k n : Int) (S : ByteArray) (w : World) (fm : ∀ W, Below w.heap.size w W → Calls Tryd.prog 18 #[.int .i64 k, .string S] W (Gives (.tuple #[.int .i64 n, .int .i64 0]) W)) : Calls Tryd.prog 40 #[.int .i64 k, .string S, .int .i64 n] w (Gives (.bool true) w) := by
  go_enter Tryd.func40, Tryd.ntmps40
  go_wp2_with fail
  refine (fm _ (Below.refl _ _)).mono ?_; rintro _ w1 ⟨rfl, hb⟩
  go_wp2_with fail
  go_ret
  exact Gives.mk rfl (by repeat' (first | (with_reducible exact Below.refl _ _) | (with_reducible refine Below.alloc ?_ ?_ _) | (with_reducible refine Below.setCell ?_ ?_ _) | (with_reducible refine Below.drew ?_) | (with_reducible refine Below.trans ?_ (Below.mono (by assumption) ?_)) | (simp; done) | (simp; omega) | omega))

set_option maxRecDepth 100000 in
set_option maxHeartbeats 4000000 in
theorem urounds_of (n d r1 r2 r3 r4 : Int) (w : World) (rd1 : ∀ w : World, Calls Tryd.prog 20 #[.agg #[.int .i64 n, .int .i64 d], .int .i64 1] w (Gives (.tuple #[.int .i64 r1, .int .i64 0]) w)) (rd2 : ∀ w : World, Calls Tryd.prog 20 #[.agg #[.int .i64 n, .int .i64 d], .int .i64 2] w (Gives (.tuple #[.int .i64 r2, .int .i64 0]) w)) (rd3 : ∀ w : World, Calls Tryd.prog 20 #[.agg #[.int .i64 n, .int .i64 d], .int .i64 3] w (Gives (.tuple #[.int .i64 r3, .int .i64 0]) w)) (rd4 : ∀ w : World, Calls Tryd.prog 20 #[.agg #[.int .i64 n, .int .i64 d], .int .i64 4] w (Gives (.tuple #[.int .i64 r4, .int .i64 0]) w)) :
    Calls Tryd.prog 41 #[.int .i64 n, .int .i64 d, .agg #[.int .i64 r1, .int .i64 r2, .int .i64 r3, .int .i64 r4]] w (Gives (.bool true) w) := by
  go_enter Tryd.func41, Tryd.ntmps41
  go_wp2_with fail
  refine wp_loop_rounds 5 ?_
  rw [rounds_succ]
  go_wp2_with fail
  refine (rd1 _).mono ?_; rintro _ w1 ⟨rfl, hb⟩
  have z1 : w.heap.size < w1.heap.size := Nat.lt_of_lt_of_le (show w.heap.size < _ from (by first | assumption | (simp; done) | (simp; omega) | (dsimp only; omega) | omega)) hb.size
  have c10 := (hb.cell (p := ⟨w.heap.size, 0, none⟩) (by first | assumption | (simp; done) | (simp; omega) | (dsimp only; omega) | omega)).trans (show _ = some (.int .i64 r1) from (by first | assumption | (simp [go_sem]; done) | (simp [go_sem, *]; done)))
  have c11 := (hb.cell (p := ⟨w.heap.size, 1, none⟩) (by first | assumption | (simp; done) | (simp; omega) | (dsimp only; omega) | omega)).trans (show _ = some (.int .i64 r2) from (by first | assumption | (simp [go_sem]; done) | (simp [go_sem, *]; done)))
  have c12 := (hb.cell (p := ⟨w.heap.size, 2, none⟩) (by first | assumption | (simp; done) | (simp; omega) | (dsimp only; omega) | omega)).trans (show _ = some (.int .i64 r3) from (by first | assumption | (simp [go_sem]; done) | (simp [go_sem, *]; done)))
  have c13 := (hb.cell (p := ⟨w.heap.size, 3, none⟩) (by first | assumption | (simp; done) | (simp; omega) | (dsimp only; omega) | omega)).trans (show _ = some (.int .i64 r4) from (by first | assumption | (simp [go_sem]; done) | (simp [go_sem, *]; done)))
  have B1 : Below w.heap.size w w1 := by repeat' (first | (with_reducible exact Below.refl _ _) | (with_reducible refine Below.alloc ?_ ?_ _) | (with_reducible refine Below.setCell ?_ ?_ _) | (with_reducible refine Below.drew ?_) | (with_reducible refine Below.trans ?_ (Below.mono (by assumption) ?_)) | (simp; done) | (simp; omega) | omega)
  clear hb rd1
  go_wp2_with fail
  rw [rounds_succ]
  go_wp2_with fail
  refine (rd2 _).mono ?_; rintro _ w2 ⟨rfl, hb⟩
  have z2 : w.heap.size < w2.heap.size := Nat.lt_of_lt_of_le z1 hb.size
  have c20 := (hb.cell (p := ⟨w.heap.size, 0, none⟩) z1).trans c10
  have c21 := (hb.cell (p := ⟨w.heap.size, 1, none⟩) z1).trans c11
  have c22 := (hb.cell (p := ⟨w.heap.size, 2, none⟩) z1).trans c12
  have c23 := (hb.cell (p := ⟨w.heap.size, 3, none⟩) z1).trans c13
  have B2 : Below w.heap.size w w2 := B1.trans (hb.mono B1.size)
  clear hb rd2 B1 z1 c10 c11 c12 c13
  go_wp2_with fail
  rw [rounds_succ]
  go_wp2_with fail
  refine (rd3 _).mono ?_; rintro _ w3 ⟨rfl, hb⟩
  have z3 : w.heap.size < w3.heap.size := Nat.lt_of_lt_of_le z2 hb.size
  have c30 := (hb.cell (p := ⟨w.heap.size, 0, none⟩) z2).trans c20
  have c31 := (hb.cell (p := ⟨w.heap.size, 1, none⟩) z2).trans c21
  have c32 := (hb.cell (p := ⟨w.heap.size, 2, none⟩) z2).trans c22
  have c33 := (hb.cell (p := ⟨w.heap.size, 3, none⟩) z2).trans c23
  have B3 : Below w.heap.size w w3 := B2.trans (hb.mono B2.size)
  clear hb rd3 B2 z2 c20 c21 c22 c23
  go_wp2_with fail
  rw [rounds_succ]
  go_wp2_with fail
  refine (rd4 _).mono ?_; rintro _ w4 ⟨rfl, hb⟩
  have z4 : w.heap.size < w4.heap.size := Nat.lt_of_lt_of_le z3 hb.size
  have c40 := (hb.cell (p := ⟨w.heap.size, 0, none⟩) z3).trans c30
  have c41 := (hb.cell (p := ⟨w.heap.size, 1, none⟩) z3).trans c31
  have c42 := (hb.cell (p := ⟨w.heap.size, 2, none⟩) z3).trans c32
  have c43 := (hb.cell (p := ⟨w.heap.size, 3, none⟩) z3).trans c33
  have B4 : Below w.heap.size w w4 := B3.trans (hb.mono B3.size)
  clear hb rd4 B3 z3 c30 c31 c32 c33
  go_wp2_with fail
  rw [rounds_succ]
  go_wp2_with fail
  go_ret
  exact Gives.mk rfl B4

set_option maxRecDepth 100000 in
set_option maxHeartbeats 4000000 in
theorem uawake_walk (w : World)
    (x0 : ∀ W, Below w.heap.size w W → Calls Tryd.prog 39 #[.int .i64 1, .int .i64 125, .string ⟨#[49, 50, 46, 53, 32, 109]⟩] W (Gives (.bool true) W))
    (x1 : ∀ W, Below w.heap.size w W → Calls Tryd.prog 39 #[.int .i64 1, .int .i64 (-5), .string ⟨#[45, 48, 46, 53, 32, 109]⟩] W (Gives (.bool true) W))
    (x2 : ∀ W, Below w.heap.size w W → Calls Tryd.prog 39 #[.int .i64 3, .int .i64 1250, .string ⟨#[49, 46, 50, 53, 48, 32, 109, 51]⟩] W (Gives (.bool true) W))
    (x3 : ∀ W, Below w.heap.size w W → Calls Tryd.prog 39 #[.int .i64 5, .int .i64 0, .string ⟨#[48, 46, 48, 48, 32, 107, 114]⟩] W (Gives (.bool true) W))
    (x4 : ∀ W, Below w.heap.size w W → Calls Tryd.prog 40 #[.int .i64 3, .string ⟨#[49, 46, 50, 53, 32, 109, 51]⟩, .int .i64 1250] W (Gives (.bool true) W))
    (x5 : ∀ W, Below w.heap.size w W → Calls Tryd.prog 40 #[.int .i64 3, .string ⟨#[55, 32, 109, 51]⟩, .int .i64 7000] W (Gives (.bool true) W))
    (he : ∀ w : World, Calls Tryd.prog 22 #[.int .i64 3000000] w (Gives (.tuple #[.agg #[.int .i64 3, .int .i64 2], .int .i64 0]) w))
    (pe : ∀ w : World, Calls Tryd.prog 24 #[.int .i64 12, .int .i64 1000000] w (Gives (.tuple #[.agg #[.int .i64 24, .int .i64 1], .int .i64 0]) w))
    (da : ∀ W, Below w.heap.size w W → Calls Tryd.prog 29 #[.int .i64 400] W (Gives (.tuple #[.string ⟨#[49, 45, 48, 51, 54]⟩, .int .i64 0]) W))
    (we : ∀ w : World, Calls Tryd.prog 27 #[.int .i64 400] w (Gives (.tuple #[.int .i64 1, .int .i64 0]) w))
    (pa : ∀ W, Below w.heap.size w W → Calls Tryd.prog 18 #[.int .i64 3, .string ⟨#[48, 48, 55, 32, 109, 51]⟩] W (Gives (.tuple #[.int .i64 0, .int .i64 4]) W))
    (ro0 : ∀ w : World, Calls Tryd.prog 41 #[.int .i64 5, .int .i64 2, .agg #[.int .i64 2, .int .i64 3, .int .i64 3, .int .i64 2]] w (Gives (.bool true) w))
    (ro1 : ∀ w : World, Calls Tryd.prog 41 #[.int .i64 (-5), .int .i64 2, .agg #[.int .i64 (-3), .int .i64 (-2), .int .i64 (-2), .int .i64 (-2)]] w (Gives (.bool true) w))
    (ro2 : ∀ w : World, Calls Tryd.prog 41 #[.int .i64 7, .int .i64 2, .agg #[.int .i64 3, .int .i64 4, .int .i64 4, .int .i64 4]] w (Gives (.bool true) w)) :
    Calls Tryd.prog 17 #[] w (Gives (.bool true) w) := by
  go_enter Tryd.func17, Tryd.ntmps17
  have B0 := Below.refl w.heap.size w
  go_wp2_with fail
  refine (x0 _ B0).mono ?_; rintro _ w1 ⟨rfl, hb⟩
  have B1 : Below w.heap.size w w1 := B0.trans (hb.mono B0.size)
  clear hb B0
  go_wp2_with fail
  refine (x1 _ B1).mono ?_; rintro _ w2 ⟨rfl, hb⟩
  have B2 : Below w.heap.size w w2 := B1.trans (hb.mono B1.size)
  clear hb B1
  go_wp2_with fail
  refine (x2 _ B2).mono ?_; rintro _ w3 ⟨rfl, hb⟩
  have B3 : Below w.heap.size w w3 := B2.trans (hb.mono B2.size)
  clear hb B2
  go_wp2_with fail
  refine (x3 _ B3).mono ?_; rintro _ w4 ⟨rfl, hb⟩
  have B4 : Below w.heap.size w w4 := B3.trans (hb.mono B3.size)
  clear hb B3
  go_wp2_with fail
  refine (x4 _ B4).mono ?_; rintro _ w5 ⟨rfl, hb⟩
  have B5 : Below w.heap.size w w5 := B4.trans (hb.mono B4.size)
  clear hb B4
  go_wp2_with fail
  refine (x5 _ B5).mono ?_; rintro _ w6 ⟨rfl, hb⟩
  have B6 : Below w.heap.size w w6 := B5.trans (hb.mono B5.size)
  clear hb B5
  go_upto_region 4 with (go_at_call 22; (with_reducible refine (he _).mono ?_); rintro _ u ⟨rfl, hb⟩)
  have Fh : UB u.heap.size 3 2 (u.alloc (Obj.cells #[.int .i64 3, .int .i64 2] 32)) := ⟨by simp, by simp [go_sem], by simp [go_sem]⟩
  have BW : Below w6.heap.size w6 (u.alloc (Obj.cells #[.int .i64 3, .int .i64 2] 32)) := Below.alloc hb hb.size _
  clear hb
  have B7 : Below w.heap.size w (u.alloc (Obj.cells #[.int .i64 3, .int .i64 2] 32)) := B6.trans (BW.mono B6.size)
  clear BW B6
  generalize (u.alloc (Obj.cells #[.int .i64 3, .int .i64 2] 32)) = w7 at Fh  B7 ⊢
  generalize u.heap.size = kh at Fh ⊢
  clear u
  go_upto_region 5 with (go_at_call 24; (with_reducible refine (pe _).mono ?_); rintro _ u ⟨rfl, hb⟩)
  have Fp : UB u.heap.size 24 1 (u.alloc (Obj.cells #[.int .i64 24, .int .i64 1] 32)) := ⟨by simp, by simp [go_sem], by simp [go_sem]⟩
  have BW : Below w7.heap.size w7 (u.alloc (Obj.cells #[.int .i64 24, .int .i64 1] 32)) := Below.alloc hb hb.size _
  clear hb
  replace Fh := Fh.below BW
  have B8 : Below w.heap.size w (u.alloc (Obj.cells #[.int .i64 24, .int .i64 1] 32)) := B7.trans (BW.mono B7.size)
  clear BW B7
  generalize (u.alloc (Obj.cells #[.int .i64 24, .int .i64 1] 32)) = w8 at Fp Fh B8 ⊢
  generalize u.heap.size = kp at Fp ⊢
  clear u
  go_wp2_with fail
  refine (da _ B8).mono ?_; rintro _ w9 ⟨rfl, hb⟩
  replace Fh := Fh.below hb
  replace Fp := Fp.below hb
  have B9 : Below w.heap.size w w9 := B8.trans (hb.mono B8.size)
  clear hb B8
  go_wp2_with fail
  refine (we _).mono ?_; rintro _ w10 ⟨rfl, hb⟩
  replace Fh := Fh.below hb
  replace Fp := Fp.below hb
  have B10 : Below w.heap.size w w10 := B9.trans (hb.mono B9.size)
  clear hb B9
  go_wp2_with fail
  refine (pa _ B10).mono ?_; rintro _ w11 ⟨rfl, hb⟩
  replace Fh := Fh.below hb
  replace Fp := Fp.below hb
  have B11 : Below w.heap.size w w11 := B10.trans (hb.mono B10.size)
  clear hb B10
  have h0 := Fh.2.1
  have h1 := Fh.2.2
  have p0 := Fp.2.1
  have p1 := Fp.2.2
  go_wp2_with fail
  refine (ro0 _).mono ?_; rintro _ w12 ⟨rfl, hb⟩
  have B12 : Below w.heap.size w w12 := B11.trans (hb.mono B11.size)
  clear hb B11
  go_wp2_with fail
  refine (ro1 _).mono ?_; rintro _ w13 ⟨rfl, hb⟩
  have B13 : Below w.heap.size w w13 := B12.trans (hb.mono B12.size)
  clear hb B12
  go_wp2_with fail
  refine (ro2 _).mono ?_; rintro _ w14 ⟨rfl, hb⟩
  have B14 : Below w.heap.size w w14 := B13.trans (hb.mono B13.size)
  clear hb B13
  go_wp2_with fail
  go_ret
  exact Gives.mk rfl B14

theorem uawake_any (w : World) (ht : Lib.TabIs Tryd.prog w "internal/strconv.uint64pow10" .u64 Lib.pow10Tab) (K : KI w) :
    Calls Tryd.prog 17 #[] w (Gives (.bool true) w) := by
  have wr : ∀ (k n : Int) (S : ByteArray) (h : Sp.formatS k n = (S.data.toList, 0)) (n0 : -9223372036854775808 ≤ n) (n1 : n ≤ 9223372036854775807), ∀ W, Below w.heap.size w W → Calls Tryd.prog 39 #[.int .i64 k, .int .i64 n, .string S] W (Gives (.bool true) W) := by
    intro k n S h n0 n1 W B
    refine uwrites_at k n S W fun W2 B2 => ?_
    have BB := B.trans (B2.mono B.size)
    have := uformat_any k n n0 n1 W2 (tab_below gPow ht BB) (K.below BB)
    rw [h] at this
    exact this
  have rd : ∀ (k n : Int) (S : ByteArray) (h : Sp.parseU k S.data.toList = (n, 0)), ∀ W, Below w.heap.size w W → Calls Tryd.prog 40 #[.int .i64 k, .string S, .int .i64 n] W (Gives (.bool true) W) := by
    intro k n S h W B
    refine ureads_at k n S W fun W2 B2 => ?_
    have := uparse_any k S W2 (K.below (B.trans (B2.mono B.size)))
    rw [h] at this
    exact this
  have ro : ∀ (n r1 r2 r3 r4 : Int) (n0 : -9223372036854775808 ≤ n) (n1 : n ≤ 9223372036854775807) (h1 : Sp.roundS n 2 1 = (r1, 0)) (h2 : Sp.roundS n 2 2 = (r2, 0)) (h3 : Sp.roundS n 2 3 = (r3, 0)) (h4 : Sp.roundS n 2 4 = (r4, 0)) (W : World), Calls Tryd.prog 41 #[.int .i64 n, .int .i64 2, .agg #[.int .i64 r1, .int .i64 r2, .int .i64 r3, .int .i64 r4]] W (Gives (.bool true) W) := by
    intro n r1 r2 r3 r4 n0 n1 h1 h2 h3 h4 W
    have c1 := fun W => uround_any n 2 1 n0 n1 (by omega) (by omega) W
    have c2 := fun W => uround_any n 2 2 n0 n1 (by omega) (by omega) W
    have c3 := fun W => uround_any n 2 3 n0 n1 (by omega) (by omega) W
    have c4 := fun W => uround_any n 2 4 n0 n1 (by omega) (by omega) W
    rw [h1] at c1
    rw [h2] at c2
    rw [h3] at c3
    rw [h4] at c4
    exact urounds_of n 2 r1 r2 r3 r4 W c1 c2 c3 c4
  have da : ∀ W, Below w.heap.size w W → Calls Tryd.prog 29 #[.int .i64 400] W (Gives (.tuple #[.string ⟨#[49, 45, 48, 51, 54]⟩, .int .i64 0]) W) := by
    intro W B
    have := udate_any 400 W (tab_below gPow ht B)
    rw [show Sp.dateS 400 = ([49, 45, 48, 51, 54], 0) by decide +kernel] at this
    exact this
  have pa : ∀ W, Below w.heap.size w W → Calls Tryd.prog 18 #[.int .i64 3, .string ⟨#[48, 48, 55, 32, 109, 51]⟩] W (Gives (.tuple #[.int .i64 0, .int .i64 4]) W) := by
    intro W B
    have := uparse_any 3 ⟨#[48, 48, 55, 32, 109, 51]⟩ W (K.below B)
    rw [show Sp.parseU 3 (⟨#[48, 48, 55, 32, 109, 51]⟩ : ByteArray).data.toList = (0, 4) by decide +kernel] at this
    exact this
  have we : ∀ w : World, Calls Tryd.prog 27 #[.int .i64 400] w (Gives (.tuple #[.int .i64 1, .int .i64 0]) w) := fun w => uweek_any 400 1 0 (.inr ⟨by omega, by decide, rfl⟩) w
  exact uawake_walk w (wr 1 125 ⟨#[49, 50, 46, 53, 32, 109]⟩ (by decide +kernel) (by omega) (by omega)) (wr 1 (-5) ⟨#[45, 48, 46, 53, 32, 109]⟩ (by decide +kernel) (by omega) (by omega)) (wr 3 1250 ⟨#[49, 46, 50, 53, 48, 32, 109, 51]⟩ (by decide +kernel) (by omega) (by omega)) (wr 5 0 ⟨#[48, 46, 48, 48, 32, 107, 114]⟩ (by decide +kernel) (by omega) (by omega)) (rd 3 1250 ⟨#[49, 46, 50, 53, 32, 109, 51]⟩ (by decide +kernel)) (rd 3 7000 ⟨#[55, 32, 109, 51]⟩ (by decide +kernel))
    (fun w => uhect_any 3000000 3 2 0 (by omega) (by omega) (by decide +kernel) w) (fun w => uperh_any 12 1000000 24 1 0 (by omega) (by omega) (by omega) (by omega) (by decide +kernel) w) da we pa
    (ro 5 2 3 3 2 (by omega) (by omega) (by decide +kernel) (by decide +kernel) (by decide +kernel) (by decide +kernel)) (ro (-5) (-3) (-2) (-2) (-2) (by omega) (by omega) (by decide +kernel) (by decide +kernel) (by decide +kernel) (by decide +kernel)) (ro 7 3 4 4 4 (by omega) (by omega) (by decide +kernel) (by decide +kernel) (by decide +kernel) (by decide +kernel))

end Go.Proofs.YtgfjofdjicepiaaDoor
