/-
  UnitsBetween: the walk.
-/
import Derived.Test.YtgfjofdjicepiaaDoorUawake
import Derived.Test.YtgfjofdjicepiaaDoorUkinds
import Derived.Test.YtgfjofdjicepiaaDoorUbox
import Derived.Test.YtgfjofdjicepiaaDoorFops2
namespace Go.Proofs.YtgfjofdjicepiaaDoor
open Go.RowKit
set_option linter.unusedVariables false
set_option linter.unusedSimpArgs false

set_option maxRecDepth 100000 in
set_option maxHeartbeats 4000000 in
theorem ubet_bad (n d e : Int) (e0 : ¬ e = 0) (w : World) (ru : ∀ w : World, Calls Tryd.prog 20 #[.agg #[.int .i64 n, .int .i64 d], .int .i64 1] w (Gives (.tuple #[.int .i64 0, .int .i64 e]) w)) (ck : ∀ w : World, Calls Tryd.prog 33 #[.agg #[.int .i64 n, .int .i64 d]] w (Gives (.int .i64 e) w))
    (aw : ∀ W, Below w.heap.size w W → Calls Tryd.prog 17 #[] W (Gives (.bool true) W)) :
    Calls Tryd.prog 9 #[.agg #[.int .i64 n, .int .i64 d]] w (Gives (.bool true) w) := by
  have g : (e != 0) = true := by simpa using e0
  go_enter Tryd.func9, Tryd.ntmps9
  go_wp2_with fail
  refine wp_loop_rounds 1 ?_
  rw [rounds_succ]
  go_wp2_with fail
  refine (ru _).mono ?_; rintro _ w1 ⟨rfl, hb⟩
  have pz : w.heap.size < (w1).heap.size := Nat.lt_of_lt_of_le (show w.heap.size < _ from (by first | assumption | (simp; done) | (simp; omega) | (dsimp only; omega) | omega)) hb.size; have p0 : (w1).cell? ⟨w.heap.size, 0, none⟩ = some (.int .i64 n) := (hb.cell (p := ⟨w.heap.size, 0, none⟩) (by first | assumption | (simp; done) | (simp; omega) | (dsimp only; omega) | omega)).trans (by first | assumption | (simp [go_sem]; done) | (simp [go_sem, *]; done)); have p1 : (w1).cell? ⟨w.heap.size, 1, none⟩ = some (.int .i64 d) := (hb.cell (p := ⟨w.heap.size, 1, none⟩) (by first | assumption | (simp; done) | (simp; omega) | (dsimp only; omega) | omega)).trans (by first | assumption | (simp [go_sem]; done) | (simp [go_sem, *]; done)); have pf : ∀ o, (w1).frozen? ⟨w.heap.size, o, none⟩ = false := fun o => (hb.frozen (p := ⟨w.heap.size, o, none⟩) (by first | assumption | (simp; done) | (simp; omega) | (dsimp only; omega) | omega)).trans (by first | (simp [go_sem]; done) | (simp [*]; done))
  have B1 : Below w.heap.size w w1 := by repeat' (first | (with_reducible exact Below.refl _ _) | (with_reducible refine Below.alloc ?_ ?_ _) | (with_reducible refine Below.setCell ?_ ?_ _) | (with_reducible refine Below.drew ?_) | (with_reducible refine Below.trans ?_ (Below.mono (by assumption) ?_)) | (simp; done) | (simp; omega) | omega)
  clear hb ru
  go_wp2_with fail
  refine (ck _).mono ?_; rintro _ w2 ⟨rfl, hb⟩
  have B2 : Below w.heap.size w w2 := B1.trans (hb.mono B1.size)
  clear hb ck B1
  go_wp2_with fail
  refine (aw _ B2).mono ?_; rintro _ w3 ⟨rfl, hb⟩
  have B3 : Below w.heap.size w w3 := B2.trans (hb.mono B2.size)
  clear hb B2
  go_wp2_with fail
  go_ret
  exact Gives.mk rfl B3

set_option maxRecDepth 100000 in
set_option maxHeartbeats 4000000 in
theorem ubet_whole (n d fl D N T cl ch : Int) (hd : d = 1) (hT0 : T = 0) (f0 : -1000000000000000 ≤ fl) (f1 : fl ≤ 1000000000000000) (hN : fl * d = N) (hD : n - N = D) (hT : 2 * D = T) (b1 : -4000000000000000 ≤ N) (b2 : N ≤ 4000000000000000) (b3 : -4000000000000000 ≤ D) (b4 : D ≤ 4000000000000000) (b7 : -8000000000000000 ≤ T) (b8 : T ≤ 8000000000000000)
    (hcl : cl ≤ 0) (hch : 0 ≤ ch) (w : World) (r1 : ∀ w : World, Calls Tryd.prog 20 #[.agg #[.int .i64 n, .int .i64 d], .int .i64 1] w (Gives (.tuple #[.int .i64 fl, .int .i64 0]) w)) (r2 : ∀ w : World, Calls Tryd.prog 20 #[.agg #[.int .i64 n, .int .i64 d], .int .i64 2] w (Gives (.tuple #[.int .i64 fl, .int .i64 0]) w))
    (r3 : ∀ w : World, Calls Tryd.prog 20 #[.agg #[.int .i64 n, .int .i64 d], .int .i64 3] w (Gives (.tuple #[.int .i64 fl, .int .i64 0]) w)) (r4 : ∀ w : World, Calls Tryd.prog 20 #[.agg #[.int .i64 n, .int .i64 d], .int .i64 4] w (Gives (.tuple #[.int .i64 fl, .int .i64 0]) w))
    (i1 : ∀ w : World, Calls Tryd.prog 34 #[.int .i64 fl] w (Gives (.tuple #[.agg #[.int .i64 fl, .int .i64 1], .int .i64 0]) w)) (i2 : ∀ w : World, Calls Tryd.prog 34 #[.int .i64 fl] w (Gives (.tuple #[.agg #[.int .i64 fl, .int .i64 1], .int .i64 0]) w))
    (c1 : ∀ w : World, Calls Tryd.prog 35 #[.agg #[.int .i64 fl, .int .i64 1], .agg #[.int .i64 n, .int .i64 d]] w (Gives (.int .i64 cl) w)) (c2 : ∀ w : World, Calls Tryd.prog 35 #[.agg #[.int .i64 fl, .int .i64 1], .agg #[.int .i64 n, .int .i64 d]] w (Gives (.int .i64 ch) w))
    (aw : ∀ W, Below w.heap.size w W → Calls Tryd.prog 17 #[] W (Gives (.bool true) W)) :
    Calls Tryd.prog 9 #[.agg #[.int .i64 n, .int .i64 d]] w (Gives (.bool true) w) := by
  have kl : decide (0 < cl) = false := decide_eq_false (by omega)
  have kh : decide (ch < 0) = false := decide_eq_false (by omega)
  have kd : (d == 1) = true := by simp; omega
  have kt : decide (d < T) = false := decide_eq_false (by omega)
  clear hd hT0
  go_enter Tryd.func9, Tryd.ntmps9
  go_wp2_with fail
  refine wp_loop_rounds 5 ?_
  rw [rounds_succ]
  go_wp2_with fail
  refine (r1 _).mono ?_; rintro _ w1 ⟨rfl, hb⟩
  have pz : w.heap.size < (w1).heap.size := Nat.lt_of_lt_of_le (show w.heap.size < _ from (by first | assumption | (simp; done) | (simp; omega) | (dsimp only; omega) | omega)) hb.size; have p0 : (w1).cell? ⟨w.heap.size, 0, none⟩ = some (.int .i64 n) := (hb.cell (p := ⟨w.heap.size, 0, none⟩) (by first | assumption | (simp; done) | (simp; omega) | (dsimp only; omega) | omega)).trans (by first | assumption | (simp [go_sem]; done) | (simp [go_sem, *]; done)); have p1 : (w1).cell? ⟨w.heap.size, 1, none⟩ = some (.int .i64 d) := (hb.cell (p := ⟨w.heap.size, 1, none⟩) (by first | assumption | (simp; done) | (simp; omega) | (dsimp only; omega) | omega)).trans (by first | assumption | (simp [go_sem]; done) | (simp [go_sem, *]; done)); have pf : ∀ o, (w1).frozen? ⟨w.heap.size, o, none⟩ = false := fun o => (hb.frozen (p := ⟨w.heap.size, o, none⟩) (by first | assumption | (simp; done) | (simp; omega) | (dsimp only; omega) | omega)).trans (by first | (simp [go_sem]; done) | (simp [*]; done))
  have Ff : UB w.heap.size n d w1 := ⟨pz, p0, p1⟩
  have zz : w.heap.size + 1 < w1.heap.size := Nat.lt_of_lt_of_le (show w.heap.size + 1 < _ from (by first | assumption | (simp; done) | (simp; omega) | (dsimp only; omega) | omega)) hb.size
  have z0 := (hb.cell (p := ⟨w.heap.size + 1, 0, none⟩) (by first | assumption | (simp; done) | (simp; omega) | (dsimp only; omega) | omega)).trans (show _ = some (.int .i64 0) from (by first | assumption | (simp [go_sem]; done) | (simp [go_sem, *]; done)))
  have z1 := (hb.cell (p := ⟨w.heap.size + 1, 1, none⟩) (by first | assumption | (simp; done) | (simp; omega) | (dsimp only; omega) | omega)).trans (show _ = some (.int .i64 0) from (by first | assumption | (simp [go_sem]; done) | (simp [go_sem, *]; done)))
  have z2 := (hb.cell (p := ⟨w.heap.size + 1, 2, none⟩) (by first | assumption | (simp; done) | (simp; omega) | (dsimp only; omega) | omega)).trans (show _ = some (.int .i64 0) from (by first | assumption | (simp [go_sem]; done) | (simp [go_sem, *]; done)))
  have z3 := (hb.cell (p := ⟨w.heap.size + 1, 3, none⟩) (by first | assumption | (simp; done) | (simp; omega) | (dsimp only; omega) | omega)).trans (show _ = some (.int .i64 0) from (by first | assumption | (simp [go_sem]; done) | (simp [go_sem, *]; done)))
  have zf : ∀ o, w1.frozen? ⟨w.heap.size + 1, o, none⟩ = false := fun o => (hb.frozen (p := ⟨w.heap.size + 1, o, none⟩) (by first | assumption | (simp; done) | (simp; omega) | (dsimp only; omega) | omega)).trans (by first | (simp [go_sem]; done) | (simp [*]; done))
  have Fn : AR (w.heap.size + 1) 0 0 0 0 w1 := ⟨zz, z0, z1, z2, z3, zf⟩
  have BN : Below w.heap.size w w1 := by repeat' (first | (with_reducible exact Below.refl _ _) | (with_reducible refine Below.alloc ?_ ?_ _) | (with_reducible refine Below.setCell ?_ ?_ _) | (with_reducible refine Below.drew ?_) | (with_reducible refine Below.trans ?_ (Below.mono (by assumption) ?_)) | (simp; done) | (simp; omega) | omega)
  clear hb pf pz zz p0 p1 z0 z1 z2 z3 zf
  have zf := Fn.2.2.2.2.2
  have z0 := Fn.2.1
  go_wp2_with fail
  clear zf z0
  replace Ff := Ff.other (o := 0) (v := .int .i64 fl) (show w.heap.size ≠ w.heap.size + 1 by omega)
  have Fm := Fn.set0 (r := fl)
  have BV : Below w.heap.size w (w1.setCell ⟨w.heap.size + 1, 0, none⟩ (.int .i64 fl)) := Below.setCell BN (by first | omega | (simp; done) | (simp; omega)) _
  clear Fn BN
  have Fn := Fm
  have BN := BV
  clear Fm BV
  generalize (w1.setCell ⟨w.heap.size + 1, 0, none⟩ (.int .i64 fl)) = v0 at Ff Fn BN ⊢
  clear w1
  rw [rounds_succ]
  have p0 := Ff.2.1
  have p1 := Ff.2.2
  have z0 := Fn.2.1
  have z1 := Fn.2.2.1
  have z2 := Fn.2.2.2.1
  have z3 := Fn.2.2.2.2.1
  have zf := Fn.2.2.2.2.2
  go_wp2_with fail
  refine (r2 _).mono ?_; rintro _ w1 ⟨rfl, hb⟩
  clear p0 p1 z0 z1 z2 z3 zf
  replace Ff := Ff.below hb
  replace Fn := Fn.below hb
  have BN2 : Below w.heap.size w w1 := BN.trans (hb.mono BN.size)
  clear hb BN
  have BN := BN2
  clear BN2
  have zf := Fn.2.2.2.2.2
  have z1 := Fn.2.2.1
  go_wp2_with fail
  clear zf z1
  replace Ff := Ff.other (o := 1) (v := .int .i64 fl) (show w.heap.size ≠ w.heap.size + 1 by omega)
  have Fm := Fn.set1 (r := fl)
  have BV : Below w.heap.size w (w1.setCell ⟨w.heap.size + 1, 1, none⟩ (.int .i64 fl)) := Below.setCell BN (by first | omega | (simp; done) | (simp; omega)) _
  clear Fn BN
  have Fn := Fm
  have BN := BV
  clear Fm BV
  generalize (w1.setCell ⟨w.heap.size + 1, 1, none⟩ (.int .i64 fl)) = v1 at Ff Fn BN ⊢
  clear w1
  rw [rounds_succ]
  have p0 := Ff.2.1
  have p1 := Ff.2.2
  have z0 := Fn.2.1
  have z1 := Fn.2.2.1
  have z2 := Fn.2.2.2.1
  have z3 := Fn.2.2.2.2.1
  have zf := Fn.2.2.2.2.2
  go_wp2_with fail
  refine (r3 _).mono ?_; rintro _ w1 ⟨rfl, hb⟩
  clear p0 p1 z0 z1 z2 z3 zf
  replace Ff := Ff.below hb
  replace Fn := Fn.below hb
  have BN2 : Below w.heap.size w w1 := BN.trans (hb.mono BN.size)
  clear hb BN
  have BN := BN2
  clear BN2
  have zf := Fn.2.2.2.2.2
  have z2 := Fn.2.2.2.1
  go_wp2_with fail
  clear zf z2
  replace Ff := Ff.other (o := 2) (v := .int .i64 fl) (show w.heap.size ≠ w.heap.size + 1 by omega)
  have Fm := Fn.set2 (r := fl)
  have BV : Below w.heap.size w (w1.setCell ⟨w.heap.size + 1, 2, none⟩ (.int .i64 fl)) := Below.setCell BN (by first | omega | (simp; done) | (simp; omega)) _
  clear Fn BN
  have Fn := Fm
  have BN := BV
  clear Fm BV
  generalize (w1.setCell ⟨w.heap.size + 1, 2, none⟩ (.int .i64 fl)) = v2 at Ff Fn BN ⊢
  clear w1
  rw [rounds_succ]
  have p0 := Ff.2.1
  have p1 := Ff.2.2
  have z0 := Fn.2.1
  have z1 := Fn.2.2.1
  have z2 := Fn.2.2.2.1
  have z3 := Fn.2.2.2.2.1
  have zf := Fn.2.2.2.2.2
  go_wp2_with fail
  refine (r4 _).mono ?_; rintro _ w1 ⟨rfl, hb⟩
  clear p0 p1 z0 z1 z2 z3 zf
  replace Ff := Ff.below hb
  replace Fn := Fn.below hb
  have BN2 : Below w.heap.size w w1 := BN.trans (hb.mono BN.size)
  clear hb BN
  have BN := BN2
  clear BN2
  have zf := Fn.2.2.2.2.2
  have z3 := Fn.2.2.2.2.1
  go_wp2_with fail
  clear zf z3
  replace Ff := Ff.other (o := 3) (v := .int .i64 fl) (show w.heap.size ≠ w.heap.size + 1 by omega)
  have Fm := Fn.set3 (r := fl)
  have BV : Below w.heap.size w (w1.setCell ⟨w.heap.size + 1, 3, none⟩ (.int .i64 fl)) := Below.setCell BN (by first | omega | (simp; done) | (simp; omega)) _
  clear Fn BN
  have Fn := Fm
  have BN := BV
  clear Fm BV
  generalize (w1.setCell ⟨w.heap.size + 1, 3, none⟩ (.int .i64 fl)) = v3 at Ff Fn BN ⊢
  clear w1
  rw [rounds_succ]
  have p0 := Ff.2.1
  have p1 := Ff.2.2
  have z0 := Fn.2.1
  have z1 := Fn.2.2.1
  have z2 := Fn.2.2.2.1
  have z3 := Fn.2.2.2.2.1
  go_upto_region 10 with (go_at_call 34; (with_reducible refine (i1 _).mono ?_); rintro _ u ⟨rfl, hb⟩)
  clear p0 p1 z0 z1 z2 z3
  have Fl : UB u.heap.size fl 1 (u.alloc (Obj.cells #[.int .i64 fl, .int .i64 1] 32)) := ⟨by simp, by simp [go_sem], by simp [go_sem]⟩
  have BW : Below v3.heap.size v3 (u.alloc (Obj.cells #[.int .i64 fl, .int .i64 1] 32)) := Below.alloc hb hb.size _
  clear hb
  replace Ff := Ff.below BW
  replace Fn := Fn.below BW
  have BV : Below w.heap.size w (u.alloc (Obj.cells #[.int .i64 fl, .int .i64 1] 32)) := BN.trans (BW.mono BN.size)
  clear BW BN
  have BN := BV
  clear BV
  generalize (u.alloc (Obj.cells #[.int .i64 fl, .int .i64 1] 32)) = xl at Fl Ff Fn BN ⊢
  generalize u.heap.size = kl at Fl ⊢
  clear u
  have p0 := Ff.2.1
  have p1 := Ff.2.2
  have z0 := Fn.2.1
  have z1 := Fn.2.2.1
  have z2 := Fn.2.2.2.1
  have z3 := Fn.2.2.2.2.1
  go_upto_region 11 with (go_at_call 34; (with_reducible refine (i2 _).mono ?_); rintro _ u ⟨rfl, hb⟩)
  clear p0 p1 z0 z1 z2 z3
  have Fh : UB u.heap.size fl 1 (u.alloc (Obj.cells #[.int .i64 fl, .int .i64 1] 32)) := ⟨by simp, by simp [go_sem], by simp [go_sem]⟩
  have BW : Below xl.heap.size xl (u.alloc (Obj.cells #[.int .i64 fl, .int .i64 1] 32)) := Below.alloc hb hb.size _
  clear hb
  replace Ff := Ff.below BW
  replace Fn := Fn.below BW
  replace Fl := Fl.below BW
  have BV : Below w.heap.size w (u.alloc (Obj.cells #[.int .i64 fl, .int .i64 1] 32)) := BN.trans (BW.mono BN.size)
  clear BW BN
  have BN := BV
  clear BV
  generalize (u.alloc (Obj.cells #[.int .i64 fl, .int .i64 1] 32)) = xh at Fh Ff Fn Fl BN ⊢
  generalize u.heap.size = kh at Fh ⊢
  clear u
  have p0 := Ff.2.1
  have p1 := Ff.2.2
  have z0 := Fn.2.1
  have z1 := Fn.2.2.1
  have z2 := Fn.2.2.2.1
  have z3 := Fn.2.2.2.2.1
  have l0 := Fl.2.1
  have l1 := Fl.2.2
  have g0 := Fh.2.1
  have g1 := Fh.2.2
  go_wp2_with fail
  refine (c1 _).mono ?_; rintro _ y0 ⟨rfl, hb⟩
  clear p0 p1 z0 z1 z2 z3 l0 l1 g0 g1
  replace Ff := Ff.below hb
  replace Fn := Fn.below hb
  replace Fl := Fl.below hb
  replace Fh := Fh.below hb
  have BV : Below w.heap.size w y0 := BN.trans (hb.mono BN.size)
  clear hb BN
  have BN := BV
  clear BV
  have p0 := Ff.2.1
  have p1 := Ff.2.2
  have z0 := Fn.2.1
  have z1 := Fn.2.2.1
  have z2 := Fn.2.2.2.1
  have z3 := Fn.2.2.2.2.1
  have l0 := Fl.2.1
  have l1 := Fl.2.2
  have g0 := Fh.2.1
  have g1 := Fh.2.2
  go_wp2_with fail
  refine (c2 _).mono ?_; rintro _ y1 ⟨rfl, hb⟩
  clear p0 p1 z0 z1 z2 z3 l0 l1 g0 g1
  replace Ff := Ff.below hb
  replace Fn := Fn.below hb
  replace Fl := Fl.below hb
  replace Fh := Fh.below hb
  have BV : Below w.heap.size w y1 := BN.trans (hb.mono BN.size)
  clear hb BN
  have BN := BV
  clear BV
  have p0 := Ff.2.1
  have p1 := Ff.2.2
  have z0 := Fn.2.1
  have z1 := Fn.2.2.1
  have z2 := Fn.2.2.2.1
  have z3 := Fn.2.2.2.2.1
  have l0 := Fl.2.1
  have l1 := Fl.2.2
  have g0 := Fh.2.1
  have g1 := Fh.2.2
  clear l0 l1 g0 g1 Fl Fh
  go_wp2_with fail
  refine wp_loop_rounds 3 ?_
  rw [rounds_succ]
  go_wp2_with fail
  go_quiet (fail)
  clear p0 p1 z0 z1 z2 z3
  have BD : Below y1.heap.size y1 (y1.drewN nq) := below_dn (Below.refl _ _) _
  replace Ff := Ff.below BD
  replace Fn := Fn.below BD
  have BV : Below w.heap.size w (y1.drewN nq) := BN.trans (BD.mono BN.size)
  clear BN BD
  have BN := BV
  clear BV
  generalize y1.drewN nq = a0 at Ff Fn BN ⊢
  clear nq
  have p0 := Ff.2.1
  have p1 := Ff.2.2
  have z0 := Fn.2.1
  have z1 := Fn.2.2.1
  have z2 := Fn.2.2.2.1
  have z3 := Fn.2.2.2.2.1
  go_wp2_with fail
  go_quiet (fail)
  clear p0 p1 z0 z1 z2 z3
  have BD : Below a0.heap.size a0 (a0.drewN nq) := below_dn (Below.refl _ _) _
  replace Ff := Ff.below BD
  replace Fn := Fn.below BD
  have BV : Below w.heap.size w (a0.drewN nq) := BN.trans (BD.mono BN.size)
  clear BN BD
  have BN := BV
  clear BV
  generalize a0.drewN nq = b0 at Ff Fn BN ⊢
  clear nq
  have p0 := Ff.2.1
  have p1 := Ff.2.2
  have z0 := Fn.2.1
  have z1 := Fn.2.2.1
  have z2 := Fn.2.2.2.1
  have z3 := Fn.2.2.2.2.1
  go_wp2_with fail
  rw [rounds_succ]
  go_wp2_with fail
  go_quiet (fail)
  clear p0 p1 z0 z1 z2 z3
  have BD : Below b0.heap.size b0 (b0.drewN nq) := below_dn (Below.refl _ _) _
  replace Ff := Ff.below BD
  replace Fn := Fn.below BD
  have BV : Below w.heap.size w (b0.drewN nq) := BN.trans (BD.mono BN.size)
  clear BN BD
  have BN := BV
  clear BV
  generalize b0.drewN nq = a1 at Ff Fn BN ⊢
  clear nq
  have p0 := Ff.2.1
  have p1 := Ff.2.2
  have z0 := Fn.2.1
  have z1 := Fn.2.2.1
  have z2 := Fn.2.2.2.1
  have z3 := Fn.2.2.2.2.1
  go_wp2_with fail
  go_quiet (fail)
  clear p0 p1 z0 z1 z2 z3
  have BD : Below a1.heap.size a1 (a1.drewN nq) := below_dn (Below.refl _ _) _
  replace Ff := Ff.below BD
  replace Fn := Fn.below BD
  have BV : Below w.heap.size w (a1.drewN nq) := BN.trans (BD.mono BN.size)
  clear BN BD
  have BN := BV
  clear BV
  generalize a1.drewN nq = b1 at Ff Fn BN ⊢
  clear nq
  have p0 := Ff.2.1
  have p1 := Ff.2.2
  have z0 := Fn.2.1
  have z1 := Fn.2.2.1
  have z2 := Fn.2.2.2.1
  have z3 := Fn.2.2.2.2.1
  go_wp2_with fail
  rw [rounds_succ]
  go_wp2_with fail
  refine (aw _ BN).mono ?_; rintro _ e1 ⟨rfl, hb⟩
  have BE : Below w.heap.size w e1 := BN.trans (hb.mono BN.size)
  clear hb BN
  go_wp2_with fail
  go_ret
  exact Gives.mk rfl BE

set_option maxRecDepth 100000 in
set_option maxHeartbeats 4000000 in
theorem ubet_ll (n d fl D N T ce cl ch : Int) (hd : ¬ d = 1) (hlo : T ≤ d) (hce : fl + 1 = ce) (f0 : -1000000000000000 ≤ fl) (f1 : fl ≤ 1000000000000000) (hN : fl * d = N) (hD : n - N = D) (hT : 2 * D = T) (b1 : -4000000000000000 ≤ N) (b2 : N ≤ 4000000000000000) (b3 : -4000000000000000 ≤ D) (b4 : D ≤ 4000000000000000) (b7 : -8000000000000000 ≤ T) (b8 : T ≤ 8000000000000000)
    (hcl : cl ≤ 0) (hch : 0 ≤ ch) (w : World) (r1 : ∀ w : World, Calls Tryd.prog 20 #[.agg #[.int .i64 n, .int .i64 d], .int .i64 1] w (Gives (.tuple #[.int .i64 fl, .int .i64 0]) w)) (r2 : ∀ w : World, Calls Tryd.prog 20 #[.agg #[.int .i64 n, .int .i64 d], .int .i64 2] w (Gives (.tuple #[.int .i64 ce, .int .i64 0]) w))
    (r3 : ∀ w : World, Calls Tryd.prog 20 #[.agg #[.int .i64 n, .int .i64 d], .int .i64 3] w (Gives (.tuple #[.int .i64 fl, .int .i64 0]) w)) (r4 : ∀ w : World, Calls Tryd.prog 20 #[.agg #[.int .i64 n, .int .i64 d], .int .i64 4] w (Gives (.tuple #[.int .i64 fl, .int .i64 0]) w))
    (i1 : ∀ w : World, Calls Tryd.prog 34 #[.int .i64 fl] w (Gives (.tuple #[.agg #[.int .i64 fl, .int .i64 1], .int .i64 0]) w)) (i2 : ∀ w : World, Calls Tryd.prog 34 #[.int .i64 ce] w (Gives (.tuple #[.agg #[.int .i64 ce, .int .i64 1], .int .i64 0]) w))
    (c1 : ∀ w : World, Calls Tryd.prog 35 #[.agg #[.int .i64 fl, .int .i64 1], .agg #[.int .i64 n, .int .i64 d]] w (Gives (.int .i64 cl) w)) (c2 : ∀ w : World, Calls Tryd.prog 35 #[.agg #[.int .i64 ce, .int .i64 1], .agg #[.int .i64 n, .int .i64 d]] w (Gives (.int .i64 ch) w))
    (aw : ∀ W, Below w.heap.size w W → Calls Tryd.prog 17 #[] W (Gives (.bool true) W)) :
    Calls Tryd.prog 9 #[.agg #[.int .i64 n, .int .i64 d]] w (Gives (.bool true) w) := by
  have kl : decide (0 < cl) = false := decide_eq_false (by omega)
  have kh : decide (ch < 0) = false := decide_eq_false (by omega)
  have kd : (d == 1) = false := by simp; omega
  have q1 : (ce == fl) = false := by simp; omega
  have q2 : (fl == ce) = false := by simp; omega
  have q3 : (ce != fl) = true := by simp; omega
  have q4 : (fl != ce) = true := by simp; omega
  have kt : decide (d < T) = false := decide_eq_false (by omega)
  have hs : ce - fl = 1 := by omega
  go_enter Tryd.func9, Tryd.ntmps9
  go_wp2_with fail
  refine wp_loop_rounds 5 ?_
  rw [rounds_succ]
  go_wp2_with fail
  refine (r1 _).mono ?_; rintro _ w1 ⟨rfl, hb⟩
  have pz : w.heap.size < (w1).heap.size := Nat.lt_of_lt_of_le (show w.heap.size < _ from (by first | assumption | (simp; done) | (simp; omega) | (dsimp only; omega) | omega)) hb.size; have p0 : (w1).cell? ⟨w.heap.size, 0, none⟩ = some (.int .i64 n) := (hb.cell (p := ⟨w.heap.size, 0, none⟩) (by first | assumption | (simp; done) | (simp; omega) | (dsimp only; omega) | omega)).trans (by first | assumption | (simp [go_sem]; done) | (simp [go_sem, *]; done)); have p1 : (w1).cell? ⟨w.heap.size, 1, none⟩ = some (.int .i64 d) := (hb.cell (p := ⟨w.heap.size, 1, none⟩) (by first | assumption | (simp; done) | (simp; omega) | (dsimp only; omega) | omega)).trans (by first | assumption | (simp [go_sem]; done) | (simp [go_sem, *]; done)); have pf : ∀ o, (w1).frozen? ⟨w.heap.size, o, none⟩ = false := fun o => (hb.frozen (p := ⟨w.heap.size, o, none⟩) (by first | assumption | (simp; done) | (simp; omega) | (dsimp only; omega) | omega)).trans (by first | (simp [go_sem]; done) | (simp [*]; done))
  have Ff : UB w.heap.size n d w1 := ⟨pz, p0, p1⟩
  have zz : w.heap.size + 1 < w1.heap.size := Nat.lt_of_lt_of_le (show w.heap.size + 1 < _ from (by first | assumption | (simp; done) | (simp; omega) | (dsimp only; omega) | omega)) hb.size
  have z0 := (hb.cell (p := ⟨w.heap.size + 1, 0, none⟩) (by first | assumption | (simp; done) | (simp; omega) | (dsimp only; omega) | omega)).trans (show _ = some (.int .i64 0) from (by first | assumption | (simp [go_sem]; done) | (simp [go_sem, *]; done)))
  have z1 := (hb.cell (p := ⟨w.heap.size + 1, 1, none⟩) (by first | assumption | (simp; done) | (simp; omega) | (dsimp only; omega) | omega)).trans (show _ = some (.int .i64 0) from (by first | assumption | (simp [go_sem]; done) | (simp [go_sem, *]; done)))
  have z2 := (hb.cell (p := ⟨w.heap.size + 1, 2, none⟩) (by first | assumption | (simp; done) | (simp; omega) | (dsimp only; omega) | omega)).trans (show _ = some (.int .i64 0) from (by first | assumption | (simp [go_sem]; done) | (simp [go_sem, *]; done)))
  have z3 := (hb.cell (p := ⟨w.heap.size + 1, 3, none⟩) (by first | assumption | (simp; done) | (simp; omega) | (dsimp only; omega) | omega)).trans (show _ = some (.int .i64 0) from (by first | assumption | (simp [go_sem]; done) | (simp [go_sem, *]; done)))
  have zf : ∀ o, w1.frozen? ⟨w.heap.size + 1, o, none⟩ = false := fun o => (hb.frozen (p := ⟨w.heap.size + 1, o, none⟩) (by first | assumption | (simp; done) | (simp; omega) | (dsimp only; omega) | omega)).trans (by first | (simp [go_sem]; done) | (simp [*]; done))
  have Fn : AR (w.heap.size + 1) 0 0 0 0 w1 := ⟨zz, z0, z1, z2, z3, zf⟩
  have BN : Below w.heap.size w w1 := by repeat' (first | (with_reducible exact Below.refl _ _) | (with_reducible refine Below.alloc ?_ ?_ _) | (with_reducible refine Below.setCell ?_ ?_ _) | (with_reducible refine Below.drew ?_) | (with_reducible refine Below.trans ?_ (Below.mono (by assumption) ?_)) | (simp; done) | (simp; omega) | omega)
  clear hb pf pz zz p0 p1 z0 z1 z2 z3 zf
  have zf := Fn.2.2.2.2.2
  have z0 := Fn.2.1
  go_wp2_with fail
  clear zf z0
  replace Ff := Ff.other (o := 0) (v := .int .i64 fl) (show w.heap.size ≠ w.heap.size + 1 by omega)
  have Fm := Fn.set0 (r := fl)
  have BV : Below w.heap.size w (w1.setCell ⟨w.heap.size + 1, 0, none⟩ (.int .i64 fl)) := Below.setCell BN (by first | omega | (simp; done) | (simp; omega)) _
  clear Fn BN
  have Fn := Fm
  have BN := BV
  clear Fm BV
  generalize (w1.setCell ⟨w.heap.size + 1, 0, none⟩ (.int .i64 fl)) = v0 at Ff Fn BN ⊢
  clear w1
  rw [rounds_succ]
  have p0 := Ff.2.1
  have p1 := Ff.2.2
  have z0 := Fn.2.1
  have z1 := Fn.2.2.1
  have z2 := Fn.2.2.2.1
  have z3 := Fn.2.2.2.2.1
  have zf := Fn.2.2.2.2.2
  go_wp2_with fail
  refine (r2 _).mono ?_; rintro _ w1 ⟨rfl, hb⟩
  clear p0 p1 z0 z1 z2 z3 zf
  replace Ff := Ff.below hb
  replace Fn := Fn.below hb
  have BN2 : Below w.heap.size w w1 := BN.trans (hb.mono BN.size)
  clear hb BN
  have BN := BN2
  clear BN2
  have zf := Fn.2.2.2.2.2
  have z1 := Fn.2.2.1
  go_wp2_with fail
  clear zf z1
  replace Ff := Ff.other (o := 1) (v := .int .i64 ce) (show w.heap.size ≠ w.heap.size + 1 by omega)
  have Fm := Fn.set1 (r := ce)
  have BV : Below w.heap.size w (w1.setCell ⟨w.heap.size + 1, 1, none⟩ (.int .i64 ce)) := Below.setCell BN (by first | omega | (simp; done) | (simp; omega)) _
  clear Fn BN
  have Fn := Fm
  have BN := BV
  clear Fm BV
  generalize (w1.setCell ⟨w.heap.size + 1, 1, none⟩ (.int .i64 ce)) = v1 at Ff Fn BN ⊢
  clear w1
  rw [rounds_succ]
  have p0 := Ff.2.1
  have p1 := Ff.2.2
  have z0 := Fn.2.1
  have z1 := Fn.2.2.1
  have z2 := Fn.2.2.2.1
  have z3 := Fn.2.2.2.2.1
  have zf := Fn.2.2.2.2.2
  go_wp2_with fail
  refine (r3 _).mono ?_; rintro _ w1 ⟨rfl, hb⟩
  clear p0 p1 z0 z1 z2 z3 zf
  replace Ff := Ff.below hb
  replace Fn := Fn.below hb
  have BN2 : Below w.heap.size w w1 := BN.trans (hb.mono BN.size)
  clear hb BN
  have BN := BN2
  clear BN2
  have zf := Fn.2.2.2.2.2
  have z2 := Fn.2.2.2.1
  go_wp2_with fail
  clear zf z2
  replace Ff := Ff.other (o := 2) (v := .int .i64 fl) (show w.heap.size ≠ w.heap.size + 1 by omega)
  have Fm := Fn.set2 (r := fl)
  have BV : Below w.heap.size w (w1.setCell ⟨w.heap.size + 1, 2, none⟩ (.int .i64 fl)) := Below.setCell BN (by first | omega | (simp; done) | (simp; omega)) _
  clear Fn BN
  have Fn := Fm
  have BN := BV
  clear Fm BV
  generalize (w1.setCell ⟨w.heap.size + 1, 2, none⟩ (.int .i64 fl)) = v2 at Ff Fn BN ⊢
  clear w1
  rw [rounds_succ]
  have p0 := Ff.2.1
  have p1 := Ff.2.2
  have z0 := Fn.2.1
  have z1 := Fn.2.2.1
  have z2 := Fn.2.2.2.1
  have z3 := Fn.2.2.2.2.1
  have zf := Fn.2.2.2.2.2
  go_wp2_with fail
  refine (r4 _).mono ?_; rintro _ w1 ⟨rfl, hb⟩
  clear p0 p1 z0 z1 z2 z3 zf
  replace Ff := Ff.below hb
  replace Fn := Fn.below hb
  have BN2 : Below w.heap.size w w1 := BN.trans (hb.mono BN.size)
  clear hb BN
  have BN := BN2
  clear BN2
  have zf := Fn.2.2.2.2.2
  have z3 := Fn.2.2.2.2.1
  go_wp2_with fail
  clear zf z3
  replace Ff := Ff.other (o := 3) (v := .int .i64 fl) (show w.heap.size ≠ w.heap.size + 1 by omega)
  have Fm := Fn.set3 (r := fl)
  have BV : Below w.heap.size w (w1.setCell ⟨w.heap.size + 1, 3, none⟩ (.int .i64 fl)) := Below.setCell BN (by first | omega | (simp; done) | (simp; omega)) _
  clear Fn BN
  have Fn := Fm
  have BN := BV
  clear Fm BV
  generalize (w1.setCell ⟨w.heap.size + 1, 3, none⟩ (.int .i64 fl)) = v3 at Ff Fn BN ⊢
  clear w1
  rw [rounds_succ]
  have p0 := Ff.2.1
  have p1 := Ff.2.2
  have z0 := Fn.2.1
  have z1 := Fn.2.2.1
  have z2 := Fn.2.2.2.1
  have z3 := Fn.2.2.2.2.1
  go_upto_region 10 with (go_at_call 34; (with_reducible refine (i1 _).mono ?_); rintro _ u ⟨rfl, hb⟩)
  clear p0 p1 z0 z1 z2 z3
  have Fl : UB u.heap.size fl 1 (u.alloc (Obj.cells #[.int .i64 fl, .int .i64 1] 32)) := ⟨by simp, by simp [go_sem], by simp [go_sem]⟩
  have BW : Below v3.heap.size v3 (u.alloc (Obj.cells #[.int .i64 fl, .int .i64 1] 32)) := Below.alloc hb hb.size _
  clear hb
  replace Ff := Ff.below BW
  replace Fn := Fn.below BW
  have BV : Below w.heap.size w (u.alloc (Obj.cells #[.int .i64 fl, .int .i64 1] 32)) := BN.trans (BW.mono BN.size)
  clear BW BN
  have BN := BV
  clear BV
  generalize (u.alloc (Obj.cells #[.int .i64 fl, .int .i64 1] 32)) = xl at Fl Ff Fn BN ⊢
  generalize u.heap.size = kl at Fl ⊢
  clear u
  have p0 := Ff.2.1
  have p1 := Ff.2.2
  have z0 := Fn.2.1
  have z1 := Fn.2.2.1
  have z2 := Fn.2.2.2.1
  have z3 := Fn.2.2.2.2.1
  go_upto_region 11 with (go_at_call 34; (with_reducible refine (i2 _).mono ?_); rintro _ u ⟨rfl, hb⟩)
  clear p0 p1 z0 z1 z2 z3
  have Fh : UB u.heap.size ce 1 (u.alloc (Obj.cells #[.int .i64 ce, .int .i64 1] 32)) := ⟨by simp, by simp [go_sem], by simp [go_sem]⟩
  have BW : Below xl.heap.size xl (u.alloc (Obj.cells #[.int .i64 ce, .int .i64 1] 32)) := Below.alloc hb hb.size _
  clear hb
  replace Ff := Ff.below BW
  replace Fn := Fn.below BW
  replace Fl := Fl.below BW
  have BV : Below w.heap.size w (u.alloc (Obj.cells #[.int .i64 ce, .int .i64 1] 32)) := BN.trans (BW.mono BN.size)
  clear BW BN
  have BN := BV
  clear BV
  generalize (u.alloc (Obj.cells #[.int .i64 ce, .int .i64 1] 32)) = xh at Fh Ff Fn Fl BN ⊢
  generalize u.heap.size = kh at Fh ⊢
  clear u
  have p0 := Ff.2.1
  have p1 := Ff.2.2
  have z0 := Fn.2.1
  have z1 := Fn.2.2.1
  have z2 := Fn.2.2.2.1
  have z3 := Fn.2.2.2.2.1
  have l0 := Fl.2.1
  have l1 := Fl.2.2
  have g0 := Fh.2.1
  have g1 := Fh.2.2
  go_wp2_with fail
  refine (c1 _).mono ?_; rintro _ y0 ⟨rfl, hb⟩
  clear p0 p1 z0 z1 z2 z3 l0 l1 g0 g1
  replace Ff := Ff.below hb
  replace Fn := Fn.below hb
  replace Fl := Fl.below hb
  replace Fh := Fh.below hb
  have BV : Below w.heap.size w y0 := BN.trans (hb.mono BN.size)
  clear hb BN
  have BN := BV
  clear BV
  have p0 := Ff.2.1
  have p1 := Ff.2.2
  have z0 := Fn.2.1
  have z1 := Fn.2.2.1
  have z2 := Fn.2.2.2.1
  have z3 := Fn.2.2.2.2.1
  have l0 := Fl.2.1
  have l1 := Fl.2.2
  have g0 := Fh.2.1
  have g1 := Fh.2.2
  go_wp2_with fail
  refine (c2 _).mono ?_; rintro _ y1 ⟨rfl, hb⟩
  clear p0 p1 z0 z1 z2 z3 l0 l1 g0 g1
  replace Ff := Ff.below hb
  replace Fn := Fn.below hb
  replace Fl := Fl.below hb
  replace Fh := Fh.below hb
  have BV : Below w.heap.size w y1 := BN.trans (hb.mono BN.size)
  clear hb BN
  have BN := BV
  clear BV
  have p0 := Ff.2.1
  have p1 := Ff.2.2
  have z0 := Fn.2.1
  have z1 := Fn.2.2.1
  have z2 := Fn.2.2.2.1
  have z3 := Fn.2.2.2.2.1
  have l0 := Fl.2.1
  have l1 := Fl.2.2
  have g0 := Fh.2.1
  have g1 := Fh.2.2
  clear l0 l1 g0 g1 Fl Fh
  go_wp2_with fail
  refine wp_loop_rounds 3 ?_
  rw [rounds_succ]
  go_wp2_with fail
  go_quiet (fail)
  clear p0 p1 z0 z1 z2 z3
  have BD : Below y1.heap.size y1 (y1.drewN nq) := below_dn (Below.refl _ _) _
  replace Ff := Ff.below BD
  replace Fn := Fn.below BD
  have BV : Below w.heap.size w (y1.drewN nq) := BN.trans (BD.mono BN.size)
  clear BN BD
  have BN := BV
  clear BV
  generalize y1.drewN nq = a0 at Ff Fn BN ⊢
  clear nq
  have p0 := Ff.2.1
  have p1 := Ff.2.2
  have z0 := Fn.2.1
  have z1 := Fn.2.2.1
  have z2 := Fn.2.2.2.1
  have z3 := Fn.2.2.2.2.1
  go_wp2_with fail
  go_quiet (fail)
  clear p0 p1 z0 z1 z2 z3
  have BD : Below a0.heap.size a0 (a0.drewN nq) := below_dn (Below.refl _ _) _
  replace Ff := Ff.below BD
  replace Fn := Fn.below BD
  have BV : Below w.heap.size w (a0.drewN nq) := BN.trans (BD.mono BN.size)
  clear BN BD
  have BN := BV
  clear BV
  generalize a0.drewN nq = b0 at Ff Fn BN ⊢
  clear nq
  have p0 := Ff.2.1
  have p1 := Ff.2.2
  have z0 := Fn.2.1
  have z1 := Fn.2.2.1
  have z2 := Fn.2.2.2.1
  have z3 := Fn.2.2.2.2.1
  go_wp2_with fail
  rw [rounds_succ]
  go_wp2_with fail
  go_quiet (fail)
  clear p0 p1 z0 z1 z2 z3
  have BD : Below b0.heap.size b0 (b0.drewN nq) := below_dn (Below.refl _ _) _
  replace Ff := Ff.below BD
  replace Fn := Fn.below BD
  have BV : Below w.heap.size w (b0.drewN nq) := BN.trans (BD.mono BN.size)
  clear BN BD
  have BN := BV
  clear BV
  generalize b0.drewN nq = a1 at Ff Fn BN ⊢
  clear nq
  have p0 := Ff.2.1
  have p1 := Ff.2.2
  have z0 := Fn.2.1
  have z1 := Fn.2.2.1
  have z2 := Fn.2.2.2.1
  have z3 := Fn.2.2.2.2.1
  go_wp2_with fail
  go_quiet (fail)
  clear p0 p1 z0 z1 z2 z3
  have BD : Below a1.heap.size a1 (a1.drewN nq) := below_dn (Below.refl _ _) _
  replace Ff := Ff.below BD
  replace Fn := Fn.below BD
  have BV : Below w.heap.size w (a1.drewN nq) := BN.trans (BD.mono BN.size)
  clear BN BD
  have BN := BV
  clear BV
  generalize a1.drewN nq = b1 at Ff Fn BN ⊢
  clear nq
  have p0 := Ff.2.1
  have p1 := Ff.2.2
  have z0 := Fn.2.1
  have z1 := Fn.2.2.1
  have z2 := Fn.2.2.2.1
  have z3 := Fn.2.2.2.2.1
  go_wp2_with fail
  rw [rounds_succ]
  go_wp2_with fail
  refine (aw _ BN).mono ?_; rintro _ e1 ⟨rfl, hb⟩
  have BE : Below w.heap.size w e1 := BN.trans (hb.mono BN.size)
  clear hb BN
  go_wp2_with fail
  go_ret
  exact Gives.mk rfl BE

set_option maxRecDepth 100000 in
set_option maxHeartbeats 4000000 in
theorem ubet_lh (n d fl D N T ce cl ch : Int) (hd : ¬ d = 1) (hlo : T ≤ d) (hhi : d ≤ T) (hce : fl + 1 = ce) (f0 : -1000000000000000 ≤ fl) (f1 : fl ≤ 1000000000000000) (hN : fl * d = N) (hD : n - N = D) (hT : 2 * D = T) (b1 : -4000000000000000 ≤ N) (b2 : N ≤ 4000000000000000) (b3 : -4000000000000000 ≤ D) (b4 : D ≤ 4000000000000000) (b7 : -8000000000000000 ≤ T) (b8 : T ≤ 8000000000000000)
    (hcl : cl ≤ 0) (hch : 0 ≤ ch) (w : World) (r1 : ∀ w : World, Calls Tryd.prog 20 #[.agg #[.int .i64 n, .int .i64 d], .int .i64 1] w (Gives (.tuple #[.int .i64 fl, .int .i64 0]) w)) (r2 : ∀ w : World, Calls Tryd.prog 20 #[.agg #[.int .i64 n, .int .i64 d], .int .i64 2] w (Gives (.tuple #[.int .i64 ce, .int .i64 0]) w))
    (r3 : ∀ w : World, Calls Tryd.prog 20 #[.agg #[.int .i64 n, .int .i64 d], .int .i64 3] w (Gives (.tuple #[.int .i64 fl, .int .i64 0]) w)) (r4 : ∀ w : World, Calls Tryd.prog 20 #[.agg #[.int .i64 n, .int .i64 d], .int .i64 4] w (Gives (.tuple #[.int .i64 ce, .int .i64 0]) w))
    (i1 : ∀ w : World, Calls Tryd.prog 34 #[.int .i64 fl] w (Gives (.tuple #[.agg #[.int .i64 fl, .int .i64 1], .int .i64 0]) w)) (i2 : ∀ w : World, Calls Tryd.prog 34 #[.int .i64 ce] w (Gives (.tuple #[.agg #[.int .i64 ce, .int .i64 1], .int .i64 0]) w))
    (c1 : ∀ w : World, Calls Tryd.prog 35 #[.agg #[.int .i64 fl, .int .i64 1], .agg #[.int .i64 n, .int .i64 d]] w (Gives (.int .i64 cl) w)) (c2 : ∀ w : World, Calls Tryd.prog 35 #[.agg #[.int .i64 ce, .int .i64 1], .agg #[.int .i64 n, .int .i64 d]] w (Gives (.int .i64 ch) w))
    (aw : ∀ W, Below w.heap.size w W → Calls Tryd.prog 17 #[] W (Gives (.bool true) W)) :
    Calls Tryd.prog 9 #[.agg #[.int .i64 n, .int .i64 d]] w (Gives (.bool true) w) := by
  have kl : decide (0 < cl) = false := decide_eq_false (by omega)
  have kh : decide (ch < 0) = false := decide_eq_false (by omega)
  have kd : (d == 1) = false := by simp; omega
  have q1 : (ce == fl) = false := by simp; omega
  have q2 : (fl == ce) = false := by simp; omega
  have q3 : (ce != fl) = true := by simp; omega
  have q4 : (fl != ce) = true := by simp; omega
  have kt : decide (d < T) = false := decide_eq_false (by omega)
  have ku : decide (T < d) = false := decide_eq_false (by omega)
  have hs : ce - fl = 1 := by omega
  go_enter Tryd.func9, Tryd.ntmps9
  go_wp2_with fail
  refine wp_loop_rounds 5 ?_
  rw [rounds_succ]
  go_wp2_with fail
  refine (r1 _).mono ?_; rintro _ w1 ⟨rfl, hb⟩
  have pz : w.heap.size < (w1).heap.size := Nat.lt_of_lt_of_le (show w.heap.size < _ from (by first | assumption | (simp; done) | (simp; omega) | (dsimp only; omega) | omega)) hb.size; have p0 : (w1).cell? ⟨w.heap.size, 0, none⟩ = some (.int .i64 n) := (hb.cell (p := ⟨w.heap.size, 0, none⟩) (by first | assumption | (simp; done) | (simp; omega) | (dsimp only; omega) | omega)).trans (by first | assumption | (simp [go_sem]; done) | (simp [go_sem, *]; done)); have p1 : (w1).cell? ⟨w.heap.size, 1, none⟩ = some (.int .i64 d) := (hb.cell (p := ⟨w.heap.size, 1, none⟩) (by first | assumption | (simp; done) | (simp; omega) | (dsimp only; omega) | omega)).trans (by first | assumption | (simp [go_sem]; done) | (simp [go_sem, *]; done)); have pf : ∀ o, (w1).frozen? ⟨w.heap.size, o, none⟩ = false := fun o => (hb.frozen (p := ⟨w.heap.size, o, none⟩) (by first | assumption | (simp; done) | (simp; omega) | (dsimp only; omega) | omega)).trans (by first | (simp [go_sem]; done) | (simp [*]; done))
  have Ff : UB w.heap.size n d w1 := ⟨pz, p0, p1⟩
  have zz : w.heap.size + 1 < w1.heap.size := Nat.lt_of_lt_of_le (show w.heap.size + 1 < _ from (by first | assumption | (simp; done) | (simp; omega) | (dsimp only; omega) | omega)) hb.size
  have z0 := (hb.cell (p := ⟨w.heap.size + 1, 0, none⟩) (by first | assumption | (simp; done) | (simp; omega) | (dsimp only; omega) | omega)).trans (show _ = some (.int .i64 0) from (by first | assumption | (simp [go_sem]; done) | (simp [go_sem, *]; done)))
  have z1 := (hb.cell (p := ⟨w.heap.size + 1, 1, none⟩) (by first | assumption | (simp; done) | (simp; omega) | (dsimp only; omega) | omega)).trans (show _ = some (.int .i64 0) from (by first | assumption | (simp [go_sem]; done) | (simp [go_sem, *]; done)))
  have z2 := (hb.cell (p := ⟨w.heap.size + 1, 2, none⟩) (by first | assumption | (simp; done) | (simp; omega) | (dsimp only; omega) | omega)).trans (show _ = some (.int .i64 0) from (by first | assumption | (simp [go_sem]; done) | (simp [go_sem, *]; done)))
  have z3 := (hb.cell (p := ⟨w.heap.size + 1, 3, none⟩) (by first | assumption | (simp; done) | (simp; omega) | (dsimp only; omega) | omega)).trans (show _ = some (.int .i64 0) from (by first | assumption | (simp [go_sem]; done) | (simp [go_sem, *]; done)))
  have zf : ∀ o, w1.frozen? ⟨w.heap.size + 1, o, none⟩ = false := fun o => (hb.frozen (p := ⟨w.heap.size + 1, o, none⟩) (by first | assumption | (simp; done) | (simp; omega) | (dsimp only; omega) | omega)).trans (by first | (simp [go_sem]; done) | (simp [*]; done))
  have Fn : AR (w.heap.size + 1) 0 0 0 0 w1 := ⟨zz, z0, z1, z2, z3, zf⟩
  have BN : Below w.heap.size w w1 := by repeat' (first | (with_reducible exact Below.refl _ _) | (with_reducible refine Below.alloc ?_ ?_ _) | (with_reducible refine Below.setCell ?_ ?_ _) | (with_reducible refine Below.drew ?_) | (with_reducible refine Below.trans ?_ (Below.mono (by assumption) ?_)) | (simp; done) | (simp; omega) | omega)
  clear hb pf pz zz p0 p1 z0 z1 z2 z3 zf
  have zf := Fn.2.2.2.2.2
  have z0 := Fn.2.1
  go_wp2_with fail
  clear zf z0
  replace Ff := Ff.other (o := 0) (v := .int .i64 fl) (show w.heap.size ≠ w.heap.size + 1 by omega)
  have Fm := Fn.set0 (r := fl)
  have BV : Below w.heap.size w (w1.setCell ⟨w.heap.size + 1, 0, none⟩ (.int .i64 fl)) := Below.setCell BN (by first | omega | (simp; done) | (simp; omega)) _
  clear Fn BN
  have Fn := Fm
  have BN := BV
  clear Fm BV
  generalize (w1.setCell ⟨w.heap.size + 1, 0, none⟩ (.int .i64 fl)) = v0 at Ff Fn BN ⊢
  clear w1
  rw [rounds_succ]
  have p0 := Ff.2.1
  have p1 := Ff.2.2
  have z0 := Fn.2.1
  have z1 := Fn.2.2.1
  have z2 := Fn.2.2.2.1
  have z3 := Fn.2.2.2.2.1
  have zf := Fn.2.2.2.2.2
  go_wp2_with fail
  refine (r2 _).mono ?_; rintro _ w1 ⟨rfl, hb⟩
  clear p0 p1 z0 z1 z2 z3 zf
  replace Ff := Ff.below hb
  replace Fn := Fn.below hb
  have BN2 : Below w.heap.size w w1 := BN.trans (hb.mono BN.size)
  clear hb BN
  have BN := BN2
  clear BN2
  have zf := Fn.2.2.2.2.2
  have z1 := Fn.2.2.1
  go_wp2_with fail
  clear zf z1
  replace Ff := Ff.other (o := 1) (v := .int .i64 ce) (show w.heap.size ≠ w.heap.size + 1 by omega)
  have Fm := Fn.set1 (r := ce)
  have BV : Below w.heap.size w (w1.setCell ⟨w.heap.size + 1, 1, none⟩ (.int .i64 ce)) := Below.setCell BN (by first | omega | (simp; done) | (simp; omega)) _
  clear Fn BN
  have Fn := Fm
  have BN := BV
  clear Fm BV
  generalize (w1.setCell ⟨w.heap.size + 1, 1, none⟩ (.int .i64 ce)) = v1 at Ff Fn BN ⊢
  clear w1
  rw [rounds_succ]
  have p0 := Ff.2.1
  have p1 := Ff.2.2
  have z0 := Fn.2.1
  have z1 := Fn.2.2.1
  have z2 := Fn.2.2.2.1
  have z3 := Fn.2.2.2.2.1
  have zf := Fn.2.2.2.2.2
  go_wp2_with fail
  refine (r3 _).mono ?_; rintro _ w1 ⟨rfl, hb⟩
  clear p0 p1 z0 z1 z2 z3 zf
  replace Ff := Ff.below hb
  replace Fn := Fn.below hb
  have BN2 : Below w.heap.size w w1 := BN.trans (hb.mono BN.size)
  clear hb BN
  have BN := BN2
  clear BN2
  have zf := Fn.2.2.2.2.2
  have z2 := Fn.2.2.2.1
  go_wp2_with fail
  clear zf z2
  replace Ff := Ff.other (o := 2) (v := .int .i64 fl) (show w.heap.size ≠ w.heap.size + 1 by omega)
  have Fm := Fn.set2 (r := fl)
  have BV : Below w.heap.size w (w1.setCell ⟨w.heap.size + 1, 2, none⟩ (.int .i64 fl)) := Below.setCell BN (by first | omega | (simp; done) | (simp; omega)) _
  clear Fn BN
  have Fn := Fm
  have BN := BV
  clear Fm BV
  generalize (w1.setCell ⟨w.heap.size + 1, 2, none⟩ (.int .i64 fl)) = v2 at Ff Fn BN ⊢
  clear w1
  rw [rounds_succ]
  have p0 := Ff.2.1
  have p1 := Ff.2.2
  have z0 := Fn.2.1
  have z1 := Fn.2.2.1
  have z2 := Fn.2.2.2.1
  have z3 := Fn.2.2.2.2.1
  have zf := Fn.2.2.2.2.2
  go_wp2_with fail
  refine (r4 _).mono ?_; rintro _ w1 ⟨rfl, hb⟩
  clear p0 p1 z0 z1 z2 z3 zf
  replace Ff := Ff.below hb
  replace Fn := Fn.below hb
  have BN2 : Below w.heap.size w w1 := BN.trans (hb.mono BN.size)
  clear hb BN
  have BN := BN2
  clear BN2
  have zf := Fn.2.2.2.2.2
  have z3 := Fn.2.2.2.2.1
  go_wp2_with fail
  clear zf z3
  replace Ff := Ff.other (o := 3) (v := .int .i64 ce) (show w.heap.size ≠ w.heap.size + 1 by omega)
  have Fm := Fn.set3 (r := ce)
  have BV : Below w.heap.size w (w1.setCell ⟨w.heap.size + 1, 3, none⟩ (.int .i64 ce)) := Below.setCell BN (by first | omega | (simp; done) | (simp; omega)) _
  clear Fn BN
  have Fn := Fm
  have BN := BV
  clear Fm BV
  generalize (w1.setCell ⟨w.heap.size + 1, 3, none⟩ (.int .i64 ce)) = v3 at Ff Fn BN ⊢
  clear w1
  rw [rounds_succ]
  have p0 := Ff.2.1
  have p1 := Ff.2.2
  have z0 := Fn.2.1
  have z1 := Fn.2.2.1
  have z2 := Fn.2.2.2.1
  have z3 := Fn.2.2.2.2.1
  go_upto_region 10 with (go_at_call 34; (with_reducible refine (i1 _).mono ?_); rintro _ u ⟨rfl, hb⟩)
  clear p0 p1 z0 z1 z2 z3
  have Fl : UB u.heap.size fl 1 (u.alloc (Obj.cells #[.int .i64 fl, .int .i64 1] 32)) := ⟨by simp, by simp [go_sem], by simp [go_sem]⟩
  have BW : Below v3.heap.size v3 (u.alloc (Obj.cells #[.int .i64 fl, .int .i64 1] 32)) := Below.alloc hb hb.size _
  clear hb
  replace Ff := Ff.below BW
  replace Fn := Fn.below BW
  have BV : Below w.heap.size w (u.alloc (Obj.cells #[.int .i64 fl, .int .i64 1] 32)) := BN.trans (BW.mono BN.size)
  clear BW BN
  have BN := BV
  clear BV
  generalize (u.alloc (Obj.cells #[.int .i64 fl, .int .i64 1] 32)) = xl at Fl Ff Fn BN ⊢
  generalize u.heap.size = kl at Fl ⊢
  clear u
  have p0 := Ff.2.1
  have p1 := Ff.2.2
  have z0 := Fn.2.1
  have z1 := Fn.2.2.1
  have z2 := Fn.2.2.2.1
  have z3 := Fn.2.2.2.2.1
  go_upto_region 11 with (go_at_call 34; (with_reducible refine (i2 _).mono ?_); rintro _ u ⟨rfl, hb⟩)
  clear p0 p1 z0 z1 z2 z3
  have Fh : UB u.heap.size ce 1 (u.alloc (Obj.cells #[.int .i64 ce, .int .i64 1] 32)) := ⟨by simp, by simp [go_sem], by simp [go_sem]⟩
  have BW : Below xl.heap.size xl (u.alloc (Obj.cells #[.int .i64 ce, .int .i64 1] 32)) := Below.alloc hb hb.size _
  clear hb
  replace Ff := Ff.below BW
  replace Fn := Fn.below BW
  replace Fl := Fl.below BW
  have BV : Below w.heap.size w (u.alloc (Obj.cells #[.int .i64 ce, .int .i64 1] 32)) := BN.trans (BW.mono BN.size)
  clear BW BN
  have BN := BV
  clear BV
  generalize (u.alloc (Obj.cells #[.int .i64 ce, .int .i64 1] 32)) = xh at Fh Ff Fn Fl BN ⊢
  generalize u.heap.size = kh at Fh ⊢
  clear u
  have p0 := Ff.2.1
  have p1 := Ff.2.2
  have z0 := Fn.2.1
  have z1 := Fn.2.2.1
  have z2 := Fn.2.2.2.1
  have z3 := Fn.2.2.2.2.1
  have l0 := Fl.2.1
  have l1 := Fl.2.2
  have g0 := Fh.2.1
  have g1 := Fh.2.2
  go_wp2_with fail
  refine (c1 _).mono ?_; rintro _ y0 ⟨rfl, hb⟩
  clear p0 p1 z0 z1 z2 z3 l0 l1 g0 g1
  replace Ff := Ff.below hb
  replace Fn := Fn.below hb
  replace Fl := Fl.below hb
  replace Fh := Fh.below hb
  have BV : Below w.heap.size w y0 := BN.trans (hb.mono BN.size)
  clear hb BN
  have BN := BV
  clear BV
  have p0 := Ff.2.1
  have p1 := Ff.2.2
  have z0 := Fn.2.1
  have z1 := Fn.2.2.1
  have z2 := Fn.2.2.2.1
  have z3 := Fn.2.2.2.2.1
  have l0 := Fl.2.1
  have l1 := Fl.2.2
  have g0 := Fh.2.1
  have g1 := Fh.2.2
  go_wp2_with fail
  refine (c2 _).mono ?_; rintro _ y1 ⟨rfl, hb⟩
  clear p0 p1 z0 z1 z2 z3 l0 l1 g0 g1
  replace Ff := Ff.below hb
  replace Fn := Fn.below hb
  replace Fl := Fl.below hb
  replace Fh := Fh.below hb
  have BV : Below w.heap.size w y1 := BN.trans (hb.mono BN.size)
  clear hb BN
  have BN := BV
  clear BV
  have p0 := Ff.2.1
  have p1 := Ff.2.2
  have z0 := Fn.2.1
  have z1 := Fn.2.2.1
  have z2 := Fn.2.2.2.1
  have z3 := Fn.2.2.2.2.1
  have l0 := Fl.2.1
  have l1 := Fl.2.2
  have g0 := Fh.2.1
  have g1 := Fh.2.2
  clear l0 l1 g0 g1 Fl Fh
  go_wp2_with fail
  refine wp_loop_rounds 3 ?_
  rw [rounds_succ]
  go_wp2_with fail
  go_quiet (fail)
  clear p0 p1 z0 z1 z2 z3
  have BD : Below y1.heap.size y1 (y1.drewN nq) := below_dn (Below.refl _ _) _
  replace Ff := Ff.below BD
  replace Fn := Fn.below BD
  have BV : Below w.heap.size w (y1.drewN nq) := BN.trans (BD.mono BN.size)
  clear BN BD
  have BN := BV
  clear BV
  generalize y1.drewN nq = a0 at Ff Fn BN ⊢
  clear nq
  have p0 := Ff.2.1
  have p1 := Ff.2.2
  have z0 := Fn.2.1
  have z1 := Fn.2.2.1
  have z2 := Fn.2.2.2.1
  have z3 := Fn.2.2.2.2.1
  go_wp2_with fail
  go_quiet (fail)
  clear p0 p1 z0 z1 z2 z3
  have BD : Below a0.heap.size a0 (a0.drewN nq) := below_dn (Below.refl _ _) _
  replace Ff := Ff.below BD
  replace Fn := Fn.below BD
  have BV : Below w.heap.size w (a0.drewN nq) := BN.trans (BD.mono BN.size)
  clear BN BD
  have BN := BV
  clear BV
  generalize a0.drewN nq = b0 at Ff Fn BN ⊢
  clear nq
  have p0 := Ff.2.1
  have p1 := Ff.2.2
  have z0 := Fn.2.1
  have z1 := Fn.2.2.1
  have z2 := Fn.2.2.2.1
  have z3 := Fn.2.2.2.2.1
  go_wp2_with fail
  rw [rounds_succ]
  go_wp2_with fail
  go_quiet (fail)
  clear p0 p1 z0 z1 z2 z3
  have BD : Below b0.heap.size b0 (b0.drewN nq) := below_dn (Below.refl _ _) _
  replace Ff := Ff.below BD
  replace Fn := Fn.below BD
  have BV : Below w.heap.size w (b0.drewN nq) := BN.trans (BD.mono BN.size)
  clear BN BD
  have BN := BV
  clear BV
  generalize b0.drewN nq = a1 at Ff Fn BN ⊢
  clear nq
  have p0 := Ff.2.1
  have p1 := Ff.2.2
  have z0 := Fn.2.1
  have z1 := Fn.2.2.1
  have z2 := Fn.2.2.2.1
  have z3 := Fn.2.2.2.2.1
  go_wp2_with fail
  go_quiet (fail)
  clear p0 p1 z0 z1 z2 z3
  have BD : Below a1.heap.size a1 (a1.drewN nq) := below_dn (Below.refl _ _) _
  replace Ff := Ff.below BD
  replace Fn := Fn.below BD
  have BV : Below w.heap.size w (a1.drewN nq) := BN.trans (BD.mono BN.size)
  clear BN BD
  have BN := BV
  clear BV
  generalize a1.drewN nq = b1 at Ff Fn BN ⊢
  clear nq
  have p0 := Ff.2.1
  have p1 := Ff.2.2
  have z0 := Fn.2.1
  have z1 := Fn.2.2.1
  have z2 := Fn.2.2.2.1
  have z3 := Fn.2.2.2.2.1
  go_wp2_with fail
  rw [rounds_succ]
  go_wp2_with fail
  refine (aw _ BN).mono ?_; rintro _ e1 ⟨rfl, hb⟩
  have BE : Below w.heap.size w e1 := BN.trans (hb.mono BN.size)
  clear hb BN
  go_wp2_with fail
  go_ret
  exact Gives.mk rfl BE

set_option maxRecDepth 100000 in
set_option maxHeartbeats 4000000 in
theorem ubet_hl (n d fl D N T ce cl ch : Int) (hd : ¬ d = 1) (hlo : T ≤ d) (hhi : d ≤ T) (hce : fl + 1 = ce) (f0 : -1000000000000000 ≤ fl) (f1 : fl ≤ 1000000000000000) (hN : fl * d = N) (hD : n - N = D) (hT : 2 * D = T) (b1 : -4000000000000000 ≤ N) (b2 : N ≤ 4000000000000000) (b3 : -4000000000000000 ≤ D) (b4 : D ≤ 4000000000000000) (b7 : -8000000000000000 ≤ T) (b8 : T ≤ 8000000000000000)
    (hcl : cl ≤ 0) (hch : 0 ≤ ch) (w : World) (r1 : ∀ w : World, Calls Tryd.prog 20 #[.agg #[.int .i64 n, .int .i64 d], .int .i64 1] w (Gives (.tuple #[.int .i64 fl, .int .i64 0]) w)) (r2 : ∀ w : World, Calls Tryd.prog 20 #[.agg #[.int .i64 n, .int .i64 d], .int .i64 2] w (Gives (.tuple #[.int .i64 ce, .int .i64 0]) w))
    (r3 : ∀ w : World, Calls Tryd.prog 20 #[.agg #[.int .i64 n, .int .i64 d], .int .i64 3] w (Gives (.tuple #[.int .i64 ce, .int .i64 0]) w)) (r4 : ∀ w : World, Calls Tryd.prog 20 #[.agg #[.int .i64 n, .int .i64 d], .int .i64 4] w (Gives (.tuple #[.int .i64 fl, .int .i64 0]) w))
    (i1 : ∀ w : World, Calls Tryd.prog 34 #[.int .i64 fl] w (Gives (.tuple #[.agg #[.int .i64 fl, .int .i64 1], .int .i64 0]) w)) (i2 : ∀ w : World, Calls Tryd.prog 34 #[.int .i64 ce] w (Gives (.tuple #[.agg #[.int .i64 ce, .int .i64 1], .int .i64 0]) w))
    (c1 : ∀ w : World, Calls Tryd.prog 35 #[.agg #[.int .i64 fl, .int .i64 1], .agg #[.int .i64 n, .int .i64 d]] w (Gives (.int .i64 cl) w)) (c2 : ∀ w : World, Calls Tryd.prog 35 #[.agg #[.int .i64 ce, .int .i64 1], .agg #[.int .i64 n, .int .i64 d]] w (Gives (.int .i64 ch) w))
    (aw : ∀ W, Below w.heap.size w W → Calls Tryd.prog 17 #[] W (Gives (.bool true) W)) :
    Calls Tryd.prog 9 #[.agg #[.int .i64 n, .int .i64 d]] w (Gives (.bool true) w) := by
  have kl : decide (0 < cl) = false := decide_eq_false (by omega)
  have kh : decide (ch < 0) = false := decide_eq_false (by omega)
  have kd : (d == 1) = false := by simp; omega
  have q1 : (ce == fl) = false := by simp; omega
  have q2 : (fl == ce) = false := by simp; omega
  have q3 : (ce != fl) = true := by simp; omega
  have q4 : (fl != ce) = true := by simp; omega
  have kt : decide (d < T) = false := decide_eq_false (by omega)
  have ku : decide (T < d) = false := decide_eq_false (by omega)
  have hs : ce - fl = 1 := by omega
  go_enter Tryd.func9, Tryd.ntmps9
  go_wp2_with fail
  refine wp_loop_rounds 5 ?_
  rw [rounds_succ]
  go_wp2_with fail
  refine (r1 _).mono ?_; rintro _ w1 ⟨rfl, hb⟩
  have pz : w.heap.size < (w1).heap.size := Nat.lt_of_lt_of_le (show w.heap.size < _ from (by first | assumption | (simp; done) | (simp; omega) | (dsimp only; omega) | omega)) hb.size; have p0 : (w1).cell? ⟨w.heap.size, 0, none⟩ = some (.int .i64 n) := (hb.cell (p := ⟨w.heap.size, 0, none⟩) (by first | assumption | (simp; done) | (simp; omega) | (dsimp only; omega) | omega)).trans (by first | assumption | (simp [go_sem]; done) | (simp [go_sem, *]; done)); have p1 : (w1).cell? ⟨w.heap.size, 1, none⟩ = some (.int .i64 d) := (hb.cell (p := ⟨w.heap.size, 1, none⟩) (by first | assumption | (simp; done) | (simp; omega) | (dsimp only; omega) | omega)).trans (by first | assumption | (simp [go_sem]; done) | (simp [go_sem, *]; done)); have pf : ∀ o, (w1).frozen? ⟨w.heap.size, o, none⟩ = false := fun o => (hb.frozen (p := ⟨w.heap.size, o, none⟩) (by first | assumption | (simp; done) | (simp; omega) | (dsimp only; omega) | omega)).trans (by first | (simp [go_sem]; done) | (simp [*]; done))
  have Ff : UB w.heap.size n d w1 := ⟨pz, p0, p1⟩
  have zz : w.heap.size + 1 < w1.heap.size := Nat.lt_of_lt_of_le (show w.heap.size + 1 < _ from (by first | assumption | (simp; done) | (simp; omega) | (dsimp only; omega) | omega)) hb.size
  have z0 := (hb.cell (p := ⟨w.heap.size + 1, 0, none⟩) (by first | assumption | (simp; done) | (simp; omega) | (dsimp only; omega) | omega)).trans (show _ = some (.int .i64 0) from (by first | assumption | (simp [go_sem]; done) | (simp [go_sem, *]; done)))
  have z1 := (hb.cell (p := ⟨w.heap.size + 1, 1, none⟩) (by first | assumption | (simp; done) | (simp; omega) | (dsimp only; omega) | omega)).trans (show _ = some (.int .i64 0) from (by first | assumption | (simp [go_sem]; done) | (simp [go_sem, *]; done)))
  have z2 := (hb.cell (p := ⟨w.heap.size + 1, 2, none⟩) (by first | assumption | (simp; done) | (simp; omega) | (dsimp only; omega) | omega)).trans (show _ = some (.int .i64 0) from (by first | assumption | (simp [go_sem]; done) | (simp [go_sem, *]; done)))
  have z3 := (hb.cell (p := ⟨w.heap.size + 1, 3, none⟩) (by first | assumption | (simp; done) | (simp; omega) | (dsimp only; omega) | omega)).trans (show _ = some (.int .i64 0) from (by first | assumption | (simp [go_sem]; done) | (simp [go_sem, *]; done)))
  have zf : ∀ o, w1.frozen? ⟨w.heap.size + 1, o, none⟩ = false := fun o => (hb.frozen (p := ⟨w.heap.size + 1, o, none⟩) (by first | assumption | (simp; done) | (simp; omega) | (dsimp only; omega) | omega)).trans (by first | (simp [go_sem]; done) | (simp [*]; done))
  have Fn : AR (w.heap.size + 1) 0 0 0 0 w1 := ⟨zz, z0, z1, z2, z3, zf⟩
  have BN : Below w.heap.size w w1 := by repeat' (first | (with_reducible exact Below.refl _ _) | (with_reducible refine Below.alloc ?_ ?_ _) | (with_reducible refine Below.setCell ?_ ?_ _) | (with_reducible refine Below.drew ?_) | (with_reducible refine Below.trans ?_ (Below.mono (by assumption) ?_)) | (simp; done) | (simp; omega) | omega)
  clear hb pf pz zz p0 p1 z0 z1 z2 z3 zf
  have zf := Fn.2.2.2.2.2
  have z0 := Fn.2.1
  go_wp2_with fail
  clear zf z0
  replace Ff := Ff.other (o := 0) (v := .int .i64 fl) (show w.heap.size ≠ w.heap.size + 1 by omega)
  have Fm := Fn.set0 (r := fl)
  have BV : Below w.heap.size w (w1.setCell ⟨w.heap.size + 1, 0, none⟩ (.int .i64 fl)) := Below.setCell BN (by first | omega | (simp; done) | (simp; omega)) _
  clear Fn BN
  have Fn := Fm
  have BN := BV
  clear Fm BV
  generalize (w1.setCell ⟨w.heap.size + 1, 0, none⟩ (.int .i64 fl)) = v0 at Ff Fn BN ⊢
  clear w1
  rw [rounds_succ]
  have p0 := Ff.2.1
  have p1 := Ff.2.2
  have z0 := Fn.2.1
  have z1 := Fn.2.2.1
  have z2 := Fn.2.2.2.1
  have z3 := Fn.2.2.2.2.1
  have zf := Fn.2.2.2.2.2
  go_wp2_with fail
  refine (r2 _).mono ?_; rintro _ w1 ⟨rfl, hb⟩
  clear p0 p1 z0 z1 z2 z3 zf
  replace Ff := Ff.below hb
  replace Fn := Fn.below hb
  have BN2 : Below w.heap.size w w1 := BN.trans (hb.mono BN.size)
  clear hb BN
  have BN := BN2
  clear BN2
  have zf := Fn.2.2.2.2.2
  have z1 := Fn.2.2.1
  go_wp2_with fail
  clear zf z1
  replace Ff := Ff.other (o := 1) (v := .int .i64 ce) (show w.heap.size ≠ w.heap.size + 1 by omega)
  have Fm := Fn.set1 (r := ce)
  have BV : Below w.heap.size w (w1.setCell ⟨w.heap.size + 1, 1, none⟩ (.int .i64 ce)) := Below.setCell BN (by first | omega | (simp; done) | (simp; omega)) _
  clear Fn BN
  have Fn := Fm
  have BN := BV
  clear Fm BV
  generalize (w1.setCell ⟨w.heap.size + 1, 1, none⟩ (.int .i64 ce)) = v1 at Ff Fn BN ⊢
  clear w1
  rw [rounds_succ]
  have p0 := Ff.2.1
  have p1 := Ff.2.2
  have z0 := Fn.2.1
  have z1 := Fn.2.2.1
  have z2 := Fn.2.2.2.1
  have z3 := Fn.2.2.2.2.1
  have zf := Fn.2.2.2.2.2
  go_wp2_with fail
  refine (r3 _).mono ?_; rintro _ w1 ⟨rfl, hb⟩
  clear p0 p1 z0 z1 z2 z3 zf
  replace Ff := Ff.below hb
  replace Fn := Fn.below hb
  have BN2 : Below w.heap.size w w1 := BN.trans (hb.mono BN.size)
  clear hb BN
  have BN := BN2
  clear BN2
  have zf := Fn.2.2.2.2.2
  have z2 := Fn.2.2.2.1
  go_wp2_with fail
  clear zf z2
  replace Ff := Ff.other (o := 2) (v := .int .i64 ce) (show w.heap.size ≠ w.heap.size + 1 by omega)
  have Fm := Fn.set2 (r := ce)
  have BV : Below w.heap.size w (w1.setCell ⟨w.heap.size + 1, 2, none⟩ (.int .i64 ce)) := Below.setCell BN (by first | omega | (simp; done) | (simp; omega)) _
  clear Fn BN
  have Fn := Fm
  have BN := BV
  clear Fm BV
  generalize (w1.setCell ⟨w.heap.size + 1, 2, none⟩ (.int .i64 ce)) = v2 at Ff Fn BN ⊢
  clear w1
  rw [rounds_succ]
  have p0 := Ff.2.1
  have p1 := Ff.2.2
  have z0 := Fn.2.1
  have z1 := Fn.2.2.1
  have z2 := Fn.2.2.2.1
  have z3 := Fn.2.2.2.2.1
  have zf := Fn.2.2.2.2.2
  go_wp2_with fail
  refine (r4 _).mono ?_; rintro _ w1 ⟨rfl, hb⟩
  clear p0 p1 z0 z1 z2 z3 zf
  replace Ff := Ff.below hb
  replace Fn := Fn.below hb
  have BN2 : Below w.heap.size w w1 := BN.trans (hb.mono BN.size)
  clear hb BN
  have BN := BN2
  clear BN2
  have zf := Fn.2.2.2.2.2
  have z3 := Fn.2.2.2.2.1
  go_wp2_with fail
  clear zf z3
  replace Ff := Ff.other (o := 3) (v := .int .i64 fl) (show w.heap.size ≠ w.heap.size + 1 by omega)
  have Fm := Fn.set3 (r := fl)
  have BV : Below w.heap.size w (w1.setCell ⟨w.heap.size + 1, 3, none⟩ (.int .i64 fl)) := Below.setCell BN (by first | omega | (simp; done) | (simp; omega)) _
  clear Fn BN
  have Fn := Fm
  have BN := BV
  clear Fm BV
  generalize (w1.setCell ⟨w.heap.size + 1, 3, none⟩ (.int .i64 fl)) = v3 at Ff Fn BN ⊢
  clear w1
  rw [rounds_succ]
  have p0 := Ff.2.1
  have p1 := Ff.2.2
  have z0 := Fn.2.1
  have z1 := Fn.2.2.1
  have z2 := Fn.2.2.2.1
  have z3 := Fn.2.2.2.2.1
  go_upto_region 10 with (go_at_call 34; (with_reducible refine (i1 _).mono ?_); rintro _ u ⟨rfl, hb⟩)
  clear p0 p1 z0 z1 z2 z3
  have Fl : UB u.heap.size fl 1 (u.alloc (Obj.cells #[.int .i64 fl, .int .i64 1] 32)) := ⟨by simp, by simp [go_sem], by simp [go_sem]⟩
  have BW : Below v3.heap.size v3 (u.alloc (Obj.cells #[.int .i64 fl, .int .i64 1] 32)) := Below.alloc hb hb.size _
  clear hb
  replace Ff := Ff.below BW
  replace Fn := Fn.below BW
  have BV : Below w.heap.size w (u.alloc (Obj.cells #[.int .i64 fl, .int .i64 1] 32)) := BN.trans (BW.mono BN.size)
  clear BW BN
  have BN := BV
  clear BV
  generalize (u.alloc (Obj.cells #[.int .i64 fl, .int .i64 1] 32)) = xl at Fl Ff Fn BN ⊢
  generalize u.heap.size = kl at Fl ⊢
  clear u
  have p0 := Ff.2.1
  have p1 := Ff.2.2
  have z0 := Fn.2.1
  have z1 := Fn.2.2.1
  have z2 := Fn.2.2.2.1
  have z3 := Fn.2.2.2.2.1
  go_upto_region 11 with (go_at_call 34; (with_reducible refine (i2 _).mono ?_); rintro _ u ⟨rfl, hb⟩)
  clear p0 p1 z0 z1 z2 z3
  have Fh : UB u.heap.size ce 1 (u.alloc (Obj.cells #[.int .i64 ce, .int .i64 1] 32)) := ⟨by simp, by simp [go_sem], by simp [go_sem]⟩
  have BW : Below xl.heap.size xl (u.alloc (Obj.cells #[.int .i64 ce, .int .i64 1] 32)) := Below.alloc hb hb.size _
  clear hb
  replace Ff := Ff.below BW
  replace Fn := Fn.below BW
  replace Fl := Fl.below BW
  have BV : Below w.heap.size w (u.alloc (Obj.cells #[.int .i64 ce, .int .i64 1] 32)) := BN.trans (BW.mono BN.size)
  clear BW BN
  have BN := BV
  clear BV
  generalize (u.alloc (Obj.cells #[.int .i64 ce, .int .i64 1] 32)) = xh at Fh Ff Fn Fl BN ⊢
  generalize u.heap.size = kh at Fh ⊢
  clear u
  have p0 := Ff.2.1
  have p1 := Ff.2.2
  have z0 := Fn.2.1
  have z1 := Fn.2.2.1
  have z2 := Fn.2.2.2.1
  have z3 := Fn.2.2.2.2.1
  have l0 := Fl.2.1
  have l1 := Fl.2.2
  have g0 := Fh.2.1
  have g1 := Fh.2.2
  go_wp2_with fail
  refine (c1 _).mono ?_; rintro _ y0 ⟨rfl, hb⟩
  clear p0 p1 z0 z1 z2 z3 l0 l1 g0 g1
  replace Ff := Ff.below hb
  replace Fn := Fn.below hb
  replace Fl := Fl.below hb
  replace Fh := Fh.below hb
  have BV : Below w.heap.size w y0 := BN.trans (hb.mono BN.size)
  clear hb BN
  have BN := BV
  clear BV
  have p0 := Ff.2.1
  have p1 := Ff.2.2
  have z0 := Fn.2.1
  have z1 := Fn.2.2.1
  have z2 := Fn.2.2.2.1
  have z3 := Fn.2.2.2.2.1
  have l0 := Fl.2.1
  have l1 := Fl.2.2
  have g0 := Fh.2.1
  have g1 := Fh.2.2
  go_wp2_with fail
  refine (c2 _).mono ?_; rintro _ y1 ⟨rfl, hb⟩
  clear p0 p1 z0 z1 z2 z3 l0 l1 g0 g1
  replace Ff := Ff.below hb
  replace Fn := Fn.below hb
  replace Fl := Fl.below hb
  replace Fh := Fh.below hb
  have BV : Below w.heap.size w y1 := BN.trans (hb.mono BN.size)
  clear hb BN
  have BN := BV
  clear BV
  have p0 := Ff.2.1
  have p1 := Ff.2.2
  have z0 := Fn.2.1
  have z1 := Fn.2.2.1
  have z2 := Fn.2.2.2.1
  have z3 := Fn.2.2.2.2.1
  have l0 := Fl.2.1
  have l1 := Fl.2.2
  have g0 := Fh.2.1
  have g1 := Fh.2.2
  clear l0 l1 g0 g1 Fl Fh
  go_wp2_with fail
  refine wp_loop_rounds 3 ?_
  rw [rounds_succ]
  go_wp2_with fail
  go_quiet (fail)
  clear p0 p1 z0 z1 z2 z3
  have BD : Below y1.heap.size y1 (y1.drewN nq) := below_dn (Below.refl _ _) _
  replace Ff := Ff.below BD
  replace Fn := Fn.below BD
  have BV : Below w.heap.size w (y1.drewN nq) := BN.trans (BD.mono BN.size)
  clear BN BD
  have BN := BV
  clear BV
  generalize y1.drewN nq = a0 at Ff Fn BN ⊢
  clear nq
  have p0 := Ff.2.1
  have p1 := Ff.2.2
  have z0 := Fn.2.1
  have z1 := Fn.2.2.1
  have z2 := Fn.2.2.2.1
  have z3 := Fn.2.2.2.2.1
  go_wp2_with fail
  go_quiet (fail)
  clear p0 p1 z0 z1 z2 z3
  have BD : Below a0.heap.size a0 (a0.drewN nq) := below_dn (Below.refl _ _) _
  replace Ff := Ff.below BD
  replace Fn := Fn.below BD
  have BV : Below w.heap.size w (a0.drewN nq) := BN.trans (BD.mono BN.size)
  clear BN BD
  have BN := BV
  clear BV
  generalize a0.drewN nq = b0 at Ff Fn BN ⊢
  clear nq
  have p0 := Ff.2.1
  have p1 := Ff.2.2
  have z0 := Fn.2.1
  have z1 := Fn.2.2.1
  have z2 := Fn.2.2.2.1
  have z3 := Fn.2.2.2.2.1
  go_wp2_with fail
  rw [rounds_succ]
  go_wp2_with fail
  go_quiet (fail)
  clear p0 p1 z0 z1 z2 z3
  have BD : Below b0.heap.size b0 (b0.drewN nq) := below_dn (Below.refl _ _) _
  replace Ff := Ff.below BD
  replace Fn := Fn.below BD
  have BV : Below w.heap.size w (b0.drewN nq) := BN.trans (BD.mono BN.size)
  clear BN BD
  have BN := BV
  clear BV
  generalize b0.drewN nq = a1 at Ff Fn BN ⊢
  clear nq
  have p0 := Ff.2.1
  have p1 := Ff.2.2
  have z0 := Fn.2.1
  have z1 := Fn.2.2.1
  have z2 := Fn.2.2.2.1
  have z3 := Fn.2.2.2.2.1
  go_wp2_with fail
  go_quiet (fail)
  clear p0 p1 z0 z1 z2 z3
  have BD : Below a1.heap.size a1 (a1.drewN nq) := below_dn (Below.refl _ _) _
  replace Ff := Ff.below BD
  replace Fn := Fn.below BD
  have BV : Below w.heap.size w (a1.drewN nq) := BN.trans (BD.mono BN.size)
  clear BN BD
  have BN := BV
  clear BV
  generalize a1.drewN nq = b1 at Ff Fn BN ⊢
  clear nq
  have p0 := Ff.2.1
  have p1 := Ff.2.2
  have z0 := Fn.2.1
  have z1 := Fn.2.2.1
  have z2 := Fn.2.2.2.1
  have z3 := Fn.2.2.2.2.1
  go_wp2_with fail
  rw [rounds_succ]
  go_wp2_with fail
  refine (aw _ BN).mono ?_; rintro _ e1 ⟨rfl, hb⟩
  have BE : Below w.heap.size w e1 := BN.trans (hb.mono BN.size)
  clear hb BN
  go_wp2_with fail
  go_ret
  exact Gives.mk rfl BE

set_option maxRecDepth 100000 in
set_option maxHeartbeats 4000000 in
theorem ubet_hh (n d fl D N T ce cl ch : Int) (hd : ¬ d = 1) (hhi : d ≤ T) (hce : fl + 1 = ce) (f0 : -1000000000000000 ≤ fl) (f1 : fl ≤ 1000000000000000) (hN : fl * d = N) (hD : n - N = D) (hT : 2 * D = T) (b1 : -4000000000000000 ≤ N) (b2 : N ≤ 4000000000000000) (b3 : -4000000000000000 ≤ D) (b4 : D ≤ 4000000000000000) (b7 : -8000000000000000 ≤ T) (b8 : T ≤ 8000000000000000)
    (hcl : cl ≤ 0) (hch : 0 ≤ ch) (w : World) (r1 : ∀ w : World, Calls Tryd.prog 20 #[.agg #[.int .i64 n, .int .i64 d], .int .i64 1] w (Gives (.tuple #[.int .i64 fl, .int .i64 0]) w)) (r2 : ∀ w : World, Calls Tryd.prog 20 #[.agg #[.int .i64 n, .int .i64 d], .int .i64 2] w (Gives (.tuple #[.int .i64 ce, .int .i64 0]) w))
    (r3 : ∀ w : World, Calls Tryd.prog 20 #[.agg #[.int .i64 n, .int .i64 d], .int .i64 3] w (Gives (.tuple #[.int .i64 ce, .int .i64 0]) w)) (r4 : ∀ w : World, Calls Tryd.prog 20 #[.agg #[.int .i64 n, .int .i64 d], .int .i64 4] w (Gives (.tuple #[.int .i64 ce, .int .i64 0]) w))
    (i1 : ∀ w : World, Calls Tryd.prog 34 #[.int .i64 fl] w (Gives (.tuple #[.agg #[.int .i64 fl, .int .i64 1], .int .i64 0]) w)) (i2 : ∀ w : World, Calls Tryd.prog 34 #[.int .i64 ce] w (Gives (.tuple #[.agg #[.int .i64 ce, .int .i64 1], .int .i64 0]) w))
    (c1 : ∀ w : World, Calls Tryd.prog 35 #[.agg #[.int .i64 fl, .int .i64 1], .agg #[.int .i64 n, .int .i64 d]] w (Gives (.int .i64 cl) w)) (c2 : ∀ w : World, Calls Tryd.prog 35 #[.agg #[.int .i64 ce, .int .i64 1], .agg #[.int .i64 n, .int .i64 d]] w (Gives (.int .i64 ch) w))
    (aw : ∀ W, Below w.heap.size w W → Calls Tryd.prog 17 #[] W (Gives (.bool true) W)) :
    Calls Tryd.prog 9 #[.agg #[.int .i64 n, .int .i64 d]] w (Gives (.bool true) w) := by
  have kl : decide (0 < cl) = false := decide_eq_false (by omega)
  have kh : decide (ch < 0) = false := decide_eq_false (by omega)
  have kd : (d == 1) = false := by simp; omega
  have q1 : (ce == fl) = false := by simp; omega
  have q2 : (fl == ce) = false := by simp; omega
  have q3 : (ce != fl) = true := by simp; omega
  have q4 : (fl != ce) = true := by simp; omega
  have ku : decide (T < d) = false := decide_eq_false (by omega)
  have hs : ce - fl = 1 := by omega
  go_enter Tryd.func9, Tryd.ntmps9
  go_wp2_with fail
  refine wp_loop_rounds 5 ?_
  rw [rounds_succ]
  go_wp2_with fail
  refine (r1 _).mono ?_; rintro _ w1 ⟨rfl, hb⟩
  have pz : w.heap.size < (w1).heap.size := Nat.lt_of_lt_of_le (show w.heap.size < _ from (by first | assumption | (simp; done) | (simp; omega) | (dsimp only; omega) | omega)) hb.size; have p0 : (w1).cell? ⟨w.heap.size, 0, none⟩ = some (.int .i64 n) := (hb.cell (p := ⟨w.heap.size, 0, none⟩) (by first | assumption | (simp; done) | (simp; omega) | (dsimp only; omega) | omega)).trans (by first | assumption | (simp [go_sem]; done) | (simp [go_sem, *]; done)); have p1 : (w1).cell? ⟨w.heap.size, 1, none⟩ = some (.int .i64 d) := (hb.cell (p := ⟨w.heap.size, 1, none⟩) (by first | assumption | (simp; done) | (simp; omega) | (dsimp only; omega) | omega)).trans (by first | assumption | (simp [go_sem]; done) | (simp [go_sem, *]; done)); have pf : ∀ o, (w1).frozen? ⟨w.heap.size, o, none⟩ = false := fun o => (hb.frozen (p := ⟨w.heap.size, o, none⟩) (by first | assumption | (simp; done) | (simp; omega) | (dsimp only; omega) | omega)).trans (by first | (simp [go_sem]; done) | (simp [*]; done))
  have Ff : UB w.heap.size n d w1 := ⟨pz, p0, p1⟩
  have zz : w.heap.size + 1 < w1.heap.size := Nat.lt_of_lt_of_le (show w.heap.size + 1 < _ from (by first | assumption | (simp; done) | (simp; omega) | (dsimp only; omega) | omega)) hb.size
  have z0 := (hb.cell (p := ⟨w.heap.size + 1, 0, none⟩) (by first | assumption | (simp; done) | (simp; omega) | (dsimp only; omega) | omega)).trans (show _ = some (.int .i64 0) from (by first | assumption | (simp [go_sem]; done) | (simp [go_sem, *]; done)))
  have z1 := (hb.cell (p := ⟨w.heap.size + 1, 1, none⟩) (by first | assumption | (simp; done) | (simp; omega) | (dsimp only; omega) | omega)).trans (show _ = some (.int .i64 0) from (by first | assumption | (simp [go_sem]; done) | (simp [go_sem, *]; done)))
  have z2 := (hb.cell (p := ⟨w.heap.size + 1, 2, none⟩) (by first | assumption | (simp; done) | (simp; omega) | (dsimp only; omega) | omega)).trans (show _ = some (.int .i64 0) from (by first | assumption | (simp [go_sem]; done) | (simp [go_sem, *]; done)))
  have z3 := (hb.cell (p := ⟨w.heap.size + 1, 3, none⟩) (by first | assumption | (simp; done) | (simp; omega) | (dsimp only; omega) | omega)).trans (show _ = some (.int .i64 0) from (by first | assumption | (simp [go_sem]; done) | (simp [go_sem, *]; done)))
  have zf : ∀ o, w1.frozen? ⟨w.heap.size + 1, o, none⟩ = false := fun o => (hb.frozen (p := ⟨w.heap.size + 1, o, none⟩) (by first | assumption | (simp; done) | (simp; omega) | (dsimp only; omega) | omega)).trans (by first | (simp [go_sem]; done) | (simp [*]; done))
  have Fn : AR (w.heap.size + 1) 0 0 0 0 w1 := ⟨zz, z0, z1, z2, z3, zf⟩
  have BN : Below w.heap.size w w1 := by repeat' (first | (with_reducible exact Below.refl _ _) | (with_reducible refine Below.alloc ?_ ?_ _) | (with_reducible refine Below.setCell ?_ ?_ _) | (with_reducible refine Below.drew ?_) | (with_reducible refine Below.trans ?_ (Below.mono (by assumption) ?_)) | (simp; done) | (simp; omega) | omega)
  clear hb pf pz zz p0 p1 z0 z1 z2 z3 zf
  have zf := Fn.2.2.2.2.2
  have z0 := Fn.2.1
  go_wp2_with fail
  clear zf z0
  replace Ff := Ff.other (o := 0) (v := .int .i64 fl) (show w.heap.size ≠ w.heap.size + 1 by omega)
  have Fm := Fn.set0 (r := fl)
  have BV : Below w.heap.size w (w1.setCell ⟨w.heap.size + 1, 0, none⟩ (.int .i64 fl)) := Below.setCell BN (by first | omega | (simp; done) | (simp; omega)) _
  clear Fn BN
  have Fn := Fm
  have BN := BV
  clear Fm BV
  generalize (w1.setCell ⟨w.heap.size + 1, 0, none⟩ (.int .i64 fl)) = v0 at Ff Fn BN ⊢
  clear w1
  rw [rounds_succ]
  have p0 := Ff.2.1
  have p1 := Ff.2.2
  have z0 := Fn.2.1
  have z1 := Fn.2.2.1
  have z2 := Fn.2.2.2.1
  have z3 := Fn.2.2.2.2.1
  have zf := Fn.2.2.2.2.2
  go_wp2_with fail
  refine (r2 _).mono ?_; rintro _ w1 ⟨rfl, hb⟩
  clear p0 p1 z0 z1 z2 z3 zf
  replace Ff := Ff.below hb
  replace Fn := Fn.below hb
  have BN2 : Below w.heap.size w w1 := BN.trans (hb.mono BN.size)
  clear hb BN
  have BN := BN2
  clear BN2
  have zf := Fn.2.2.2.2.2
  have z1 := Fn.2.2.1
  go_wp2_with fail
  clear zf z1
  replace Ff := Ff.other (o := 1) (v := .int .i64 ce) (show w.heap.size ≠ w.heap.size + 1 by omega)
  have Fm := Fn.set1 (r := ce)
  have BV : Below w.heap.size w (w1.setCell ⟨w.heap.size + 1, 1, none⟩ (.int .i64 ce)) := Below.setCell BN (by first | omega | (simp; done) | (simp; omega)) _
  clear Fn BN
  have Fn := Fm
  have BN := BV
  clear Fm BV
  generalize (w1.setCell ⟨w.heap.size + 1, 1, none⟩ (.int .i64 ce)) = v1 at Ff Fn BN ⊢
  clear w1
  rw [rounds_succ]
  have p0 := Ff.2.1
  have p1 := Ff.2.2
  have z0 := Fn.2.1
  have z1 := Fn.2.2.1
  have z2 := Fn.2.2.2.1
  have z3 := Fn.2.2.2.2.1
  have zf := Fn.2.2.2.2.2
  go_wp2_with fail
  refine (r3 _).mono ?_; rintro _ w1 ⟨rfl, hb⟩
  clear p0 p1 z0 z1 z2 z3 zf
  replace Ff := Ff.below hb
  replace Fn := Fn.below hb
  have BN2 : Below w.heap.size w w1 := BN.trans (hb.mono BN.size)
  clear hb BN
  have BN := BN2
  clear BN2
  have zf := Fn.2.2.2.2.2
  have z2 := Fn.2.2.2.1
  go_wp2_with fail
  clear zf z2
  replace Ff := Ff.other (o := 2) (v := .int .i64 ce) (show w.heap.size ≠ w.heap.size + 1 by omega)
  have Fm := Fn.set2 (r := ce)
  have BV : Below w.heap.size w (w1.setCell ⟨w.heap.size + 1, 2, none⟩ (.int .i64 ce)) := Below.setCell BN (by first | omega | (simp; done) | (simp; omega)) _
  clear Fn BN
  have Fn := Fm
  have BN := BV
  clear Fm BV
  generalize (w1.setCell ⟨w.heap.size + 1, 2, none⟩ (.int .i64 ce)) = v2 at Ff Fn BN ⊢
  clear w1
  rw [rounds_succ]
  have p0 := Ff.2.1
  have p1 := Ff.2.2
  have z0 := Fn.2.1
  have z1 := Fn.2.2.1
  have z2 := Fn.2.2.2.1
  have z3 := Fn.2.2.2.2.1
  have zf := Fn.2.2.2.2.2
  go_wp2_with fail
  refine (r4 _).mono ?_; rintro _ w1 ⟨rfl, hb⟩
  clear p0 p1 z0 z1 z2 z3 zf
  replace Ff := Ff.below hb
  replace Fn := Fn.below hb
  have BN2 : Below w.heap.size w w1 := BN.trans (hb.mono BN.size)
  clear hb BN
  have BN := BN2
  clear BN2
  have zf := Fn.2.2.2.2.2
  have z3 := Fn.2.2.2.2.1
  go_wp2_with fail
  clear zf z3
  replace Ff := Ff.other (o := 3) (v := .int .i64 ce) (show w.heap.size ≠ w.heap.size + 1 by omega)
  have Fm := Fn.set3 (r := ce)
  have BV : Below w.heap.size w (w1.setCell ⟨w.heap.size + 1, 3, none⟩ (.int .i64 ce)) := Below.setCell BN (by first | omega | (simp; done) | (simp; omega)) _
  clear Fn BN
  have Fn := Fm
  have BN := BV
  clear Fm BV
  generalize (w1.setCell ⟨w.heap.size + 1, 3, none⟩ (.int .i64 ce)) = v3 at Ff Fn BN ⊢
  clear w1
  rw [rounds_succ]
  have p0 := Ff.2.1
  have p1 := Ff.2.2
  have z0 := Fn.2.1
  have z1 := Fn.2.2.1
  have z2 := Fn.2.2.2.1
  have z3 := Fn.2.2.2.2.1
  go_upto_region 10 with (go_at_call 34; (with_reducible refine (i1 _).mono ?_); rintro _ u ⟨rfl, hb⟩)
  clear p0 p1 z0 z1 z2 z3
  have Fl : UB u.heap.size fl 1 (u.alloc (Obj.cells #[.int .i64 fl, .int .i64 1] 32)) := ⟨by simp, by simp [go_sem], by simp [go_sem]⟩
  have BW : Below v3.heap.size v3 (u.alloc (Obj.cells #[.int .i64 fl, .int .i64 1] 32)) := Below.alloc hb hb.size _
  clear hb
  replace Ff := Ff.below BW
  replace Fn := Fn.below BW
  have BV : Below w.heap.size w (u.alloc (Obj.cells #[.int .i64 fl, .int .i64 1] 32)) := BN.trans (BW.mono BN.size)
  clear BW BN
  have BN := BV
  clear BV
  generalize (u.alloc (Obj.cells #[.int .i64 fl, .int .i64 1] 32)) = xl at Fl Ff Fn BN ⊢
  generalize u.heap.size = kl at Fl ⊢
  clear u
  have p0 := Ff.2.1
  have p1 := Ff.2.2
  have z0 := Fn.2.1
  have z1 := Fn.2.2.1
  have z2 := Fn.2.2.2.1
  have z3 := Fn.2.2.2.2.1
  go_upto_region 11 with (go_at_call 34; (with_reducible refine (i2 _).mono ?_); rintro _ u ⟨rfl, hb⟩)
  clear p0 p1 z0 z1 z2 z3
  have Fh : UB u.heap.size ce 1 (u.alloc (Obj.cells #[.int .i64 ce, .int .i64 1] 32)) := ⟨by simp, by simp [go_sem], by simp [go_sem]⟩
  have BW : Below xl.heap.size xl (u.alloc (Obj.cells #[.int .i64 ce, .int .i64 1] 32)) := Below.alloc hb hb.size _
  clear hb
  replace Ff := Ff.below BW
  replace Fn := Fn.below BW
  replace Fl := Fl.below BW
  have BV : Below w.heap.size w (u.alloc (Obj.cells #[.int .i64 ce, .int .i64 1] 32)) := BN.trans (BW.mono BN.size)
  clear BW BN
  have BN := BV
  clear BV
  generalize (u.alloc (Obj.cells #[.int .i64 ce, .int .i64 1] 32)) = xh at Fh Ff Fn Fl BN ⊢
  generalize u.heap.size = kh at Fh ⊢
  clear u
  have p0 := Ff.2.1
  have p1 := Ff.2.2
  have z0 := Fn.2.1
  have z1 := Fn.2.2.1
  have z2 := Fn.2.2.2.1
  have z3 := Fn.2.2.2.2.1
  have l0 := Fl.2.1
  have l1 := Fl.2.2
  have g0 := Fh.2.1
  have g1 := Fh.2.2
  go_wp2_with fail
  refine (c1 _).mono ?_; rintro _ y0 ⟨rfl, hb⟩
  clear p0 p1 z0 z1 z2 z3 l0 l1 g0 g1
  replace Ff := Ff.below hb
  replace Fn := Fn.below hb
  replace Fl := Fl.below hb
  replace Fh := Fh.below hb
  have BV : Below w.heap.size w y0 := BN.trans (hb.mono BN.size)
  clear hb BN
  have BN := BV
  clear BV
  have p0 := Ff.2.1
  have p1 := Ff.2.2
  have z0 := Fn.2.1
  have z1 := Fn.2.2.1
  have z2 := Fn.2.2.2.1
  have z3 := Fn.2.2.2.2.1
  have l0 := Fl.2.1
  have l1 := Fl.2.2
  have g0 := Fh.2.1
  have g1 := Fh.2.2
  go_wp2_with fail
  refine (c2 _).mono ?_; rintro _ y1 ⟨rfl, hb⟩
  clear p0 p1 z0 z1 z2 z3 l0 l1 g0 g1
  replace Ff := Ff.below hb
  replace Fn := Fn.below hb
  replace Fl := Fl.below hb
  replace Fh := Fh.below hb
  have BV : Below w.heap.size w y1 := BN.trans (hb.mono BN.size)
  clear hb BN
  have BN := BV
  clear BV
  have p0 := Ff.2.1
  have p1 := Ff.2.2
  have z0 := Fn.2.1
  have z1 := Fn.2.2.1
  have z2 := Fn.2.2.2.1
  have z3 := Fn.2.2.2.2.1
  have l0 := Fl.2.1
  have l1 := Fl.2.2
  have g0 := Fh.2.1
  have g1 := Fh.2.2
  clear l0 l1 g0 g1 Fl Fh
  go_wp2_with fail
  refine wp_loop_rounds 3 ?_
  rw [rounds_succ]
  go_wp2_with fail
  go_quiet (fail)
  clear p0 p1 z0 z1 z2 z3
  have BD : Below y1.heap.size y1 (y1.drewN nq) := below_dn (Below.refl _ _) _
  replace Ff := Ff.below BD
  replace Fn := Fn.below BD
  have BV : Below w.heap.size w (y1.drewN nq) := BN.trans (BD.mono BN.size)
  clear BN BD
  have BN := BV
  clear BV
  generalize y1.drewN nq = a0 at Ff Fn BN ⊢
  clear nq
  have p0 := Ff.2.1
  have p1 := Ff.2.2
  have z0 := Fn.2.1
  have z1 := Fn.2.2.1
  have z2 := Fn.2.2.2.1
  have z3 := Fn.2.2.2.2.1
  go_wp2_with fail
  go_quiet (fail)
  clear p0 p1 z0 z1 z2 z3
  have BD : Below a0.heap.size a0 (a0.drewN nq) := below_dn (Below.refl _ _) _
  replace Ff := Ff.below BD
  replace Fn := Fn.below BD
  have BV : Below w.heap.size w (a0.drewN nq) := BN.trans (BD.mono BN.size)
  clear BN BD
  have BN := BV
  clear BV
  generalize a0.drewN nq = b0 at Ff Fn BN ⊢
  clear nq
  have p0 := Ff.2.1
  have p1 := Ff.2.2
  have z0 := Fn.2.1
  have z1 := Fn.2.2.1
  have z2 := Fn.2.2.2.1
  have z3 := Fn.2.2.2.2.1
  go_wp2_with fail
  rw [rounds_succ]
  go_wp2_with fail
  go_quiet (fail)
  clear p0 p1 z0 z1 z2 z3
  have BD : Below b0.heap.size b0 (b0.drewN nq) := below_dn (Below.refl _ _) _
  replace Ff := Ff.below BD
  replace Fn := Fn.below BD
  have BV : Below w.heap.size w (b0.drewN nq) := BN.trans (BD.mono BN.size)
  clear BN BD
  have BN := BV
  clear BV
  generalize b0.drewN nq = a1 at Ff Fn BN ⊢
  clear nq
  have p0 := Ff.2.1
  have p1 := Ff.2.2
  have z0 := Fn.2.1
  have z1 := Fn.2.2.1
  have z2 := Fn.2.2.2.1
  have z3 := Fn.2.2.2.2.1
  go_wp2_with fail
  go_quiet (fail)
  clear p0 p1 z0 z1 z2 z3
  have BD : Below a1.heap.size a1 (a1.drewN nq) := below_dn (Below.refl _ _) _
  replace Ff := Ff.below BD
  replace Fn := Fn.below BD
  have BV : Below w.heap.size w (a1.drewN nq) := BN.trans (BD.mono BN.size)
  clear BN BD
  have BN := BV
  clear BV
  generalize a1.drewN nq = b1 at Ff Fn BN ⊢
  clear nq
  have p0 := Ff.2.1
  have p1 := Ff.2.2
  have z0 := Fn.2.1
  have z1 := Fn.2.2.1
  have z2 := Fn.2.2.2.1
  have z3 := Fn.2.2.2.2.1
  go_wp2_with fail
  rw [rounds_succ]
  go_wp2_with fail
  refine (aw _ BN).mono ?_; rintro _ e1 ⟨rfl, hb⟩
  have BE : Below w.heap.size w e1 := BN.trans (hb.mono BN.size)
  clear hb BN
  go_wp2_with fail
  go_ret
  exact Gives.mk rfl BE

namespace Sp
theorem fchk_int {x : Int} (h0 : -1000000000000000 ≤ x) (h1 : x ≤ 1000000000000000) : fchk x 1 = 0 :=
  fchk_zero.2 ⟨by omega, by omega, by omega, by omega, by simp⟩
theorem new_int {x : Int} (h0 : -1000000000000000 ≤ x) (h1 : x ≤ 1000000000000000) : newS x 1 = (x, 1, 0) := by
  unfold newS
  have g : Int.gcd x 1 = 1 := by simp
  have hs : decide ((1 : Int) < 0) = false := by simp
  rw [if_neg (by omega), g]
  rw [hs]
  by_cases c : x < 0
  · rw [decide_eq_true c]
    have e1 : ¬ (1000000000000000 < ((x.natAbs : Nat) : Int) / ((1 : Nat) : Int) ∨ 1000000000000000 < (((1 : Int).natAbs : Nat) : Int) / ((1 : Nat) : Int)) := by omega
    rw [if_neg e1]
    simp
    omega
  · rw [decide_eq_false c]
    have e1 : ¬ (1000000000000000 < ((x.natAbs : Nat) : Int) / ((1 : Nat) : Int) ∨ 1000000000000000 < (((1 : Int).natAbs : Nat) : Int) / ((1 : Nat) : Int)) := by omega
    rw [if_neg e1]
    simp
    omega
theorem cmp_le {a b c d : Int} (h : a * d ≤ c * b) : cmpF a b c d ≤ 0 := by
  unfold cmpF Wd.cmpI
  repeat' split
  all_goals omega
theorem cmp_ge {a b c d : Int} (h : c * b ≤ a * d) : 0 ≤ cmpF a b c d := by
  unfold cmpF Wd.cmpI
  repeat' split
  all_goals omega
theorem near_cases (n d : Int) (up : Bool) : (nearS n d up = n / d + 1 ∧ d ≤ 2 * (n - n / d * d)) ∨ (nearS n d up = n / d ∧ 2 * (n - n / d * d) ≤ d) := by
  unfold nearS
  by_cases h : d < 2 * (n - n / d * d) ∨ (2 * (n - n / d * d) = d ∧ up = true)
  · rw [if_pos h]; left; refine ⟨rfl, ?_⟩; rcases h with h | h <;> omega
  · rw [if_neg h]; right; exact ⟨rfl, by omega⟩
theorem one_of_whole {n d : Int} (h : fchk n d = 0) (hz : n % d = 0) : d = 1 := by
  obtain ⟨d0, _, _, _, g⟩ := fchk_zero.1 h
  have hd : d ∣ n := Int.dvd_of_emod_eq_zero hz
  have hg : Int.gcd n d = d.natAbs := by
    have h1 : (Int.gcd n d : Int) ∣ d := Int.gcd_dvd_right n d
    have h2 : d ∣ (Int.gcd n d : Int) := Int.dvd_coe_gcd hd (Int.dvd_refl d)
    have := Int.natAbs_dvd_natAbs.2 h1
    have h3 := Int.natAbs_dvd_natAbs.2 h2
    simp only [Int.natAbs_natCast] at this h3
    exact Nat.dvd_antisymm this h3
  omega
end Sp
theorem ubet_as (n d : Int) (n0 : -9223372036854775808 ≤ n) (n1 : n ≤ 9223372036854775807) (d0 : -9223372036854775808 ≤ d) (d1 : d ≤ 9223372036854775807) (w : World) (ht : Lib.TabIs Tryd.prog w "internal/strconv.uint64pow10" .u64 Lib.pow10Tab) (K : KI w) :
    Calls Tryd.prog 9 #[.agg #[.int .i64 n, .int .i64 d]] w (Gives (.bool true) w) := by
  have aw := fun W (B : Below w.heap.size w W) => uawake_any W (tab_below gPow ht B) (K.below B)
  have r1 := fun w => uround_any n d 1 n0 n1 d0 d1 w
  have r2 := fun w => uround_any n d 2 n0 n1 d0 d1 w
  have r3 := fun w => uround_any n d 3 n0 n1 d0 d1 w
  have r4 := fun w => uround_any n d 4 n0 n1 d0 d1 w
  unfold Sp.roundS at r1 r2 r3 r4
  by_cases h : Sp.fchk n d = 0
  · rw [if_neg (by omega)] at r1 r2 r3 r4
    simp only [if_true, show ¬ ((2 : Int) = 1) by omega, show ¬ ((3 : Int) = 1) by omega, show ¬ ((3 : Int) = 2) by omega, show ¬ ((4 : Int) = 1) by omega, show ¬ ((4 : Int) = 2) by omega, show ¬ ((4 : Int) = 3) by omega, if_false] at r1 r2 r3 r4
    obtain ⟨dp, m0, m1, dm⟩ := Sp.uvalid h
    have nc := Sp.near_cases n d
    obtain ⟨fl, N, D, T, e1, e2, e3, e4, b1, b2, b3, b4, b5, b6, b7, b8, D0, D1, eD⟩ := Sp.floor_nums h
    have hc := Sp.ceil_of_floor (n := n) dp
    have ow := Sp.one_of_whole h
    generalize hx : Sp.nearS n d true = x at r3
    have nx := nc true
    rw [hx] at nx
    generalize decide (¬ (n / d).tmod 2 = 0) = up at r4
    generalize hy : Sp.nearS n d up = y at r4
    have ny := nc up
    rw [hy] at ny
    have fb : -1000000000000000 ≤ n / d ∧ n / d ≤ 1000000000000000 := by
      constructor
      · rw [Int.le_ediv_iff_mul_le dp]
        have := Int.mul_le_mul_of_nonneg_left (show (1 : Int) ≤ d from dp) (show (0 : Int) ≤ 1000000000000000 by omega)
        omega
      · by_cases q : 0 ≤ n
        · have := Int.ediv_le_self d q; omega
        · have : n / d < 1 := Int.ediv_lt_of_lt_mul dp (by omega)
          omega
    rw [e1] at r1 hc nx ny fb
    rw [e2, e3, e4] at nx ny
    rw [← eD] at hc ow
    rw [hc] at r2
    have i1 := fun w => fint_any fl (by omega) (by omega) _ _ _ (Sp.new_int fb.1 fb.2) w
    have c1 := fun w => fcmp_any fl 1 n d (by omega) (by omega) (by omega) (by omega) (by omega) (by omega) (by omega) (by omega) w
    have hcl : Sp.cmpF fl 1 n d ≤ 0 := Sp.cmp_le (by omega)
    by_cases hz : D = 0
    · rw [if_pos hz] at r2
      have hd := ow hz
      obtain rfl : x = fl := by omega
      obtain rfl : y = x := by omega
      have hch : 0 ≤ Sp.cmpF y 1 n d := Sp.cmp_ge (by omega)
      exact ubet_whole n d y D N T _ _ hd (by omega) fb.1 fb.2 e2 e3 e4 b1 b2 b3 b4 b7 b8 hcl hch w r1 r2 r3 r4 i1 i1 c1 c1 aw
    · rw [if_neg hz] at r2
      have hd : ¬ d = 1 := by omega
      have fb2 : fl + 1 ≤ 1000000000000000 := by
        rcases Int.lt_or_le (fl + 1) 1000000000000001 with q | q
        · omega
        · have h2 : fl * 2 ≤ fl * d := Int.mul_le_mul_of_nonneg_left (by omega) (by omega)
          omega
      have i2 := fun w => fint_any (fl + 1) (by omega) (by omega) _ _ _ (Sp.new_int (by omega) fb2) w
      have c2 := fun w => fcmp_any (fl + 1) 1 n d (by omega) (by omega) (by omega) (by omega) (by omega) (by omega) (by omega) (by omega) w
      have em : (fl + 1) * d = N + d := by rw [Int.add_mul, e2, Int.one_mul]
      have hch : 0 ≤ Sp.cmpF (fl + 1) 1 n d := Sp.cmp_ge (by omega)
      rcases nx with ⟨rfl, hx2⟩ | ⟨rfl, hx2⟩ <;> rcases ny with ⟨rfl, hy2⟩ | ⟨rfl, hy2⟩
      · exact ubet_hh n d fl D N T _ _ _ hd hx2 rfl fb.1 fb.2 e2 e3 e4 b1 b2 b3 b4 b7 b8 hcl hch w r1 r2 r3 r4 i1 i2 c1 c2 aw
      · exact ubet_hl n d y D N T _ _ _ hd hy2 hx2 rfl fb.1 fb.2 e2 e3 e4 b1 b2 b3 b4 b7 b8 hcl hch w r1 r2 r3 r4 i1 i2 c1 c2 aw
      · exact ubet_lh n d x D N T _ _ _ hd hx2 hy2 rfl fb.1 fb.2 e2 e3 e4 b1 b2 b3 b4 b7 b8 hcl hch w r1 r2 r3 r4 i1 i2 c1 c2 aw
      · exact ubet_ll n d _ D N T _ _ _ hd hx2 rfl fb.1 fb.2 e2 e3 e4 b1 b2 b3 b4 b7 b8 hcl hch w r1 r2 r3 r4 i1 i2 c1 c2 aw
  · rw [if_pos h] at r1
    exact ubet_bad n d _ h w r1 (fun w => fcheck_any n d n0 n1 d0 d1 w) aw

end Go.Proofs.YtgfjofdjicepiaaDoor
