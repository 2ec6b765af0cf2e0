/-
  UnitsRounds and UnitsAreas: the walks.
-/
import Derived.Test.YtgfjofdjicepiaaDoorUawake
import Derived.Test.YtgfjofdjicepiaaDoorUkinds
namespace Go.Proofs.YtgfjofdjicepiaaDoor
open Go.RowKit
set_option linter.unusedVariables false
set_option linter.unusedSimpArgs false
set_option maxRecDepth 100000 in
set_option maxHeartbeats 2000000 in
theorem urounds_walk (n d way r e : Int) (w : World) (ru : ∀ w : World, Calls Tryd.prog 20 #[.agg #[.int .i64 n, .int .i64 d], .int .i64 way] w (Gives (.tuple #[.int .i64 r, .int .i64 e]) w)) (rr : ∀ w : World, Calls Tryd.prog 21 #[.agg #[.int .i64 n, .int .i64 d], .int .i64 way] w (Gives (.tuple #[.int .i64 r, .int .i64 e]) w))
    (aw : ∀ W, Below w.heap.size w W → Calls Tryd.prog 17 #[] W (Gives (.bool true) W)) :
    Calls Tryd.prog 5 #[.agg #[.int .i64 n, .int .i64 d], .int .i64 way] w (Gives (.bool true) w) := by
  go_enter Tryd.func5, Tryd.ntmps5
  go_wp2_with fail
  refine (ru _).mono ?_; rintro _ w1 ⟨rfl, hb⟩
  have pz : w.heap.size < (w1).heap.size := Nat.lt_of_lt_of_le (show w.heap.size < _ from (by first | assumption | (simp; done) | (simp; omega) | (dsimp only; omega) | omega)) hb.size; have p0 : (w1).cell? ⟨w.heap.size, 0, none⟩ = some (.int .i64 n) := (hb.cell (p := ⟨w.heap.size, 0, none⟩) (by first | assumption | (simp; done) | (simp; omega) | (dsimp only; omega) | omega)).trans (by first | assumption | (simp [go_sem]; done) | (simp [go_sem, *]; done)); have p1 : (w1).cell? ⟨w.heap.size, 1, none⟩ = some (.int .i64 d) := (hb.cell (p := ⟨w.heap.size, 1, none⟩) (by first | assumption | (simp; done) | (simp; omega) | (dsimp only; omega) | omega)).trans (by first | assumption | (simp [go_sem]; done) | (simp [go_sem, *]; done)); have pf : ∀ o, (w1).frozen? ⟨w.heap.size, o, none⟩ = false := fun o => (hb.frozen (p := ⟨w.heap.size, o, none⟩) (by first | assumption | (simp; done) | (simp; omega) | (dsimp only; omega) | omega)).trans (by first | (simp [go_sem]; done) | (simp [*]; done))
  have B1 : Below w.heap.size w w1 := by repeat' (first | (with_reducible exact Below.refl _ _) | (with_reducible refine Below.alloc ?_ ?_ _) | (with_reducible refine Below.setCell ?_ ?_ _) | (with_reducible refine Below.drew ?_) | (with_reducible refine Below.trans ?_ (Below.mono (by assumption) ?_)) | (simp; done) | (simp; omega) | omega)
  clear hb
  go_wp2_with fail
  refine (rr _).mono ?_; rintro _ w2 ⟨rfl, hb⟩
  have B2 : Below w.heap.size w w2 := B1.trans (hb.mono B1.size)
  clear hb B1
  go_wp2_with fail
  refine (aw _ B2).mono ?_; rintro _ w3 ⟨rfl, hb⟩
  have B3 : Below w.heap.size w w3 := B2.trans (hb.mono B2.size)
  clear hb B2
  go_wp2_with fail
  go_ret
  exact Gives.mk rfl B3
theorem urounds_as (n d way : Int) (n0 : -9223372036854775808 ≤ n) (n1 : n ≤ 9223372036854775807) (d0 : -9223372036854775808 ≤ d) (d1 : d ≤ 9223372036854775807) (y0 : -9223372036854775808 ≤ way) (y1 : way ≤ 9223372036854775807) (w : World) (ht : Lib.TabIs Tryd.prog w "internal/strconv.uint64pow10" .u64 Lib.pow10Tab) (K : KI w) :
    Calls Tryd.prog 5 #[.agg #[.int .i64 n, .int .i64 d], .int .i64 way] w (Gives (.bool true) w) :=
  urounds_walk n d way _ _ w (fun w => uround_any n d way n0 n1 d0 d1 w) (fun w => rround4_any n d way n0 n1 d0 d1 w) (fun W B => uawake_any W (tab_below gPow ht B) (K.below B))
set_option maxRecDepth 100000 in
set_option maxHeartbeats 2000000 in
theorem uareas_walk (n a lo hi e x y g : Int) (w : World) (hu : ∀ w : World, Calls Tryd.prog 22 #[.int .i64 a] w (Gives (.tuple #[.agg #[.int .i64 lo, .int .i64 hi], .int .i64 e]) w)) (hr : ∀ w : World, Calls Tryd.prog 23 #[.int .i64 a] w (Gives (.tuple #[.agg #[.int .i64 lo, .int .i64 hi], .int .i64 e]) w))
    (pu : ∀ w : World, Calls Tryd.prog 24 #[.int .i64 n, .int .i64 a] w (Gives (.tuple #[.agg #[.int .i64 x, .int .i64 y], .int .i64 g]) w)) (pr : ∀ w : World, Calls Tryd.prog 25 #[.int .i64 n, .int .i64 a] w (Gives (.tuple #[.agg #[.int .i64 x, .int .i64 y], .int .i64 g]) w))
    (s1 : ∀ w : World, Calls Tryd.prog 26 #[.agg #[.int .i64 lo, .int .i64 hi], .agg #[.int .i64 lo, .int .i64 hi]] w (Gives (.bool true) w)) (s2 : ∀ w : World, Calls Tryd.prog 26 #[.agg #[.int .i64 x, .int .i64 y], .agg #[.int .i64 x, .int .i64 y]] w (Gives (.bool true) w))
    (aw : ∀ W, Below w.heap.size w W → Calls Tryd.prog 17 #[] W (Gives (.bool true) W)) :
    Calls Tryd.prog 6 #[.int .i64 n, .int .i64 a] w (Gives (.bool true) w) := by
  go_enter Tryd.func6, Tryd.ntmps6
  have B0 := Below.refl w.heap.size w
  go_upto_region 2 with (go_at_call 22; (with_reducible refine (hu _).mono ?_); rintro _ u ⟨rfl, hb⟩)
  have Fa : UB u.heap.size lo hi (u.alloc (Obj.cells #[.int .i64 lo, .int .i64 hi] 32)) := ⟨by simp, by simp [go_sem], by simp [go_sem]⟩
  have BW : Below w.heap.size w (u.alloc (Obj.cells #[.int .i64 lo, .int .i64 hi] 32)) := Below.alloc hb hb.size _
  clear hb
  have B1 : Below w.heap.size w (u.alloc (Obj.cells #[.int .i64 lo, .int .i64 hi] 32)) := B0.trans (BW.mono B0.size)
  clear BW B0
  generalize (u.alloc (Obj.cells #[.int .i64 lo, .int .i64 hi] 32)) = v1 at Fa  B1 ⊢
  generalize u.heap.size = ka at Fa ⊢
  clear u
  go_upto_region 3 with (go_at_call 23; (with_reducible refine (hr _).mono ?_); rintro _ u ⟨rfl, hb⟩)
  have Fb : UB u.heap.size lo hi (u.alloc (Obj.cells #[.int .i64 lo, .int .i64 hi] 32)) := ⟨by simp, by simp [go_sem], by simp [go_sem]⟩
  have BW : Below v1.heap.size v1 (u.alloc (Obj.cells #[.int .i64 lo, .int .i64 hi] 32)) := Below.alloc hb hb.size _
  clear hb
  replace Fa := Fa.below BW
  have B2 : Below w.heap.size w (u.alloc (Obj.cells #[.int .i64 lo, .int .i64 hi] 32)) := B1.trans (BW.mono B1.size)
  clear BW B1
  generalize (u.alloc (Obj.cells #[.int .i64 lo, .int .i64 hi] 32)) = v2 at Fb Fa B2 ⊢
  generalize u.heap.size = kb at Fb ⊢
  clear u
  go_upto_region 4 with (go_at_call 24; (with_reducible refine (pu _).mono ?_); rintro _ u ⟨rfl, hb⟩)
  have Fx : UB u.heap.size x y (u.alloc (Obj.cells #[.int .i64 x, .int .i64 y] 32)) := ⟨by simp, by simp [go_sem], by simp [go_sem]⟩
  have BW : Below v2.heap.size v2 (u.alloc (Obj.cells #[.int .i64 x, .int .i64 y] 32)) := Below.alloc hb hb.size _
  clear hb
  replace Fa := Fa.below BW
  replace Fb := Fb.below BW
  have B3 : Below w.heap.size w (u.alloc (Obj.cells #[.int .i64 x, .int .i64 y] 32)) := B2.trans (BW.mono B2.size)
  clear BW B2
  generalize (u.alloc (Obj.cells #[.int .i64 x, .int .i64 y] 32)) = v3 at Fx Fa Fb B3 ⊢
  generalize u.heap.size = kx at Fx ⊢
  clear u
  go_upto_region 5 with (go_at_call 25; (with_reducible refine (pr _).mono ?_); rintro _ u ⟨rfl, hb⟩)
  have Fy : UB u.heap.size x y (u.alloc (Obj.cells #[.int .i64 x, .int .i64 y] 32)) := ⟨by simp, by simp [go_sem], by simp [go_sem]⟩
  have BW : Below v3.heap.size v3 (u.alloc (Obj.cells #[.int .i64 x, .int .i64 y] 32)) := Below.alloc hb hb.size _
  clear hb
  replace Fa := Fa.below BW
  replace Fb := Fb.below BW
  replace Fx := Fx.below BW
  have B4 : Below w.heap.size w (u.alloc (Obj.cells #[.int .i64 x, .int .i64 y] 32)) := B3.trans (BW.mono B3.size)
  clear BW B3
  generalize (u.alloc (Obj.cells #[.int .i64 x, .int .i64 y] 32)) = v4 at Fy Fa Fb Fx B4 ⊢
  generalize u.heap.size = ky at Fy ⊢
  clear u
  have a0 := Fa.2.1
  have a1 := Fa.2.2
  have b0 := Fb.2.1
  have b1 := Fb.2.2
  have x0 := Fx.2.1
  have x1 := Fx.2.2
  have y0 := Fy.2.1
  have y1 := Fy.2.2
  go_wp2_with fail
  refine (s1 _).mono ?_; rintro _ w5 ⟨rfl, hb⟩
  replace Fx := Fx.below hb
  replace Fy := Fy.below hb
  have B5 : Below w.heap.size w w5 := B4.trans (hb.mono B4.size)
  clear hb B4 a0 a1 b0 b1 x0 x1 y0 y1
  have x0 := Fx.2.1
  have x1 := Fx.2.2
  have y0 := Fy.2.1
  have y1 := Fy.2.2
  go_wp2_with fail
  refine (s2 _).mono ?_; rintro _ w6 ⟨rfl, hb⟩
  have B6 : Below w.heap.size w w6 := B5.trans (hb.mono B5.size)
  clear hb B5 x0 x1 y0 y1
  go_wp2_with fail
  refine (aw _ B6).mono ?_; rintro _ w7 ⟨rfl, hb⟩
  have B7 : Below w.heap.size w w7 := B6.trans (hb.mono B6.size)
  clear hb B6
  go_wp2_with fail
  go_ret
  exact Gives.mk rfl B7
theorem uareas_as (n a : Int) (n0 : -9223372036854775808 ≤ n) (n1 : n ≤ 9223372036854775807) (a0 : -9223372036854775808 ≤ a) (a1 : a ≤ 9223372036854775807) (w : World) (ht : Lib.TabIs Tryd.prog w "internal/strconv.uint64pow10" .u64 Lib.pow10Tab) (K : KI w) :
    Calls Tryd.prog 6 #[.int .i64 n, .int .i64 a] w (Gives (.bool true) w) :=
  uareas_walk n a _ _ _ _ _ _ w (fun w => uhect_any a _ _ _ a0 a1 rfl w) (fun w => rhect_any a _ _ _ a0 a1 rfl w) (fun w => uperh_any n a _ _ _ n0 n1 a0 a1 rfl w) (fun w => rperh_any n a _ _ _ n0 n1 a0 a1 rfl w)
    (fun w => rsame_true _ _ w) (fun w => rsame_true _ _ w) (fun W B => uawake_any W (tab_below gPow ht B) (K.below B))
end Go.Proofs.YtgfjofdjicepiaaDoor
