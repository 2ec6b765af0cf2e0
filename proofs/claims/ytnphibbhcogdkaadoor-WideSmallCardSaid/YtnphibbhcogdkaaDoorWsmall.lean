/-
  WideSmall: the walk.
-/
import Derived.Test.YtnphibbhcogdkaaDoorWawake
import Derived.Test.YtnphibbhcogdkaaDoorWsub
import Derived.Lib.AppendIntMem
import Derived.Lib.LaidTab
namespace Go.Proofs.YtnphibbhcogdkaaDoor
open Go.RowKit
set_option linter.unusedVariables false
set_option linter.unusedSimpArgs false

/-- A table that lay ahead of the call lies there still. -/
theorem tab_below {P : Program} {n : String} {g : Nat} {k : IntKind} {zs : List Int} {w w' : World} (hg : P.globalNamed n = some g) (h : Lib.TabIs P w n k zs) (hb : Below w.heap.size w w') : Lib.TabIs P w' n k zs := by
  unfold Lib.TabIs World.var? at h ⊢
  rw [hg] at h ⊢
  simp only [Option.bind_some] at h ⊢
  by_cases hl : g < w.heap.size
  · rw [hb.block g hl]; exact h
  · rw [Array.getElem?_eq_none (by omega)] at h
    simp at h
/-- strconv.Itoa, wherever the table of the powers of ten lies as it lay. -/
theorem itoa_gives (n : Int) (h0 : -9223372036854775808 ≤ n) (h1 : n ≤ 9223372036854775807) (W : World) (ht : Lib.TabIs Tryd.prog W "internal/strconv.uint64pow10" .u64 Lib.pow10Tab) (T : ByteArray) (hT : T = ⟨(Lib.itoa n).toArray⟩) :
    Calls Tryd.prog 10 #[.int .i64 n] W (Gives (.string T) W) := by
  refine (Tryd.strconv_Itoa n h0 h1 W ht).mono ?_
  rintro e w' ⟨rfl, k, os, rfl⟩
  subst hT
  exact Gives.mk rfl (Lib.below_grow _ _ (Nat.le_refl _) k os)
/-- What the first half asks: sums and differences of a product and an int, and the text. -/
structure SmallFirst (w : World) (x y z P : Int) (nx : Bool) (hx lx : Int) (nz : Bool) (hz lz : Int) (ns : Bool) (hs ls : Int) (nd : Bool) (hd ld : Int) (T : ByteArray) : Prop where
  mu : ∀ w : World, Calls Tryd.prog 5 #[.int .i64 x, .int .i64 y] w fun e w' => e = .returned (.agg #[.bool nx, .int .u64 hx, .int .u64 lx]) ∧ w' = (w.alloc (Obj.cells #[.bool nx, .int .u64 hx, .int .u64 lx] 24)).alloc (Obj.cells #[.bool nx, .int .u64 hx, .int .u64 lx] 24)
  oz : ∀ w : World, Calls Tryd.prog 6 #[.int .i64 z] w fun e w' => e = .returned (.agg #[.bool nz, .int .u64 hz, .int .u64 lz]) ∧ w' = (w.alloc (Obj.cells #[.bool nz, .int .u64 hz, .int .u64 lz] 24)).alloc (Obj.cells #[.bool nz, .int .u64 hz, .int .u64 lz] 24)
  ad : ∀ w : World, Calls Tryd.prog 4 #[.agg #[.bool nx, .int .u64 hx, .int .u64 lx], .agg #[.bool nz, .int .u64 hz, .int .u64 lz]] w (Gives (.tuple #[.agg #[.bool ns, .int .u64 hs, .int .u64 ls], .int .i64 0]) w)
  i1 : ∀ w : World, Calls Tryd.prog 7 #[.agg #[.bool ns, .int .u64 hs, .int .u64 ls]] w (Gives (.tuple #[.int .i64 (P + z), .int .i64 0]) w)
  su : ∀ w : World, Calls Tryd.prog 8 #[.agg #[.bool nx, .int .u64 hx, .int .u64 lx], .agg #[.bool nz, .int .u64 hz, .int .u64 lz]] w (Gives (.tuple #[.agg #[.bool nd, .int .u64 hd, .int .u64 ld], .int .i64 0]) w)
  i2 : ∀ w : World, Calls Tryd.prog 7 #[.agg #[.bool nd, .int .u64 hd, .int .u64 ld]] w (Gives (.tuple #[.int .i64 (P - z), .int .i64 0]) w)
  tx : ∀ w : World, Calls Tryd.prog 9 #[.agg #[.bool ns, .int .u64 hs, .int .u64 ls]] w (Gives (.string T) w)
  it : ∀ W : World, Below w.heap.size w W → Calls Tryd.prog 10 #[.int .i64 (P + z)] W (Gives (.string T) W)
/-- .. the last statement: how two ints compare. -/
structure SmallLast (x y : Int) (na : Bool) (ha la : Int) (nb : Bool) (hb lb : Int) (v : Int) : Prop where
  ox : ∀ w : World, Calls Tryd.prog 6 #[.int .i64 x] w fun e w' => e = .returned (.agg #[.bool na, .int .u64 ha, .int .u64 la]) ∧ w' = (w.alloc (Obj.cells #[.bool na, .int .u64 ha, .int .u64 la] 24)).alloc (Obj.cells #[.bool na, .int .u64 ha, .int .u64 la] 24)
  oy : ∀ w : World, Calls Tryd.prog 6 #[.int .i64 y] w fun e w' => e = .returned (.agg #[.bool nb, .int .u64 hb, .int .u64 lb]) ∧ w' = (w.alloc (Obj.cells #[.bool nb, .int .u64 hb, .int .u64 lb] 24)).alloc (Obj.cells #[.bool nb, .int .u64 hb, .int .u64 lb] 24)
  cm : ∀ w : World, Calls Tryd.prog 12 #[.agg #[.bool na, .int .u64 ha, .int .u64 la], .agg #[.bool nb, .int .u64 hb, .int .u64 lb]] w (Gives (.int .i64 v) w)
/-- .. the division. -/
structure SmallDiv (x z : Int) (na : Bool) (ha la : Int) (nq : Bool) (hq lq k r : Int) : Prop where
  dv : ∀ w : World, Calls Tryd.prog 11 #[.agg #[.bool na, .int .u64 ha, .int .u64 la], .int .i64 z] w (Gives (.tuple #[.agg #[.bool nq, .int .u64 hq, .int .u64 lq], .int .i64 r, .int .i64 0]) w)
  i3 : ∀ w : World, Calls Tryd.prog 7 #[.agg #[.bool nq, .int .u64 hq, .int .u64 lq]] w (Gives (.tuple #[.int .i64 k, .int .i64 0]) w)
set_option maxRecDepth 100000 in
set_option maxHeartbeats 4000000 in
theorem small_zero (x y z P : Int) (nx : Bool) (hx lx : Int) (nz : Bool) (hz lz : Int) (ns : Bool) (hs ls : Int) (nd : Bool) (hd ld : Int) (T : ByteArray) (na : Bool) (ha la : Int) (nb : Bool) (hb' lb v : Int) (w : World)
    (x0 : -2147483648 ≤ x) (x1 : x ≤ 2147483647) (y0 : -2147483648 ≤ y) (y1 : y ≤ 2147483647) (z0 : -2147483648 ≤ z) (z1' : z ≤ 2147483647) (P0 : -4611686018427387904 ≤ P) (P1 : P ≤ 4611686018427387904) (hP : x * y = P) (hc : decide (v < 0) = decide (x < y))
    (F : SmallFirst w x y z P nx hx lx nz hz lz ns hs ls nd hd ld T) (G : SmallLast x y na ha la nb hb' lb v) (hz0 : (z != 0) = false) :
    Calls Tryd.prog 3 #[.int .i32 x, .int .i32 y, .int .i32 z] w (Gives (.bool true) w) := by
  have mu := F.mu
  have oz := F.oz
  have ad := F.ad
  have i1 := F.i1
  have su := F.su
  have i2 := F.i2
  have tx := F.tx
  have it := hid F.it
  have ox := G.ox
  have oy := G.oy
  have cm := G.cm
  clear F G
  go_enter Tryd.func3, Tryd.ntmps3
  go_wp2_with fail
  refine (mu _).mono ?_; rintro e w' ⟨rfl, rfl⟩
  go_wp2_with fail
  refine (oz _).mono ?_; rintro e w' ⟨rfl, rfl⟩
  go_wp2_with fail
  refine (ad _).mono ?_; rintro e u1 ⟨rfl, hb⟩
  have B1 : Below w.heap.size w u1 := by repeat' (first | (with_reducible exact Below.refl _ _) | (with_reducible refine Below.alloc ?_ ?_ _) | (with_reducible refine Below.setCell ?_ ?_ _) | (with_reducible refine Below.drew ?_) | (with_reducible refine Below.trans ?_ (Below.mono (by assumption) ?_)) | (simp; done) | (simp; omega) | omega)
  have z1 := B1.size
  have H1 := hid B1
  clear hb B1
  go_wp2_with fail
  refine (i1 _).mono ?_; rintro e u2 ⟨rfl, hb⟩
  have pz : u1.heap.size < (u2).heap.size := Nat.lt_of_lt_of_le (show u1.heap.size < _ from (by first | assumption | (simp; done) | (simp; omega) | (dsimp only; omega) | omega)) hb.size; have p0 : (u2).cell? ⟨u1.heap.size, 0, none⟩ = some (.bool ns) := (hb.cell (p := ⟨u1.heap.size, 0, none⟩) (by first | assumption | (simp; done) | (simp; omega) | (dsimp only; omega) | omega)).trans (by first | assumption | (simp [go_sem]; done) | (simp [go_sem, *]; done)); have p1 : (u2).cell? ⟨u1.heap.size, 1, none⟩ = some (.int .u64 hs) := (hb.cell (p := ⟨u1.heap.size, 1, none⟩) (by first | assumption | (simp; done) | (simp; omega) | (dsimp only; omega) | omega)).trans (by first | assumption | (simp [go_sem]; done) | (simp [go_sem, *]; done)); have p2 : (u2).cell? ⟨u1.heap.size, 2, none⟩ = some (.int .u64 ls) := (hb.cell (p := ⟨u1.heap.size, 2, none⟩) (by first | assumption | (simp; done) | (simp; omega) | (dsimp only; omega) | omega)).trans (by first | assumption | (simp [go_sem]; done) | (simp [go_sem, *]; done))
  have B2 : Below u1.heap.size u1 u2 := by repeat' (first | (with_reducible exact Below.refl _ _) | (with_reducible refine Below.alloc ?_ ?_ _) | (with_reducible refine Below.setCell ?_ ?_ _) | (with_reducible refine Below.drew ?_) | (with_reducible refine Below.trans ?_ (Below.mono (by assumption) ?_)) | (simp; done) | (simp; omega) | omega)
  have P2 := hid (And.intro pz (And.intro p0 (And.intro p1 p2)))
  clear hb pz p0 p1 p2
  have B2' := H1.out.trans (B2.mono z1)
  have z2 := B2'.size
  have H2 := hid B2'
  clear B2 B2' z1 H1
  go_wp2_with fail
  refine (mu _).mono ?_; rintro e w' ⟨rfl, rfl⟩
  go_wp2_with fail
  refine (oz _).mono ?_; rintro e w' ⟨rfl, rfl⟩
  go_wp2_with fail
  refine (su _).mono ?_; rintro e u3 ⟨rfl, hb⟩
  have B3 : Below u2.heap.size u2 u3 := by repeat' (first | (with_reducible exact Below.refl _ _) | (with_reducible refine Below.alloc ?_ ?_ _) | (with_reducible refine Below.setCell ?_ ?_ _) | (with_reducible refine Below.drew ?_) | (with_reducible refine Below.trans ?_ (Below.mono (by assumption) ?_)) | (simp; done) | (simp; omega) | omega)
  have P3 := hid (keep3 B3 P2.out)
  have B3' := H2.out.trans (B3.mono z2)
  have z3 := B3'.size
  have H3 := hid B3'
  clear hb B3 B3' z2 H2 P2
  go_wp2_with fail
  refine (i2 _).mono ?_; rintro e u4 ⟨rfl, hb⟩
  have B4 : Below u3.heap.size u3 u4 := by repeat' (first | (with_reducible exact Below.refl _ _) | (with_reducible refine Below.alloc ?_ ?_ _) | (with_reducible refine Below.setCell ?_ ?_ _) | (with_reducible refine Below.drew ?_) | (with_reducible refine Below.trans ?_ (Below.mono (by assumption) ?_)) | (simp; done) | (simp; omega) | omega)
  obtain ⟨pz, p0, p1, p2⟩ := keep3 B4 P3.out
  have B4' := H3.out.trans (B4.mono z3)
  have z4 := B4'.size
  have H4 := hid B4'
  clear hb B4 B4' z3 H3 P3
  go_wp2_with fail
  refine (tx _).mono ?_; rintro e u5 ⟨rfl, B5⟩
  have B5' := H4.out.trans (B5.mono z4)
  have z5 := B5'.size
  have H5 := hid B5'
  clear B5 z4 H4 pz p0 p1 p2
  go_wp2_with fail
  refine (it.out _ B5').mono ?_; rintro e u6 ⟨rfl, B6⟩
  have B6' := H5.out.trans (B6.mono z5)
  have z6 := B6'.size
  have H6 := hid B6'
  clear B6 B6' B5' z5 H5 mu oz ad i1 su i2 tx it
  go_wp2_with fail
  refine (ox _).mono ?_; rintro e w' ⟨rfl, rfl⟩
  go_wp2_with fail
  refine (oy _).mono ?_; rintro e w' ⟨rfl, rfl⟩
  go_wp2_with fail
  refine (cm _).mono ?_; rintro e u9 ⟨rfl, hb⟩
  have BB := H6.out
  have B9 : Below w.heap.size w u9 := by repeat' (first | (with_reducible exact Below.refl _ _) | (with_reducible refine Below.alloc ?_ ?_ _) | (with_reducible refine Below.setCell ?_ ?_ _) | (with_reducible refine Below.drew ?_) | (with_reducible refine Below.trans ?_ (Below.mono (by assumption) ?_)) | (simp; done) | (simp; omega) | omega)
  have z9 := B9.size
  have H9 := hid B9
  clear hb B9 BB
  go_wp2_with fail
  refine (awake_any _).mono ?_; rintro e ua ⟨rfl, hb⟩
  have BB := H9.out
  go_wp2_with fail
  go_ret
  exact Gives.mk rfl (BB.trans (hb.mono z9))
set_option maxRecDepth 100000 in
set_option maxHeartbeats 4000000 in
theorem small_pos (x y z P : Int) (nx : Bool) (hx lx : Int) (nz : Bool) (hz lz : Int) (ns : Bool) (hs ls : Int) (nd : Bool) (hd ld : Int) (T : ByteArray) (na : Bool) (ha la : Int) (nb : Bool) (hb' lb v : Int) (w : World)
    (x0 : -2147483648 ≤ x) (x1 : x ≤ 2147483647) (y0 : -2147483648 ≤ y) (y1 : y ≤ 2147483647) (z0 : -2147483648 ≤ z) (z1' : z ≤ 2147483647) (P0 : -4611686018427387904 ≤ P) (P1 : P ≤ 4611686018427387904) (hP : x * y = P) (hc : decide (v < 0) = decide (x < y))
    (F : SmallFirst w x y z P nx hx lx nz hz lz ns hs ls nd hd ld T) (G : SmallLast x y na ha la nb hb' lb v) (nq : Bool) (hq lq k r KZ : Int) (D : SmallDiv x z na ha la nq hq lq k r) (hk : k * z = KZ) (hx' : KZ + r = x) (hz0 : 0 < z) (r0 : 0 ≤ r) (r1 : r < z) (gz : (z != 0) = true) :
    Calls Tryd.prog 3 #[.int .i32 x, .int .i32 y, .int .i32 z] w (Gives (.bool true) w) := by
  have dv := D.dv
  have i3 := D.i3
  clear D
  have mu := F.mu
  have oz := F.oz
  have ad := F.ad
  have i1 := F.i1
  have su := F.su
  have i2 := F.i2
  have tx := F.tx
  have it := hid F.it
  have ox := G.ox
  have oy := G.oy
  have cm := G.cm
  clear F G
  go_enter Tryd.func3, Tryd.ntmps3
  go_wp2_with fail
  refine (mu _).mono ?_; rintro e w' ⟨rfl, rfl⟩
  go_wp2_with fail
  refine (oz _).mono ?_; rintro e w' ⟨rfl, rfl⟩
  go_wp2_with fail
  refine (ad _).mono ?_; rintro e u1 ⟨rfl, hb⟩
  have B1 : Below w.heap.size w u1 := by repeat' (first | (with_reducible exact Below.refl _ _) | (with_reducible refine Below.alloc ?_ ?_ _) | (with_reducible refine Below.setCell ?_ ?_ _) | (with_reducible refine Below.drew ?_) | (with_reducible refine Below.trans ?_ (Below.mono (by assumption) ?_)) | (simp; done) | (simp; omega) | omega)
  have z1 := B1.size
  have H1 := hid B1
  clear hb B1
  go_wp2_with fail
  refine (i1 _).mono ?_; rintro e u2 ⟨rfl, hb⟩
  have pz : u1.heap.size < (u2).heap.size := Nat.lt_of_lt_of_le (show u1.heap.size < _ from (by first | assumption | (simp; done) | (simp; omega) | (dsimp only; omega) | omega)) hb.size; have p0 : (u2).cell? ⟨u1.heap.size, 0, none⟩ = some (.bool ns) := (hb.cell (p := ⟨u1.heap.size, 0, none⟩) (by first | assumption | (simp; done) | (simp; omega) | (dsimp only; omega) | omega)).trans (by first | assumption | (simp [go_sem]; done) | (simp [go_sem, *]; done)); have p1 : (u2).cell? ⟨u1.heap.size, 1, none⟩ = some (.int .u64 hs) := (hb.cell (p := ⟨u1.heap.size, 1, none⟩) (by first | assumption | (simp; done) | (simp; omega) | (dsimp only; omega) | omega)).trans (by first | assumption | (simp [go_sem]; done) | (simp [go_sem, *]; done)); have p2 : (u2).cell? ⟨u1.heap.size, 2, none⟩ = some (.int .u64 ls) := (hb.cell (p := ⟨u1.heap.size, 2, none⟩) (by first | assumption | (simp; done) | (simp; omega) | (dsimp only; omega) | omega)).trans (by first | assumption | (simp [go_sem]; done) | (simp [go_sem, *]; done))
  have B2 : Below u1.heap.size u1 u2 := by repeat' (first | (with_reducible exact Below.refl _ _) | (with_reducible refine Below.alloc ?_ ?_ _) | (with_reducible refine Below.setCell ?_ ?_ _) | (with_reducible refine Below.drew ?_) | (with_reducible refine Below.trans ?_ (Below.mono (by assumption) ?_)) | (simp; done) | (simp; omega) | omega)
  have P2 := hid (And.intro pz (And.intro p0 (And.intro p1 p2)))
  clear hb pz p0 p1 p2
  have B2' := H1.out.trans (B2.mono z1)
  have z2 := B2'.size
  have H2 := hid B2'
  clear B2 B2' z1 H1
  go_wp2_with fail
  refine (mu _).mono ?_; rintro e w' ⟨rfl, rfl⟩
  go_wp2_with fail
  refine (oz _).mono ?_; rintro e w' ⟨rfl, rfl⟩
  go_wp2_with fail
  refine (su _).mono ?_; rintro e u3 ⟨rfl, hb⟩
  have B3 : Below u2.heap.size u2 u3 := by repeat' (first | (with_reducible exact Below.refl _ _) | (with_reducible refine Below.alloc ?_ ?_ _) | (with_reducible refine Below.setCell ?_ ?_ _) | (with_reducible refine Below.drew ?_) | (with_reducible refine Below.trans ?_ (Below.mono (by assumption) ?_)) | (simp; done) | (simp; omega) | omega)
  have P3 := hid (keep3 B3 P2.out)
  have B3' := H2.out.trans (B3.mono z2)
  have z3 := B3'.size
  have H3 := hid B3'
  clear hb B3 B3' z2 H2 P2
  go_wp2_with fail
  refine (i2 _).mono ?_; rintro e u4 ⟨rfl, hb⟩
  have B4 : Below u3.heap.size u3 u4 := by repeat' (first | (with_reducible exact Below.refl _ _) | (with_reducible refine Below.alloc ?_ ?_ _) | (with_reducible refine Below.setCell ?_ ?_ _) | (with_reducible refine Below.drew ?_) | (with_reducible refine Below.trans ?_ (Below.mono (by assumption) ?_)) | (simp; done) | (simp; omega) | omega)
  obtain ⟨pz, p0, p1, p2⟩ := keep3 B4 P3.out
  have B4' := H3.out.trans (B4.mono z3)
  have z4 := B4'.size
  have H4 := hid B4'
  clear hb B4 B4' z3 H3 P3
  go_wp2_with fail
  refine (tx _).mono ?_; rintro e u5 ⟨rfl, B5⟩
  have B5' := H4.out.trans (B5.mono z4)
  have z5 := B5'.size
  have H5 := hid B5'
  clear B5 z4 H4 pz p0 p1 p2
  go_wp2_with fail
  refine (it.out _ B5').mono ?_; rintro e u6 ⟨rfl, B6⟩
  have B6' := H5.out.trans (B6.mono z5)
  have z6 := B6'.size
  have H6 := hid B6'
  clear B6 B6' B5' z5 H5 mu oz ad i1 su i2 tx it
  go_wp2_with fail
  refine (ox _).mono ?_; rintro e w' ⟨rfl, rfl⟩
  go_wp2_with fail
  refine (dv _).mono ?_; rintro e u7 ⟨rfl, hb⟩
  have BB := H6.out
  have B7 : Below w.heap.size w u7 := by repeat' (first | (with_reducible exact Below.refl _ _) | (with_reducible refine Below.alloc ?_ ?_ _) | (with_reducible refine Below.setCell ?_ ?_ _) | (with_reducible refine Below.drew ?_) | (with_reducible refine Below.trans ?_ (Below.mono (by assumption) ?_)) | (simp; done) | (simp; omega) | omega)
  have z7 := B7.size
  have H7 := hid B7
  clear hb B7 BB z6 H6
  go_wp2_with fail
  refine (i3 _).mono ?_; rintro e u8 ⟨rfl, hb⟩
  have BB := H7.out
  have B8 : Below w.heap.size w u8 := by repeat' (first | (with_reducible exact Below.refl _ _) | (with_reducible refine Below.alloc ?_ ?_ _) | (with_reducible refine Below.setCell ?_ ?_ _) | (with_reducible refine Below.drew ?_) | (with_reducible refine Below.trans ?_ (Below.mono (by assumption) ?_)) | (simp; done) | (simp; omega) | omega)
  have z8 := B8.size
  have H8 := hid B8
  clear hb B8 BB z7 H7 dv i3
  go_wp2_with fail
  all_goals
    refine (ox _).mono ?_; rintro e w' ⟨rfl, rfl⟩
    go_wp2_with fail
    refine (oy _).mono ?_; rintro e w' ⟨rfl, rfl⟩
    go_wp2_with fail
    refine (cm _).mono ?_; rintro e u9 ⟨rfl, hb⟩
    have BB := H8.out
    have B9 : Below w.heap.size w u9 := by repeat' (first | (with_reducible exact Below.refl _ _) | (with_reducible refine Below.alloc ?_ ?_ _) | (with_reducible refine Below.setCell ?_ ?_ _) | (with_reducible refine Below.drew ?_) | (with_reducible refine Below.trans ?_ (Below.mono (by assumption) ?_)) | (simp; done) | (simp; omega) | omega)
    have z9 := B9.size
    have H9 := hid B9
    clear hb B9 BB
    go_wp2_with fail
    refine (awake_any _).mono ?_; rintro e ua ⟨rfl, hb⟩
    have BB := H9.out
    go_wp2_with fail
    go_ret
    exact Gives.mk rfl (BB.trans (hb.mono z9))
set_option maxRecDepth 100000 in
set_option maxHeartbeats 4000000 in
theorem small_neg (x y z P : Int) (nx : Bool) (hx lx : Int) (nz : Bool) (hz lz : Int) (ns : Bool) (hs ls : Int) (nd : Bool) (hd ld : Int) (T : ByteArray) (na : Bool) (ha la : Int) (nb : Bool) (hb' lb v : Int) (w : World)
    (x0 : -2147483648 ≤ x) (x1 : x ≤ 2147483647) (y0 : -2147483648 ≤ y) (y1 : y ≤ 2147483647) (z0 : -2147483648 ≤ z) (z1' : z ≤ 2147483647) (P0 : -4611686018427387904 ≤ P) (P1 : P ≤ 4611686018427387904) (hP : x * y = P) (hc : decide (v < 0) = decide (x < y))
    (F : SmallFirst w x y z P nx hx lx nz hz lz ns hs ls nd hd ld T) (G : SmallLast x y na ha la nb hb' lb v) (nq : Bool) (hq lq k r KZ : Int) (D : SmallDiv x z na ha la nq hq lq k r) (hk : k * z = KZ) (hx' : KZ + r = x) (hz0 : z < 0) (r0 : r ≤ 0) (r1 : z < r) (gz : (z != 0) = true) :
    Calls Tryd.prog 3 #[.int .i32 x, .int .i32 y, .int .i32 z] w (Gives (.bool true) w) := by
  have dv := D.dv
  have i3 := D.i3
  clear D
  have mu := F.mu
  have oz := F.oz
  have ad := F.ad
  have i1 := F.i1
  have su := F.su
  have i2 := F.i2
  have tx := F.tx
  have it := hid F.it
  have ox := G.ox
  have oy := G.oy
  have cm := G.cm
  clear F G
  go_enter Tryd.func3, Tryd.ntmps3
  go_wp2_with fail
  refine (mu _).mono ?_; rintro e w' ⟨rfl, rfl⟩
  go_wp2_with fail
  refine (oz _).mono ?_; rintro e w' ⟨rfl, rfl⟩
  go_wp2_with fail
  refine (ad _).mono ?_; rintro e u1 ⟨rfl, hb⟩
  have B1 : Below w.heap.size w u1 := by repeat' (first | (with_reducible exact Below.refl _ _) | (with_reducible refine Below.alloc ?_ ?_ _) | (with_reducible refine Below.setCell ?_ ?_ _) | (with_reducible refine Below.drew ?_) | (with_reducible refine Below.trans ?_ (Below.mono (by assumption) ?_)) | (simp; done) | (simp; omega) | omega)
  have z1 := B1.size
  have H1 := hid B1
  clear hb B1
  go_wp2_with fail
  refine (i1 _).mono ?_; rintro e u2 ⟨rfl, hb⟩
  have pz : u1.heap.size < (u2).heap.size := Nat.lt_of_lt_of_le (show u1.heap.size < _ from (by first | assumption | (simp; done) | (simp; omega) | (dsimp only; omega) | omega)) hb.size; have p0 : (u2).cell? ⟨u1.heap.size, 0, none⟩ = some (.bool ns) := (hb.cell (p := ⟨u1.heap.size, 0, none⟩) (by first | assumption | (simp; done) | (simp; omega) | (dsimp only; omega) | omega)).trans (by first | assumption | (simp [go_sem]; done) | (simp [go_sem, *]; done)); have p1 : (u2).cell? ⟨u1.heap.size, 1, none⟩ = some (.int .u64 hs) := (hb.cell (p := ⟨u1.heap.size, 1, none⟩) (by first | assumption | (simp; done) | (simp; omega) | (dsimp only; omega) | omega)).trans (by first | assumption | (simp [go_sem]; done) | (simp [go_sem, *]; done)); have p2 : (u2).cell? ⟨u1.heap.size, 2, none⟩ = some (.int .u64 ls) := (hb.cell (p := ⟨u1.heap.size, 2, none⟩) (by first | assumption | (simp; done) | (simp; omega) | (dsimp only; omega) | omega)).trans (by first | assumption | (simp [go_sem]; done) | (simp [go_sem, *]; done))
  have B2 : Below u1.heap.size u1 u2 := by repeat' (first | (with_reducible exact Below.refl _ _) | (with_reducible refine Below.alloc ?_ ?_ _) | (with_reducible refine Below.setCell ?_ ?_ _) | (with_reducible refine Below.drew ?_) | (with_reducible refine Below.trans ?_ (Below.mono (by assumption) ?_)) | (simp; done) | (simp; omega) | omega)
  have P2 := hid (And.intro pz (And.intro p0 (And.intro p1 p2)))
  clear hb pz p0 p1 p2
  have B2' := H1.out.trans (B2.mono z1)
  have z2 := B2'.size
  have H2 := hid B2'
  clear B2 B2' z1 H1
  go_wp2_with fail
  refine (mu _).mono ?_; rintro e w' ⟨rfl, rfl⟩
  go_wp2_with fail
  refine (oz _).mono ?_; rintro e w' ⟨rfl, rfl⟩
  go_wp2_with fail
  refine (su _).mono ?_; rintro e u3 ⟨rfl, hb⟩
  have B3 : Below u2.heap.size u2 u3 := by repeat' (first | (with_reducible exact Below.refl _ _) | (with_reducible refine Below.alloc ?_ ?_ _) | (with_reducible refine Below.setCell ?_ ?_ _) | (with_reducible refine Below.drew ?_) | (with_reducible refine Below.trans ?_ (Below.mono (by assumption) ?_)) | (simp; done) | (simp; omega) | omega)
  have P3 := hid (keep3 B3 P2.out)
  have B3' := H2.out.trans (B3.mono z2)
  have z3 := B3'.size
  have H3 := hid B3'
  clear hb B3 B3' z2 H2 P2
  go_wp2_with fail
  refine (i2 _).mono ?_; rintro e u4 ⟨rfl, hb⟩
  have B4 : Below u3.heap.size u3 u4 := by repeat' (first | (with_reducible exact Below.refl _ _) | (with_reducible refine Below.alloc ?_ ?_ _) | (with_reducible refine Below.setCell ?_ ?_ _) | (with_reducible refine Below.drew ?_) | (with_reducible refine Below.trans ?_ (Below.mono (by assumption) ?_)) | (simp; done) | (simp; omega) | omega)
  obtain ⟨pz, p0, p1, p2⟩ := keep3 B4 P3.out
  have B4' := H3.out.trans (B4.mono z3)
  have z4 := B4'.size
  have H4 := hid B4'
  clear hb B4 B4' z3 H3 P3
  go_wp2_with fail
  refine (tx _).mono ?_; rintro e u5 ⟨rfl, B5⟩
  have B5' := H4.out.trans (B5.mono z4)
  have z5 := B5'.size
  have H5 := hid B5'
  clear B5 z4 H4 pz p0 p1 p2
  go_wp2_with fail
  refine (it.out _ B5').mono ?_; rintro e u6 ⟨rfl, B6⟩
  have B6' := H5.out.trans (B6.mono z5)
  have z6 := B6'.size
  have H6 := hid B6'
  clear B6 B6' B5' z5 H5 mu oz ad i1 su i2 tx it
  go_wp2_with fail
  refine (ox _).mono ?_; rintro e w' ⟨rfl, rfl⟩
  go_wp2_with fail
  refine (dv _).mono ?_; rintro e u7 ⟨rfl, hb⟩
  have BB := H6.out
  have B7 : Below w.heap.size w u7 := by repeat' (first | (with_reducible exact Below.refl _ _) | (with_reducible refine Below.alloc ?_ ?_ _) | (with_reducible refine Below.setCell ?_ ?_ _) | (with_reducible refine Below.drew ?_) | (with_reducible refine Below.trans ?_ (Below.mono (by assumption) ?_)) | (simp; done) | (simp; omega) | omega)
  have z7 := B7.size
  have H7 := hid B7
  clear hb B7 BB z6 H6
  go_wp2_with fail
  refine (i3 _).mono ?_; rintro e u8 ⟨rfl, hb⟩
  have BB := H7.out
  have B8 : Below w.heap.size w u8 := by repeat' (first | (with_reducible exact Below.refl _ _) | (with_reducible refine Below.alloc ?_ ?_ _) | (with_reducible refine Below.setCell ?_ ?_ _) | (with_reducible refine Below.drew ?_) | (with_reducible refine Below.trans ?_ (Below.mono (by assumption) ?_)) | (simp; done) | (simp; omega) | omega)
  have z8 := B8.size
  have H8 := hid B8
  clear hb B8 BB z7 H7 dv i3
  go_wp2_with fail
  all_goals
    refine (ox _).mono ?_; rintro e w' ⟨rfl, rfl⟩
    go_wp2_with fail
    refine (oy _).mono ?_; rintro e w' ⟨rfl, rfl⟩
    go_wp2_with fail
    refine (cm _).mono ?_; rintro e u9 ⟨rfl, hb⟩
    have BB := H8.out
    have B9 : Below w.heap.size w u9 := by repeat' (first | (with_reducible exact Below.refl _ _) | (with_reducible refine Below.alloc ?_ ?_ _) | (with_reducible refine Below.setCell ?_ ?_ _) | (with_reducible refine Below.drew ?_) | (with_reducible refine Below.trans ?_ (Below.mono (by assumption) ?_)) | (simp; done) | (simp; omega) | omega)
    have z9 := B9.size
    have H9 := hid B9
    clear hb B9 BB
    go_wp2_with fail
    refine (awake_any _).mono ?_; rintro e ua ⟨rfl, hb⟩
    have BB := H9.out
    go_wp2_with fail
    go_ret
    exact Gives.mk rfl (BB.trans (hb.mono z9))
end Go.Proofs.YtnphibbhcogdkaaDoor
