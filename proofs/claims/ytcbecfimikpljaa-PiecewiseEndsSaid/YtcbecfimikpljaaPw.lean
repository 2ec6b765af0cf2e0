/-
  Layer 12: piecewise.value by contract: Horner's rule over slices.Backward.
-/
import Derived.Test.YtcbecfimikpljaaPv
import Derived.Test.YtcbecfimikpljaaPn
import Derived.Test.YtcbecfimikpljaaFops
namespace Go.Proofs.Ytcbecfimikpljaa
open Go.RowKit Go.Shelf
set_option linter.unusedVariables false
set_option linter.unusedSimpArgs false
attribute [local go_sem] Oper.semAt_some

/-- The boxes of value: a and a + 1 the results', b the argument's, c the sum's. -/
structure VI (w : World) (b c : Nat) (x : Int) (y : Int × Int) (W : World) : Prop where
  r0 : W.cell? ⟨w.heap.size + 1, 0, none⟩ = some (.int .i64 0)
  r1 : W.cell? ⟨w.heap.size + 1, 1, none⟩ = some (.int .i64 0)
  rf : ∀ o, W.frozen? ⟨w.heap.size + 1, o, none⟩ = false
  e0 : W.cell? ⟨w.heap.size + 1 + 1, 0, none⟩ = some (.int .i64 0)
  ef : ∀ o, W.frozen? ⟨w.heap.size + 1 + 1, o, none⟩ = false
  x0 : W.cell? ⟨b, 0, none⟩ = some (.int .i64 x)
  x1 : W.cell? ⟨b, 1, none⟩ = some (.int .i64 1)
  y0 : W.cell? ⟨c, 0, none⟩ = some (.int .i64 y.1)
  y1 : W.cell? ⟨c, 1, none⟩ = some (.int .i64 y.2)
  yf : ∀ o, W.frozen? ⟨c, o, none⟩ = false
  bw : Below w.heap.size w W
  sz : c + 1 < W.heap.size
theorem frozen_at {W W' : World} {row : Option Nat} {b : Nat} {v : Value} (h : W.cell? ⟨b, 0, none⟩ = some v) (hf : ∀ o, W.frozen? ⟨b, o, none⟩ = false) (hg : W.grownBy W' row) (hr : ∀ r, row = some r → ∃ o : Obj, W.heap[r]? = some o ∧ o.isCells = false) : ∀ o, W'.frozen? ⟨b, o, none⟩ = false := by
  intro o
  obtain ⟨ob, ho, hc⟩ := cells_of_cell h
  exact (World.frozen?_of_block (a := ⟨b, o, none⟩) (grownBy_keeps_cells hg hr ho hc)).trans (hf o)
theorem VI.grown {w W W' : World} {b c : Nat} {x : Int} {y : Int × Int} (h : VI w b c x y W) {row : Option Nat} {B : Nat} (hB : w.heap.size ≤ B) (hg : W.grownBy W' row) (hr : ∀ r, row = some r → B ≤ r ∧ ∃ o : Obj, W.heap[r]? = some o ∧ o.isCells = false) : VI w b c x y W' := by
  have hr' := fun r e => (hr r e).2
  exact ⟨cell_kept h.r0 hg hr', cell_kept h.r1 hg hr', frozen_at h.r0 h.rf hg hr', cell_kept h.e0 hg hr', frozen_at h.e0 h.ef hg hr', cell_kept h.x0 hg hr', cell_kept h.x1 hg hr', cell_kept h.y0 hg hr', cell_kept h.y1 hg hr', frozen_at h.y0 h.yf hg hr',
    h.bw.grown hg h.bw.size (fun k e => Nat.le_trans hB (hr k e).1), Nat.lt_of_lt_of_le h.sz hg.size⟩
theorem VI.below {w W W' : World} {b c : Nat} {x : Int} {y : Int × Int} (h : VI w b c x y W) (hb : Below W.heap.size W W') (h2 : w.heap.size + 2 < b) (h3 : b < c) : VI w b c x y W' := by
  have s := h.sz
  exact ⟨(hb.cell (p := ⟨w.heap.size + 1, 0, none⟩) (by simp only; omega)).trans h.r0, (hb.cell (p := ⟨w.heap.size + 1, 1, none⟩) (by simp only; omega)).trans h.r1, fun o => (hb.frozen (p := ⟨w.heap.size + 1, o, none⟩) (by simp only; omega)).trans (h.rf o),
    (hb.cell (p := ⟨w.heap.size + 1 + 1, 0, none⟩) (by simp only; omega)).trans h.e0, fun o => (hb.frozen (p := ⟨w.heap.size + 1 + 1, o, none⟩) (by simp only; omega)).trans (h.ef o),
    (hb.cell (p := ⟨b, 0, none⟩) (by simp only; omega)).trans h.x0, (hb.cell (p := ⟨b, 1, none⟩) (by simp only; omega)).trans h.x1,
    (hb.cell (p := ⟨c, 0, none⟩) (by simp only; omega)).trans h.y0, (hb.cell (p := ⟨c, 1, none⟩) (by simp only; omega)).trans h.y1, fun o => (hb.frozen (p := ⟨c, o, none⟩) (by simp only; omega)).trans (h.yf o),
    h.bw.trans (hb.mono h.bw.size), Nat.lt_of_lt_of_le s hb.size⟩
theorem VI.set {w W : World} {b c : Nat} {x : Int} {y : Int × Int} (h : VI w b c x y W) (h2 : w.heap.size + 2 < b) (h3 : b < c) (q : Int × Int) : VI w b c x q ((W.setCell ⟨c, 0, none⟩ (.int .i64 q.1)).setCell ⟨c, 1, none⟩ (.int .i64 q.2)) := by
  have n1 : ¬ w.heap.size + 1 = c := by omega
  have n2 : ¬ w.heap.size + 1 + 1 = c := by omega
  have n3 : ¬ b = c := by omega
  have s := h.sz
  exact ⟨by simp [go_sem, n1, h.r0], by simp [go_sem, n1, h.r1], fun o => by simp [go_sem, h.rf], by simp [go_sem, n2, h.e0], fun o => by simp [go_sem, h.ef], by simp [go_sem, n3, h.x0], by simp [go_sem, n3, h.x1], by simp [go_sem, h.y0, h.y1], by simp [go_sem, h.y0, h.y1], fun o => by simp [go_sem, h.yf],
    (h.bw.setCell (p := ⟨c, 0, none⟩) (by simp only; omega) _).setCell (p := ⟨c, 1, none⟩) (by simp only; omega) _, by simpa using s⟩
/-- A round has left: the error is stored. -/
structure VX (w : World) (lo hi e : Int) (W : World) : Prop where
  r0 : W.cell? ⟨w.heap.size + 1, 0, none⟩ = some (.int .i64 lo)
  r1 : W.cell? ⟨w.heap.size + 1, 1, none⟩ = some (.int .i64 hi)
  e0 : W.cell? ⟨w.heap.size + 1 + 1, 0, none⟩ = some (.int .i64 e)
  bw : Below w.heap.size w W
theorem VX.grown {w W W' : World} {lo hi e : Int} (h : VX w lo hi e W) {row : Option Nat} {B : Nat} (hB : w.heap.size ≤ B) (hg : W.grownBy W' row) (hr : ∀ r, row = some r → B ≤ r ∧ ∃ o : Obj, W.heap[r]? = some o ∧ o.isCells = false) : VX w lo hi e W' := by
  have hr' := fun r e => (hr r e).2
  exact ⟨cell_kept h.r0 hg hr', cell_kept h.r1 hg hr', cell_kept h.e0 hg hr', h.bw.grown hg h.bw.size (fun k e => Nat.le_trans hB (hr k e).1)⟩
theorem VI.fail {w W : World} {b c : Nat} {x : Int} {y : Int × Int} (h : VI w b c x y W) (h2 : w.heap.size + 2 < b) (h3 : b < c) (lo hi e : Int) : VX w lo hi e (((W.setCell ⟨w.heap.size + 1, 0, none⟩ (.int .i64 lo)).setCell ⟨w.heap.size + 1, 1, none⟩ (.int .i64 hi)).setCell ⟨w.heap.size + 1 + 1, 0, none⟩ (.int .i64 e)) :=
  ⟨by simp [go_sem, h.r0, h.r1], by simp [go_sem, h.r0, h.r1], by simp [go_sem, h.e0], ((h.bw.setCell (p := ⟨w.heap.size + 1, 0, none⟩) (by simp only; omega) _).setCell (p := ⟨w.heap.size + 1, 1, none⟩) (by simp only; omega) _).setCell (p := ⟨w.heap.size + 1 + 1, 0, none⟩) (by simp only; omega) _⟩

theorem VX.put {w W : World} {lo hi e : Int} (h : VX w lo hi e W) {D : Nat} {o o' : Obj} (hD : w.heap.size ≤ D) (hK : W.heap[D]? = some o) (hc : o.isCells = false) : VX w lo hi e (W.putObj D o') :=
  h.grown (B := w.heap.size) (Nat.le_refl _) (grownBy_putObj' W D o') (fun r e => by cases e; exact ⟨hD, _, hK, hc⟩)
theorem keeps_fail {B : Nat} (W : World) (a b c : Addr) (u v x : Value) : KeepsFrom B W (((W.setCell a u).setCell b v).setCell c x) :=
  (((KeepsOthers.setCell W a u).trans (KeepsOthers.setCell _ b v)).trans (KeepsOthers.setCell _ c x)).from B

set_option maxRecDepth 100000 in
set_option maxHeartbeats 4000000 in
theorem value_any (f t : Int) (A : Option Addr) (k : Nat) (c : List (Int × Int)) (x lo hi e : Int) (w : World) (x0 : 0 ≤ x) (x1 : x ≤ 3000) (hl : c.length ≤ 2000) (hq : ∀ q ∈ c, Sp.okQ q) (hT : Frs w A c) (hv : Sp.hornF x c.reverse (0, 1) = (lo, hi, e)) :
    Calls Try.prog 35 #[.agg #[.int .i64 f, .int .i64 t, .slice A c.length k], .int .i64 x] w (Gives (.tuple #[.agg #[.int .i64 lo, .int .i64 hi], .int .i64 e]) w) := by
  have HT := hid hT
  have HQ := hid hq
  have HV := hid hv
  have LE := hid hl
  have ni := hid (fun W => fint_any x (by omega) (by omega) W)
  have nz := hid (fun W => fint_any 0 (by omega) (by omega) W)
  have X0 := hid x0
  have X1 := hid x1
  clear hT hq hv hl x0 x1
  refine (callsIn_wide (n := 3)).1 ?_
  refine callsIn_of_wp_marks Try.func35 rfl trivial ?_ rfl
  simp only [Try.ntmps35, List.size_toArray, List.length_cons, List.length_nil, Nat.reduceAdd, Nat.reduceSub, Array.replicate_succ, Array.replicate_zero, List.push_toArray, List.append_toArray, List.nil_append, List.cons_append]
  gi_wp2_with (refine ⟨trivial, ?_⟩; gi_at_call 54; refine (callsIn_wide.2 (ni.out _)).mono ?_; rintro _ w5 ⟨rfl, hb⟩)
  have sz5 : w.heap.size + 3 ≤ w5.heap.size := by have := hb.size; simpa using this
  have p2 : w5.cell? ⟨w.heap.size, 2, none⟩ = some (.slice A c.length k) := (hb.cell (p := ⟨w.heap.size, 2, none⟩) (by simp; omega)).trans (by simp [go_sem])
  have a0 : w5.cell? ⟨w.heap.size + 1, 0, none⟩ = some (.int .i64 0) := (hb.cell (p := ⟨w.heap.size + 1, 0, none⟩) (by simp)).trans (by simp [go_sem])
  have a1 : w5.cell? ⟨w.heap.size + 1, 1, none⟩ = some (.int .i64 0) := (hb.cell (p := ⟨w.heap.size + 1, 1, none⟩) (by simp)).trans (by simp [go_sem])
  have af : ∀ o, w5.frozen? ⟨w.heap.size + 1, o, none⟩ = false := fun o => (hb.frozen (p := ⟨w.heap.size + 1, o, none⟩) (by simp)).trans (by simp [go_sem])
  have b0 : w5.cell? ⟨w.heap.size + 1 + 1, 0, none⟩ = some (.int .i64 0) := (hb.cell (p := ⟨w.heap.size + 1 + 1, 0, none⟩) (by simp)).trans (by simp [go_sem])
  have bf : ∀ o, w5.frozen? ⟨w.heap.size + 1 + 1, o, none⟩ = false := fun o => (hb.frozen (p := ⟨w.heap.size + 1 + 1, o, none⟩) (by simp)).trans (by simp [go_sem])
  have bw5 : Below w.heap.size w w5 := by repeat' (first | (with_reducible exact Below.refl _ _) | (with_reducible refine Below.alloc ?_ ?_ _) | (with_reducible refine Below.setCell ?_ ?_ _) | (with_reducible refine Below.drew ?_) | (with_reducible refine Below.trans ?_ (Below.mono (by assumption) ?_)) | (simp; done) | (simp; omega) | omega)
  clear hb ni
  obtain ⟨V5, hV5⟩ : ∃ V5, w5.alloc (Obj.cells #[.int .i64 x, .int .i64 1] 26) = V5 := ⟨_, rfl⟩
  have HV5 := hid hV5
  have z5 : V5.heap.size = w5.heap.size + 1 := by rw [← hV5]; simp
  have k5 : Below w5.heap.size w5 V5 := by rw [← hV5]; exact (Below.refl _ _).alloc (Nat.le_refl _) _
  have v0 : V5.cell? ⟨w5.heap.size, 0, none⟩ = some (.int .i64 x) := by rw [← hV5]; simp [go_sem]
  have v1 : V5.cell? ⟨w5.heap.size, 1, none⟩ = some (.int .i64 1) := by rw [← hV5]; simp [go_sem]
  have K5 := hid (fun (W : World) (h : Below V5.heap.size V5 W) => (⟨(h.mono (show w5.heap.size ≤ V5.heap.size by omega)), h.size⟩ : Below w5.heap.size V5 W ∧ V5.heap.size ≤ W.heap.size))
  have P2 := hid (fun (W : World) (h : Below V5.heap.size V5 W) => ((k5.trans (h.mono (show w5.heap.size ≤ V5.heap.size by omega))).cell (p := ⟨w.heap.size, 2, none⟩) (by simp only; omega)).trans p2)
  rw [hV5]
  clear hV5 p2
  gi_wp2_with (first
    | (refine ⟨trivial, ?_⟩; gi_at_call 54; refine (callsIn_wide.2 (nz.out _)).mono ?_; rintro _ w6 ⟨rfl, hb⟩; have p6 := P2.out _ hb; have sz6 : w.heap.size + 4 ≤ w6.heap.size := (by have := hb.size; omega); have lt6 : w.heap.size < w6.heap.size := (by omega); have ne6 : ¬ w.heap.size = w6.heap.size := (by omega))
    | (refine ⟨trivial, ?_⟩; gi_at_call 55; refine (back_in Fence.wide _ trivial rfl _ _ _ _).mono ?_; rintro e w' ⟨rfl, rfl⟩))
  obtain ⟨W0, hW0⟩ : ∃ W0, (w6.alloc (Obj.cells #[.int .i64 0, .int .i64 1] 26)).alloc (Obj.cells #[.slice A c.length k] 47) = W0 := ⟨_, rfl⟩
  have zW : W0.heap.size = w6.heap.size + 2 := by rw [← hW0]; simp
  have kW : Below w6.heap.size w6 W0 := by rw [← hW0]; exact ((Below.refl _ _).alloc (Nat.le_refl _) _).alloc (by simp) _
  have bs : W0.cell? ⟨w6.heap.size + 1, 0, none⟩ = some (.slice A c.length k) := by rw [← hW0]; simp [go_sem]
  have g0 : W0.cell? ⟨w6.heap.size, 0, none⟩ = some (.int .i64 0) := by rw [← hW0]; simp [go_sem]
  have g1 : W0.cell? ⟨w6.heap.size, 1, none⟩ = some (.int .i64 1) := by rw [← hW0]; simp [go_sem]
  have gf : ∀ o, W0.frozen? ⟨w6.heap.size, o, none⟩ = false := by intro o; rw [← hW0]; simp [go_sem]
  have kV := hb.trans (kW.mono hb.size)
  have kA : Below w5.heap.size w5 W0 := k5.trans (kV.mono (show w5.heap.size ≤ V5.heap.size by omega))
  have sb : V5.heap.size ≤ w6.heap.size := hb.size
  have I0 : VI w w5.heap.size w6.heap.size x (0, 1) W0 := by
    refine ⟨(kA.cell (p := ⟨w.heap.size + 1, 0, none⟩) (by simp only; omega)).trans a0, (kA.cell (p := ⟨w.heap.size + 1, 1, none⟩) (by simp only; omega)).trans a1, fun o => (kA.frozen (p := ⟨w.heap.size + 1, o, none⟩) (by simp only; omega)).trans (af o),
      (kA.cell (p := ⟨w.heap.size + 1 + 1, 0, none⟩) (by simp only; omega)).trans b0, fun o => (kA.frozen (p := ⟨w.heap.size + 1 + 1, o, none⟩) (by simp only; omega)).trans (bf o),
      (kV.cell (p := ⟨w5.heap.size, 0, none⟩) (by simp only; omega)).trans v0, (kV.cell (p := ⟨w5.heap.size, 1, none⟩) (by simp only; omega)).trans v1, g0, g1, gf, bw5.trans (kA.mono (by omega)), by omega⟩
  rw [hW0]
  clear a0 a1 af b0 bf v0 v1 g0 g1 gf p6 lt6 ne6 hW0 kW kV kA bw5 hb k5 K5 P2 HV5 nz
  have h5 : w.heap.size + 2 < w5.heap.size := by omega
  have h6 : w5.heap.size < w6.heap.size := by omega
  clear sz5 sz6 z5 sb
  clear V5
  refine wpIn_rangeFunc_ownH rfl (by omega) (gf := 77) (lb := #[.pointer (some ⟨w6.heap.size + 1, 0, none⟩)]) rfl trivial (enters_of Try.func77 (by kernel_rfl) rfl)
    (back_stops Fence.wide _ trivial rfl (by omega) (w6.heap.size + 1) w.heap.size k A c LE.out HQ.out W0 (by omega) bs (HT.out.below I0.bw) (fun b off hA h0 => by
      obtain ⟨b', off', hA', hl', -⟩ := HT.out h0
      rw [hA] at hA'
      obtain ⟨rfl, rfl⟩ : b = b' ∧ off = off' := by simpa using hA'
      exact hl'))
    (fun h k => KV.trans h k) (KV.put (by omega) (by omega)) (Below.refl _ _) (fun _ => rfl)
    (fun pre W => ∃ y : Int × Int, Sp.okQ y ∧ Sp.hornF x (pre.map (fun z => z.2.1)) (0, 1) = (y.1, y.2, 0) ∧ VI w w5.heap.size w6.heap.size x y W)
    (fun cd pre W => cd = .ret ∧ ∃ e' : Int, e' ≠ 0 ∧ Sp.hornF x (pre.map (fun z => z.2.1)) (0, 1) = (0, 0, e') ∧ VX w 0 0 e' W)
    (fun s X Y row hs hg hr => by obtain ⟨y, o, h, v⟩ := hs; exact ⟨y, o, h, v.grown (B := W0.heap.size) (by omega) hg hr⟩)
    (fun cd s X Y row hs hg hr => by obtain ⟨h1, e', h2, h3, v⟩ := hs; exact ⟨h1, e', h2, h3, v.grown (B := W0.heap.size) (by omega) hg hr⟩)
    ⟨(0, 1), Sp.zero_ok, rfl, I0⟩
    (fun z a' W => ∃ Bx, w6.heap.size + 1 < Bx ∧ Bx < W.heap.size ∧ W.cell? ⟨Bx, 0, none⟩ = some (.int .i64 z.2.1.1) ∧ W.cell? ⟨Bx, 1, none⟩ = some (.int .i64 z.2.1.2) ∧ a' = { tmps := #[.agg #[.int .i64 f, .int .i64 t, .slice A c.length k], .int .i64 x, .pointer (some ⟨w.heap.size, 0, none⟩), undef, .pointer (some ⟨w.heap.size + 1, 0, none⟩), .pointer (some ⟨w.heap.size + 1 + 1, 0, none⟩), .pointer (some ⟨w5.heap.size, 0, none⟩), .int .i64 0, .pointer (some ⟨w6.heap.size, 0, none⟩), .int .i64 0, undef, .pointer (some ⟨Bx, 0, none⟩), undef, undef, .tuple #[.agg #[.int .i64 x, .int .i64 1], .int .i64 0], .int .i64 x, .tuple #[.agg #[.int .i64 x, .int .i64 1], .int .i64 0], .agg #[.int .i64 x, .int .i64 1], .int .i64 0, .tuple #[.agg #[.int .i64 0, .int .i64 1], .int .i64 0], .tuple #[.agg #[.int .i64 0, .int .i64 1], .int .i64 0], .agg #[.int .i64 0, .int .i64 1], .int .i64 0, .pointer (some ⟨w.heap.size, 2, none⟩), .slice A c.length k, .func (.func 77) #[] #[.pointer (some ⟨w6.heap.size + 1, 0, none⟩)], .int .i64 z.1, .agg #[.int .i64 z.2.1.1, .int .i64 z.2.1.2], undef, undef, undef, undef, undef, undef, undef, undef, undef, undef, undef, undef, undef, undef, undef, undef, undef, undef, undef, undef, undef], defers := [] })
    (fun z a' _ X Y row hs hg hr => by obtain ⟨Bx, g1, g2, c0, c1, e⟩ := hs; exact ⟨Bx, g1, Nat.lt_of_lt_of_le g2 hg.size, cell_kept c0 hg (fun r e => (hr r e).2), cell_kept c1 hg (fun r e => (hr r e).2), e⟩) ?assign ?body ?done ?stop
  case assign =>
    rintro l pre z W K ⟨y, o, h, v⟩ hK
    gi_wp2
    have kb : Below W.heap.size W (W.alloc (Obj.cells #[.int .i64 z.2.1.1, .int .i64 z.2.1.2] 26)) := (Below.refl _ _).alloc (Nat.le_refl _) _
    have s1 := v.bw.size
    have s2 := v.sz
    refine hK _ _ (keeps_below kb) (KV.of_below kb s1 (by omega)) ⟨y, o, h, v.below kb (by omega) (by omega)⟩ ⟨W.heap.size, by omega, by simp, by simp [go_sem], by simp [go_sem], rfl⟩
  case body =>
    rintro l pre ⟨i, ⟨⟨n, d⟩, hq⟩⟩ a' W hl0 ⟨r, hr⟩ ⟨⟨y1, y2⟩, oy, hy, v⟩ ⟨Bx, h1, h2, c0, c1, rfl⟩ hlt
    simp only at c0 c1
    clear hr
    have s1 := v.bw.size
    have s2 := v.sz
    obtain ⟨⟨p1, p2, e1⟩, hm⟩ : ∃ m, Sp.mulF y1 y2 x 1 = m := ⟨_, rfl⟩
    have by1 := Sp.okQ_bounds oy
    have bq := Sp.okQ_bounds hq
    simp only at by1 bq
    have mu := hid (fun W => fmul_any y1 y2 x 1 p1 p2 e1 by1.1.1 by1.1.2 by1.2.1 by1.2.2 (by have := X0.out; omega) (by have := X1.out; omega) (by omega) (by omega) hm W)
    have mr := Sp.mul_res (a := y1) (b := y2) (c := x) (d := 1) oy (Sp.one_ok (by have := X0.out; omega) (by have := X1.out; omega))
    have st : Sp.stepF x (y1, y2) (n, d) = if e1 ≠ 0 then (0, 0, e1) else Sp.addF p1 p2 n d := by unfold Sp.stepF; simp only [hm]
    rw [hm] at mr
    have sn := Sp.horn_snoc (x := x) (n, d) _ _ _ hy
    rw [st] at sn
    have HL : (pre ++ [(i, (⟨(n, d), hq⟩ : OQ))]).map (fun z => z.2.1) = pre.map (fun z => z.2.1) ++ [(n, d)] := by simp
    have SN := hid sn
    have HLL := hid HL
    have q0 := v.y0
    have q1 := v.y1
    have x0 := v.x0
    have x1 := v.x1
    have HV2 := hid v
    have HH5 := hid h5
    have HH6 := hid h6
    simp only at q0 q1
    clear hy sn st v hm HL
    by_cases z1 : e1 = 0
    · subst z1
      have op : Sp.okQ (p1, p2) := by
        rcases mr with h | h
        · exact h.2
        · have := (Prod.mk.inj (Prod.mk.inj h).2).2; omega
      have bp := Sp.okQ_bounds op
      simp only at bp
      obtain ⟨⟨g1, g2, e2⟩, ha⟩ : ∃ m, Sp.addF p1 p2 n d = m := ⟨_, rfl⟩
      have ad := hid (fun W => fadd_any p1 p2 n d g1 g2 e2 bp.1.1 bp.1.2 bp.2.1 bp.2.2 bq.1.1 bq.1.2 bq.2.1 bq.2.2 ha W)
      have ar := Sp.add_res (a := p1) (b := p2) (c := n) (d := d) op hq
      rw [ha] at ar
      have AR := hid ar
      have SN2 := SN.out
      simp only [ne_eq, not_true_eq_false, if_false, ha] at SN2
      have SN3 := hid SN2
      clear mr by1 bq bp oy op ar ha SN SN2
      by_cases z2 : e2 = 0
      · subst z2
        gi_wp2_with (first
          | (refine ⟨trivial, ?_⟩; gi_at_call 56; refine (CallsIn.inRound l (callsIn_wide.2 (mu.out _))).mono ?_; rintro _ w7 ⟨rfl, hb⟩; have HV7 := hid (HV2.out.below hb (by omega) (by omega)); have k0 : w7.cell? ⟨Bx, 0, none⟩ = some (.int .i64 n) := (hb.cell (p := ⟨Bx, 0, none⟩) h2).trans c0; have k1 : w7.cell? ⟨Bx, 1, none⟩ = some (.int .i64 d) := (hb.cell (p := ⟨Bx, 1, none⟩) h2).trans c1; have hx7 : Bx < w7.heap.size := Nat.lt_of_lt_of_le h2 hb.size; have nx7 : ¬ Bx = w7.heap.size := (by omega); have HB7 := hid hb; clear hb)
          | (refine ⟨trivial, ?_⟩; gi_at_call 57; refine (CallsIn.inRound l (callsIn_wide.2 (ad.out _))).mono ?_; rintro _ w8 ⟨rfl, hb⟩; have HB8 := hid (show Below w7.heap.size w7 w8 from (by repeat' (first | (with_reducible exact Below.refl _ _) | (with_reducible refine Below.alloc ?_ ?_ _) | (with_reducible refine Below.setCell ?_ ?_ _) | (with_reducible refine Below.drew ?_) | (with_reducible refine Below.trans ?_ (Below.mono (by assumption) ?_)) | (simp; done) | (simp; omega) | omega))); have HV8 := hid (HV7.out.below HB8.out (by omega) (by omega)); have j0 := HV8.out.y0; have j1 := HV8.out.y1; have jf := HV8.out.yf; simp only at j0 j1; clear hb))
        have k7 := HB7.out
        have k8 := k7.trans (HB8.out.mono k7.size)
        have HS := HV8.out.set (by omega) (by omega) (g1, g2)
        have o2 : Sp.okQ (g1, g2) := by
          rcases AR.out with h | h
          · exact h.2
          · have := (Prod.mk.inj (Prod.mk.inj h).2).2; omega
        have S3 := SN3.out
        have kk := KV.of_below (n := w.heap.size) (B := w6.heap.size + 1) k8 (by omega) (by omega)
        refine ⟨(keeps_below k8).trans (((KeepsOthers.setCell _ _ _).trans (KeepsOthers.setCell _ _ _)).from _), (kk.set (by omega) (by omega) _).set (by omega) (by omega) _, (g1, g2), o2, ?_, HS⟩
        rw [HLL.out]
        simpa using S3
      · have hn : (e2 == 0) = false := by simpa using z2
        gi_wp2_with (first
          | (refine ⟨trivial, ?_⟩; gi_at_call 56; refine (CallsIn.inRound l (callsIn_wide.2 (mu.out _))).mono ?_; rintro _ w7 ⟨rfl, hb⟩; have HV7 := hid (HV2.out.below hb (by omega) (by omega)); have k0 : w7.cell? ⟨Bx, 0, none⟩ = some (.int .i64 n) := (hb.cell (p := ⟨Bx, 0, none⟩) h2).trans c0; have k1 : w7.cell? ⟨Bx, 1, none⟩ = some (.int .i64 d) := (hb.cell (p := ⟨Bx, 1, none⟩) h2).trans c1; have hx7 : Bx < w7.heap.size := Nat.lt_of_lt_of_le h2 hb.size; have nx7 : ¬ Bx = w7.heap.size := (by omega); have HB7 := hid hb; clear hb)
          | (refine ⟨trivial, ?_⟩; gi_at_call 57; refine (CallsIn.inRound l (callsIn_wide.2 (ad.out _))).mono ?_; rintro _ w8 ⟨rfl, hb⟩; have HB8 := hid (show Below w7.heap.size w7 w8 from (by repeat' (first | (with_reducible exact Below.refl _ _) | (with_reducible refine Below.alloc ?_ ?_ _) | (with_reducible refine Below.setCell ?_ ?_ _) | (with_reducible refine Below.drew ?_) | (with_reducible refine Below.trans ?_ (Below.mono (by assumption) ?_)) | (simp; done) | (simp; omega) | omega))); have HV8 := hid (HV7.out.below HB8.out (by omega) (by omega)); have j0 := HV8.out.y0; have j1 := HV8.out.y1; have jf := HV8.out.yf; have i0 := HV8.out.r0; have i1 := HV8.out.r1; have if0 := HV8.out.rf; have i2 := HV8.out.e0; have if2 := HV8.out.ef; have ne1 : ¬ w.heap.size + 1 = w6.heap.size := (by omega); have ne2 : ¬ w.heap.size + 1 + 1 = w6.heap.size := (by omega); simp only at j0 j1; clear hb))
        have k7 := HB7.out
        have k8 := k7.trans (HB8.out.mono k7.size)
        have S3 := SN3.out
        rw [if_pos z2] at S3
        have HS := (HV8.out.set (by omega) (by omega) (g1, g2)).fail (by omega) (by omega) 0 0 e2
        exact ⟨((keeps_below k8).trans (((KeepsOthers.setCell _ _ _).trans (KeepsOthers.setCell _ _ _)).from _)).trans (keeps_fail _ _ _ _ _ _ _), rfl, e2, z2, by rw [HLL.out]; exact S3, HS⟩
    · have hn : (e1 == 0) = false := by simpa using z1
      clear mr by1 bq
      gi_wp2_with (refine ⟨trivial, ?_⟩; gi_at_call 56; refine (CallsIn.inRound l (callsIn_wide.2 (mu.out _))).mono ?_; rintro _ w7 ⟨rfl, hb⟩; have HV7 := hid (HV2.out.below hb (by omega) (by omega)); have HB7 := hid hb; have i0 := HV7.out.r0; have i1 := HV7.out.r1; have if0 := HV7.out.rf; have i2 := HV7.out.e0; have if2 := HV7.out.ef; have lt1 : w.heap.size + 1 < w7.heap.size := (by have := HV7.out.sz; omega); have lt2 : w.heap.size + 1 + 1 < w7.heap.size := (by have := HV7.out.sz; omega); clear hb)
      have S3 := SN.out
      simp only [ne_eq, z1, not_false_eq_true, if_true] at S3
      have k7 := HB7.out
      have HS := (HV7.out.fail (by omega) (by omega) 0 0 e1).grown (B := w.heap.size) (Nat.le_refl _) (World.grownBy_alloc _ (Obj.cells #[.int .i64 p1, .int .i64 p2] 26) none) (fun r e => by cases e)
      exact ⟨((keeps_below k7).trans (keeps_fail _ _ _ _ _ _ _)).trans ((KeepsOthers.alloc _ _).from _), rfl, e1, z1, by rw [HLL.out]; exact S3, HS⟩
  case done =>
    rintro D xs W hD hxs ⟨⟨y1, y2⟩, oy, hy, v⟩ hK
    have e0 : Sp.hornF x c.reverse (0, 1) = (y1, y2, 0) := by
      rw [hxs, bkU_snd c HQ.out (Nat.le_refl _), List.take_of_length_le (by simp)] at hy
      exact hy
    rw [HV.out] at e0
    have e3 : lo = y1 ∧ hi = y2 ∧ e = 0 := by simpa using e0
    obtain ⟨rfl, rfl, rfl⟩ := e3
    have q0 := v.y0
    have q1 := v.y1
    have i0 := v.r0
    have i1 := v.r1
    have if0 := v.rf
    have i2 := v.e0
    have if2 := v.ef
    simp only at q0 q1
    clear hxs hy oy e0
    have hx := v.fail (by omega) (by omega) lo hi 0
    have hK2 := (keeps_fail (B := 0) W ⟨w.heap.size + 1, 0, none⟩ ⟨w.heap.size + 1, 1, none⟩ ⟨w.heap.size + 1 + 1, 0, none⟩ (.int .i64 lo) (.int .i64 hi) (.int .i64 0)).same D _ (Nat.zero_le _) hK rfl
    have sD : w.heap.size ≤ D := by omega
    clear hK
    gi_wp2
    refine ⟨by simp, .inl ⟨_, _, rfl, run_takeDeferred hK2, ?_⟩⟩
    have X2 := hx.put (o' := .deferred none) (show w.heap.size ≤ D by omega) hK2 rfl
    have c0 := X2.r0
    have c1 := X2.r1
    have c2 := X2.e0
    refine ⟨.tuple #[.agg #[.int .i64 lo, .int .i64 hi], .int .i64 0], by simp [results, Try.results35, go_sem, c0, c1, c2], Gives.mk rfl X2.bw⟩

  case stop =>
    rintro D cd pre W hD ⟨kk, hk, rfl⟩ ⟨rfl, e', he, hy, v⟩ hK
    have e0 : Sp.hornF x c.reverse (0, 1) = (0, 0, e') := by
      rw [bkU_snd c HQ.out hk] at hy
      have := Sp.horn_stop he (c.reverse.drop kk) _ _ hy
      rwa [List.take_append_drop] at this
    rw [HV.out] at e0
    have e3 : lo = 0 ∧ hi = 0 ∧ e = e' := by simpa using e0
    obtain ⟨rfl, rfl, rfl⟩ := e3
    have hx := v
    have hK2 := hK
    gi_wp2
    refine ⟨by simp, .inl ⟨_, _, rfl, run_takeDeferred hK2, ?_⟩⟩
    have X2 := hx.put (o' := .deferred none) (show w.heap.size ≤ D by omega) hK2 rfl
    have c0 := X2.r0
    have c1 := X2.r1
    have c2 := X2.e0
    refine ⟨.tuple #[.agg #[.int .i64 0, .int .i64 0], .int .i64 e], by simp [results, Try.results35, go_sem, c0, c1, c2], Gives.mk rfl X2.bw⟩

end Go.Proofs.Ytcbecfimikpljaa
