/-
  Layer 6: the reader of package codec: a datum that passes, its int, its text.
-/
import Derived.Test.YtcjhgihkofmhgaaCya
import Derived.Deep.RegionWith
import Derived.Deep.CutBlock
namespace Go.Proofs.Ytcjhgihkofmhgaa
open Go.RowKit
set_option linter.unusedVariables false
set_option linter.unusedSimpArgs false

/-- Behind the datum's own box. -/
structure Hd (w : World) (g : Nat) (A : Option Addr) (len cap : Nat) (x y : Int) (v0 v1 v2 v3 : Value) (wx : World) : Prop where
  rb : RB wx g A len cap x y
  zl : w.heap.size < wx.heap.size
  z0 : wx.cell? ⟨w.heap.size, 0, none⟩ = some (.int .i64 0)
  z1 : wx.cell? ⟨w.heap.size, 1, none⟩ = some (.int .i64 0)
  z2 : wx.cell? ⟨w.heap.size, 2, none⟩ = some (.string ⟨#[]⟩)
  z3 : wx.cell? ⟨w.heap.size, 3, none⟩ = some (.slice none 0 0)
  zf : ∀ o, wx.frozen? ⟨w.heap.size, o, none⟩ = false
  xl : w.heap.size + 1 < wx.heap.size
  x0 : wx.cell? ⟨w.heap.size + 1, 0, none⟩ = some v0
  x1 : wx.cell? ⟨w.heap.size + 1, 1, none⟩ = some v1
  x2 : wx.cell? ⟨w.heap.size + 1, 2, none⟩ = some v2
  x3 : wx.cell? ⟨w.heap.size + 1, 3, none⟩ = some v3
  xf : ∀ o, wx.frozen? ⟨w.heap.size + 1, o, none⟩ = false
set_option maxRecDepth 100000 in
set_option maxHeartbeats 2000000 in
theorem rdat_limit (len : Nat) (b off at_ X : Nat) (cap i c : Nat) (g : Nat) (ha : at_ < len) (hk : 1 ≤ X ∧ X ≤ 3) (hX : X < 256) (hl : len ≤ 140737488355328) (hi : 7 < i ∨ 500 < c + 1) (hc : c ≤ 500) (w : World) (hB : RB w g (some ⟨b, off, none⟩) len cap at_ c)
    (bl : b < w.heap.size) (hx : w.cell? ⟨b, off + at_, none⟩ = some (.int .u8 (X : Int))) :
    Calls Try.prog 47 #[.pointer (some ⟨g, 0, none⟩), .int .i64 (i : Int)] w (fun e w' => e = .returned (.tuple #[.agg #[.int .i64 0, .int .i64 0, .string ⟨#[]⟩, .slice none 0 0], .int .i64 8]) ∧ RB w' g (some ⟨b, off, none⟩) len cap ((at_ : Int) + 1) ((c : Int) + 1) ∧ Ow w w' (some g) (some g)) := by
  have be := fun w => beyond_any i (c + 1) w
  rw [decide_eq_true hi, show ((c + 1 : Nat) : Int) = (c : Int) + 1 by omega] at be
  clear hi
  have gl := hB.lt
  have r0 := hB.c0
  have r1 := hB.c1
  have fr := hB.fr
  have i0 : (0 : Int) ≤ (at_ : Int) := by omega
  have i1 : (at_ : Int) < (len : Int) := by omega
  have n1 : ((at_ : Int) == (len : Int)) = false := by simp; omega
  have ik := fun w => isKind_any (X : Int) w
  rw [decide_eq_true (by omega)] at ik
  go_enter Try.func47, Try.ntmps47
  go_wp2_with fail
  go_quiet (fail)
  go_upto_region 3 with (fail)
  go_cut [6] (fun v wx => v = .pointer (some ⟨w.heap.size + 1, 0, none⟩) ∧ Hd w g (some ⟨b, off, none⟩) len cap at_ c (.int .i64 (X : Int)) (.int .i64 0) (.string ⟨#[]⟩) (.slice none 0 0) wx ∧ Below w.heap.size w wx)
  case first =>
    go_region
    all_goals
      go_wp2_with fail
      go_meet
      refine ⟨rfl, ⟨hB.below (by repeat' (first | (with_reducible exact Below.refl _ _) | (with_reducible refine Below.alloc ?_ ?_ _) | (with_reducible refine Below.setCell ?_ ?_ _) | (with_reducible refine Below.drew ?_) | (with_reducible refine below_dn ?_ _) | (with_reducible refine Below.trans ?_ (Below.mono (by assumption) ?_)) | (simp; done) | (simp; omega) | omega)), (by first | assumption | (simp; done) | (simp; omega) | (dsimp only; omega) | omega), by simp [go_sem], by simp [go_sem], by simp [go_sem], by simp [go_sem], fun o => by simp [go_sem], (by first | assumption | (simp; done) | (simp; omega) | (dsimp only; omega) | omega), by simp [go_sem], by simp [go_sem], by simp [go_sem], by simp [go_sem], fun o => by simp [go_sem]⟩, by repeat' (first | (with_reducible exact Below.refl _ _) | (with_reducible refine Below.alloc ?_ ?_ _) | (with_reducible refine Below.setCell ?_ ?_ _) | (with_reducible refine Below.drew ?_) | (with_reducible refine below_dn ?_ _) | (with_reducible refine Below.trans ?_ (Below.mono (by assumption) ?_)) | (simp; done) | (simp; omega) | omega)⟩
  case rest =>
    obtain ⟨rfl, HD, BW⟩ := hcut
    have HBW := hid BW
    clear BW
    clear r0 r1 fr hx
    have HH := hid HD
    have gne : ¬ w.heap.size = g := by omega
    have gne2 : ¬ g = w.heap.size := by omega
    have gne3 : ¬ w.heap.size + 1 = g := by omega
    have gne4 : ¬ g = w.heap.size + 1 := by omega
    have q1 := HD.rb.c1
    have q2 := HD.rb.c2
    have qf := HD.rb.fr
    have y0 := HD.x0
    have zf := HD.zf
    have z0 := HD.z0
    have z1 := HD.z1
    have z2 := HD.z2
    have z3 := HD.z3
    clear HD
    go_wp2_with (first | (go_at_call 50; refine (ik _).mono ?_; rintro e w' ⟨rfl, rfl⟩) | (go_at_call 52; refine (be _).mono ?_; rintro e w' ⟨rfl, rfl⟩))
    refine bodyPost_ret (v := .tuple #[.agg #[.int .i64 0, .int .i64 0, .string ⟨#[]⟩, .slice none 0 0], .int .i64 8]) (by simp [results, Try.results47, go_sem, z0, z1, z2, z3, zf, gne, gne2]) rfl ?_
    refine ⟨rfl, ?_, ?_⟩
    · exact (((((HH.out.rb.set1 _).set2 _).other _ gne _).other _ gne _).other _ gne _).other _ gne _
    · exact (((((((Ow.of_below HBW.out (some g)).setCell ⟨g, 1, none⟩ rfl _).setCell ⟨g, 2, none⟩ rfl _).setNew _ (Nat.le_refl _) _).setNew _ (Nat.le_refl _) _).setNew _ (Nat.le_refl _) _).setNew _ (Nat.le_refl _) _)
theorem Hd.step {w wx : World} {g : Nat} {A : Option Addr} {len cap : Nat} {x y : Int} {v0 v1 v2 v3 : Value} (h : Hd w g A len cap x y v0 v1 v2 v3 wx) (n1 : ¬ g = w.heap.size) (n2 : ¬ g = w.heap.size + 1) (x' y' : Int) :
    Hd w g A len cap x' y' v0 v1 v2 v3 ((wx.setCell ⟨g, 1, none⟩ (.int .i64 x')).setCell ⟨g, 2, none⟩ (.int .i64 y')) := by
  have o : ∀ (q : Addr), q.block ≠ g → ((wx.setCell ⟨g, 1, none⟩ (.int .i64 x')).setCell ⟨g, 2, none⟩ (.int .i64 y')).cell? q = wx.cell? q := fun q hq =>
    (World.cell?_setCell_other _ _ _ _ (fun e => hq (by rw [← e]))).trans (World.cell?_setCell_other _ _ _ _ (fun e => hq (by rw [← e])))
  exact ⟨(h.rb.set1 _).set2 _, by simpa using h.zl, (o _ (fun e => n1 e.symm)).trans h.z0, (o _ (fun e => n1 e.symm)).trans h.z1, (o _ (fun e => n1 e.symm)).trans h.z2, (o _ (fun e => n1 e.symm)).trans h.z3,
    fun o => by rw [World.frozen?_setCell, World.frozen?_setCell]; exact h.zf o, by simpa using h.xl, (o _ (fun e => n2 e.symm)).trans h.x0, (o _ (fun e => n2 e.symm)).trans h.x1, (o _ (fun e => n2 e.symm)).trans h.x2, (o _ (fun e => n2 e.symm)).trans h.x3,
    fun o => by rw [World.frozen?_setCell, World.frozen?_setCell]; exact h.xf o⟩
theorem Hd.drew {w wx : World} {g : Nat} {A : Option Addr} {len cap : Nat} {x y : Int} {v0 v1 v2 v3 : Value} (h : Hd w g A len cap x y v0 v1 v2 v3 wx) : Hd w g A len cap x y v0 v1 v2 v3 wx.drew :=
  ⟨⟨h.rb.lt, h.rb.c0, h.rb.c1, h.rb.c2, h.rb.fr⟩, h.zl, h.z0, h.z1, h.z2, h.z3, h.zf, h.xl, h.x0, h.x1, h.x2, h.x3, h.xf⟩
theorem Ow.drew {w wx : World} {r r' : Option Nat} (h : Ow w wx r r') : Ow w wx.drew r r' := ⟨⟨h.1.os, h.1.tape, h.1.output, h.1.size, h.1.block⟩, h.2⟩
theorem cell_other {W : World} {p q : Addr} {v : Value} (h : p.block ≠ q.block) : (W.setCell p v).cell? q = W.cell? q := World.cell?_setCell_other _ _ _ _ (fun e => h (by rw [e]))
theorem Hd.at_ {w wx : World} {g : Nat} {A : Option Addr} {len cap : Nat} {x y : Int} {v0 v1 v2 v3 : Value} (h : Hd w g A len cap x y v0 v1 v2 v3 wx) (n1 : ¬ g = w.heap.size) (n2 : ¬ g = w.heap.size + 1) (x' : Int) :
    Hd w g A len cap x' y v0 v1 v2 v3 (wx.setCell ⟨g, 1, none⟩ (.int .i64 x')) :=
  ⟨h.rb.set1 _, by simpa using h.zl, (cell_other n1).trans h.z0, (cell_other n1).trans h.z1, (cell_other n1).trans h.z2, (cell_other n1).trans h.z3, fun o => by rw [World.frozen?_setCell]; exact h.zf o,
    by simpa using h.xl, (cell_other n2).trans h.x0, (cell_other n2).trans h.x1, (cell_other n2).trans h.x2, (cell_other n2).trans h.x3, fun o => by rw [World.frozen?_setCell]; exact h.xf o⟩
theorem Hd.f1 {w wx : World} {g : Nat} {A : Option Addr} {len cap : Nat} {x y : Int} {v0 v1 v2 v3 : Value} (h : Hd w g A len cap x y v0 v1 v2 v3 wx) (n2 : ¬ w.heap.size + 1 = g) (v' : Value) :
    Hd w g A len cap x y v0 v' v2 v3 (wx.setCell ⟨w.heap.size + 1, 1, none⟩ v') :=
  ⟨h.rb.other _ n2 _, by simpa using h.zl, (cell_other (by simp)).trans h.z0, (cell_other (by simp)).trans h.z1, (cell_other (by simp)).trans h.z2, (cell_other (by simp)).trans h.z3, fun o => by rw [World.frozen?_setCell]; exact h.zf o,
    by simpa using h.xl, (World.cell?_setCell_other _ _ _ _ (by simp)).trans h.x0, World.cell?_setCell_same' _ _ _ (by rw [h.x1]; rfl), (World.cell?_setCell_other _ _ _ _ (by simp)).trans h.x2, (World.cell?_setCell_other _ _ _ _ (by simp)).trans h.x3, fun o => by rw [World.frozen?_setCell]; exact h.xf o⟩
theorem Hd.f2 {w wx : World} {g : Nat} {A : Option Addr} {len cap : Nat} {x y : Int} {v0 v1 v2 v3 : Value} (h : Hd w g A len cap x y v0 v1 v2 v3 wx) (n2 : ¬ w.heap.size + 1 = g) (v' : Value) :
    Hd w g A len cap x y v0 v1 v' v3 (wx.setCell ⟨w.heap.size + 1, 2, none⟩ v') :=
  ⟨h.rb.other _ n2 _, by simpa using h.zl, (cell_other (by simp)).trans h.z0, (cell_other (by simp)).trans h.z1, (cell_other (by simp)).trans h.z2, (cell_other (by simp)).trans h.z3, fun o => by rw [World.frozen?_setCell]; exact h.zf o,
    by simpa using h.xl, (World.cell?_setCell_other _ _ _ _ (by simp)).trans h.x0, (World.cell?_setCell_other _ _ _ _ (by simp)).trans h.x1, World.cell?_setCell_same' _ _ _ (by rw [h.x2]; rfl), (World.cell?_setCell_other _ _ _ _ (by simp)).trans h.x3, fun o => by rw [World.frozen?_setCell]; exact h.xf o⟩
theorem Hd.f3 {w wx : World} {g : Nat} {A : Option Addr} {len cap : Nat} {x y : Int} {v0 v1 v2 v3 : Value} (h : Hd w g A len cap x y v0 v1 v2 v3 wx) (n2 : ¬ w.heap.size + 1 = g) (v' : Value) :
    Hd w g A len cap x y v0 v1 v2 v' (wx.setCell ⟨w.heap.size + 1, 3, none⟩ v') :=
  ⟨h.rb.other _ n2 _, by simpa using h.zl, (cell_other (by simp)).trans h.z0, (cell_other (by simp)).trans h.z1, (cell_other (by simp)).trans h.z2, (cell_other (by simp)).trans h.z3, fun o => by rw [World.frozen?_setCell]; exact h.zf o,
    by simpa using h.xl, (World.cell?_setCell_other _ _ _ _ (by simp)).trans h.x0, (World.cell?_setCell_other _ _ _ _ (by simp)).trans h.x1, (World.cell?_setCell_other _ _ _ _ (by simp)).trans h.x2, World.cell?_setCell_same' _ _ _ (by rw [h.x3]; rfl), fun o => by rw [World.frozen?_setCell]; exact h.xf o⟩
/-- What is left when a datum was read or refused. -/
def PostR (w : World) (g : Nat) (A : Option Addr) (len cap : Nat) (v : Value) (x y er : Int) (e : Ending) (w' : World) : Prop :=
  (er = 0 → e = .returned (.tuple #[v, .int .i64 0])) ∧ (er ≠ 0 → e = .returned (.tuple #[.agg #[.int .i64 0, .int .i64 0, .string ⟨#[]⟩, .slice none 0 0], .int .i64 er])) ∧ RB w' g A len cap x y ∧ Ow w w' (some g) (some g)
set_option maxRecDepth 100000 in
set_option maxHeartbeats 4000000 in
theorem rdat_int (len : Nat) (b off at_ : Nat) (cap i c : Nat) (g : Nat) (ha : at_ < len) (hl : len ≤ 140737488355328) (hi : ¬ (7 < i ∨ 500 < c + 1)) (w : World) (hB : RB w g (some ⟨b, off, none⟩) len cap at_ c)
    (bl : b < w.heap.size) (hx : w.cell? ⟨b, off + at_, none⟩ = some (.int .u8 ((1 : Nat) : Int))) (B : Nat) (hBg : B ≤ g) (L : List UInt8) (S : Bs w B (some ⟨b, off, none⟩) L) (n x er : Int)
    (gi : ∀ W, Bs W B (some ⟨b, off, none⟩) L → Calls Try.prog 12 #[.slice (some ⟨b, off, none⟩) len cap, .int .i64 ((at_ : Int) + 1)] W fun e w' => e = .returned (.tuple #[.int .i64 n, .int .i64 x, .int .i64 er]) ∧ W = w') :
    Calls Try.prog 47 #[.pointer (some ⟨g, 0, none⟩), .int .i64 (i : Int)] w (PostR w g (some ⟨b, off, none⟩) len cap (.agg #[.int .i64 1, .int .i64 n, .string ⟨#[]⟩, .slice none 0 0]) x ((c : Int) + 1) er) := by
  obtain ⟨X, hX1⟩ : ∃ X : Nat, X = 1 := ⟨1, rfl⟩
  rw [← hX1] at hx
  have hk : 1 ≤ X ∧ X ≤ 3 := by omega
  have hX : X < 256 := by omega
  have HX := hid hX1
  clear hX1
  have hc : c ≤ 500 := by omega
  have be := fun w => beyond_any i (c + 1) w
  rw [decide_eq_false hi, show ((c + 1 : Nat) : Int) = (c : Int) + 1 by omega] at be
  have GI := hid gi
  have HS := hid S
  clear hi gi S
  have gl := hB.lt
  have r0 := hB.c0
  have r1 := hB.c1
  have fr := hB.fr
  have i0 : (0 : Int) ≤ (at_ : Int) := by omega
  have i1 : (at_ : Int) < (len : Int) := by omega
  have n1 : ((at_ : Int) == (len : Int)) = false := by simp; omega
  have ik := fun w => isKind_any (X : Int) w
  rw [decide_eq_true (by omega)] at ik
  go_enter Try.func47, Try.ntmps47
  go_wp2_with fail
  go_quiet (fail)
  go_upto_region 3 with (fail)
  go_cut [6] (fun v wx => v = .pointer (some ⟨w.heap.size + 1, 0, none⟩) ∧ Hd w g (some ⟨b, off, none⟩) len cap at_ c (.int .i64 (X : Int)) (.int .i64 0) (.string ⟨#[]⟩) (.slice none 0 0) wx ∧ Below w.heap.size w wx)
  case first =>
    go_region
    all_goals
      go_wp2_with fail
      go_meet
      refine ⟨rfl, ⟨hB.below (by repeat' (first | (with_reducible exact Below.refl _ _) | (with_reducible refine Below.alloc ?_ ?_ _) | (with_reducible refine Below.setCell ?_ ?_ _) | (with_reducible refine Below.drew ?_) | (with_reducible refine below_dn ?_ _) | (with_reducible refine Below.trans ?_ (Below.mono (by assumption) ?_)) | (simp; done) | (simp; omega) | omega)), (by first | assumption | (simp; done) | (simp; omega) | (dsimp only; omega) | omega), by simp [go_sem], by simp [go_sem], by simp [go_sem], by simp [go_sem], fun o => by simp [go_sem], (by first | assumption | (simp; done) | (simp; omega) | (dsimp only; omega) | omega), by simp [go_sem], by simp [go_sem], by simp [go_sem], by simp [go_sem], fun o => by simp [go_sem]⟩, by repeat' (first | (with_reducible exact Below.refl _ _) | (with_reducible refine Below.alloc ?_ ?_ _) | (with_reducible refine Below.setCell ?_ ?_ _) | (with_reducible refine Below.drew ?_) | (with_reducible refine below_dn ?_ _) | (with_reducible refine Below.trans ?_ (Below.mono (by assumption) ?_)) | (simp; done) | (simp; omega) | omega)⟩
  case rest =>
    obtain ⟨rfl, HD, BW⟩ := hcut
    have HBW := hid BW
    clear BW
    clear r0 r1 fr hx
    have gne : ¬ w.heap.size = g := by omega
    have gne2 : ¬ g = w.heap.size := by omega
    have gne3 : ¬ w.heap.size + 1 = g := by omega
    have gne4 : ¬ g = w.heap.size + 1 := by omega
    have HH := hid HD
    have q1 := HD.rb.c1
    have q2 := HD.rb.c2
    have qf := HD.rb.fr
    have y0 := HD.x0
    clear HD
    go_upto_region 10 with (first | (go_at_call 50; refine (ik _).mono ?_; rintro e w' ⟨rfl, rfl⟩) | (go_at_call 52; refine (be _).mono ?_; rintro e w' ⟨rfl, rfl⟩))
    obtain ⟨u, hu⟩ : ∃ u : World, (wc.setCell ⟨g, 1, none⟩ (.int .i64 ((at_ : Int) + 1))).setCell ⟨g, 2, none⟩ (.int .i64 ((c : Int) + 1)) = u := ⟨_, rfl⟩
    have HU : Hd w g (some ⟨b, off, none⟩) len cap ((at_ : Int) + 1) ((c : Int) + 1) (.int .i64 (X : Int)) (.int .i64 0) (.string ⟨#[]⟩) (.slice none 0 0) u := by rw [← hu]; exact HH.out.step gne2 gne4 _ _
    have OU : Ow w u (some g) (some g) := by rw [← hu]; exact ((Ow.of_below HBW.out (some g)).setCell ⟨g, 1, none⟩ rfl _).setCell ⟨g, 2, none⟩ rfl _
    rw [hu]
    clear hu q1 q2 qf y0 HH wc HBW ik be
    have q0 := HU.rb.c0
    have q1 := HU.rb.c1
    have qf := HU.rb.fr
    have ql := HU.rb.lt
    have y0 := HU.x0
    have y1 := HU.x1
    have y2 := HU.x2
    have y3 := HU.x3
    have yf := HU.xf
    have yl := HU.xl
    have z0 := HU.z0
    have z1 := HU.z1
    have z2 := HU.z2
    have z3 := HU.z3
    have zf := HU.zf
    have zl := HU.zl
    have HHU := hid HU
    have HOU := hid OU
    clear HU OU
    have HS2 : Hid (∀ W, Below B u W → Bs W B (some ⟨b, off, none⟩) L) := hid fun W hW => (HS.out.below ((HOU.out.under (B := B) (by omega) (fun g' hg' => by injection hg' with hg'; omega)).trans hW))
    have hX := HX.out
    subst hX
    go_upto_block 0 with (fail)
    go_cut [7] (fun v wx => v = .int .i64 er ∧ Hd w g (some ⟨b, off, none⟩) len cap x ((c : Int) + 1) (.int .i64 1) (.int .i64 n) (.string ⟨#[]⟩) (.slice none 0 0) wx ∧ Ow w wx (some g) (some g))
    case first =>
      go_wp2_with fail
      go_region_with (go_at_call 12; refine (GI.out _ (HS2.out _ (by repeat' (first | (with_reducible exact Below.refl _ _) | (with_reducible refine Below.alloc ?_ ?_ _) | (with_reducible refine Below.setCell ?_ ?_ _) | (with_reducible refine Below.drew ?_) | (with_reducible refine below_dn ?_ _) | (with_reducible refine Below.trans ?_ (Below.mono (by assumption) ?_)) | (simp; done) | (simp; omega) | omega)))).mono ?_; rintro e w' ⟨rfl, rfl⟩)
      all_goals
        go_wp2_with fail
        go_meet
        exact ⟨rfl, ((HHU.out.f1 gne3 (.int .i64 n)).at_ gne2 gne4 x).drew, ((HOU.out.setNew ⟨w.heap.size + 1, 1, none⟩ (by simp) (.int .i64 n)).setCell ⟨g, 1, none⟩ rfl (.int .i64 x)).drew⟩
    case rest =>
      obtain ⟨rfl, HE, OE⟩ := hcut
      have HHE := hid HE
      have HOE := hid OE
      clear q0 q1 qf ql y0 y1 y2 y3 yf yl z0 z1 z2 z3 zf zl HHU HOU HS2
      have y0 := HE.x0
      have y1 := HE.x1
      have y2 := HE.x2
      have y3 := HE.x3
      have yf := HE.xf
      have yl := HE.xl
      have z0 := HE.z0
      have z1 := HE.z1
      have z2 := HE.z2
      have z3 := HE.z3
      have zf := HE.zf
      have zl := HE.zl
      clear HE OE
      have fin : ∀ a0 a1 a2 a3 : Value, RB ((((wc.setCell ⟨w.heap.size, 0, none⟩ a0).setCell ⟨w.heap.size, 1, none⟩ a1).setCell ⟨w.heap.size, 2, none⟩ a2).setCell ⟨w.heap.size, 3, none⟩ a3) g (some ⟨b, off, none⟩) len cap x ((c : Int) + 1) ∧ Ow w ((((wc.setCell ⟨w.heap.size, 0, none⟩ a0).setCell ⟨w.heap.size, 1, none⟩ a1).setCell ⟨w.heap.size, 2, none⟩ a2).setCell ⟨w.heap.size, 3, none⟩ a3) (some g) (some g) := fun a0 a1 a2 a3 =>
        ⟨(((HHE.out.rb.other _ gne _).other _ gne _).other _ gne _).other _ gne _, (((HOE.out.setNew _ (Nat.le_refl _) _).setNew _ (Nat.le_refl _) _).setNew _ (Nat.le_refl _) _).setNew _ (Nat.le_refl _) _⟩
      have FIN := hid fin
      clear fin
      by_cases e0 : er = 0
      · have E0 := hid e0
        subst e0
        go_wp2_with fail
        refine bodyPost_ret (v := .tuple #[.agg #[.int .i64 1, .int .i64 n, .string ⟨#[]⟩, .slice none 0 0], .int .i64 0]) (by simp [results, Try.results47, go_sem, z0, z1, z2, z3, zf, gne, gne2]) rfl ?_
        exact ⟨fun _ => rfl, fun h => absurd rfl h, FIN.out _ _ _ _⟩
      · have e2 : (er != 0) = true := by simpa using e0
        have E0 := hid e0
        clear e0
        go_wp2_with fail
        refine bodyPost_ret (v := .tuple #[.agg #[.int .i64 0, .int .i64 0, .string ⟨#[]⟩, .slice none 0 0], .int .i64 er]) (by simp [results, Try.results47, go_sem, z0, z1, z2, z3, zf, gne, gne2]) rfl ?_
        exact ⟨fun h => absurd h E0.out, fun _ => rfl, FIN.out _ _ _ _⟩
end Go.Proofs.Ytcjhgihkofmhgaa
