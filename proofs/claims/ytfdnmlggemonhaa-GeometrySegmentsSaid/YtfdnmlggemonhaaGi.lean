/-
  Layer 7: half, compare of package geometry, cmp.Or, by contract. Written by tools/gen_gi.py.
-/
import Derived.Test.YtfdnmlggemonhaaGb
import Derived.Test.YtfdnmlggemonhaaGreg
import Derived.IntWalk
import Derived.BigRegion
namespace Go.Proofs.Ytfdnmlggemonhaa
open Go.RowKit
set_option linter.unusedVariables false
set_option linter.unusedSimpArgs false

namespace Sp
def halfS (o p : Pt) : Int := if o.2 < p.2 ∨ (p.2 = o.2 ∧ o.1 < p.1) then 0 else 1
def orS : List Int → Int
  | [] => 0
  | x :: l => if x ≠ 0 then x else orS l
/-- How two points are compared by their directions, their distances, their numbers. -/
def cmpS (o p q : Pt) (i j : Int) : Int := orS [Lib.compareInt (halfS o p) (halfS o q), -(sg (crs o p q)), Lib.compareInt (sq o p) (sq o q), Lib.compareInt i j]
end Sp
theorem half_any (o1 o2 p1 p2 : Int) (A : Option Addr) (n c : Nat) (w : World) :
    Calls Try.prog 70 #[.agg #[.int .i64 o1, .int .i64 o2, .slice A n c], .agg #[.int .i64 p1, .int .i64 p2]] w (GivesD (.int .i64 (Sp.halfS (o1, o2) (p1, p2))) w) := by
  unfold Sp.halfS
  dsimp only
  by_cases h1 : o2 < p2
  · rw [if_pos (.inl h1)]
    go_enter Try.func70, Try.ntmps70
    go_wp2_with fail
    go_ret
    exact GivesD.mk rfl (by repeat' (first | (with_reducible exact Below.refl _ _) | (with_reducible refine Below.alloc ?_ ?_ _) | (with_reducible refine Below.setCell ?_ ?_ _) | (with_reducible refine Below.drew ?_) | (with_reducible refine Below.trans ?_ (Below.mono (by assumption) ?_)) | (simp; done) | (simp; omega) | omega)) (Nat.le_refl _)
  · by_cases h2 : p2 = o2
    · subst h2
      by_cases h3 : o1 < p1
      · rw [if_pos (.inr ⟨rfl, h3⟩)]
        go_enter Try.func70, Try.ntmps70
        go_wp2_with fail
        go_ret
        exact GivesD.mk rfl (by repeat' (first | (with_reducible exact Below.refl _ _) | (with_reducible refine Below.alloc ?_ ?_ _) | (with_reducible refine Below.setCell ?_ ?_ _) | (with_reducible refine Below.drew ?_) | (with_reducible refine Below.trans ?_ (Below.mono (by assumption) ?_)) | (simp; done) | (simp; omega) | omega)) (Nat.le_refl _)
      · rw [if_neg (by omega)]
        go_enter Try.func70, Try.ntmps70
        go_wp2_with fail
        go_ret
        exact GivesD.mk rfl (by repeat' (first | (with_reducible exact Below.refl _ _) | (with_reducible refine Below.alloc ?_ ?_ _) | (with_reducible refine Below.setCell ?_ ?_ _) | (with_reducible refine Below.drew ?_) | (with_reducible refine Below.trans ?_ (Below.mono (by assumption) ?_)) | (simp; done) | (simp; omega) | omega)) (Nat.le_refl _)
    · rw [if_neg (by omega)]
      go_enter Try.func70, Try.ntmps70
      go_wp2_with fail
      go_ret
      exact GivesD.mk rfl (by repeat' (first | (with_reducible exact Below.refl _ _) | (with_reducible refine Below.alloc ?_ ?_ _) | (with_reducible refine Below.setCell ?_ ?_ _) | (with_reducible refine Below.drew ?_) | (with_reducible refine Below.trans ?_ (Below.mono (by assumption) ?_)) | (simp; done) | (simp; omega) | omega)) (Nat.le_refl _)
/-- Quad4 ints in a row of the call's own. -/
def Quad4 (w : World) (g : Nat) (a b c d : Int) : Prop := w.cell? ⟨g, 0, none⟩ = some (.int .i64 a) ∧ w.cell? ⟨g, 1, none⟩ = some (.int .i64 b) ∧ w.cell? ⟨g, 2, none⟩ = some (.int .i64 c) ∧ w.cell? ⟨g, 3, none⟩ = some (.int .i64 d)
def OrRel (w : World) (l : List Int) (R : Int) (t : Value) (wr : World) : Prop := ∃ j : Nat, t = .int .i64 (j : Int) ∧ j ≤ l.length ∧ Sp.orS (l.drop j) = R ∧ w = wr
set_option maxRecDepth 100000 in
set_option maxHeartbeats 1000000 in
theorem or_any (a b c d : Int) (g : Nat) (w : World) (h : Quad4 w g a b c d) :
    Calls Try.prog 69 #[.slice (some ⟨g, 0, none⟩) 4 4] w fun e w' => e = .returned (.int .i64 (Sp.orS [a, b, c, d])) ∧ w = w' := by
  obtain ⟨l, hl⟩ : ∃ l, [a, b, c, d] = l := ⟨_, rfl⟩
  rw [hl]
  have l4 : l.length = 4 := by rw [← hl]; rfl
  have hc : ∀ j, (hj : j < l.length) → w.cell? ⟨g, j, none⟩ = some (.int .i64 (l[j]'hj)) := by
    subst hl
    intro j hj
    match j, hj with
    | 0, _ => exact h.1
    | 1, _ => exact h.2.1
    | 2, _ => exact h.2.2.1
    | 3, _ => exact h.2.2.2
  obtain ⟨R, hR⟩ : ∃ R, Sp.orS l = R := ⟨_, rfl⟩
  rw [hR]
  have HR := hid hR
  have HC := hid hc
  clear hR hc h hl
  go_enter Try.func69, Try.ntmps69
  go_wp2_with fail
  go_loopw [8] (fun t wr => OrRel w l R t wr) (fun t _ => l.length - (intOf t).toNat)
  case atStart => exact ⟨0, rfl, Nat.zero_le _, HR.out, rfl⟩
  case round =>
    obtain ⟨j, rfl, hj, hd, rfl⟩ := hrel
    have HD := hid hd
    clear hd
    by_cases hlt : j < l.length
    · have x0 := HC.out j hlt
      have hd := HD.out
      rw [List.drop_eq_getElem_cons hlt] at hd
      obtain ⟨x, hx⟩ : ∃ x, l[j]'hlt = x := ⟨_, rfl⟩
      rw [hx] at x0 hd
      unfold Sp.orS at hd
      have i0 : (0 : Int) ≤ (j : Int) := by omega
      have i1 : (j : Int) < 4 := by omega
      have HL := hid hlt
      by_cases c0 : x = 0
      · rw [if_neg (by simpa using c0)] at hd
        have HF := hid hd
        subst c0
        clear hd hx
        go_wp2_with fail
        go_roundw
        case rel => exact ⟨j + 1, by go_num, HL.out, HF.out, rfl⟩
        case measure => exact smeas _ _ HL.out
      · rw [if_pos c0] at hd
        subst hd
        clear hx
        go_wp2_with fail
        go_ret
        exact ⟨rfl, rfl⟩
    · have i1 : ¬ (j : Int) < 4 := by omega
      have hd := HD.out
      rw [List.drop_eq_nil_of_le (by omega)] at hd
      unfold Sp.orS at hd
      subst hd
      go_wp2_with fail
      go_ret
      exact ⟨rfl, rfl⟩


theorem Quad4.kc {w w' : World} {g : Nat} {a b c d : Int} (h : Quad4 w g a b c d) (k : KC w w') : Quad4 w' g a b c d := ⟨k.cell _ _ h.1, k.cell _ _ h.2.1, k.cell _ _ h.2.2.1, k.cell _ _ h.2.2.2⟩
set_option maxRecDepth 100000 in
set_option maxHeartbeats 4000000 in
theorem vcompare_any (o p q : Sp.Pt) (ho : Sp.okP o = true) (hp : Sp.okP p = true) (hq : Sp.okP q = true) (i j : Nat) (b off n c : Nat) (hi : i < n) (hj : j < n) (hn : n ≤ 64) (w : World) (bl : b < w.heap.size)
    (x0 : w.cell? ⟨b, off + i * 2, none⟩ = some (.int .i64 p.1)) (x1 : w.cell? ⟨b, off + i * 2 + 1, none⟩ = some (.int .i64 p.2)) (y0 : w.cell? ⟨b, off + j * 2, none⟩ = some (.int .i64 q.1)) (y1 : w.cell? ⟨b, off + j * 2 + 1, none⟩ = some (.int .i64 q.2)) :
    Calls Try.prog 59 #[.agg #[.int .i64 o.1, .int .i64 o.2, .slice (some ⟨b, off, none⟩) n c], .int .i64 (i : Int), .int .i64 (j : Int)] w (GivesD (.int .i64 (Sp.cmpS o p q (i : Int) (j : Int))) w) := by
  have h1 := half_any o.1 o.2 p.1 p.2 (some ⟨b, off, none⟩) n c
  have h2 := half_any o.1 o.2 q.1 q.2 (some ⟨b, off, none⟩) n c
  have m1 := icmp_any (Sp.halfS o p) (Sp.halfS o q)
  have t1 := turn_any o p q ho hp hq
  have tc := Sp.sg_cases (Sp.crs o p q)
  have s1 := square_any o p ho hp
  have s2 := square_any o q ho hq
  have m3 := icmp_any (Sp.sq o p) (Sp.sq o q)
  have m4 := icmp_any (i : Int) (j : Int)
  have orr := fun (g : Nat) (W : World) (h : Quad4 W g _ _ _ _) => or_any (Lib.compareInt (Sp.halfS o p) (Sp.halfS o q)) (-(Sp.sg (Sp.crs o p q))) (Lib.compareInt (Sp.sq o p) (Sp.sq o q)) (Lib.compareInt (i : Int) (j : Int)) g W h
  change ∀ (g : Nat) (W : World), Quad4 W g _ _ _ _ → Calls _ _ _ W fun e w' => e = .returned (.int .i64 (Sp.cmpS o p q (i : Int) (j : Int))) ∧ W = w' at orr
  generalize Sp.cmpS o p q (i : Int) (j : Int) = R at orr ⊢
  generalize Lib.compareInt (Sp.halfS o p) (Sp.halfS o q) = C1 at m1 orr
  generalize Lib.compareInt (Sp.sq o p) (Sp.sq o q) = C3 at m3 orr
  generalize Lib.compareInt (i : Int) (j : Int) = C4 at m4 orr
  generalize Sp.sg (Sp.crs o p q) = T at t1 tc orr
  have tb : -1 ≤ T ∧ T ≤ 1 := by rcases tc with ⟨_, h⟩ | ⟨_, h⟩ | ⟨_, h⟩ <;> omega
  obtain ⟨NT, hNT⟩ : ∃ x, -T = x := ⟨_, rfl⟩
  have w1 : wrap64 (-T) = NT := by rw [hNT]; exact w64 _ (by omega)
  have w2 : IntKind.i64.wrap (-T) = NT := by rw [hNT]; exact IntWalk.i64_in _ (by omega)
  rw [hNT] at orr
  change ∀ W, Calls _ _ _ W (GivesD (.int .i64 (Sp.halfS o p)) W) at h1
  change ∀ W, Calls _ _ _ W (GivesD (.int .i64 (Sp.halfS o q)) W) at h2
  generalize Sp.halfS o p = HP at h1 m1
  generalize Sp.halfS o q = HQ at h2 m1
  generalize Sp.sq o p = DP1 at s1 m3
  generalize Sp.sq o q = DQ1 at s2 m3
  clear tc tb hNT ho hp hq
  obtain ⟨o1, o2⟩ := o
  obtain ⟨p1, p2⟩ := p
  obtain ⟨q1, q2⟩ := q
  dsimp only at *
  have i0 : (0 : Int) ≤ (i : Int) := by omega
  have i1 : (i : Int) < (n : Int) := by omega
  have j0 : (0 : Int) ≤ (j : Int) := by omega
  have j1 : (j : Int) < (n : Int) := by omega
  have HN := hid hn
  clear hi hj hn
  obtain ⟨V, hV⟩ : ∃ V : World, w.alloc (Obj.cells #[.int .i64 o1, .int .i64 o2, .slice (some ⟨b, off, none⟩) n c] 70) = V := ⟨_, rfl⟩
  have bV : Below w.heap.size w V := by rw [← hV]; exact (Below.refl _ _).alloc (Nat.le_refl _) _
  have zV : V.heap.size = w.heap.size + 1 := by rw [← hV]; simp
  have dV : V.drawn = w.drawn := by rw [← hV]; rfl
  have v0 : V.cell? ⟨w.heap.size, 0, none⟩ = some (.int .i64 o1) := by rw [← hV]; simp [go_sem]
  have v1 : V.cell? ⟨w.heap.size, 1, none⟩ = some (.int .i64 o2) := by rw [← hV]; simp [go_sem]
  have v2 : V.cell? ⟨w.heap.size, 2, none⟩ = some (.slice (some ⟨b, off, none⟩) n c) := by rw [← hV]; simp [go_sem]
  have x0 := (bV.cell (p := ⟨b, off + i * 2, none⟩) bl).trans x0
  have x1 := (bV.cell (p := ⟨b, off + i * 2 + 1, none⟩) bl).trans x1
  have y0 := (bV.cell (p := ⟨b, off + j * 2, none⟩) bl).trans y0
  have y1 := (bV.cell (p := ⟨b, off + j * 2 + 1, none⟩) bl).trans y1
  have z0 : w.heap.size < V.heap.size := by omega
  have z1 : w.heap.size < V.heap.size + 1 := by omega
  have z2 : b < V.heap.size := by omega
  have z3 : b < V.heap.size + 1 := by omega
  have ax0 : ∀ O : Obj, (V.alloc O).cell? ⟨b, off + i * 2, none⟩ = some (.int .i64 p1) := fun O => (((Below.refl _ _).alloc (Nat.le_refl _) O).cell (p := ⟨b, off + i * 2, none⟩) z2).trans x0
  have cx0 : ∀ O O' : Obj, ((V.alloc O).alloc O').cell? ⟨b, off + i * 2, none⟩ = some (.int .i64 p1) := fun O O' => (((Below.refl _ _).alloc (Nat.le_refl _) O').cell (p := ⟨b, off + i * 2, none⟩) (by simpa using z3)).trans (ax0 O)
  have ax1 : ∀ O : Obj, (V.alloc O).cell? ⟨b, off + i * 2 + 1, none⟩ = some (.int .i64 p2) := fun O => (((Below.refl _ _).alloc (Nat.le_refl _) O).cell (p := ⟨b, off + i * 2 + 1, none⟩) z2).trans x1
  have cx1 : ∀ O O' : Obj, ((V.alloc O).alloc O').cell? ⟨b, off + i * 2 + 1, none⟩ = some (.int .i64 p2) := fun O O' => (((Below.refl _ _).alloc (Nat.le_refl _) O').cell (p := ⟨b, off + i * 2 + 1, none⟩) (by simpa using z3)).trans (ax1 O)
  have ay0 : ∀ O : Obj, (V.alloc O).cell? ⟨b, off + j * 2, none⟩ = some (.int .i64 q1) := fun O => (((Below.refl _ _).alloc (Nat.le_refl _) O).cell (p := ⟨b, off + j * 2, none⟩) z2).trans y0
  have cy0 : ∀ O O' : Obj, ((V.alloc O).alloc O').cell? ⟨b, off + j * 2, none⟩ = some (.int .i64 q1) := fun O O' => (((Below.refl _ _).alloc (Nat.le_refl _) O').cell (p := ⟨b, off + j * 2, none⟩) (by simpa using z3)).trans (ay0 O)
  have ay1 : ∀ O : Obj, (V.alloc O).cell? ⟨b, off + j * 2 + 1, none⟩ = some (.int .i64 q2) := fun O => (((Below.refl _ _).alloc (Nat.le_refl _) O).cell (p := ⟨b, off + j * 2 + 1, none⟩) z2).trans y1
  have cy1 : ∀ O O' : Obj, ((V.alloc O).alloc O').cell? ⟨b, off + j * 2 + 1, none⟩ = some (.int .i64 q2) := fun O O' => (((Below.refl _ _).alloc (Nat.le_refl _) O').cell (p := ⟨b, off + j * 2 + 1, none⟩) (by simpa using z3)).trans (ay1 O)
  have av : ∀ O : Obj, (V.alloc O).cell? ⟨w.heap.size, 2, none⟩ = some (.slice (some ⟨b, off, none⟩) n c) := fun O => (((Below.refl _ _).alloc (Nat.le_refl _) O).cell (p := ⟨w.heap.size, 2, none⟩) z0).trans v2
  have cv : ∀ O O' : Obj, ((V.alloc O).alloc O').cell? ⟨w.heap.size, 2, none⟩ = some (.slice (some ⟨b, off, none⟩) n c) := fun O O' => (((Below.refl _ _).alloc (Nat.le_refl _) O').cell (p := ⟨w.heap.size, 2, none⟩) (by simpa using z1)).trans (av O)
  have HV := hid hV
  clear hV
  go_enter Try.func59, Try.ntmps59
  go_upto_region 1 with fail
  rw [HV.out]
  go_region
  · obtain ⟨U, hU⟩ : ∃ U : World, ((V.alloc (Obj.cells #[.int .i64 p1, .int .i64 p2] 23)).alloc (Obj.cells #[.int .i64 q1, .int .i64 q2] 23)).drew = U := ⟨_, rfl⟩
    have bU : Below V.heap.size V U := by rw [← hU]; (repeat' (first | (with_reducible exact Below.refl _ _) | (with_reducible refine Below.alloc ?_ ?_ _) | (with_reducible refine Below.setCell ?_ ?_ _) | (with_reducible refine Below.drew ?_) | (with_reducible refine Below.trans ?_ (Below.mono (by assumption) ?_)) | (simp; done) | (simp; omega) | omega))
    have zU : U.heap.size = w.heap.size + 1 + 1 + 1 := by rw [← hU]; simp [zV]
    have dU : w.drawn ≤ U.drawn := by rw [← hU, ← dV]; exact Nat.le_succ _
    have KU : Hid (∀ W' : World, Below U.heap.size U W' → (W'.cell? ⟨w.heap.size, 0, none⟩ = some (.int .i64 o1) ∧ W'.cell? ⟨w.heap.size, 1, none⟩ = some (.int .i64 o2) ∧ W'.cell? ⟨w.heap.size + 1, 0, none⟩ = some (.int .i64 p1) ∧ W'.cell? ⟨w.heap.size + 1, 1, none⟩ = some (.int .i64 p2) ∧ W'.cell? ⟨w.heap.size + 1 + 1, 0, none⟩ = some (.int .i64 q1) ∧ W'.cell? ⟨w.heap.size + 1 + 1, 1, none⟩ = some (.int .i64 q2) ∧ W'.cell? ⟨w.heap.size, 2, none⟩ = some (.slice (some ⟨b, off, none⟩) n c))) := hid fun W' B => ⟨((B.mono (show V.heap.size ≤ U.heap.size from bU.size)).cell (p := ⟨w.heap.size, 0, none⟩) z0).trans ((bU.cell (p := ⟨w.heap.size, 0, none⟩) z0).trans v0), ((B.mono (show V.heap.size ≤ U.heap.size from bU.size)).cell (p := ⟨w.heap.size, 1, none⟩) z0).trans ((bU.cell (p := ⟨w.heap.size, 1, none⟩) z0).trans v1), (B.cell (p := ⟨w.heap.size + 1, 0, none⟩) (by simp only; omega)).trans (by rw [← hU, ← zV]; simp [go_sem]), (B.cell (p := ⟨w.heap.size + 1, 1, none⟩) (by simp only; omega)).trans (by rw [← hU, ← zV]; simp [go_sem]), (B.cell (p := ⟨w.heap.size + 1 + 1, 0, none⟩) (by simp only; omega)).trans (by rw [← hU, ← zV]; simp [go_sem]), (B.cell (p := ⟨w.heap.size + 1 + 1, 1, none⟩) (by simp only; omega)).trans (by rw [← hU, ← zV]; simp [go_sem]), ((B.mono (show V.heap.size ≤ U.heap.size from bU.size)).cell (p := ⟨w.heap.size, 2, none⟩) z0).trans ((bU.cell (p := ⟨w.heap.size, 2, none⟩) z0).trans v2)⟩
    rw [hU]
    have BU := hid (bV.trans (bU.mono bV.size))
    have DU := hid dU
    have HU := hid hU
    clear hU bU zU dU x0 x1 y0 y1 ax0 ax1 ay0 ay1 cx0 cx1 cy0 cy1 av cv v0 v1 v2 bV zV dV z0 z1 z2 z3
    simp only [Exit.then]
    go_at_K
    go_upto_region 2 with fail
    refine region_inv (by kernel_rfl) [SP.eq (.agg #[.int .i64 o1, .int .i64 o2, .slice (some ⟨b, off, none⟩) n c]), SP.eq (.agg #[.int .i64 p1, .int .i64 p2]), SP.eq (.int .i64 HP), SP.eq (.agg #[.int .i64 o1, .int .i64 o2, .slice (some ⟨b, off, none⟩) n c]), SP.eq (.agg #[.int .i64 q1, .int .i64 q2]), SP.eq (.int .i64 HQ), SP.eq (.int .i64 C1), SP.eq (.pointer (some ⟨w.heap.size, 0, none⟩)), SP.eq (.agg #[.int .i64 o1, .int .i64 o2]), SP.eq (.agg #[.int .i64 p1, .int .i64 p2]), SP.eq (.agg #[.int .i64 q1, .int .i64 q2]), SP.eq (.int .i64 T), SP.eq (.int .i64 NT), SP.eq (.pointer (some ⟨w.heap.size, 0, none⟩)), SP.eq (.agg #[.int .i64 o1, .int .i64 o2]), SP.eq (.agg #[.int .i64 p1, .int .i64 p2]), SP.eq (.int .i64 DP1), SP.eq (.pointer (some ⟨w.heap.size, 0, none⟩)), SP.eq (.agg #[.int .i64 o1, .int .i64 o2]), SP.eq (.agg #[.int .i64 q1, .int .i64 q2]), SP.eq (.int .i64 DQ1), SP.eq (.int .i64 C3), SP.eq (.int .i64 (i : Int)), SP.eq (.int .i64 (j : Int)), SP.eq (.int .i64 C4), ⟨fun v w => ∃ g, v = .slice (some ⟨g, 0, none⟩) 4 4 ∧ Quad4 w g C1 NT C3 C4, fun v w w' h k => by obtain ⟨g, h1, h2⟩ := h; exact ⟨g, h1, h2.kc k⟩⟩, SP.eq (.int .i64 R), SP.eq (.int .i64 R)] (by kernel_rfl) ?_ ?_
    · intro i hi a w2 FR DP BW DW
      have hc : i = 0 ∨ i = 1 ∨ i = 2 ∨ i = 3 ∨ i = 4 ∨ i = 5 ∨ i = 6 ∨ i = 7 ∨ i = 8 ∨ i = 9 ∨ i = 10 ∨ i = 11 ∨ i = 12 ∨ i = 13 ∨ i = 14 ∨ i = 15 ∨ i = 16 ∨ i = 17 ∨ i = 18 ∨ i = 19 ∨ i = 20 ∨ i = 21 ∨ i = 22 ∨ i = 23 ∨ i = 24 ∨ i = 25 ∨ i = 26 ∨ i = 27 := by
        have hi2 : i < 28 := hi
        omega
      clear hi
      rcases hc with rfl | rfl | rfl | rfl | rfl | rfl | rfl | rfl | rfl | rfl | rfl | rfl | rfl | rfl | rfl | rfl | rfl | rfl | rfl | rfl | rfl | rfl | rfl | rfl | rfl | rfl | rfl | rfl
      · -- 0: Op.load 70 (Operand.tmp 3)
        have g3 : a.tmps[3]? = some _ := (FR 3 (by kernel_rfl)).trans rfl
        obtain ⟨k0, k1, k2, k3, k4, k5, k6⟩ := KU.out _ BW
        refine wpOp_run rfl (wanted_none rfl) fun K2 hK => ?_
        clear FR DP
        go_simp
        exact hK _ _ ⟨_, 19, rfl, rfl, KR.refl _ _, rfl⟩
      · -- 1: Op.load 23 (Operand.tmp 7)
        have g7 : a.tmps[7]? = some _ := (FR 7 (by kernel_rfl)).trans rfl
        obtain ⟨k0, k1, k2, k3, k4, k5, k6⟩ := KU.out _ BW
        refine wpOp_run rfl (wanted_none rfl) fun K2 hK => ?_
        clear FR DP
        go_simp
        exact hK _ _ ⟨_, 20, rfl, rfl, KR.refl _ _, rfl⟩
      · -- 2: Op.call { callee := Callee.value (Operand.func 70), args := #[Operand.
        obtain ⟨_, g19, rfl⟩ := DP 0 19 (by kernel_rfl) (by kernel_rfl)
        obtain ⟨_, g20, rfl⟩ := DP 1 20 (by kernel_rfl) (by kernel_rfl)
        refine wpOp_run rfl (wanted_none rfl) fun K2 hK => ?_
        clear FR DP
        go_simp
        refine (h1 w2).mono ?_
        rintro _ w3 ⟨rfl, hb, hd⟩
        exact hK _ _ ⟨_, 21, rfl, rfl, KR.of BW.size hb hd, rfl⟩
      · -- 3: Op.load 70 (Operand.tmp 3)
        have g3 : a.tmps[3]? = some _ := (FR 3 (by kernel_rfl)).trans rfl
        obtain ⟨k0, k1, k2, k3, k4, k5, k6⟩ := KU.out _ BW
        refine wpOp_run rfl (wanted_none rfl) fun K2 hK => ?_
        clear FR DP
        go_simp
        exact hK _ _ ⟨_, 22, rfl, rfl, KR.refl _ _, rfl⟩
      · -- 4: Op.load 23 (Operand.tmp 8)
        have g8 : a.tmps[8]? = some _ := (FR 8 (by kernel_rfl)).trans rfl
        obtain ⟨k0, k1, k2, k3, k4, k5, k6⟩ := KU.out _ BW
        refine wpOp_run rfl (wanted_none rfl) fun K2 hK => ?_
        clear FR DP
        go_simp
        exact hK _ _ ⟨_, 23, rfl, rfl, KR.refl _ _, rfl⟩
      · -- 5: Op.call { callee := Callee.value (Operand.func 70), args := #[Operand.
        obtain ⟨_, g22, rfl⟩ := DP 3 22 (by kernel_rfl) (by kernel_rfl)
        obtain ⟨_, g23, rfl⟩ := DP 4 23 (by kernel_rfl) (by kernel_rfl)
        refine wpOp_run rfl (wanted_none rfl) fun K2 hK => ?_
        clear FR DP
        go_simp
        refine (h2 w2).mono ?_
        rintro _ w3 ⟨rfl, hb, hd⟩
        exact hK _ _ ⟨_, 24, rfl, rfl, KR.of BW.size hb hd, rfl⟩
      · -- 6: Op.call { callee := Callee.value (Operand.func 61), args := #[Operand.
        obtain ⟨_, g21, rfl⟩ := DP 2 21 (by kernel_rfl) (by kernel_rfl)
        obtain ⟨_, g24, rfl⟩ := DP 5 24 (by kernel_rfl) (by kernel_rfl)
        refine wpOp_run rfl (wanted_none rfl) fun K2 hK => ?_
        clear FR DP
        go_simp
        refine (m1 w2).mono ?_
        rintro _ w3 ⟨rfl, rfl⟩
        exact hK _ _ ⟨_, 25, rfl, rfl, KR.refl _ _, rfl⟩
      · -- 7: Op.fieldAddr 70 (Operand.tmp 3) 0
        have g3 : a.tmps[3]? = some _ := (FR 3 (by kernel_rfl)).trans rfl
        refine wpOp_run rfl (wanted_none rfl) fun K2 hK => ?_
        clear FR DP
        go_simp
        exact hK _ _ ⟨_, 26, rfl, rfl, KR.refl _ _, rfl⟩
      · -- 8: Op.load 23 (Operand.tmp 26)
        obtain ⟨_, g26, rfl⟩ := DP 7 26 (by kernel_rfl) (by kernel_rfl)
        obtain ⟨k0, k1, k2, k3, k4, k5, k6⟩ := KU.out _ BW
        refine wpOp_run rfl (wanted_none rfl) fun K2 hK => ?_
        clear FR DP
        go_simp
        exact hK _ _ ⟨_, 27, rfl, rfl, KR.refl _ _, rfl⟩
      · -- 9: Op.load 23 (Operand.tmp 7)
        have g7 : a.tmps[7]? = some _ := (FR 7 (by kernel_rfl)).trans rfl
        obtain ⟨k0, k1, k2, k3, k4, k5, k6⟩ := KU.out _ BW
        refine wpOp_run rfl (wanted_none rfl) fun K2 hK => ?_
        clear FR DP
        go_simp
        exact hK _ _ ⟨_, 28, rfl, rfl, KR.refl _ _, rfl⟩
      · -- 10: Op.load 23 (Operand.tmp 8)
        have g8 : a.tmps[8]? = some _ := (FR 8 (by kernel_rfl)).trans rfl
        obtain ⟨k0, k1, k2, k3, k4, k5, k6⟩ := KU.out _ BW
        refine wpOp_run rfl (wanted_none rfl) fun K2 hK => ?_
        clear FR DP
        go_simp
        exact hK _ _ ⟨_, 29, rfl, rfl, KR.refl _ _, rfl⟩
      · -- 11: Op.call { callee := Callee.value (Operand.func 40), args := #[Operand.
        obtain ⟨_, g27, rfl⟩ := DP 8 27 (by kernel_rfl) (by kernel_rfl)
        obtain ⟨_, g28, rfl⟩ := DP 9 28 (by kernel_rfl) (by kernel_rfl)
        obtain ⟨_, g29, rfl⟩ := DP 10 29 (by kernel_rfl) (by kernel_rfl)
        refine wpOp_run rfl (wanted_none rfl) fun K2 hK => ?_
        clear FR DP
        go_simp
        refine (t1 w2).mono ?_
        rintro _ w3 ⟨rfl, hb, hd⟩
        exact hK _ _ ⟨_, 30, rfl, rfl, KR.of BW.size hb hd, rfl⟩
      · -- 12: Op.unOp UnOp.neg 3 (Operand.tmp 30)
        obtain ⟨_, g30, rfl⟩ := DP 11 30 (by kernel_rfl) (by kernel_rfl)
        refine wpOp_run rfl (wanted_none rfl) fun K2 hK => ?_
        clear FR DP
        go_simp
        exact hK _ _ ⟨_, 31, rfl, rfl, KR.refl _ _, rfl⟩
      · -- 13: Op.fieldAddr 70 (Operand.tmp 3) 0
        have g3 : a.tmps[3]? = some _ := (FR 3 (by kernel_rfl)).trans rfl
        refine wpOp_run rfl (wanted_none rfl) fun K2 hK => ?_
        clear FR DP
        go_simp
        exact hK _ _ ⟨_, 32, rfl, rfl, KR.refl _ _, rfl⟩
      · -- 14: Op.load 23 (Operand.tmp 32)
        obtain ⟨_, g32, rfl⟩ := DP 13 32 (by kernel_rfl) (by kernel_rfl)
        obtain ⟨k0, k1, k2, k3, k4, k5, k6⟩ := KU.out _ BW
        refine wpOp_run rfl (wanted_none rfl) fun K2 hK => ?_
        clear FR DP
        go_simp
        exact hK _ _ ⟨_, 33, rfl, rfl, KR.refl _ _, rfl⟩
      · -- 15: Op.load 23 (Operand.tmp 7)
        have g7 : a.tmps[7]? = some _ := (FR 7 (by kernel_rfl)).trans rfl
        obtain ⟨k0, k1, k2, k3, k4, k5, k6⟩ := KU.out _ BW
        refine wpOp_run rfl (wanted_none rfl) fun K2 hK => ?_
        clear FR DP
        go_simp
        exact hK _ _ ⟨_, 34, rfl, rfl, KR.refl _ _, rfl⟩
      · -- 16: Op.call { callee := Callee.value (Operand.func 42), args := #[Operand.
        obtain ⟨_, g33, rfl⟩ := DP 14 33 (by kernel_rfl) (by kernel_rfl)
        obtain ⟨_, g34, rfl⟩ := DP 15 34 (by kernel_rfl) (by kernel_rfl)
        refine wpOp_run rfl (wanted_none rfl) fun K2 hK => ?_
        clear FR DP
        go_simp
        refine (s1 w2).mono ?_
        rintro _ w3 ⟨rfl, hb, hd⟩
        exact hK _ _ ⟨_, 35, rfl, rfl, KR.of BW.size hb hd, rfl⟩
      · -- 17: Op.fieldAddr 70 (Operand.tmp 3) 0
        have g3 : a.tmps[3]? = some _ := (FR 3 (by kernel_rfl)).trans rfl
        refine wpOp_run rfl (wanted_none rfl) fun K2 hK => ?_
        clear FR DP
        go_simp
        exact hK _ _ ⟨_, 36, rfl, rfl, KR.refl _ _, rfl⟩
      · -- 18: Op.load 23 (Operand.tmp 36)
        obtain ⟨_, g36, rfl⟩ := DP 17 36 (by kernel_rfl) (by kernel_rfl)
        obtain ⟨k0, k1, k2, k3, k4, k5, k6⟩ := KU.out _ BW
        refine wpOp_run rfl (wanted_none rfl) fun K2 hK => ?_
        clear FR DP
        go_simp
        exact hK _ _ ⟨_, 37, rfl, rfl, KR.refl _ _, rfl⟩
      · -- 19: Op.load 23 (Operand.tmp 8)
        have g8 : a.tmps[8]? = some _ := (FR 8 (by kernel_rfl)).trans rfl
        obtain ⟨k0, k1, k2, k3, k4, k5, k6⟩ := KU.out _ BW
        refine wpOp_run rfl (wanted_none rfl) fun K2 hK => ?_
        clear FR DP
        go_simp
        exact hK _ _ ⟨_, 38, rfl, rfl, KR.refl _ _, rfl⟩
      · -- 20: Op.call { callee := Callee.value (Operand.func 42), args := #[Operand.
        obtain ⟨_, g37, rfl⟩ := DP 18 37 (by kernel_rfl) (by kernel_rfl)
        obtain ⟨_, g38, rfl⟩ := DP 19 38 (by kernel_rfl) (by kernel_rfl)
        refine wpOp_run rfl (wanted_none rfl) fun K2 hK => ?_
        clear FR DP
        go_simp
        refine (s2 w2).mono ?_
        rintro _ w3 ⟨rfl, hb, hd⟩
        exact hK _ _ ⟨_, 39, rfl, rfl, KR.of BW.size hb hd, rfl⟩
      · -- 21: Op.call { callee := Callee.value (Operand.func 61), args := #[Operand.
        obtain ⟨_, g35, rfl⟩ := DP 16 35 (by kernel_rfl) (by kernel_rfl)
        obtain ⟨_, g39, rfl⟩ := DP 20 39 (by kernel_rfl) (by kernel_rfl)
        refine wpOp_run rfl (wanted_none rfl) fun K2 hK => ?_
        clear FR DP
        go_simp
        refine (m3 w2).mono ?_
        rintro _ w3 ⟨rfl, rfl⟩
        exact hK _ _ ⟨_, 40, rfl, rfl, KR.refl _ _, rfl⟩
      · -- 22: Op.move (Operand.tmp 1)
        have g1 : a.tmps[1]? = some _ := (FR 1 (by kernel_rfl)).trans rfl
        refine wpOp_run rfl (wanted_none rfl) fun K2 hK => ?_
        clear FR DP
        go_simp
        exact hK _ _ ⟨_, 41, rfl, rfl, KR.refl _ _, rfl⟩
      · -- 23: Op.move (Operand.tmp 2)
        have g2 : a.tmps[2]? = some _ := (FR 2 (by kernel_rfl)).trans rfl
        refine wpOp_run rfl (wanted_none rfl) fun K2 hK => ?_
        clear FR DP
        go_simp
        exact hK _ _ ⟨_, 42, rfl, rfl, KR.refl _ _, rfl⟩
      · -- 24: Op.call { callee := Callee.value (Operand.func 61), args := #[Operand.
        obtain ⟨_, g41, rfl⟩ := DP 22 41 (by kernel_rfl) (by kernel_rfl)
        obtain ⟨_, g42, rfl⟩ := DP 23 42 (by kernel_rfl) (by kernel_rfl)
        refine wpOp_run rfl (wanted_none rfl) fun K2 hK => ?_
        clear FR DP
        go_simp
        refine (m4 w2).mono ?_
        rintro _ w3 ⟨rfl, rfl⟩
        exact hK _ _ ⟨_, 43, rfl, rfl, KR.refl _ _, rfl⟩
      · -- 25: Op.buildSlice 44 4 #[(0, Operand.tmp 25), (1, Operand.tmp 31), (2, Ope
        obtain ⟨_, g25, rfl⟩ := DP 6 25 (by kernel_rfl) (by kernel_rfl)
        obtain ⟨_, g31, rfl⟩ := DP 12 31 (by kernel_rfl) (by kernel_rfl)
        obtain ⟨_, g40, rfl⟩ := DP 21 40 (by kernel_rfl) (by kernel_rfl)
        obtain ⟨_, g43, rfl⟩ := DP 24 43 (by kernel_rfl) (by kernel_rfl)
        refine wpOp_run rfl (wanted_none rfl) fun K2 hK => ?_
        clear FR DP
        go_simp
        exact hK _ _ ⟨_, 44, rfl, rfl, KR.of BW.size ((Below.refl _ _).alloc (Nat.le_refl _) _) (Nat.le_refl _), ⟨_, rfl, by simp [Quad4, go_sem]⟩⟩
      · -- 26: Op.call { callee := Callee.value (Operand.func 69), args := #[Operand.
        obtain ⟨v44, g44, p44⟩ := DP 25 44 (by kernel_rfl) (by kernel_rfl)
        obtain ⟨gg, rfl, hF⟩ := p44
        refine wpOp_run rfl (wanted_none rfl) fun K2 hK => ?_
        clear FR DP
        go_simp
        refine (orr gg w2 hF).mono ?_
        rintro _ w3 ⟨rfl, rfl⟩
        exact hK _ _ ⟨_, 45, rfl, rfl, KR.refl _ _, rfl⟩
      · -- 27: Op.assign (Operand.tmp 45)
        obtain ⟨_, g45, rfl⟩ := DP 26 45 (by kernel_rfl) (by kernel_rfl)
        refine wpOp_run rfl (wanted_none rfl) fun K2 hK => ?_
        clear FR DP
        go_simp
        exact hK _ _ ⟨_, 6, rfl, rfl, KR.refl _ _, rfl⟩
    · intro a w2 FR DP BW DW DF AZ
      obtain ⟨_, g6, rfl⟩ := DP 27 6 (by kernel_rfl)
      clear DP FR
      simp only [Exit.then]
      refine (by assumption : ∀ (a : Act) (w_1 : World), Code.wp Try.prog Code.ret (bodyPost Try.prog Try.f59 (GivesD (Value.int IntKind.i64 R) w)) a w_1 → _) _ _ ?_
      refine wp_ret (bodyPost_ret (fn := Try.f59) (v := .int .i64 R) (by simp [results, Try.results59, g6]) DF ?_)
      exact GivesD.mk rfl (BU.out.trans (BW.mono BU.out.size)) (Nat.le_trans DU.out DW)
  · obtain ⟨U, hU⟩ : ∃ U : World, ((V.alloc (Obj.cells #[.int .i64 q1, .int .i64 q2] 23)).alloc (Obj.cells #[.int .i64 p1, .int .i64 p2] 23)).drew = U := ⟨_, rfl⟩
    have bU : Below V.heap.size V U := by rw [← hU]; (repeat' (first | (with_reducible exact Below.refl _ _) | (with_reducible refine Below.alloc ?_ ?_ _) | (with_reducible refine Below.setCell ?_ ?_ _) | (with_reducible refine Below.drew ?_) | (with_reducible refine Below.trans ?_ (Below.mono (by assumption) ?_)) | (simp; done) | (simp; omega) | omega))
    have zU : U.heap.size = w.heap.size + 1 + 1 + 1 := by rw [← hU]; simp [zV]
    have dU : w.drawn ≤ U.drawn := by rw [← hU, ← dV]; exact Nat.le_succ _
    have KU : Hid (∀ W' : World, Below U.heap.size U W' → (W'.cell? ⟨w.heap.size, 0, none⟩ = some (.int .i64 o1) ∧ W'.cell? ⟨w.heap.size, 1, none⟩ = some (.int .i64 o2) ∧ W'.cell? ⟨w.heap.size + 1 + 1, 0, none⟩ = some (.int .i64 p1) ∧ W'.cell? ⟨w.heap.size + 1 + 1, 1, none⟩ = some (.int .i64 p2) ∧ W'.cell? ⟨w.heap.size + 1, 0, none⟩ = some (.int .i64 q1) ∧ W'.cell? ⟨w.heap.size + 1, 1, none⟩ = some (.int .i64 q2) ∧ W'.cell? ⟨w.heap.size, 2, none⟩ = some (.slice (some ⟨b, off, none⟩) n c))) := hid fun W' B => ⟨((B.mono (show V.heap.size ≤ U.heap.size from bU.size)).cell (p := ⟨w.heap.size, 0, none⟩) z0).trans ((bU.cell (p := ⟨w.heap.size, 0, none⟩) z0).trans v0), ((B.mono (show V.heap.size ≤ U.heap.size from bU.size)).cell (p := ⟨w.heap.size, 1, none⟩) z0).trans ((bU.cell (p := ⟨w.heap.size, 1, none⟩) z0).trans v1), (B.cell (p := ⟨w.heap.size + 1 + 1, 0, none⟩) (by simp only; omega)).trans (by rw [← hU, ← zV]; simp [go_sem]), (B.cell (p := ⟨w.heap.size + 1 + 1, 1, none⟩) (by simp only; omega)).trans (by rw [← hU, ← zV]; simp [go_sem]), (B.cell (p := ⟨w.heap.size + 1, 0, none⟩) (by simp only; omega)).trans (by rw [← hU, ← zV]; simp [go_sem]), (B.cell (p := ⟨w.heap.size + 1, 1, none⟩) (by simp only; omega)).trans (by rw [← hU, ← zV]; simp [go_sem]), ((B.mono (show V.heap.size ≤ U.heap.size from bU.size)).cell (p := ⟨w.heap.size, 2, none⟩) z0).trans ((bU.cell (p := ⟨w.heap.size, 2, none⟩) z0).trans v2)⟩
    rw [hU]
    have BU := hid (bV.trans (bU.mono bV.size))
    have DU := hid dU
    have HU := hid hU
    clear hU bU zU dU x0 x1 y0 y1 ax0 ax1 ay0 ay1 cx0 cx1 cy0 cy1 av cv v0 v1 v2 bV zV dV z0 z1 z2 z3
    simp only [Exit.then]
    go_at_K
    go_upto_region 2 with fail
    refine region_inv (by kernel_rfl) [SP.eq (.agg #[.int .i64 o1, .int .i64 o2, .slice (some ⟨b, off, none⟩) n c]), SP.eq (.agg #[.int .i64 p1, .int .i64 p2]), SP.eq (.int .i64 HP), SP.eq (.agg #[.int .i64 o1, .int .i64 o2, .slice (some ⟨b, off, none⟩) n c]), SP.eq (.agg #[.int .i64 q1, .int .i64 q2]), SP.eq (.int .i64 HQ), SP.eq (.int .i64 C1), SP.eq (.pointer (some ⟨w.heap.size, 0, none⟩)), SP.eq (.agg #[.int .i64 o1, .int .i64 o2]), SP.eq (.agg #[.int .i64 p1, .int .i64 p2]), SP.eq (.agg #[.int .i64 q1, .int .i64 q2]), SP.eq (.int .i64 T), SP.eq (.int .i64 NT), SP.eq (.pointer (some ⟨w.heap.size, 0, none⟩)), SP.eq (.agg #[.int .i64 o1, .int .i64 o2]), SP.eq (.agg #[.int .i64 p1, .int .i64 p2]), SP.eq (.int .i64 DP1), SP.eq (.pointer (some ⟨w.heap.size, 0, none⟩)), SP.eq (.agg #[.int .i64 o1, .int .i64 o2]), SP.eq (.agg #[.int .i64 q1, .int .i64 q2]), SP.eq (.int .i64 DQ1), SP.eq (.int .i64 C3), SP.eq (.int .i64 (i : Int)), SP.eq (.int .i64 (j : Int)), SP.eq (.int .i64 C4), ⟨fun v w => ∃ g, v = .slice (some ⟨g, 0, none⟩) 4 4 ∧ Quad4 w g C1 NT C3 C4, fun v w w' h k => by obtain ⟨g, h1, h2⟩ := h; exact ⟨g, h1, h2.kc k⟩⟩, SP.eq (.int .i64 R), SP.eq (.int .i64 R)] (by kernel_rfl) ?_ ?_
    · intro i hi a w2 FR DP BW DW
      have hc : i = 0 ∨ i = 1 ∨ i = 2 ∨ i = 3 ∨ i = 4 ∨ i = 5 ∨ i = 6 ∨ i = 7 ∨ i = 8 ∨ i = 9 ∨ i = 10 ∨ i = 11 ∨ i = 12 ∨ i = 13 ∨ i = 14 ∨ i = 15 ∨ i = 16 ∨ i = 17 ∨ i = 18 ∨ i = 19 ∨ i = 20 ∨ i = 21 ∨ i = 22 ∨ i = 23 ∨ i = 24 ∨ i = 25 ∨ i = 26 ∨ i = 27 := by
        have hi2 : i < 28 := hi
        omega
      clear hi
      rcases hc with rfl | rfl | rfl | rfl | rfl | rfl | rfl | rfl | rfl | rfl | rfl | rfl | rfl | rfl | rfl | rfl | rfl | rfl | rfl | rfl | rfl | rfl | rfl | rfl | rfl | rfl | rfl | rfl
      · -- 0: Op.load 70 (Operand.tmp 3)
        have g3 : a.tmps[3]? = some _ := (FR 3 (by kernel_rfl)).trans rfl
        obtain ⟨k0, k1, k2, k3, k4, k5, k6⟩ := KU.out _ BW
        refine wpOp_run rfl (wanted_none rfl) fun K2 hK => ?_
        clear FR DP
        go_simp
        exact hK _ _ ⟨_, 19, rfl, rfl, KR.refl _ _, rfl⟩
      · -- 1: Op.load 23 (Operand.tmp 7)
        have g7 : a.tmps[7]? = some _ := (FR 7 (by kernel_rfl)).trans rfl
        obtain ⟨k0, k1, k2, k3, k4, k5, k6⟩ := KU.out _ BW
        refine wpOp_run rfl (wanted_none rfl) fun K2 hK => ?_
        clear FR DP
        go_simp
        exact hK _ _ ⟨_, 20, rfl, rfl, KR.refl _ _, rfl⟩
      · -- 2: Op.call { callee := Callee.value (Operand.func 70), args := #[Operand.
        obtain ⟨_, g19, rfl⟩ := DP 0 19 (by kernel_rfl) (by kernel_rfl)
        obtain ⟨_, g20, rfl⟩ := DP 1 20 (by kernel_rfl) (by kernel_rfl)
        refine wpOp_run rfl (wanted_none rfl) fun K2 hK => ?_
        clear FR DP
        go_simp
        refine (h1 w2).mono ?_
        rintro _ w3 ⟨rfl, hb, hd⟩
        exact hK _ _ ⟨_, 21, rfl, rfl, KR.of BW.size hb hd, rfl⟩
      · -- 3: Op.load 70 (Operand.tmp 3)
        have g3 : a.tmps[3]? = some _ := (FR 3 (by kernel_rfl)).trans rfl
        obtain ⟨k0, k1, k2, k3, k4, k5, k6⟩ := KU.out _ BW
        refine wpOp_run rfl (wanted_none rfl) fun K2 hK => ?_
        clear FR DP
        go_simp
        exact hK _ _ ⟨_, 22, rfl, rfl, KR.refl _ _, rfl⟩
      · -- 4: Op.load 23 (Operand.tmp 8)
        have g8 : a.tmps[8]? = some _ := (FR 8 (by kernel_rfl)).trans rfl
        obtain ⟨k0, k1, k2, k3, k4, k5, k6⟩ := KU.out _ BW
        refine wpOp_run rfl (wanted_none rfl) fun K2 hK => ?_
        clear FR DP
        go_simp
        exact hK _ _ ⟨_, 23, rfl, rfl, KR.refl _ _, rfl⟩
      · -- 5: Op.call { callee := Callee.value (Operand.func 70), args := #[Operand.
        obtain ⟨_, g22, rfl⟩ := DP 3 22 (by kernel_rfl) (by kernel_rfl)
        obtain ⟨_, g23, rfl⟩ := DP 4 23 (by kernel_rfl) (by kernel_rfl)
        refine wpOp_run rfl (wanted_none rfl) fun K2 hK => ?_
        clear FR DP
        go_simp
        refine (h2 w2).mono ?_
        rintro _ w3 ⟨rfl, hb, hd⟩
        exact hK _ _ ⟨_, 24, rfl, rfl, KR.of BW.size hb hd, rfl⟩
      · -- 6: Op.call { callee := Callee.value (Operand.func 61), args := #[Operand.
        obtain ⟨_, g21, rfl⟩ := DP 2 21 (by kernel_rfl) (by kernel_rfl)
        obtain ⟨_, g24, rfl⟩ := DP 5 24 (by kernel_rfl) (by kernel_rfl)
        refine wpOp_run rfl (wanted_none rfl) fun K2 hK => ?_
        clear FR DP
        go_simp
        refine (m1 w2).mono ?_
        rintro _ w3 ⟨rfl, rfl⟩
        exact hK _ _ ⟨_, 25, rfl, rfl, KR.refl _ _, rfl⟩
      · -- 7: Op.fieldAddr 70 (Operand.tmp 3) 0
        have g3 : a.tmps[3]? = some _ := (FR 3 (by kernel_rfl)).trans rfl
        refine wpOp_run rfl (wanted_none rfl) fun K2 hK => ?_
        clear FR DP
        go_simp
        exact hK _ _ ⟨_, 26, rfl, rfl, KR.refl _ _, rfl⟩
      · -- 8: Op.load 23 (Operand.tmp 26)
        obtain ⟨_, g26, rfl⟩ := DP 7 26 (by kernel_rfl) (by kernel_rfl)
        obtain ⟨k0, k1, k2, k3, k4, k5, k6⟩ := KU.out _ BW
        refine wpOp_run rfl (wanted_none rfl) fun K2 hK => ?_
        clear FR DP
        go_simp
        exact hK _ _ ⟨_, 27, rfl, rfl, KR.refl _ _, rfl⟩
      · -- 9: Op.load 23 (Operand.tmp 7)
        have g7 : a.tmps[7]? = some _ := (FR 7 (by kernel_rfl)).trans rfl
        obtain ⟨k0, k1, k2, k3, k4, k5, k6⟩ := KU.out _ BW
        refine wpOp_run rfl (wanted_none rfl) fun K2 hK => ?_
        clear FR DP
        go_simp
        exact hK _ _ ⟨_, 28, rfl, rfl, KR.refl _ _, rfl⟩
      · -- 10: Op.load 23 (Operand.tmp 8)
        have g8 : a.tmps[8]? = some _ := (FR 8 (by kernel_rfl)).trans rfl
        obtain ⟨k0, k1, k2, k3, k4, k5, k6⟩ := KU.out _ BW
        refine wpOp_run rfl (wanted_none rfl) fun K2 hK => ?_
        clear FR DP
        go_simp
        exact hK _ _ ⟨_, 29, rfl, rfl, KR.refl _ _, rfl⟩
      · -- 11: Op.call { callee := Callee.value (Operand.func 40), args := #[Operand.
        obtain ⟨_, g27, rfl⟩ := DP 8 27 (by kernel_rfl) (by kernel_rfl)
        obtain ⟨_, g28, rfl⟩ := DP 9 28 (by kernel_rfl) (by kernel_rfl)
        obtain ⟨_, g29, rfl⟩ := DP 10 29 (by kernel_rfl) (by kernel_rfl)
        refine wpOp_run rfl (wanted_none rfl) fun K2 hK => ?_
        clear FR DP
        go_simp
        refine (t1 w2).mono ?_
        rintro _ w3 ⟨rfl, hb, hd⟩
        exact hK _ _ ⟨_, 30, rfl, rfl, KR.of BW.size hb hd, rfl⟩
      · -- 12: Op.unOp UnOp.neg 3 (Operand.tmp 30)
        obtain ⟨_, g30, rfl⟩ := DP 11 30 (by kernel_rfl) (by kernel_rfl)
        refine wpOp_run rfl (wanted_none rfl) fun K2 hK => ?_
        clear FR DP
        go_simp
        exact hK _ _ ⟨_, 31, rfl, rfl, KR.refl _ _, rfl⟩
      · -- 13: Op.fieldAddr 70 (Operand.tmp 3) 0
        have g3 : a.tmps[3]? = some _ := (FR 3 (by kernel_rfl)).trans rfl
        refine wpOp_run rfl (wanted_none rfl) fun K2 hK => ?_
        clear FR DP
        go_simp
        exact hK _ _ ⟨_, 32, rfl, rfl, KR.refl _ _, rfl⟩
      · -- 14: Op.load 23 (Operand.tmp 32)
        obtain ⟨_, g32, rfl⟩ := DP 13 32 (by kernel_rfl) (by kernel_rfl)
        obtain ⟨k0, k1, k2, k3, k4, k5, k6⟩ := KU.out _ BW
        refine wpOp_run rfl (wanted_none rfl) fun K2 hK => ?_
        clear FR DP
        go_simp
        exact hK _ _ ⟨_, 33, rfl, rfl, KR.refl _ _, rfl⟩
      · -- 15: Op.load 23 (Operand.tmp 7)
        have g7 : a.tmps[7]? = some _ := (FR 7 (by kernel_rfl)).trans rfl
        obtain ⟨k0, k1, k2, k3, k4, k5, k6⟩ := KU.out _ BW
        refine wpOp_run rfl (wanted_none rfl) fun K2 hK => ?_
        clear FR DP
        go_simp
        exact hK _ _ ⟨_, 34, rfl, rfl, KR.refl _ _, rfl⟩
      · -- 16: Op.call { callee := Callee.value (Operand.func 42), args := #[Operand.
        obtain ⟨_, g33, rfl⟩ := DP 14 33 (by kernel_rfl) (by kernel_rfl)
        obtain ⟨_, g34, rfl⟩ := DP 15 34 (by kernel_rfl) (by kernel_rfl)
        refine wpOp_run rfl (wanted_none rfl) fun K2 hK => ?_
        clear FR DP
        go_simp
        refine (s1 w2).mono ?_
        rintro _ w3 ⟨rfl, hb, hd⟩
        exact hK _ _ ⟨_, 35, rfl, rfl, KR.of BW.size hb hd, rfl⟩
      · -- 17: Op.fieldAddr 70 (Operand.tmp 3) 0
        have g3 : a.tmps[3]? = some _ := (FR 3 (by kernel_rfl)).trans rfl
        refine wpOp_run rfl (wanted_none rfl) fun K2 hK => ?_
        clear FR DP
        go_simp
        exact hK _ _ ⟨_, 36, rfl, rfl, KR.refl _ _, rfl⟩
      · -- 18: Op.load 23 (Operand.tmp 36)
        obtain ⟨_, g36, rfl⟩ := DP 17 36 (by kernel_rfl) (by kernel_rfl)
        obtain ⟨k0, k1, k2, k3, k4, k5, k6⟩ := KU.out _ BW
        refine wpOp_run rfl (wanted_none rfl) fun K2 hK => ?_
        clear FR DP
        go_simp
        exact hK _ _ ⟨_, 37, rfl, rfl, KR.refl _ _, rfl⟩
      · -- 19: Op.load 23 (Operand.tmp 8)
        have g8 : a.tmps[8]? = some _ := (FR 8 (by kernel_rfl)).trans rfl
        obtain ⟨k0, k1, k2, k3, k4, k5, k6⟩ := KU.out _ BW
        refine wpOp_run rfl (wanted_none rfl) fun K2 hK => ?_
        clear FR DP
        go_simp
        exact hK _ _ ⟨_, 38, rfl, rfl, KR.refl _ _, rfl⟩
      · -- 20: Op.call { callee := Callee.value (Operand.func 42), args := #[Operand.
        obtain ⟨_, g37, rfl⟩ := DP 18 37 (by kernel_rfl) (by kernel_rfl)
        obtain ⟨_, g38, rfl⟩ := DP 19 38 (by kernel_rfl) (by kernel_rfl)
        refine wpOp_run rfl (wanted_none rfl) fun K2 hK => ?_
        clear FR DP
        go_simp
        refine (s2 w2).mono ?_
        rintro _ w3 ⟨rfl, hb, hd⟩
        exact hK _ _ ⟨_, 39, rfl, rfl, KR.of BW.size hb hd, rfl⟩
      · -- 21: Op.call { callee := Callee.value (Operand.func 61), args := #[Operand.
        obtain ⟨_, g35, rfl⟩ := DP 16 35 (by kernel_rfl) (by kernel_rfl)
        obtain ⟨_, g39, rfl⟩ := DP 20 39 (by kernel_rfl) (by kernel_rfl)
        refine wpOp_run rfl (wanted_none rfl) fun K2 hK => ?_
        clear FR DP
        go_simp
        refine (m3 w2).mono ?_
        rintro _ w3 ⟨rfl, rfl⟩
        exact hK _ _ ⟨_, 40, rfl, rfl, KR.refl _ _, rfl⟩
      · -- 22: Op.move (Operand.tmp 1)
        have g1 : a.tmps[1]? = some _ := (FR 1 (by kernel_rfl)).trans rfl
        refine wpOp_run rfl (wanted_none rfl) fun K2 hK => ?_
        clear FR DP
        go_simp
        exact hK _ _ ⟨_, 41, rfl, rfl, KR.refl _ _, rfl⟩
      · -- 23: Op.move (Operand.tmp 2)
        have g2 : a.tmps[2]? = some _ := (FR 2 (by kernel_rfl)).trans rfl
        refine wpOp_run rfl (wanted_none rfl) fun K2 hK => ?_
        clear FR DP
        go_simp
        exact hK _ _ ⟨_, 42, rfl, rfl, KR.refl _ _, rfl⟩
      · -- 24: Op.call { callee := Callee.value (Operand.func 61), args := #[Operand.
        obtain ⟨_, g41, rfl⟩ := DP 22 41 (by kernel_rfl) (by kernel_rfl)
        obtain ⟨_, g42, rfl⟩ := DP 23 42 (by kernel_rfl) (by kernel_rfl)
        refine wpOp_run rfl (wanted_none rfl) fun K2 hK => ?_
        clear FR DP
        go_simp
        refine (m4 w2).mono ?_
        rintro _ w3 ⟨rfl, rfl⟩
        exact hK _ _ ⟨_, 43, rfl, rfl, KR.refl _ _, rfl⟩
      · -- 25: Op.buildSlice 44 4 #[(0, Operand.tmp 25), (1, Operand.tmp 31), (2, Ope
        obtain ⟨_, g25, rfl⟩ := DP 6 25 (by kernel_rfl) (by kernel_rfl)
        obtain ⟨_, g31, rfl⟩ := DP 12 31 (by kernel_rfl) (by kernel_rfl)
        obtain ⟨_, g40, rfl⟩ := DP 21 40 (by kernel_rfl) (by kernel_rfl)
        obtain ⟨_, g43, rfl⟩ := DP 24 43 (by kernel_rfl) (by kernel_rfl)
        refine wpOp_run rfl (wanted_none rfl) fun K2 hK => ?_
        clear FR DP
        go_simp
        exact hK _ _ ⟨_, 44, rfl, rfl, KR.of BW.size ((Below.refl _ _).alloc (Nat.le_refl _) _) (Nat.le_refl _), ⟨_, rfl, by simp [Quad4, go_sem]⟩⟩
      · -- 26: Op.call { callee := Callee.value (Operand.func 69), args := #[Operand.
        obtain ⟨v44, g44, p44⟩ := DP 25 44 (by kernel_rfl) (by kernel_rfl)
        obtain ⟨gg, rfl, hF⟩ := p44
        refine wpOp_run rfl (wanted_none rfl) fun K2 hK => ?_
        clear FR DP
        go_simp
        refine (orr gg w2 hF).mono ?_
        rintro _ w3 ⟨rfl, rfl⟩
        exact hK _ _ ⟨_, 45, rfl, rfl, KR.refl _ _, rfl⟩
      · -- 27: Op.assign (Operand.tmp 45)
        obtain ⟨_, g45, rfl⟩ := DP 26 45 (by kernel_rfl) (by kernel_rfl)
        refine wpOp_run rfl (wanted_none rfl) fun K2 hK => ?_
        clear FR DP
        go_simp
        exact hK _ _ ⟨_, 6, rfl, rfl, KR.refl _ _, rfl⟩
    · intro a w2 FR DP BW DW DF AZ
      obtain ⟨_, g6, rfl⟩ := DP 27 6 (by kernel_rfl)
      clear DP FR
      simp only [Exit.then]
      refine (by assumption : ∀ (a : Act) (w_1 : World), Code.wp Try.prog Code.ret (bodyPost Try.prog Try.f59 (GivesD (Value.int IntKind.i64 R) w)) a w_1 → _) _ _ ?_
      refine wp_ret (bodyPost_ret (fn := Try.f59) (v := .int .i64 R) (by simp [results, Try.results59, g6]) DF ?_)
      exact GivesD.mk rfl (BU.out.trans (BW.mono BU.out.size)) (Nat.le_trans DU.out DW)

end Go.Proofs.Ytfdnmlggemonhaa
