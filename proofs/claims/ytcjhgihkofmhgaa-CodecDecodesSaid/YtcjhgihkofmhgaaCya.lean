/-
  Layer 6: the reader of package codec: a datum that is refused.
-/
import Derived.Test.YtcjhgihkofmhgaaCxg
import Derived.RegionTactic
namespace Go.Proofs.Ytcjhgihkofmhgaa
open Go.RowKit
set_option linter.unusedVariables false
set_option linter.unusedSimpArgs false

/-- The reader's box. -/
structure RB (w : World) (g : Nat) (A : Option Addr) (len cap : Nat) (x y : Int) : Prop where
  lt : g < w.heap.size
  c0 : w.cell? ⟨g, 0, none⟩ = some (.slice A len cap)
  c1 : w.cell? ⟨g, 1, none⟩ = some (.int .i64 x)
  c2 : w.cell? ⟨g, 2, none⟩ = some (.int .i64 y)
  fr : ∀ o, w.frozen? ⟨g, o, none⟩ = false
theorem RB.below {w w' : World} {g : Nat} {A : Option Addr} {len cap : Nat} {x y : Int} (h : RB w g A len cap x y) (hb : Below w.heap.size w w') : RB w' g A len cap x y :=
  ⟨Nat.lt_of_lt_of_le h.lt hb.size, (hb.cell (p := ⟨g, 0, none⟩) h.lt).trans h.c0, (hb.cell (p := ⟨g, 1, none⟩) h.lt).trans h.c1, (hb.cell (p := ⟨g, 2, none⟩) h.lt).trans h.c2, fun o => (hb.frozen (p := ⟨g, o, none⟩) h.lt).trans (h.fr o)⟩
theorem RB.set1 {w : World} {g : Nat} {A : Option Addr} {len cap : Nat} {x y : Int} (h : RB w g A len cap x y) (x' : Int) : RB (w.setCell ⟨g, 1, none⟩ (.int .i64 x')) g A len cap x' y :=
  ⟨by simpa using h.lt, (World.cell?_setCell_other w _ _ _ (by simp)).trans h.c0, World.cell?_setCell_same' _ _ _ (by rw [h.c1]; rfl), (World.cell?_setCell_other w _ _ _ (by simp)).trans h.c2, fun o => by rw [World.frozen?_setCell]; exact h.fr o⟩
theorem RB.set2 {w : World} {g : Nat} {A : Option Addr} {len cap : Nat} {x y : Int} (h : RB w g A len cap x y) (y' : Int) : RB (w.setCell ⟨g, 2, none⟩ (.int .i64 y')) g A len cap x y' :=
  ⟨by simpa using h.lt, (World.cell?_setCell_other w _ _ _ (by simp)).trans h.c0, (World.cell?_setCell_other w _ _ _ (by simp)).trans h.c1, World.cell?_setCell_same' _ _ _ (by rw [h.c2]; rfl), fun o => by rw [World.frozen?_setCell]; exact h.fr o⟩
theorem RB.other {w : World} {g : Nat} {A : Option Addr} {len cap : Nat} {x y : Int} (h : RB w g A len cap x y) (p : Addr) (hp : p.block ≠ g) (v : Value) : RB (w.setCell p v) g A len cap x y :=
  ⟨by simpa using h.lt, (World.cell?_setCell_other w _ _ _ (fun e => hp (by rw [e]))).trans h.c0, (World.cell?_setCell_other w _ _ _ (fun e => hp (by rw [e]))).trans h.c1, (World.cell?_setCell_other w _ _ _ (fun e => hp (by rw [e]))).trans h.c2, fun o => by rw [World.frozen?_setCell]; exact h.fr o⟩
theorem Ow.setNew {w w1 : World} {r r' : Option Nat} (h : Ow w w1 r r') (p : Addr) (hp : w.heap.size ≤ p.block) (v : Value) : Ow w (w1.setCell p v) r r' :=
  ⟨⟨h.1.os, h.1.tape, h.1.output, by simpa using h.1.size, fun k hk hne => (Below.heap_setCell w1 p v k (fun e => by omega)).trans (h.1.block k hk hne)⟩, h.2⟩
set_option maxRecDepth 100000 in
set_option maxHeartbeats 1000000 in
theorem rdat_torn (L : List UInt8) (A : Option Addr) (cap i : Nat) (c : Int) (g : Nat) (hl : L.length ≤ 140737488355328) (w : World) (hB : RB w g A L.length cap L.length c) :
    Calls Try.prog 47 #[.pointer (some ⟨g, 0, none⟩), .int .i64 (i : Int)] w (Gives (.tuple #[.agg #[.int .i64 0, .int .i64 0, .string ⟨#[]⟩, .slice none 0 0], .int .i64 17]) w) := by
  have gl := hB.lt
  have r0 := hB.c0
  have r1 := hB.c1
  have fr := hB.fr
  go_enter Try.func47, Try.ntmps47
  go_wp2_with fail
  go_quiet (fail)
  go_wp2_with fail
  refine bodyPost_ret (v := .tuple #[.agg #[.int .i64 0, .int .i64 0, .string ⟨#[]⟩, .slice none 0 0], .int .i64 17]) (by simp [results, Try.results47, go_sem, gl]) rfl ?_
  exact Gives.mk rfl (by repeat' (first | (with_reducible exact Below.refl _ _) | (with_reducible refine Below.alloc ?_ ?_ _) | (with_reducible refine Below.setCell ?_ ?_ _) | (with_reducible refine Below.drew ?_) | (with_reducible refine below_dn ?_ _) | (with_reducible refine Below.trans ?_ (Below.mono (by assumption) ?_)) | (simp; done) | (simp; omega) | omega))
set_option maxRecDepth 100000 in
set_option maxHeartbeats 2000000 in
theorem rdat_kind (len : Nat) (b off at_ X : Nat) (cap i : Nat) (c : Int) (g : Nat) (ha : at_ < len) (hk : ¬ (1 ≤ X ∧ X ≤ 3)) (hX : X < 256) (hl : len ≤ 140737488355328) (w : World) (hB : RB w g (some ⟨b, off, none⟩) len cap at_ c)
    (bl : b < w.heap.size) (hx : w.cell? ⟨b, off + at_, none⟩ = some (.int .u8 (X : Int))) :
    Calls Try.prog 47 #[.pointer (some ⟨g, 0, none⟩), .int .i64 (i : Int)] w (Gives (.tuple #[.agg #[.int .i64 0, .int .i64 0, .string ⟨#[]⟩, .slice none 0 0], .int .i64 1]) w) := by
  have gl := hB.lt
  have r0 := hB.c0
  have r1 := hB.c1
  have fr := hB.fr
  have i0 : (0 : Int) ≤ (at_ : Int) := by omega
  have i1 : (at_ : Int) < (len : Int) := by omega
  have n1 : ((at_ : Int) == (len : Int)) = false := by simp; omega
  have ik := fun w => isKind_any (X : Int) w
  rw [decide_eq_false (by omega)] at ik
  clear hk
  go_enter Try.func47, Try.ntmps47
  go_wp2_with fail
  go_quiet (fail)
  go_wp2_with fail
  go_region
  all_goals
    go_wp2_with (go_at_call 50; refine (ik _).mono ?_; rintro e w' ⟨rfl, rfl⟩)
    refine bodyPost_ret (v := .tuple #[.agg #[.int .i64 0, .int .i64 0, .string ⟨#[]⟩, .slice none 0 0], .int .i64 1]) (by simp [results, Try.results47, go_sem, gl]) rfl ?_
    exact Gives.mk rfl (by repeat' (first | (with_reducible exact Below.refl _ _) | (with_reducible refine Below.alloc ?_ ?_ _) | (with_reducible refine Below.setCell ?_ ?_ _) | (with_reducible refine Below.drew ?_) | (with_reducible refine below_dn ?_ _) | (with_reducible refine Below.trans ?_ (Below.mono (by assumption) ?_)) | (simp; done) | (simp; omega) | omega))
end Go.Proofs.Ytcjhgihkofmhgaa
