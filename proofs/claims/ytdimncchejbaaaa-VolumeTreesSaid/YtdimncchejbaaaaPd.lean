/-
  Layer 12: slices.IsSortedFunc, MinFunc, MaxFunc over fraction.Compare, by contract.
-/
import Derived.Test.YtdimncchejbaaaaPa
import Derived.Test.YtdimncchejbaaaaFops2
import Derived.IntWalk
namespace Go.Proofs.Ytdimncchejbaaaa
open Go.RowKit
set_option linter.unusedVariables false
set_option linter.unusedSimpArgs false

/-- The comparison of two numbers of a list. -/
def cmpP (p q : Int × Int) : Int := Sp.cmpF p.1 p.2 q.1 q.2
def UpFrom (l : List (Int × Int)) (j : Nat) : Prop := ∀ k, (h : k + 1 < l.length) → j ≤ k → ¬ cmpP (l[k + 1]) (l[k]) < 0
def SoRel (w : World) (l : List (Int × Int)) (t : Value) (wr : World) : Prop := ∃ j : Nat, t = .int .i64 (j : Int) ∧ j < l.length ∧ UpFrom l j ∧ Below w.heap.size w wr
def foldMin : List (Int × Int) → Int × Int → Int × Int
  | [], m => m
  | x :: r, m => foldMin r (if cmpP x m < 0 then x else m)
structure MinAt (w : World) (m : Int × Int) (wr : World) : Prop where
  sz : w.heap.size + 2 ≤ wr.heap.size
  a0 : wr.cell? ⟨w.heap.size, 0, none⟩ = some (.int .i64 0)
  a1 : wr.cell? ⟨w.heap.size, 1, none⟩ = some (.int .i64 0)
  af : ∀ o, wr.frozen? ⟨w.heap.size, o, none⟩ = false
  b0 : wr.cell? ⟨w.heap.size + 1, 0, none⟩ = some (.int .i64 m.1)
  b1 : wr.cell? ⟨w.heap.size + 1, 1, none⟩ = some (.int .i64 m.2)
  bf : ∀ o, wr.frozen? ⟨w.heap.size + 1, o, none⟩ = false
theorem MinAt.below {w wr wx : World} {m : Int × Int} (h : MinAt w m wr) (hb : Below wr.heap.size wr wx) : MinAt w m wx :=
  ⟨Nat.le_trans h.sz hb.size, (hb.cell (p := ⟨w.heap.size, 0, none⟩) (by have := h.sz; simp only; omega)).trans h.a0, (hb.cell (p := ⟨w.heap.size, 1, none⟩) (by have := h.sz; simp only; omega)).trans h.a1, fun o => (hb.frozen (p := ⟨w.heap.size, o, none⟩) (by have := h.sz; simp only; omega)).trans (h.af o),
   (hb.cell (p := ⟨w.heap.size + 1, 0, none⟩) (by have := h.sz; simp only; omega)).trans h.b0, (hb.cell (p := ⟨w.heap.size + 1, 1, none⟩) (by have := h.sz; simp only; omega)).trans h.b1, fun o => (hb.frozen (p := ⟨w.heap.size + 1, o, none⟩) (by have := h.sz; simp only; omega)).trans (h.bf o)⟩
def MinRel (w : World) (l : List (Int × Int)) (P : Int × Int) (t : Value) (wr : World) : Prop := ∃ (j : Nat) (m : Int × Int), t = .int .i64 (j : Int) ∧ j ≤ l.length ∧ ((-9223372036854775808 ≤ m.1 ∧ m.1 ≤ 9223372036854775807) ∧ (-9223372036854775808 ≤ m.2 ∧ m.2 ≤ 9223372036854775807)) ∧ foldMin (l.drop j) m = P ∧ MinAt w m wr ∧ Below w.heap.size w wr
def foldMax : List (Int × Int) → Int × Int → Int × Int
  | [], m => m
  | x :: r, m => foldMax r (if 0 < cmpP x m then x else m)
structure MaxAt (w : World) (m : Int × Int) (wr : World) : Prop where
  sz : w.heap.size + 2 ≤ wr.heap.size
  a0 : wr.cell? ⟨w.heap.size, 0, none⟩ = some (.int .i64 0)
  a1 : wr.cell? ⟨w.heap.size, 1, none⟩ = some (.int .i64 0)
  af : ∀ o, wr.frozen? ⟨w.heap.size, o, none⟩ = false
  b0 : wr.cell? ⟨w.heap.size + 1, 0, none⟩ = some (.int .i64 m.1)
  b1 : wr.cell? ⟨w.heap.size + 1, 1, none⟩ = some (.int .i64 m.2)
  bf : ∀ o, wr.frozen? ⟨w.heap.size + 1, o, none⟩ = false
theorem MaxAt.below {w wr wx : World} {m : Int × Int} (h : MaxAt w m wr) (hb : Below wr.heap.size wr wx) : MaxAt w m wx :=
  ⟨Nat.le_trans h.sz hb.size, (hb.cell (p := ⟨w.heap.size, 0, none⟩) (by have := h.sz; simp only; omega)).trans h.a0, (hb.cell (p := ⟨w.heap.size, 1, none⟩) (by have := h.sz; simp only; omega)).trans h.a1, fun o => (hb.frozen (p := ⟨w.heap.size, o, none⟩) (by have := h.sz; simp only; omega)).trans (h.af o),
   (hb.cell (p := ⟨w.heap.size + 1, 0, none⟩) (by have := h.sz; simp only; omega)).trans h.b0, (hb.cell (p := ⟨w.heap.size + 1, 1, none⟩) (by have := h.sz; simp only; omega)).trans h.b1, fun o => (hb.frozen (p := ⟨w.heap.size + 1, o, none⟩) (by have := h.sz; simp only; omega)).trans (h.bf o)⟩
def MaxRel (w : World) (l : List (Int × Int)) (P : Int × Int) (t : Value) (wr : World) : Prop := ∃ (j : Nat) (m : Int × Int), t = .int .i64 (j : Int) ∧ j ≤ l.length ∧ ((-9223372036854775808 ≤ m.1 ∧ m.1 ≤ 9223372036854775807) ∧ (-9223372036854775808 ≤ m.2 ∧ m.2 ≤ 9223372036854775807)) ∧ foldMax (l.drop j) m = P ∧ MaxAt w m wr ∧ Below w.heap.size w wr
end Go.Proofs.Ytdimncchejbaaaa
