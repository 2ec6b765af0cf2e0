/-
  An array of four integers of one's own, and what a store into it leaves.
-/
import Derived.Test.YtgfjofdjicepiaaDoorUround
namespace Go.Proofs.YtgfjofdjicepiaaDoor
open Go.RowKit
set_option linter.unusedVariables false
set_option linter.unusedSimpArgs false
def AR (k : Nat) (a b c d : Int) (w : World) : Prop := k < w.heap.size ∧ w.cell? ⟨k, 0, none⟩ = some (.int .i64 a) ∧ w.cell? ⟨k, 1, none⟩ = some (.int .i64 b) ∧ w.cell? ⟨k, 2, none⟩ = some (.int .i64 c) ∧ w.cell? ⟨k, 3, none⟩ = some (.int .i64 d) ∧ ∀ o, w.frozen? ⟨k, o, none⟩ = false
theorem AR.below {k : Nat} {a b c d : Int} {w w' : World} (h : AR k a b c d w) (hb : Below w.heap.size w w') : AR k a b c d w' :=
  ⟨Nat.lt_of_lt_of_le h.1 hb.size, (hb.cell (p := ⟨k, 0, none⟩) h.1).trans h.2.1, (hb.cell (p := ⟨k, 1, none⟩) h.1).trans h.2.2.1, (hb.cell (p := ⟨k, 2, none⟩) h.1).trans h.2.2.2.1, (hb.cell (p := ⟨k, 3, none⟩) h.1).trans h.2.2.2.2.1, fun o => (hb.frozen (p := ⟨k, o, none⟩) h.1).trans (h.2.2.2.2.2 o)⟩
theorem AR.set0 {k : Nat} {a b c d r : Int} {w : World} (h : AR k a b c d w) : AR k r b c d (w.setCell ⟨k, 0, none⟩ (.int .i64 r)) := by
  obtain ⟨z, h0, h1, h2, h3, hf⟩ := h
  exact ⟨by simpa using z, by simp [go_sem, h0, hf], by simp [go_sem, h0, h1, hf], by simp [go_sem, h0, h2, hf], by simp [go_sem, h0, h3, hf], fun o => by simp [go_sem, hf]⟩
theorem AR.set1 {k : Nat} {a b c d r : Int} {w : World} (h : AR k a b c d w) : AR k a r c d (w.setCell ⟨k, 1, none⟩ (.int .i64 r)) := by
  obtain ⟨z, h0, h1, h2, h3, hf⟩ := h
  exact ⟨by simpa using z, by simp [go_sem, h0, h1, hf], by simp [go_sem, h1, hf], by simp [go_sem, h1, h2, hf], by simp [go_sem, h1, h3, hf], fun o => by simp [go_sem, hf]⟩
theorem AR.set2 {k : Nat} {a b c d r : Int} {w : World} (h : AR k a b c d w) : AR k a b r d (w.setCell ⟨k, 2, none⟩ (.int .i64 r)) := by
  obtain ⟨z, h0, h1, h2, h3, hf⟩ := h
  exact ⟨by simpa using z, by simp [go_sem, h0, h2, hf], by simp [go_sem, h1, h2, hf], by simp [go_sem, h2, hf], by simp [go_sem, h2, h3, hf], fun o => by simp [go_sem, hf]⟩
theorem AR.set3 {k : Nat} {a b c d r : Int} {w : World} (h : AR k a b c d w) : AR k a b c r (w.setCell ⟨k, 3, none⟩ (.int .i64 r)) := by
  obtain ⟨z, h0, h1, h2, h3, hf⟩ := h
  exact ⟨by simpa using z, by simp [go_sem, h0, h3, hf], by simp [go_sem, h1, h3, hf], by simp [go_sem, h2, h3, hf], by simp [go_sem, h3, hf], fun o => by simp [go_sem, hf]⟩
theorem UB.other {j k o : Nat} {x y : Int} {v : Value} {w : World} (h : UB j x y w) (hjk : j ≠ k) : UB j x y (w.setCell ⟨k, o, none⟩ v) := by
  obtain ⟨z, h0, h1⟩ := h
  have hkj : k ≠ j := fun e => hjk e.symm
  exact ⟨by simpa using z, by simp [go_sem, h0, hjk, hkj], by simp [go_sem, h1, hjk, hkj]⟩
end Go.Proofs.YtgfjofdjicepiaaDoor
