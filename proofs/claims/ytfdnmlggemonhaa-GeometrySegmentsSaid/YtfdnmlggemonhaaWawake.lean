/-
  The chapter's examples, as the statements of layer 1 ask them: each holds.
-/
import Derived.Test.YtfdnmlggemonhaaWtext
import Derived.Test.YtfdnmlggemonhaaWdot
import Derived.Test.YtfdnmlggemonhaaWint
import Derived.Deep.RegionHeld3
namespace Go.Proofs.Ytfdnmlggemonhaa
open Go.RowKit
set_option linter.unusedVariables false

theorem twenty : (⟨#[50, 48, 48, 48, 48, 48, 48, 48, 48, 48, 48, 48, 48, 48, 48, 48, 48, 48, 48, 48]⟩ : ByteArray) = ⟨(Lib.itoa (Wd.toInt ⟨false, 1, 1553255926290448384⟩)).toArray⟩ := by
  have e : Wd.toInt ⟨false, 1, 1553255926290448384⟩ = 20000000000000000000 := by decide
  rw [e]
  unfold Lib.itoa
  rw [if_neg (by decide)]
  simp [Lib.decDigits]
theorem keep3 {W w1 : World} {b : Nat} {x y z : Value} (h : Below W.heap.size W w1) (k : b < W.heap.size ∧ W.cell? ⟨b, 0, none⟩ = some x ∧ W.cell? ⟨b, 1, none⟩ = some y ∧ W.cell? ⟨b, 2, none⟩ = some z) :
    b < w1.heap.size ∧ w1.cell? ⟨b, 0, none⟩ = some x ∧ w1.cell? ⟨b, 1, none⟩ = some y ∧ w1.cell? ⟨b, 2, none⟩ = some z :=
  ⟨Nat.lt_of_lt_of_le k.1 h.size, (h.cell (p := ⟨b, 0, none⟩) k.1).trans k.2.1, (h.cell (p := ⟨b, 1, none⟩) k.1).trans k.2.2.1, (h.cell (p := ⟨b, 2, none⟩) k.1).trans k.2.2.2⟩
end Go.Proofs.Ytfdnmlggemonhaa
