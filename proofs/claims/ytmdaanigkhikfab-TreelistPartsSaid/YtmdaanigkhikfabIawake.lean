/-
  The chapter's examples, as the statements of layer 3 ask them: each holds.
-/
import Derived.Test.YtmdaanigkhikfabIscale
namespace Go.Proofs.Ytmdaanigkhikfab
open Go.RowKit
set_option linter.unusedVariables false
set_option linter.unusedSimpArgs false

theorem keep2 {W w1 : World} {b : Nat} {x y : Value} (h : Below W.heap.size W w1) (k : b < W.heap.size ∧ W.cell? ⟨b, 0, none⟩ = some x ∧ W.cell? ⟨b, 1, none⟩ = some y) :
    b < w1.heap.size ∧ w1.cell? ⟨b, 0, none⟩ = some x ∧ w1.cell? ⟨b, 1, none⟩ = some y :=
  ⟨Nat.lt_of_lt_of_le k.1 h.size, (h.cell (p := ⟨b, 0, none⟩) k.1).trans k.2.1, (h.cell (p := ⟨b, 1, none⟩) k.1).trans k.2.2⟩
end Go.Proofs.Ytmdaanigkhikfab
