/-
  The functions of package couperef01, each by a contract: sums and differences of magnitudes.
-/
import Derived.Test.YtfdnmlggemonhaaWref
import Derived.Deep.DeepCutAuto
import Derived.Deep.RegionHeld3
import Derived.Deep.QuietTactic
import Derived.BigQuiet
namespace Go.Proofs.Ytfdnmlggemonhaa
open Go.RowKit
set_option linter.unusedVariables false
set_option linter.unusedSimpArgs false

/-- A block that holds four parts. -/
def Four (wx : World) (k : Nat) (a b c d : Int) : Prop :=
  k < wx.heap.size ∧ wx.cell? ⟨k, 0, none⟩ = some (.int .u64 a) ∧ wx.cell? ⟨k, 1, none⟩ = some (.int .u64 b) ∧ wx.cell? ⟨k, 2, none⟩ = some (.int .u64 c) ∧ wx.cell? ⟨k, 3, none⟩ = some (.int .u64 d) ∧ ∀ o, wx.frozen? ⟨k, o, none⟩ = false
/-- Two arrays of four parts, and the result's block before them, in a world that turned nothing else. -/
def Arrays (w : World) (a b c d a' b' c' d' : Int) (v v' : Value) (wx : World) : Prop :=
  ∃ i j : Nat, v = .pointer (some ⟨i, 0, none⟩) ∧ v' = .pointer (some ⟨j, 0, none⟩) ∧ i ≠ j ∧ w.heap.size + 1 + 1 < i ∧ w.heap.size + 1 + 1 < j ∧ Four wx i a b c d ∧ Four wx j a' b' c' d' ∧ Four wx (w.heap.size + 1 + 1) 0 0 0 0 ∧ Below w.heap.size w wx

end Go.Proofs.Ytfdnmlggemonhaa
