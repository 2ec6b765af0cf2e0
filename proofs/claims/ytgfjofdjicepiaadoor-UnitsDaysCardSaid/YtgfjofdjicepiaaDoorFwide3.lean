/-
  The numbers of two parts of package couperef02: Plus, by a contract.
-/
import Derived.Test.YtgfjofdjicepiaaDoorFwide2
import Derived.Deep.DeepCutAuto
import Derived.Deep.QuietTactic
import Derived.BigQuiet
namespace Go.Proofs.YtgfjofdjicepiaaDoor
open Go.RowKit
set_option linter.unusedVariables false
set_option linter.unusedSimpArgs false

/-- Behind the exchange: both boxes and that of the result. -/
def PlRel (w : World) (n1 : Bool) (h1 l1 : Int) (n2 : Bool) (h2 l2 : Int) (v : Value) (wx : World) : Prop :=
  w.heap.size + 1 + 1 < wx.heap.size ∧
    (wx.cell? ⟨w.heap.size, 0, none⟩ = some (.bool n1) ∧ wx.cell? ⟨w.heap.size, 1, none⟩ = some (.int .i64 h1) ∧ wx.cell? ⟨w.heap.size, 2, none⟩ = some (.int .i64 l1)) ∧
    (wx.cell? ⟨w.heap.size + 1, 1, none⟩ = some (.int .i64 h2) ∧ wx.cell? ⟨w.heap.size + 1, 2, none⟩ = some (.int .i64 l2)) ∧
    (wx.cell? ⟨w.heap.size + 1 + 1, 0, none⟩ = some (.bool false) ∧ wx.cell? ⟨w.heap.size + 1 + 1, 1, none⟩ = some (.int .i64 0) ∧ wx.cell? ⟨w.heap.size + 1 + 1, 2, none⟩ = some (.int .i64 0) ∧ ∀ o, wx.frozen? ⟨w.heap.size + 1 + 1, o, none⟩ = false) ∧
    Below w.heap.size w wx
end Go.Proofs.YtgfjofdjicepiaaDoor
