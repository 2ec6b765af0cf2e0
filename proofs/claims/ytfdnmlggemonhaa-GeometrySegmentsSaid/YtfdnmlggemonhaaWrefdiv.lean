/-
  The division of couperef01, by contract.
-/
import Derived.Test.YtfdnmlggemonhaaWrefbit
namespace Go.Proofs.Ytfdnmlggemonhaa
open Go.RowKit
set_option linter.unusedVariables false
set_option linter.unusedSimpArgs false

/-- A box that holds a wide integer, and may be stored into. -/
def WBox (wx : World) (k : Nat) (n : Bool) (h l : Int) : Prop := k < wx.heap.size ∧ wx.cell? ⟨k, 0, none⟩ = some (.bool n) ∧ wx.cell? ⟨k, 1, none⟩ = some (.int .u64 h) ∧ wx.cell? ⟨k, 2, none⟩ = some (.int .u64 l) ∧ ∀ o, wx.frozen? ⟨k, o, none⟩ = false
/-- The loop's head: bits from k on are done. -/
def Dl (M D : Nat) (n : Bool) (h l : Int) (w : World) (v7 v8 : Value) (wr : World) : Prop :=
  ∃ (k : Nat) (i hi lo r : Int), v7 = .int .u64 r ∧ v8 = .int .i64 i ∧ i + 1 = (k : Int) ∧ k ≤ 127 ∧ Bits M D k hi lo r ∧ WBox wr w.heap.size n h l ∧ WBox wr (w.heap.size + 1) false 0 0 ∧ WBox wr (w.heap.size + 1 + 1) false hi lo ∧ Below w.heap.size w wr
end Go.Proofs.Ytfdnmlggemonhaa
