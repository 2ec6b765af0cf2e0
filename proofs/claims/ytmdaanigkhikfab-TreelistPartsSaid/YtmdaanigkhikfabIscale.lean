/-
  Scale of package interval, by contract.
-/
import Derived.Test.YtmdaanigkhikfabFcode
import Derived.Test.YtmdaanigkhikfabWdot
import Derived.Deep.DeepCutAuto
namespace Go.Proofs.Ytmdaanigkhikfab
open Go.RowKit
set_option linter.unusedVariables false
set_option linter.unusedSimpArgs false

/-- A box that holds a wide integer: whatever block it lies in. -/
def BoxAt (w : World) (n : Bool) (h l : Int) (v : Value) (wx : World) : Prop :=
  ∃ k : Nat, v = .pointer (some ⟨k, 0, none⟩) ∧ (k < wx.heap.size ∧ wx.cell? ⟨k, 0, none⟩ = some (.bool n) ∧ wx.cell? ⟨k, 1, none⟩ = some (.int .u64 h) ∧ wx.cell? ⟨k, 2, none⟩ = some (.int .u64 l)) ∧ Below w.heap.size w wx
theorem flp_cases (x n d : Int) : (Sp.flp x n d).2 = 0 ∧ -1000000000000000 ≤ (Sp.flp x n d).1 ∧ (Sp.flp x n d).1 ≤ 1000000000000000 ∨ (Sp.flp x n d).2 = 8 := by
  unfold Sp.flp
  split
  · exact Or.inl ⟨rfl, by simp only; omega, by simp only; omega⟩
  · exact Or.inr rfl
end Go.Proofs.Ytmdaanigkhikfab
