/-
  The functions of package fraction, each by a contract: sum.
-/
import Derived.Test.YtmdaanigkhikfabFlim
import Derived.Test.YtmdaanigkhikfabFcode
import Derived.Test.YtmdaanigkhikfabWquo
import Derived.Test.YtmdaanigkhikfabWcmp
import Derived.Test.YtmdaanigkhikfabWint
import Derived.Deep.DeepCutAuto
import Derived.Deep.RegionHeld3
import Derived.Deep.QuietTactic
import Derived.BigQuiet
namespace Go.Proofs.Ytmdaanigkhikfab
open Go.RowKit
set_option linter.unusedVariables false
set_option linter.unusedSimpArgs false

/-- Behind the numerator: its box, the denominators, the box of the result. -/
def FsRel (w : World) (b d : Int) (nn : Bool) (hn ln : Int) (v : Value) (wx : World) : Prop :=
  ∃ k : Nat, v = .pointer (some ⟨k, 0, none⟩) ∧ w.heap.size + 1 + 1 < k ∧ k < wx.heap.size ∧
    (wx.cell? ⟨k, 0, none⟩ = some (.bool nn) ∧ wx.cell? ⟨k, 1, none⟩ = some (.int .u64 hn) ∧ wx.cell? ⟨k, 2, none⟩ = some (.int .u64 ln) ∧ ∀ o, wx.frozen? ⟨k, o, none⟩ = false) ∧
    wx.cell? ⟨w.heap.size, 1, none⟩ = some (.int .i64 b) ∧ wx.cell? ⟨w.heap.size + 1, 1, none⟩ = some (.int .i64 d) ∧
    (wx.cell? ⟨w.heap.size + 1 + 1, 0, none⟩ = some (.int .i64 0) ∧ wx.cell? ⟨w.heap.size + 1 + 1, 1, none⟩ = some (.int .i64 0) ∧ ∀ o, wx.frozen? ⟨w.heap.size + 1 + 1, o, none⟩ = false) ∧
    Below w.heap.size w wx
end Go.Proofs.Ytmdaanigkhikfab
