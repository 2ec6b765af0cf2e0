/-
  The functions of package fraction, each by a contract: firstError of a list and of two, and the operations.
-/
import Derived.Test.YtmdaanigkhikfabFprod2
import Derived.Test.YtmdaanigkhikfabFnew
namespace Go.Proofs.Ytmdaanigkhikfab
open Go.RowKit
set_option linter.unusedVariables false
set_option linter.unusedSimpArgs false

namespace Sp
/-- The error of the first fraction that has one. -/
def firstF (X Y : Nat → Int) : Nat → Nat → Int
  | _, 0 => 0
  | i, n + 1 => if fchk (X i) (Y i) ≠ 0 then fchk (X i) (Y i) else firstF X Y (i + 1) n
theorem firstF_step {X Y : Nat → Int} {k n : Nat} (h : k < n) : firstF X Y k (n - k) = if fchk (X k) (Y k) ≠ 0 then fchk (X k) (Y k) else firstF X Y (k + 1) (n - (k + 1)) := by
  obtain ⟨m, rfl⟩ : ∃ m, n = k + (m + 1) := ⟨n - k - 1, by omega⟩
  have e1 : k + (m + 1) - k = m + 1 := by omega
  have e2 : k + (m + 1) - (k + 1) = m := by omega
  rw [e1, e2]; rfl
end Sp
/-- A slice of fractions lies in memory. -/
structure FSl (w : World) (b off len : Nat) (X Y : Nat → Int) : Prop where
  lt : ∀ i, i < len → b < w.heap.size
  c0 : ∀ i, i < len → w.cell? ⟨b, off + i * 2, none⟩ = some (.int .i64 (X i))
  c1 : ∀ i, i < len → w.cell? ⟨b, off + i * 2 + 1, none⟩ = some (.int .i64 (Y i))
  fit : ∀ i, i < len → -9223372036854775808 ≤ X i ∧ X i ≤ 9223372036854775807 ∧ -9223372036854775808 ≤ Y i ∧ Y i ≤ 9223372036854775807
def FLF (X Y : Nat → Int) (len : Nat) (y : Int) (w : World) (v : Value) (wr : World) : Prop :=
  ∃ k : Nat, k ≤ len ∧ v = .int .i64 k ∧ Sp.firstF X Y k (len - k) = y ∧ Below w.heap.size w wr
end Go.Proofs.Ytmdaanigkhikfab
