/-
  The exported functions of package wide, each by a contract: sums of products.
-/
import Derived.Test.YtmdaanigkhikfabWcmp
import Derived.Deep.RegionHeld3
namespace Go.Proofs.Ytmdaanigkhikfab
open Go.RowKit
set_option linter.unusedVariables false
set_option linter.unusedSimpArgs false

/-- Behind a call that turned nothing below: what was there reads as before. -/
theorem bcell {W w1 : World} (hb : Below W.heap.size W w1) : (∀ b o, b < W.heap.size → w1.cell? ⟨b, o, none⟩ = W.cell? ⟨b, o, none⟩) ∧ (∀ b o, b < W.heap.size → w1.frozen? ⟨b, o, none⟩ = W.frozen? ⟨b, o, none⟩) :=
  ⟨fun b o h => hb.cell (p := ⟨b, o, none⟩) h, fun b o h => hb.frozen (p := ⟨b, o, none⟩) h⟩
/-- At the head of a round: which product is next; what the total is; what is left to be done gives the answer. -/
def DotRel (w : World) (xs ys : List Int) (R : Wd × Int) (v : Value) (wr : World) : Prop :=
  ∃ (k : Nat) (s : Int), v = .int .i64 k ∧ k ≤ xs.length ∧ s.natAbs < 170141183460469231731687303715884105728 ∧ Wd.dotGo s (xs.drop k) (ys.drop k) = R
    ∧ Below w.heap.size w wr ∧ w.heap.size + 1 < wr.heap.size
    ∧ (∃ (a : Bool) (b c : Int), wr.cell? ⟨w.heap.size, 0, none⟩ = some (.bool a) ∧ wr.cell? ⟨w.heap.size, 1, none⟩ = some (.int .u64 b) ∧ wr.cell? ⟨w.heap.size, 2, none⟩ = some (.int .u64 c))
    ∧ (∀ o, wr.frozen? ⟨w.heap.size, o, none⟩ = false)
    ∧ wr.cell? ⟨w.heap.size + 1, 0, none⟩ = some (.bool (Wd.ofInt s).neg) ∧ wr.cell? ⟨w.heap.size + 1, 1, none⟩ = some (.int .u64 (Wd.ofInt s).hi) ∧ wr.cell? ⟨w.heap.size + 1, 2, none⟩ = some (.int .u64 (Wd.ofInt s).lo)
    ∧ (∀ o, wr.frozen? ⟨w.heap.size + 1, o, none⟩ = false)

theorem mul_small {x y : Int} (x0 : -9223372036854775808 ≤ x) (x1 : x ≤ 9223372036854775807) (y0 : -9223372036854775808 ≤ y) (y1 : y ≤ 9223372036854775807) : (x * y).natAbs < 170141183460469231731687303715884105728 := by
  have h := nat_mul_le (a := x) (b := y) (c := 9223372036854775808) (by omega) (by omega) (by omega)
  rw [← Int.natCast_mul, ← Int.natAbs_mul] at h
  omega
theorem dot_step {xs ys : List Int} {k : Nat} {u v s : Int} {R : Wd × Int} (hx : k < xs.length) (hy : k < ys.length) (hu : xs.getD k 0 = u) (hv : ys.getD k 0 = v) (h : Wd.dotGo s (xs.drop k) (ys.drop k) = R) :
    (if (s + u * v).natAbs < 170141183460469231731687303715884105728 then Wd.dotGo (s + u * v) (xs.drop (k + 1)) (ys.drop (k + 1)) else (Wd.zero, 8)) = R := by
  rw [List.drop_eq_getElem_cons hx, List.drop_eq_getElem_cons hy] at h
  have e1 : xs[k] = u := by rw [← hu, List.getD_eq_getElem?_getD, List.getElem?_eq_getElem hx]; rfl
  have e2 : ys[k] = v := by rw [← hv, List.getD_eq_getElem?_getD, List.getElem?_eq_getElem hy]; rfl
  rw [e1, e2] at h
  rw [← h]
  rfl
end Go.Proofs.Ytmdaanigkhikfab
