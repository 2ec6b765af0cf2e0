/-
  The functions of package fraction, each by a contract: Text, where the table of the powers of ten lies as it lay.
-/
import Derived.Test.YtgfjofdjicepiaaDoorFops
import Derived.Test.YtgfjofdjicepiaaDoorShelf
import Derived.Lib.ItoaNum
import Derived.Lib.LaidTab
import Derived.Lib.AppendIntMem
namespace Go.Proofs.YtgfjofdjicepiaaDoor
open Go.RowKit
set_option linter.unusedVariables false
set_option linter.unusedSimpArgs false

/-- A table that lay ahead of the call lies there still. -/
theorem tab_below {P : Program} {n : String} {g : Nat} {k : IntKind} {zs : List Int} {w w' : World} (hg : P.globalNamed n = some g) (h : Lib.TabIs P w n k zs) (hb : Below w.heap.size w w') : Lib.TabIs P w' n k zs := by
  unfold Lib.TabIs World.var? at h ⊢
  rw [hg] at h ⊢
  simp only [Option.bind_some] at h ⊢
  by_cases hl : g < w.heap.size
  · rw [hb.block g hl]; exact h
  · rw [Array.getElem?_eq_none (by omega)] at h
    simp at h
/-- strconv.Itoa, wherever the table of the powers of ten lies as it lay. -/
theorem itoa_gives (n : Int) (h0 : -9223372036854775808 ≤ n) (h1 : n ≤ 9223372036854775807) (W : World) (ht : Lib.TabIs Tryd.prog W "internal/strconv.uint64pow10" .u64 Lib.pow10Tab) (T : ByteArray) (hT : T = ⟨(Lib.itoa n).toArray⟩) :
    Calls Tryd.prog 60 #[.int .i64 n] W (Gives (.string T) W) := by
  refine (Tryd.strconv_Itoa n h0 h1 W ht).mono ?_
  rintro e w' ⟨rfl, k, os, rfl⟩
  subst hT
  exact Gives.mk rfl (Lib.below_grow _ _ (Nat.le_refl _) k os)
theorem gPow : Tryd.prog.globalNamed "internal/strconv.uint64pow10" = some 2 := by kernel_rfl
end Go.Proofs.YtgfjofdjicepiaaDoor
