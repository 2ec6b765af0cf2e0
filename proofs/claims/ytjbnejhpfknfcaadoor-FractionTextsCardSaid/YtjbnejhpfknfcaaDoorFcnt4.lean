/-
  FractionCounts: the four arrays of the statement, and when two arrays are equal.
-/
import Derived.Test.YtjbnejhpfknfcaaDoorFrounds
import Derived.Deep.RegionHeld3
import Derived.ChangeKeysEq
import Derived.WalkKit
namespace Go.Proofs.YtjbnejhpfknfcaaDoor
open Go.RowKit
set_option linter.unusedVariables false
set_option linter.unusedSimpArgs false

/-- The four arrays of the statement: ten, ten, five and five numbers, in four boxes of their own. -/
structure FrB (k : Nat) (X Y E F : Nat → Int) (w : World) : Prop where
  lt : k + 1 + 1 + 1 < w.heap.size
  x : ∀ i, i < 10 → w.cell? ⟨k, i, none⟩ = some (.int .i64 (X i))
  y : ∀ i, i < 10 → w.cell? ⟨k + 1, i, none⟩ = some (.int .i64 (Y i))
  e : ∀ i, i < 5 → w.cell? ⟨k + 1 + 1, i, none⟩ = some (.int .i64 (E i))
  f : ∀ i, i < 5 → w.cell? ⟨k + 1 + 1 + 1, i, none⟩ = some (.int .i64 (F i))
  fx : ∀ o, w.frozen? ⟨k, o, none⟩ = false
  fy : ∀ o, w.frozen? ⟨k + 1, o, none⟩ = false
  fe : ∀ o, w.frozen? ⟨k + 1 + 1, o, none⟩ = false
  ff : ∀ o, w.frozen? ⟨k + 1 + 1 + 1, o, none⟩ = false
theorem FrB.below {k : Nat} {X Y E F : Nat → Int} {w w' : World} (h : FrB k X Y E F w) (b : Below w.heap.size w w') : FrB k X Y E F w' :=
  have l0 : k < w.heap.size := by have := h.lt; omega
  have l1 : k + 1 < w.heap.size := by have := h.lt; omega
  have l2 : k + 1 + 1 < w.heap.size := by have := h.lt; omega
  ⟨Nat.lt_of_lt_of_le h.lt b.size, fun i hi => (b.cell (p := ⟨k, i, none⟩) l0).trans (h.x i hi), fun i hi => (b.cell (p := ⟨k + 1, i, none⟩) l1).trans (h.y i hi), fun i hi => (b.cell (p := ⟨k + 1 + 1, i, none⟩) l2).trans (h.e i hi), fun i hi => (b.cell (p := ⟨k + 1 + 1 + 1, i, none⟩) h.lt).trans (h.f i hi),
    fun o => (b.frozen (p := ⟨k, o, none⟩) l0).trans (h.fx o), fun o => (b.frozen (p := ⟨k + 1, o, none⟩) l1).trans (h.fy o), fun o => (b.frozen (p := ⟨k + 1 + 1, o, none⟩) l2).trans (h.fe o), fun o => (b.frozen (p := ⟨k + 1 + 1 + 1, o, none⟩) h.lt).trans (h.ff o)⟩
theorem info_some {P : Program} {t : TypeId} (h : (P.info? t).isSome = true) : ∃ i, P.info? t = some i := Option.isSome_iff_exists.1 h
theorem eq_ints (W : World) (a0 a1 a2 a3 a4 : Int) : (Op.equalIn 10000 32 (.agg #[.int .i64 a0, .int .i64 a1, .int .i64 a2, .int .i64 a3, .int .i64 a4]) (.agg #[.int .i64 a0, .int .i64 a1, .int .i64 a2, .int .i64 a3, .int .i64 a4])).run Tryd.prog W = .ok true W := by
  obtain ⟨i, hi⟩ := info_some (P := Tryd.prog) (t := 3) (by kernel_rfl)
  rw [run_equalIn_array W 9999 _ _ Tryd.underlying32 hi, show Tryd.prog.cellsOf 3 = 1 by kernel_rfl, show List.range 5 = [0, 1, 2, 3, 4] from rfl]
  simp [Op.eqItems, go_sem]
theorem eq_fracs (W : World) (a0 a1 a2 a3 a4 a5 a6 a7 a8 a9 : Int) : (Op.equalIn 10000 31 (.agg #[.int .i64 a0, .int .i64 a1, .int .i64 a2, .int .i64 a3, .int .i64 a4, .int .i64 a5, .int .i64 a6, .int .i64 a7, .int .i64 a8, .int .i64 a9]) (.agg #[.int .i64 a0, .int .i64 a1, .int .i64 a2, .int .i64 a3, .int .i64 a4, .int .i64 a5, .int .i64 a6, .int .i64 a7, .int .i64 a8, .int .i64 a9])).run Tryd.prog W = .ok true W := by
  obtain ⟨i, hi⟩ := info_some (P := Tryd.prog) (t := 23) (by kernel_rfl)
  rw [run_equalIn_array W 9999 _ _ Tryd.underlying31 hi, show Tryd.prog.cellsOf 23 = 2 by kernel_rfl, show List.range 5 = [0, 1, 2, 3, 4] from rfl]
  simp [Op.eqItems, go_sem]
def put (X : Nat → Int) (p : Nat) (v : Int) : Nat → Int := fun i => if i = p then v else X i
theorem cell_put {w : World} {k p : Nat} {v : Int} {X : Nat → Int} {n : Nat} (lt : k < w.heap.size) (hp : p < n) (h : ∀ i, i < n → w.cell? ⟨k, i, none⟩ = some (.int .i64 (X i))) : ∀ i, i < n → (w.setCell ⟨k, p, none⟩ (.int .i64 v)).cell? ⟨k, i, none⟩ = some (.int .i64 (put X p v i)) := by
  intro i hi
  unfold put
  by_cases c : i = p
  · subst c
    rw [if_pos rfl]
    exact World.cell?_setCell_same _ _ _ (h i hi)
  · rw [if_neg c, World.cell?_setCell_other (h := fun h' => c (Addr.mk.inj h').2.1.symm)]
    exact h i hi
theorem cell_off {w : World} {k k' p : Nat} {v : Value} {X : Nat → Int} {n : Nat} (ne : ¬ k = k') (h : ∀ i, i < n → w.cell? ⟨k, i, none⟩ = some (.int .i64 (X i))) : ∀ i, i < n → (w.setCell ⟨k', p, none⟩ v).cell? ⟨k, i, none⟩ = some (.int .i64 (X i)) := by
  intro i hi
  rw [World.cell?_setCell_other (h := fun h' => ne (Addr.mk.inj h').1.symm)]
  exact h i hi
theorem FrB.putx {k p : Nat} {v : Int} {X Y E F : Nat → Int} {w : World} (h : FrB k X Y E F w) (hp : p < 10) : FrB k (put X p v) Y E F (w.setCell ⟨k, p, none⟩ (.int .i64 v)) :=
  ⟨by simpa using h.lt, cell_put (by have := h.lt; omega) hp h.x, cell_off (by omega) h.y, cell_off (by omega) h.e, cell_off (by omega) h.f, fun o => by simp [h.fx o], fun o => by simp [h.fy o], fun o => by simp [h.fe o], fun o => by simp [h.ff o]⟩
theorem FrB.puty {k p : Nat} {v : Int} {X Y E F : Nat → Int} {w : World} (h : FrB k X Y E F w) (hp : p < 10) : FrB k X (put Y p v) E F (w.setCell ⟨k + 1, p, none⟩ (.int .i64 v)) :=
  ⟨by simpa using h.lt, cell_off (by omega) h.x, cell_put (by have := h.lt; omega) hp h.y, cell_off (by omega) h.e, cell_off (by omega) h.f, fun o => by simp [h.fx o], fun o => by simp [h.fy o], fun o => by simp [h.fe o], fun o => by simp [h.ff o]⟩
theorem FrB.pute {k p : Nat} {v : Int} {X Y E F : Nat → Int} {w : World} (h : FrB k X Y E F w) (hp : p < 5) : FrB k X Y (put E p v) F (w.setCell ⟨k + 1 + 1, p, none⟩ (.int .i64 v)) :=
  ⟨by simpa using h.lt, cell_off (by omega) h.x, cell_off (by omega) h.y, cell_put (by have := h.lt; omega) hp h.e, cell_off (by omega) h.f, fun o => by simp [h.fx o], fun o => by simp [h.fy o], fun o => by simp [h.fe o], fun o => by simp [h.ff o]⟩
theorem FrB.putf {k p : Nat} {v : Int} {X Y E F : Nat → Int} {w : World} (h : FrB k X Y E F w) (hp : p < 5) : FrB k X Y E (put F p v) (w.setCell ⟨k + 1 + 1 + 1, p, none⟩ (.int .i64 v)) :=
  ⟨by simpa using h.lt, cell_off (by omega) h.x, cell_off (by omega) h.y, cell_off (by omega) h.e, cell_put (by have := h.lt; omega) hp h.f, fun o => by simp [h.fx o], fun o => by simp [h.fy o], fun o => by simp [h.fe o], fun o => by simp [h.ff o]⟩

end Go.Proofs.YtjbnejhpfknfcaaDoor
