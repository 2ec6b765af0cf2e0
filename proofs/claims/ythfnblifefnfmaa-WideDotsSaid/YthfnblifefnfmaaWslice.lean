/-
  A slice of ints as a law's parameter: opened, and shut again.
-/
import Derived.Test.YthfnblifefnfmaaProg
import Derived.Lib.SmallJoins
import Derived.OpenShut
import Derived.ChangeSlices
import Derived.RowKit
namespace Go.Proofs.Ythfnblifefnfmaa
open Go.ChangeShapes Go.WideShapes Go.ChangeAt Go.RowKit
/-- A slice of ints that came in: what it holds. -/
structure IntsAt (W : World) (ptr : Option Addr) (len : Nat) (zs : List Int) : Prop where
  length : zs.length = len
  most : len ≤ 9223372036854775807
  cell : ¬ len = 0 → ∃ b off, ptr = some ⟨b, off, none⟩ ∧ b < W.heap.size ∧ ∀ i, i < len → W.cell? ⟨b, off + i, none⟩ = some (.int .i64 (zs.getD i 0))
  fit : ∀ n ∈ zs, -9223372036854775808 ≤ n ∧ n ≤ 9223372036854775807
theorem IntsAt.below {W W' : World} {ptr : Option Addr} {len : Nat} {zs : List Int} (h : IntsAt W ptr len zs) (hb : Below W.heap.size W W') : IntsAt W' ptr len zs :=
  ⟨h.length, h.most, fun h0 => by
    obtain ⟨b, off, e, lt, hc⟩ := h.cell h0
    exact ⟨b, off, e, Nat.lt_of_lt_of_le lt hb.size, fun i hi => (hb.cell (p := ⟨b, off + i, none⟩) lt).trans (hc i hi)⟩, h.fit⟩
section
variable {H : Type} {enc : TypeId × Value → H} {P : Program}
theorem ints_open {W : World} {t e : TypeId} (ht : P.underlying t = some (.slice e)) (he : P.underlying e = some (.int .i64)) (hc : P.cellsOf e = 1) {ptr : Option Addr} {len cap : Nat} {d : DataW H} {p : List MemPlace}
    (h : DataW.Trod enc P W 0 (fun _ => true) true t (.slice ptr len cap) d p) (hlt : ∀ b o, MemPlace.cell b o ∈ p → b < W.heap.size) :
    ∃ zs, IntsAt W ptr len zs ∧ ∀ W', Below W.heap.size W W' → DataW.Trod enc P W' 0 (fun b => decide (b < W.heap.size)) true t (.slice ptr len cap) d p := by
  obtain ⟨fuel, hf⟩ := h
  rcases open_ints ht he hc hf with ⟨hcs, hx⟩ | ⟨a, len', cap', zs, hcs, hb, hl, hm, hz, hx, hcell, hw⟩
  · simp [Value.cells] at hcs
    obtain ⟨rfl, rfl, rfl⟩ := hcs
    simp only [Prod.mk.injEq] at hx
    obtain ⟨rfl, rfl⟩ := hx
    exact ⟨[], ⟨rfl, by omega, fun h => absurd rfl h, by simp⟩, fun W' _ => shut_slice_nil ht⟩
  · simp [Value.cells] at hcs
    obtain ⟨rfl, rfl, rfl⟩ := hcs
    simp only [if_true] at hz
    simp only [Prod.mk.injEq] at hx
    obtain ⟨rfl, rfl⟩ := hx
    obtain ⟨b, off, spot⟩ := a
    have fits : ∀ n ∈ zs, -9223372036854775808 ≤ n ∧ n ≤ 9223372036854775807 := fun n hn => bounds_i64 (hw n hn)
    have blt : ¬ zs.length = 0 → b < W.heap.size := fun h0 => hlt b (off + 0) (MemPlace.mem_row.2 ⟨0, by omega, by simp⟩)
    have sp : ¬ zs.length = 0 → spot = none := fun h0 => by simpa [Addr.add] using World.cell?_spot (hcell 0 (by omega))
    have hm' : cap ≤ 9223372036854775807 := by unfold maxLen at hm; omega
    refine ⟨zs.take len, ⟨by simp; omega, by omega, fun h0 => ?_, fun n hn => fits n (List.mem_of_mem_take hn)⟩, fun W' hb' => ⟨2, ?_⟩⟩
    · have s := sp (by omega)
      subst s
      refine ⟨b, off, rfl, blt (by omega), fun i hi => ?_⟩
      have hci := hcell i (by omega)
      have e1 : (zs.take len).getD i 0 = zs.getD i 0 := by simp [List.getD_eq_getElem?_getD, List.getElem?_take, hi]
      rw [e1, ← hci]
      congr 1
      by_cases j : i = 0
      · subst j; simp [Addr.add]
      · simp [Addr.add, j]
    · refine shut_ints 0 ht he hc hb hl hm ?_ (fun i hi => ?_) hw
      · by_cases h0 : zs.length = 0
        · split <;> omega
        · rw [if_pos (by simpa using blt h0)]; exact hz
      · have s := sp (by omega)
        subst s
        have hci := hcell i hi
        rw [← hci]
        have e2 : ((⟨b, off, none⟩ : Addr).add i) = ⟨b, off + i, none⟩ := by
          by_cases j : i = 0
          · subst j; simp [Addr.add]
          · simp [Addr.add, j]
        rw [e2]
        exact hb'.cell (p := ⟨b, off + i, none⟩) (blt (by omega))
end
end Go.Proofs.Ythfnblifefnfmaa
