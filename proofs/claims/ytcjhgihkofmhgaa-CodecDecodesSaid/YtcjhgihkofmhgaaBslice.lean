/-
  A slice of bytes as a law's parameter: opened, and shut again.
-/
import Derived.Test.YtcjhgihkofmhgaaBase
import Derived.Lib.SmallJoins
import Derived.OpenShut
import Derived.ChangeSlices
import Derived.RowKit
namespace Go.Proofs.Ytcjhgihkofmhgaa
open Go.ChangeShapes Go.WideShapes Go.ChangeAt Go.RowKit
section
variable {H : Type} {enc : TypeId × Value → H} {P : Program}
theorem bytes_open {W : World} {t e : TypeId} (ht : P.underlying t = some (.slice e)) (he : P.underlying e = some (.int .u8)) (hc : P.cellsOf e = 1) {ptr : Option Addr} {len cap : Nat} {d : DataW H} {p : List MemPlace}
    (h : DataW.Trod enc P W 0 (fun _ => true) true t (.slice ptr len cap) d p) (hlt : ∀ b o, MemPlace.cell b o ∈ p → b < W.heap.size) :
    ∃ L : List UInt8, L.length = len ∧ len ≤ cap ∧ cap ≤ 9223372036854775807 ∧ Bs W W.heap.size ptr L ∧ ∀ W', Below W.heap.size W W' → DataW.Trod enc P W' 0 (fun b => decide (b < W.heap.size)) true t (.slice ptr len cap) d p := by
  obtain ⟨fuel, hf⟩ := h
  rcases open_ints ht he hc hf with ⟨hcs, hx⟩ | ⟨a, len', cap', zs, hcs, hb, hl, hm, hz, hx, hcell, hw⟩
  · simp [Value.cells] at hcs
    obtain ⟨rfl, rfl, rfl⟩ := hcs
    simp only [Prod.mk.injEq] at hx
    obtain ⟨rfl, rfl⟩ := hx
    exact ⟨[], rfl, Nat.le_refl _, by omega, Bs.nil _ _ _, fun W' _ => shut_slice_nil ht⟩
  · simp [Value.cells] at hcs
    obtain ⟨rfl, rfl, rfl⟩ := hcs
    simp only [if_true] at hz
    simp only [Prod.mk.injEq] at hx
    obtain ⟨rfl, rfl⟩ := hx
    obtain ⟨b, off, spot⟩ := a
    have fits : ∀ n ∈ zs, 0 ≤ n ∧ n ≤ 255 := fun n hn => bounds_u8 (hw n hn)
    have blt : ¬ zs.length = 0 → b < W.heap.size := fun h0 => hlt b (off + 0) (MemPlace.mem_row.2 ⟨0, by omega, by simp⟩)
    have sp : ¬ zs.length = 0 → spot = none := fun h0 => by simpa [Addr.add] using World.cell?_spot (hcell 0 (by omega))
    have hm' : cap ≤ 9223372036854775807 := by unfold maxLen at hm; omega
    have hadd : ∀ i, ((⟨b, off, none⟩ : Addr).add i) = ⟨b, off + i, none⟩ := fun i => by
      by_cases j : i = 0
      · subst j; simp [Addr.add]
      · simp [Addr.add, j]
    refine ⟨(zs.take len).map fun n => UInt8.ofNat n.toNat, by simp; omega, hl, hm', ⟨fun h0 => ?_⟩, fun W' hb' => ⟨2, ?_⟩⟩
    · have h1 : 0 < len := by simp at h0; omega
      have s := sp (by omega)
      subst s
      refine ⟨b, off, rfl, blt (by omega), fun i hi => ?_⟩
      have hi2 : i < len := by simp at hi; omega
      have hci := hcell i (by omega)
      rw [hadd] at hci
      have e1 : zs.getD i 0 = zs[i]'(by omega) := by simp [List.getD, show i < zs.length by omega]
      have hf := fits (zs[i]'(by omega)) (List.getElem_mem _)
      rw [hci, e1]
      simp only [List.getElem_map, List.getElem_take]
      have : (UInt8.ofNat (zs[i]'(by omega)).toNat).toNat = (zs[i]'(by omega)).toNat := by
        rw [UInt8.toNat_ofNat_of_lt']
        show (zs[i]'(by omega)).toNat < 256
        omega
      rw [this]
      congr 2
      omega
    · refine shut_ints 0 ht he hc hb hl hm ?_ (fun i hi => ?_) hw
      · by_cases h0 : zs.length = 0
        · split <;> omega
        · rw [if_pos (by simpa using blt h0)]; exact hz
      · have s := sp (by omega)
        subst s
        have hci := hcell i hi
        rw [← hci, hadd]
        exact hb'.cell (p := ⟨b, off + i, none⟩) (blt (by omega))
end
end Go.Proofs.Ytcjhgihkofmhgaa
