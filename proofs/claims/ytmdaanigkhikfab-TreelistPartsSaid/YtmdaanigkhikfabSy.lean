/-
  Layer 10: Mass and Carbon of package species, by contract.
-/
import Derived.Test.YtmdaanigkhikfabSx
namespace Go.Proofs.Ytmdaanigkhikfab
open Go.RowKit
set_option linter.unusedVariables false
set_option linter.unusedSimpArgs false

namespace Sp
theorem massS_ok {l : List Sc} {i a b m0 m1 : Int} (h : massS l i a b = (m0, m1, 0)) : tabS l = 0 ∧ (0 ≤ i ∧ i < (l.length : Int)) ∧ chk a b = 0 ∧ 0 ≤ a ∧ scl a b (denOf l i) 1000 = (m0, m1, 0) := by
  unfold massS at h
  by_cases h1 : tabS l = 0
  · rw [if_neg (by simpa using h1)] at h
    by_cases h2 : 0 ≤ i ∧ i < (l.length : Int)
    · rw [if_neg (by simpa using h2)] at h
      by_cases h3 : chk a b = 0
      · rw [if_neg (by simpa using h3)] at h
        by_cases h4 : a < 0
        · rw [if_pos h4] at h; simp at h
        · rw [if_neg h4] at h; exact ⟨h1, h2, h3, by omega, h⟩
      · rw [if_pos (by simpa using h3)] at h; simp at h; exact absurd h.2.2 h3
    · rw [if_pos (by simpa using h2)] at h; simp at h
  · rw [if_pos (by simpa using h1)] at h; simp at h; exact absurd h.2.2 h1
/-- A species of a checked table. -/
theorem row_ok {l : List Sc} (h : tabS l = 0) {i : Int} (hi : 0 ≤ i ∧ i < (l.length : Int)) : ∃ k : Nat, ∃ hk : k < l.length, i = (k : Int) ∧ denOf l i = (l[k]'hk).den ∧ carOf l i = (l[k]'hk).car ∧
    (1 ≤ (l[k]'hk).den ∧ (l[k]'hk).den ≤ 2000) ∧ (1 ≤ (l[k]'hk).car ∧ (l[k]'hk).car ≤ 1000000) := by
  obtain ⟨k, rfl⟩ : ∃ k : Nat, i = (k : Int) := ⟨i.toNat, by omega⟩
  have hk : k < l.length := by omega
  have hr := rangeOk_at (chkS_ok l [] (tabS_len h).2 k hk).2.1
  refine ⟨k, hk, rfl, ?_, ?_, hr.1, hr.2.1⟩
  · unfold denOf; simp [hk]
  · unfold carOf; simp [hk]
end Sp
end Go.Proofs.Ytmdaanigkhikfab
