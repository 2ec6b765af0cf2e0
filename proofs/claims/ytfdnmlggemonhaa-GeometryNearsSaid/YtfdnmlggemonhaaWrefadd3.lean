/-
  The exported functions of package couperef01, each by a contract: Add, Sub, Neg; and wide.Neg.
-/
import Derived.Test.YtfdnmlggemonhaaWrefadd2
namespace Go.Proofs.Ytfdnmlggemonhaa
open Go.RowKit
set_option linter.unusedVariables false
set_option linter.unusedSimpArgs false

theorem negS_cases (n1 : Bool) (h1 l1 : Int) (f1 : Wd.Fits ⟨n1, h1, l1⟩) (n : Bool) (h l e : Int) (hv : Wd.negS ⟨n1, h1, l1⟩ = (⟨n, h, l⟩, e)) :
    (Wd.chk ⟨n1, h1, l1⟩ = 0 ∧ e = 0 ∧ h = h1 ∧ l = l1 ∧ Wd.mk' (!n1) h1 l1 = ⟨n, h1, l1⟩) ∨ (¬ Wd.chk ⟨n1, h1, l1⟩ = 0 ∧ e = Wd.chk ⟨n1, h1, l1⟩ ∧ n = false ∧ h = 0 ∧ l = 0) := by
  obtain ⟨⟨a0, a1⟩, ⟨a2, a3⟩⟩ := f1
  unfold Wd.negS at hv
  by_cases c : Wd.chk ⟨n1, h1, l1⟩ = 0
  · rw [if_neg (by omega)] at hv
    have mk := Wd.mk'_eq (!n1) h1 l1 a0 a2 a3
    have e1 : -(Wd.toInt ⟨n1, h1, l1⟩) = Wd.sv (!n1) (h1 * 18446744073709551616 + l1) := by
      unfold Wd.toInt Wd.mag Wd.sv; cases n1 <;> simp
    rw [e1, ← mk] at hv
    simp only [Prod.mk.injEq] at hv
    obtain ⟨hw, rfl⟩ := hv
    have h2 : h = h1 ∧ l = l1 := by
      unfold Wd.mk' at hw
      simp only [Wd.mk.injEq] at hw
      exact ⟨hw.2.1.symm, hw.2.2.symm⟩
    obtain ⟨rfl, rfl⟩ := h2
    exact Or.inl ⟨c, rfl, rfl, rfl, hw⟩
  · rw [if_pos c] at hv
    simp only [Prod.mk.injEq, Wd.zero, Wd.mk.injEq] at hv
    exact Or.inr ⟨c, hv.2.symm, hv.1.1.symm, hv.1.2.1.symm, hv.1.2.2.symm⟩
end Go.Proofs.Ytfdnmlggemonhaa
