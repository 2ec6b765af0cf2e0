/-
  Layer 12: the examples of the chapter, by evaluation of the specifications.
-/
import Derived.Test.YtcbecfimikpljaaPn
import Derived.Test.YtcbecfimikpljaaPy
namespace Go.Proofs.Ytcbecfimikpljaa
open Go.RowKit
set_option linter.unusedVariables false

/-- The function of the examples. -/
def exL (A1 A2 : Option Addr) (c : Int) : List Sp.Pd := [⟨0, 100, A1, 2, [(13, 1), (1, 2)]⟩, ⟨100, 300, A2, 2, [(c, 1), (1, 5)]⟩]
def upB (l : List (Int × Int)) : Bool := match l with
  | a :: b :: r => !decide (cmpP b a < 0) && upB (b :: r)
  | _ => true
theorem upB_from : ∀ (l : List (Int × Int)), upB l = true → UpFrom l 0
  | [], _ => fun k h _ => absurd h (by simp)
  | [a], _ => fun k h _ => absurd h (by simp)
  | a :: b :: r, h => by
    unfold upB at h
    simp only [Bool.and_eq_true, Bool.not_eq_true', decide_eq_false_iff_not] at h
    have ih := upB_from (b :: r) h.2
    intro k hk _
    cases k with
    | zero => exact h.1
    | succ k => exact ih k (by simpa using hk) (Nat.zero_le _)
theorem upB_not : ∀ (l : List (Int × Int)), upB l = false → ¬ UpFrom l 0
  | [], h => by simp [upB] at h
  | [a], h => by simp [upB] at h
  | a :: b :: r, h => by
    unfold upB at h
    intro hu
    by_cases c : cmpP b a < 0
    · exact hu 0 (by simp) (Nat.le_refl _) c
    · have h2 : upB (b :: r) = false := by simpa [c] using h
      exact upB_not (b :: r) h2 (fun k hk _ => hu (k + 1) (by simpa using hk) (Nat.zero_le _))
theorem up_iff (l : List (Int × Int)) : upB l = true ↔ UpFrom l 0 := by
  constructor
  · exact upB_from l
  · intro h
    cases e : upB l
    · exact absurd h (upB_not l e)
    · rfl
theorem inc_is {l : List Sp.Pd} {B : Bool} (h : Sp.valsE l (Sp.least l) (Sp.great l) = 0) (hb : upB (Sp.valsL l (Sp.least l) (Sp.great l)) = B) : IncIs l B 0 :=
  ⟨h.symm, fun k => absurd rfl k, fun _ => by rw [← hb]; exact up_iff _⟩
set_option maxRecDepth 100000
theorem ex_f1 (A1 A2 : Option Addr) : Sp.evalS (exL A1 A2 43) 0 = (13, 1, 0) := by kernel_rfl
theorem ex_f2 (A1 A2 : Option Addr) : Sp.evalS (exL A1 A2 43) 300 = (103, 1, 0) := by kernel_rfl
theorem ex_f3 (A1 A2 : Option Addr) : Sp.contS (exL A1 A2 43) = (true, 0) := by kernel_rfl
theorem ex_f6 (A1 A2 : Option Addr) : Sp.contS (exL A1 A2 44) = (false, 0) := by kernel_rfl
theorem ex_f4a (A1 A2 : Option Addr) : Sp.valsE (exL A1 A2 43) 0 300 = 0 := by kernel_rfl
theorem ex_f4b (A1 A2 : Option Addr) : upB (Sp.valsL (exL A1 A2 43) 0 300) = true := by kernel_rfl
theorem ex_f4 (A1 A2 : Option Addr) : IncIs (exL A1 A2 43) true 0 := inc_is (ex_f4a A1 A2) (ex_f4b A1 A2)
theorem ex_f7a (A1 A2 : Option Addr) : Sp.valsE (exL A1 A2 20) 0 300 = 0 := by kernel_rfl
theorem ex_f7b (A1 A2 : Option Addr) : upB (Sp.valsL (exL A1 A2 20) 0 300) = false := by kernel_rfl
theorem ex_f7 (A1 A2 : Option Addr) : IncIs (exL A1 A2 20) false 0 := inc_is (ex_f7a A1 A2) (ex_f7b A1 A2)
theorem ex_f5a (A1 A2 : Option Addr) : Sp.valsE (exL A1 A2 43) 1 99 = 0 := by kernel_rfl
theorem ex_f5b (A1 A2 : Option Addr) : (leastV (Sp.valsL (exL A1 A2 43) 1 99)).1 / (leastV (Sp.valsL (exL A1 A2 43) 1 99)).2 = 13 := by kernel_rfl
theorem ex_f5c (A1 A2 : Option Addr) : -((-(greatV (Sp.valsL (exL A1 A2 43) 1 99)).1) / (greatV (Sp.valsL (exL A1 A2 43) 1 99)).2) = 63 := by kernel_rfl
theorem ex_f5 (A1 A2 : Option Addr) : RanIs (exL A1 A2 43) 1 99 13 63 0 := ⟨(ex_f5a A1 A2).symm, fun k => absurd rfl k, fun _ => ⟨(ex_f5b A1 A2).symm, (ex_f5c A1 A2).symm⟩⟩
end Go.Proofs.Ytcbecfimikpljaa
