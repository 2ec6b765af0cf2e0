/-
  Layer 10: Mass and Carbon of package species and of the reference, by contract.
-/
import Derived.Test.YtmdaanigkhikfabSr
import Derived.Test.YtmdaanigkhikfabIscales
import Derived.Test.YtmdaanigkhikfabFnewsaS
import Derived.Deep.RegionWith
import Derived.Deep.DeepCutAuto
namespace Go.Proofs.Ytmdaanigkhikfab
open Go.RowKit
set_option linter.unusedVariables false
set_option linter.unusedSimpArgs false

namespace Sp
def scl (a b n d : Int) : Int × Int × Int := scaleS a b (newS n d).1 (newS n d).2.1
def massS (l : List Sc) (i a b : Int) : Int × Int × Int :=
  if tabS l ≠ 0 then (0, 0, tabS l) else if ¬ (0 ≤ i ∧ i < (l.length : Int)) then (0, 0, 2) else if chk a b ≠ 0 then (0, 0, chk a b) else if a < 0 then (0, 0, 1) else scl a b (denOf l i) 1000
def carbS (l : List Sc) (i a b : Int) : Int × Int × Int :=
  if (massS l i a b).2.2 ≠ 0 then (0, 0, (massS l i a b).2.2) else scl (massS l i a b).1 (massS l i a b).2.1 (carOf l i) 1000000
theorem newS_small {n d : Int} (n0 : 1 ≤ n) (n1 : n ≤ 1000000000000000) (d0 : 1 ≤ d) (d1 : d ≤ 1000000000000000) :
    ∃ g x y : Int, newS n d = (x, y, 0) ∧ 1 ≤ g ∧ n = x * g ∧ d = y * g ∧ 1 ≤ x ∧ x ≤ n ∧ 1 ≤ y ∧ y ≤ d ∧ Int.gcd x y ≤ 1 := by
  obtain ⟨m, rfl⟩ : ∃ m : Nat, n = (m : Int) := ⟨n.toNat, by omega⟩
  obtain ⟨k, rfl⟩ : ∃ k : Nat, d = (k : Int) := ⟨d.toNat, by omega⟩
  have hg : Int.gcd (m : Int) (k : Int) = Nat.gcd m k := by simp
  have g0 : 0 < Nat.gcd m k := Nat.gcd_pos_of_pos_left _ (by omega)
  obtain ⟨x, hx⟩ := Nat.gcd_dvd_left m k
  obtain ⟨y, hy⟩ := Nat.gcd_dvd_right m k
  have hxd : m / Nat.gcd m k = x := by
    have h2 : Nat.gcd m k * x / Nat.gcd m k = x := Nat.mul_div_cancel_left _ g0
    rw [← hx] at h2
    exact h2
  have hyd : k / Nat.gcd m k = y := by
    have h2 : Nat.gcd m k * y / Nat.gcd m k = y := Nat.mul_div_cancel_left _ g0
    rw [← hy] at h2
    exact h2
  have hcop : Nat.gcd x y = 1 := by
    have h := Nat.gcd_mul_left (Nat.gcd m k) x y
    rw [← hx, ← hy] at h
    exact Nat.eq_of_mul_eq_mul_left g0 (by rw [Nat.mul_one]; exact h.symm)
  have x1 : 1 ≤ x := by
    rcases Nat.eq_zero_or_pos x with h | h
    · rw [h, Nat.mul_zero] at hx; omega
    · exact h
  have y1 : 1 ≤ y := by
    rcases Nat.eq_zero_or_pos y with h | h
    · rw [h, Nat.mul_zero] at hy; omega
    · exact h
  have xm : x ≤ m := by rw [← hxd]; exact Nat.div_le_self _ _
  have yk : y ≤ k := by rw [← hyd]; exact Nat.div_le_self _ _
  refine ⟨(Nat.gcd m k : Nat), (x : Nat), (y : Nat), ?_, by omega, by rw [← Int.natCast_mul]; congr 1; rw [Nat.mul_comm]; exact hx, by rw [← Int.natCast_mul]; congr 1; rw [Nat.mul_comm]; exact hy, by omega, by omega, by omega, by omega, by simp [hcop]⟩
  unfold newS
  have e1 : ((m : Int).natAbs : Int) / (Int.gcd (m : Int) (k : Int) : Int) = (x : Int) := by
    rw [hg, Int.natAbs_natCast, ← Int.natCast_ediv, hxd]
  have e2 : ((k : Int).natAbs : Int) / (Int.gcd (m : Int) (k : Int) : Int) = (y : Int) := by
    rw [hg, Int.natAbs_natCast, ← Int.natCast_ediv, hyd]
  rw [e1, e2, if_neg (by omega), if_neg (by omega), if_pos (by rw [decide_eq_decide]; omega)]
end Sp
end Go.Proofs.Ytmdaanigkhikfab
