/-
  The functions of package wide, each by a contract.
-/
import Derived.Test.YtdimncchejbaaaaProg
import Derived.Test.YtdimncchejbaaaaWmath
import Derived.WalkKit
import Derived.Handy
namespace Go.Proofs.Ytdimncchejbaaaa
open Go.RowKit
set_option linter.unusedVariables false

theorem hid {p : Prop} (h : p) : Hid p := h
/-- A call answers a value and turns nothing that was there. -/
def Gives (v : Value) (w : World) (e : Ending) (w' : World) : Prop := e = .returned v ∧ Below w.heap.size w w'
theorem Gives.mk {v v' : Value} {w w' : World} (h : v = v') (b : Below w.heap.size w w') : Gives v w (.returned v') w' := ⟨by rw [h], b⟩
theorem i64_eq {a b : Int} (h : a = b) : Value.int .i64 a = .int .i64 b := by rw [h]
theorem u64_eq {a b : Int} (h : a = b) : Value.int .u64 a = .int .u64 b := by rw [h]
theorem agg_eq {a b : Bool} {c d e f : Int} (h : a = b) (h1 : c = d) (h2 : e = f) : Value.agg #[.bool a, .int .u64 c, .int .u64 e] = .agg #[.bool b, .int .u64 d, .int .u64 f] := by rw [h, h1, h2]
abbrev Wd.val (w : Wd) : Value := .agg #[.bool w.neg, .int .u64 w.hi, .int .u64 w.lo]
theorem ret_i64 {a b : Int} (h : a = b) : Ending.returned (.int .i64 a) = .returned (.int .i64 b) := by rw [h]
theorem ret_u64 {a b : Int} (h : a = b) : Ending.returned (.int .u64 a) = .returned (.int .u64 b) := by rw [h]

theorem check_any (n : Bool) (h l : Int) (w : World) :
    Calls Try.prog 107 #[.agg #[.bool n, .int .u64 h, .int .u64 l]] w fun e w' => e = .returned (.int .i64 (Wd.chk ⟨n, h, l⟩)) ∧ w' = w.alloc (Obj.cells #[.bool n, .int .u64 h, .int .u64 l] 114) := by
  go_enter Try.func107, Try.ntmps107
  go_wp2
  all_goals
    go_ret
    refine ⟨ret_i64 ?_, by simp [*]⟩
    simp [Wd.chk, *]
    try omega
theorem magnitude_any (a : Int) (h0 : -9223372036854775808 ≤ a) (h1 : a ≤ 9223372036854775807) (w : World) :
    Calls Try.prog 101 #[.int .i64 a] w fun e w' => e = .returned (.int .u64 (a.natAbs : Int)) ∧ w' = w := by
  by_cases c : a < 0
  · go_enter Try.func101, Try.ntmps101
    go_wp2
    go_ret
    refine ⟨ret_u64 ?_, rfl⟩
    rw [IntKind.wrap_u64, IntKind.wrap_u64]; omega
  · go_enter Try.func101, Try.ntmps101
    go_wp2
    go_ret
    refine ⟨ret_u64 ?_, rfl⟩
    omega
theorem or_zero {h l : Int} (h0 : 0 ≤ h) (h1 : h < 18446744073709551616) (l0 : 0 ≤ l) (l1 : l < 18446744073709551616) : (bits .or .u64 h l != 0) = !(decide (h = 0 ∧ l = 0)) := by
  obtain ⟨h, rfl⟩ := Int.eq_ofNat_of_zero_le h0
  obtain ⟨l, rfl⟩ := Int.eq_ofNat_of_zero_le l0
  rw [bits_or_u64_nat h l (by omega) (by omega)]
  rw [Bool.eq_iff_iff]
  simp [Nat.or_eq_zero_iff]; omega
theorem signed_any (n : Bool) (h l : Int) (h0 : 0 ≤ h) (h1 : h < 18446744073709551616) (l0 : 0 ≤ l) (l1 : l < 18446744073709551616) (s : Bool) (hs0 : Wd.mk' n h l = ⟨s, h, l⟩) (w : World) :
    Calls Try.prog 102 #[.bool n, .int .u64 h, .int .u64 l] w fun e w' => e = .returned (.agg #[.bool s, .int .u64 h, .int .u64 l]) ∧ w' = w.alloc (Obj.cells #[.bool s, .int .u64 h, .int .u64 l] 114) := by
  have hs : (n && !(decide (h = 0 ∧ l = 0))) = s := by
    unfold Wd.mk' at hs0
    exact (Wd.mk.inj hs0).1
  clear hs0
  have or : (bits .or .u64 h l != 0) = !(decide (h = 0 ∧ l = 0)) := or_zero h0 h1 l0 l1
  cases n
  · have S := hid hs
    clear hs or
    go_enter Try.func102, Try.ntmps102
    go_wp2
    have e : s = false := S.out.symm
    subst e
    go_returns
    exact ⟨rfl, rfl⟩
  · rw [← or, Bool.true_and] at hs
    clear or
    go_enter Try.func102, Try.ntmps102
    go_wp2
    go_returns
    exact ⟨rfl, rfl⟩
/-- limited, at what is not above the limit, and at what is. -/
theorem limited_any (s : Bool) (h l : Int) (h0 : 0 ≤ h) (h1 : h < 18446744073709551616) (l0 : 0 ≤ l) (l1 : l < 18446744073709551616) (n : Bool) (h' l' e : Int)
    (hv : Wd.lim (Wd.sv s (h * 18446744073709551616 + l)) = (⟨n, h', l'⟩, e)) (w : World) :
    Calls Try.prog 112 #[.bool s, .int .u64 h, .int .u64 l] w (Gives (.tuple #[.agg #[.bool n, .int .u64 h', .int .u64 l'], .int .i64 e]) w) := by
  by_cases c : 9223372036854775808 ≤ h
  · have hx : Wd.lim (Wd.sv s (h * 18446744073709551616 + l)) = (Wd.zero, 8) := by
      unfold Wd.lim Wd.sv
      rw [if_neg]
      split <;> omega
    rw [hx] at hv
    simp only [Prod.mk.injEq, Wd.zero, Wd.mk.injEq] at hv
    obtain ⟨⟨rfl, rfl, rfl⟩, rfl⟩ := hv
    clear hx
    go_enter Try.func112, Try.ntmps112
    go_wp2
    go_returns
    exact Gives.mk rfl (by go_grown)
  · have hx : Wd.lim (Wd.sv s (h * 18446744073709551616 + l)) = (Wd.mk' s h l, 0) := by
      rw [Wd.mk'_eq s h l h0 l0 l1]
      unfold Wd.lim Wd.sv
      rw [if_pos]
      split <;> omega
    rw [hx] at hv
    obtain ⟨e3, rfl⟩ := Prod.mk.inj hv
    obtain ⟨_, rfl, rfl⟩ := Wd.mk.inj e3
    have S := hid e3
    clear hx e3 hv
    go_enter Try.func112, Try.ntmps112
    go_wp2_with ((go_at_call 102; refine (signed_any _ _ _ h0 h1 l0 l1 n S.out _).mono ?_; rintro e w' ⟨rfl, rfl⟩))
    go_returns
    exact Gives.mk rfl (by go_grown)
end Go.Proofs.Ytdimncchejbaaaa
