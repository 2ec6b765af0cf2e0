/-
  Layer 6: data in memory; the small functions of the check, by contract.
-/
import Derived.Test.YtcjhgihkofmhgaaCwg
import Derived.Test.YtcjhgihkofmhgaaCv
import Derived.Deep.RegionHeld3
import Derived.Deep.DrawnRows
import Derived.IntWalk
namespace Go.Proofs.Ytcjhgihkofmhgaa
open Go.RowKit
set_option linter.unusedVariables false
set_option linter.unusedSimpArgs false

theorem isKind_any (k : Int) (w : World) :
    Calls Try.prog 50 #[.int .i64 k] w fun e w' => e = .returned (.bool (decide ((1 : Int) ≤ k ∧ k ≤ 3))) ∧ w = w' := by
  go_enter Try.func50, Try.ntmps50
  go_wp2
  all_goals
    go_ret
    refine ⟨ret_bool ?_, rfl⟩
    rw [Bool.eq_iff_iff]
    simp_all
    try omega
theorem beyond_any (i c : Nat) (w : World) :
    Calls Try.prog 52 #[.int .i64 (i : Int), .int .i64 (c : Int)] w fun e w' => e = .returned (.bool (decide (7 < i ∨ 500 < c))) ∧ w = w' := by
  go_enter Try.func52, Try.ntmps52
  go_wp2
  all_goals
    go_ret
    refine ⟨ret_bool ?_, rfl⟩
    rw [Bool.eq_iff_iff]
    simp_all
    try omega
theorem usesOnly_any (k n : Int) (s : ByteArray) (A : Option Addr) (m cap : Nat) (w : World) :
    Calls Try.prog 51 #[.agg #[.int .i64 k, .int .i64 n, .string s, .slice A m cap]] w (Gives (.bool (decide ((k = 1 ∨ n = 0) ∧ (k = 2 ∨ s.data.toList = []) ∧ (k = 3 ∨ m = 0)))) w) := by
  rw [← ByteArray.toList_eq]
  go_enter Try.func51, Try.ntmps51
  go_wp2
  all_goals
    go_ret
    refine Gives.mk (bool_eq ?_) (by repeat' (first | (with_reducible exact Below.refl _ _) | (with_reducible refine Below.alloc ?_ ?_ _) | (with_reducible refine Below.setCell ?_ ?_ _) | (with_reducible refine Below.drew ?_) | (with_reducible refine Below.trans ?_ (Below.mono (by assumption) ?_)) | (simp; done) | (simp; omega) | omega))
    rw [Bool.eq_iff_iff]
    simp_all
    try omega
set_option maxHeartbeats 1000000 in
theorem form_any (k n : Int) (s : ByteArray) (A : Option Addr) (m cap : Nat) (w : World) :
    Calls Try.prog 54 #[.agg #[.int .i64 k, .int .i64 n, .string s, .slice A m cap]] w (Gives (.int .i64 (if ¬ ((1 : Int) ≤ k ∧ k ≤ 3) then 1 else if ¬ ((k = 1 ∨ n = 0) ∧ (k = 2 ∨ s.data.toList = []) ∧ (k = 3 ∨ m = 0)) then 3 else 0)) w) := by
  rw [← ByteArray.toList_eq]
  by_cases hk : (1 : Int) ≤ k ∧ k ≤ 3
  · rw [if_neg (by simpa using hk)]
    have h3 : k = 1 ∨ k = 2 ∨ k = 3 := by omega
    clear hk
    obtain ⟨r, hr⟩ : ∃ r : Int, (if ¬ ((k = 1 ∨ n = 0) ∧ (k = 2 ∨ s.toList = []) ∧ (k = 3 ∨ m = 0)) then (3 : Int) else 0) = r := ⟨_, rfl⟩
    rw [hr]
    have HR := hid hr
    clear hr
    rcases h3 with rfl | rfl | rfl
    all_goals
      go_enter Try.func54, Try.ntmps54
      go_wp2
      all_goals
        go_ret
        refine Gives.mk (i64_eq ?_) (by repeat' (first | (with_reducible exact Below.refl _ _) | (with_reducible refine Below.alloc ?_ ?_ _) | (with_reducible refine Below.setCell ?_ ?_ _) | (with_reducible refine Below.drew ?_) | (with_reducible refine Below.trans ?_ (Below.mono (by assumption) ?_)) | (simp; done) | (simp; omega) | omega))
        have hr := HR.out
        clear HR
        rw [← hr]
        first
          | (rw [if_neg (by simp_all; try omega)]; done)
          | (rw [if_pos (by simp_all; try omega)]; done)
  · rw [if_pos hk]
    by_cases h1 : k < 1
    · clear hk
      go_enter Try.func54, Try.ntmps54
      go_wp2
      go_ret
      exact Gives.mk rfl (by repeat' (first | (with_reducible exact Below.refl _ _) | (with_reducible refine Below.alloc ?_ ?_ _) | (with_reducible refine Below.setCell ?_ ?_ _) | (with_reducible refine Below.drew ?_) | (with_reducible refine Below.trans ?_ (Below.mono (by assumption) ?_)) | (simp; done) | (simp; omega) | omega))
    · have h2 : 3 < k := by omega
      clear hk
      go_enter Try.func54, Try.ntmps54
      go_wp2
      go_ret
      exact Gives.mk rfl (by repeat' (first | (with_reducible exact Below.refl _ _) | (with_reducible refine Below.alloc ?_ ?_ _) | (with_reducible refine Below.setCell ?_ ?_ _) | (with_reducible refine Below.drew ?_) | (with_reducible refine Below.trans ?_ (Below.mono (by assumption) ?_)) | (simp; done) | (simp; omega) | omega))
set_option maxHeartbeats 1000000 in
theorem ownSize_any (k n : Int) (s : ByteArray) (A : Option Addr) (m cap : Nat) (hn0 : -9223372036854775808 ≤ n) (hn1 : n ≤ 9223372036854775807) (hs : s.size ≤ 140737488355328) (hm : m ≤ 140737488355328) (w : World) :
    Calls Try.prog 53 #[.agg #[.int .i64 k, .int .i64 n, .string s, .slice A m cap]] w (Gives (.int .i64 (1 + (Sp.putS (if k = 2 then s.size else if k = 3 then m else n)).length + s.size)) w) := by
  obtain ⟨x, hx⟩ : ∃ x : Int, (if k = 2 then (s.size : Int) else if k = 3 then m else n) = x := ⟨_, rfl⟩
  have x0 : -9223372036854775808 ≤ x := by rw [← hx]; split <;> (try split) <;> omega
  have x1 : x ≤ 9223372036854775807 := by rw [← hx]; split <;> (try split) <;> omega
  have pl := Sp.putS_len x
  have pu := fun w => putInt_any x x0 x1 w
  rw [hx]
  have hs' : (s.size : Int) ≤ 140737488355328 := by omega
  have three : ((k == 2) = true ∧ (s.size : Int) = x) ∨ ((k == 2) = false ∧ (k == 3) = true ∧ (m : Int) = x) ∨ ((k == 2) = false ∧ (k == 3) = false ∧ n = x) := by
    by_cases k2 : k = 2
    · rw [if_pos k2] at hx; exact .inl ⟨by simpa using k2, hx⟩
    · rw [if_neg k2] at hx
      by_cases k3 : k = 3
      · rw [if_pos k3] at hx; exact .inr (.inl ⟨by simpa using k2, by simpa using k3, hx⟩)
      · rw [if_neg k3] at hx; exact .inr (.inr ⟨by simpa using k2, by simpa using k3, hx⟩)
  obtain ⟨y, hy⟩ : ∃ y, (Sp.putS x).length = y := ⟨_, rfl⟩
  rw [hy] at pl ⊢
  have HY := hid hy
  have wr1 : IntKind.i64.wrap (1 + (y : Int)) = 1 + (y : Int) := IntWalk.i64_in _ (by omega)
  have wr2 : IntKind.i64.wrap (1 + (y : Int) + (s.size : Int)) = 1 + (y : Int) + (s.size : Int) := IntWalk.i64_in _ (by omega)
  clear hx hs hm hn0 hn1 x0 x1 hy
  rcases three with ⟨k2, rfl⟩ | ⟨k2, k3, rfl⟩ | ⟨k2, k3, rfl⟩
  all_goals
    go_enter Try.func53, Try.ntmps53
    go_wp2_with fail
    have K : Hid (∀ W', Below (w.heap.size + 1) (w.alloc (Obj.cells #[.int .i64 k, .int .i64 n, .string s, .slice A m cap] 34)) W' → (Below (w.heap.size + 1) (w.alloc (Obj.cells #[.int .i64 k, .int .i64 n, .string s, .slice A m cap] 34)) W' ∧ W'.cell? ⟨w.heap.size, 2, none⟩ = some (.string s))) := hid fun W' B =>
      ⟨B, (B.cell (p := ⟨w.heap.size, 2, none⟩) (by simp)).trans (by simp [go_sem])⟩
    go_region_held3 (fun w' => Below (w.heap.size + 1) (w.alloc (Obj.cells #[.int .i64 k, .int .i64 n, .string s, .slice A m cap] 34)) w' ∧ w'.cell? ⟨w.heap.size, 2, none⟩ = some (.string s)) ((exact K.out _ (by repeat' (first | (with_reducible exact Below.refl _ _) | (with_reducible refine Below.alloc ?_ ?_ _) | (with_reducible refine Below.setCell ?_ ?_ _) | (with_reducible refine Below.drew ?_) | (with_reducible refine Below.trans ?_ (Below.mono (by assumption) ?_)) | (simp; done) | (simp; omega) | omega))))
      (first | (go_at_call 17; refine (pu _).mono ?_; rintro e w1 ⟨v', rfl, how, hb⟩; obtain ⟨A2, cap2, rfl, _, _⟩ := how.form; rw [HY.out]))
    all_goals
      go_wp2
      go_ret
      exact Gives.mk rfl (by repeat' (first | (with_reducible exact Below.refl _ _) | (with_reducible refine Below.alloc ?_ ?_ _) | (with_reducible refine Below.setCell ?_ ?_ _) | (with_reducible refine Below.drew ?_) | (with_reducible refine below_dn ?_ _) | (with_reducible refine Below.trans ?_ (Below.mono (by assumption) ?_)) | (simp; done) | (simp; omega) | omega))
end Go.Proofs.Ytcjhgihkofmhgaa
