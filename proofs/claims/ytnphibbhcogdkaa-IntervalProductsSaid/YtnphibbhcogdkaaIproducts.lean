/-
  IntervalProducts: the walk.
-/
import Derived.Test.YtnphibbhcogdkaaIawake
import Derived.Deep.DeepCutAuto
namespace Go.Proofs.Ytnphibbhcogdkaa
open Go.RowKit
set_option linter.unusedVariables false
set_option linter.unusedSimpArgs false

/-- The law's own closure: the floor of a quotient by the fraction's denominator, which it captured. -/
theorem cl_floor (v n d : Int) (k : Nat) (v0 : -1000000000000000 ≤ v) (v1 : v ≤ 1000000000000000) (d1 : 1 ≤ d) (d2 : d ≤ 1000000000000000) (W : World)
    (x0 : W.cell? ⟨k, 0, none⟩ = some (.int .i64 n)) (x1 : W.cell? ⟨k, 1, none⟩ = some (.int .i64 d)) :
    Calls Try.prog 70 #[.int .i64 v, .pointer (some ⟨k, 0, none⟩)] W fun e w' => e = .returned (.int .i64 (v / d)) ∧ w' = W := by
  rw [Sp.tdiv_floor (show 0 < d by omega)]
  have g : (d == 0) = false := by simp; omega
  obtain ⟨t, ht⟩ : ∃ t, v.tmod d = t := ⟨_, rfl⟩
  obtain ⟨q, hq⟩ : ∃ q, v.tdiv d = q := ⟨_, rfl⟩
  have qb : -1000000000000000 ≤ q ∧ q ≤ 1000000000000000 := by
    have e1 := Int.natAbs_tdiv v d
    have e2 := Nat.div_le_self v.natAbs d.natAbs
    rw [hq] at e1
    have e3 : q.natAbs ≤ v.natAbs := by rw [e1]; exact e2
    omega
  have q0 := qb.1
  have q1 := qb.2
  clear qb
  go_enter Try.func70, Try.ntmps70
  go_wp2_with fail
  all_goals
    go_ret
    exact ⟨rfl, rfl⟩
set_option maxHeartbeats 4000000 in
theorem products_out (a b n d x : Int) (w : World) (h : a < -1000000000 ∨ 1000000000 < b ∨ x < a ∨ b < x ∨ n < 0 ∨ 1000000 < n ∨ d < 1 ∨ 1000000000 < d) :
    Calls Try.prog 13 #[.agg #[.int .i64 a, .int .i64 b], .agg #[.int .i64 n, .int .i64 d], .int .i64 x] w (Gives (.bool true) w) := by
  rcases h with h | h | h | h | h | h | h | h
  all_goals
    go_enter Try.func13, Try.ntmps13
    go_wp2_with (first | (go_at_call 55; refine (iawake_any _).mono ?_; rintro e w1 ⟨rfl, hb⟩))
    all_goals
      go_ret
      exact Gives.mk rfl (by repeat' (first | (with_reducible exact Below.refl _ _) | (with_reducible refine Below.alloc ?_ ?_ _) | (with_reducible refine Below.setCell ?_ ?_ _) | (with_reducible refine Below.drew ?_) | (with_reducible refine Below.trans ?_ (Below.mono (by assumption) ?_)) | (simp; done) | (simp; omega) | omega))
set_option maxHeartbeats 4000000 in
theorem products_form (a b n d x : Int) (w : World) (a0 : -1000000000 ≤ a) (b0 : b ≤ 1000000000) (x0 : a ≤ x) (x1 : x ≤ b) (n0 : 0 ≤ n) (n1 : n ≤ 1000000) (d0 : 1 ≤ d) (d1 : d ≤ 1000000000)
    (sc : ∀ w : World, Calls Try.prog 56 #[.agg #[.int .i64 a, .int .i64 b], .agg #[.int .i64 n, .int .i64 d]] w (Gives (.tuple #[.agg #[.int .i64 0, .int .i64 0], .int .i64 3]) w)) :
    Calls Try.prog 13 #[.agg #[.int .i64 a, .int .i64 b], .agg #[.int .i64 n, .int .i64 d], .int .i64 x] w (Gives (.bool true) w) := by
  go_enter Try.func13, Try.ntmps13
  go_wp2_with fail
  refine (sc _).mono ?_; rintro e u1 ⟨rfl, hb⟩
  have BN : Below w.heap.size w u1 := by repeat' (first | (with_reducible exact Below.refl _ _) | (with_reducible refine Below.alloc ?_ ?_ _) | (with_reducible refine Below.setCell ?_ ?_ _) | (with_reducible refine Below.drew ?_) | (with_reducible refine Below.trans ?_ (Below.mono (by assumption) ?_)) | (simp; done) | (simp; omega) | omega)
  have hsz := BN.size
  have BH := hid BN
  clear hb BN
  go_wp2_with fail
  refine (iawake_any _).mono ?_; rintro e u2 ⟨rfl, hb⟩
  go_wp2_with fail
  go_ret
  have BB := BH.out
  exact Gives.mk rfl (by repeat' (first | (with_reducible exact Below.refl _ _) | (with_reducible refine Below.alloc ?_ ?_ _) | (with_reducible refine Below.setCell ?_ ?_ _) | (with_reducible refine Below.drew ?_) | (with_reducible refine Below.trans ?_ (Below.mono (by assumption) ?_)) | (simp; done) | (simp; omega) | omega))
end Go.Proofs.Ytnphibbhcogdkaa
