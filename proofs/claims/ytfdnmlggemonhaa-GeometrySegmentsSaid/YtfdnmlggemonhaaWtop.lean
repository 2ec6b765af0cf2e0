/-
  The exported functions of package wide, each by a contract.
-/
import Derived.Test.YtfdnmlggemonhaaWsum
import Derived.Test.YtfdnmlggemonhaaWdiv
namespace Go.Proofs.Ytfdnmlggemonhaa
open Go.RowKit
set_option linter.unusedVariables false

/-- What is valid, of the halves alone. -/
theorem chk_of {n : Bool} {h l : Int} (hc : Wd.chk ⟨n, h, l⟩ = 0) : h < 9223372036854775808 := by
  unfold Wd.chk at hc
  apply Int.lt_of_not_ge
  intro hx
  rw [if_pos hx] at hc
  omega
/-- firstError of two integers. -/
theorem firstError_two (n1 n2 : Bool) (h1 l1 h2 l2 c d : Int) (b : Nat) (w : World)
    (hb : b < w.heap.size) (hc : Wd.chk ⟨n1, h1, l1⟩ = c) (hd : (if c ≠ 0 then c else Wd.chk ⟨n2, h2, l2⟩) = d)
    (x0 : w.cell? ⟨b, 0, none⟩ = some (.bool n1)) (x1 : w.cell? ⟨b, 1, none⟩ = some (.int .u64 h1)) (x2 : w.cell? ⟨b, 2, none⟩ = some (.int .u64 l1))
    (y0 : w.cell? ⟨b, 3, none⟩ = some (.bool n2)) (y1 : w.cell? ⟨b, 4, none⟩ = some (.int .u64 h2)) (y2 : w.cell? ⟨b, 5, none⟩ = some (.int .u64 l2)) :
    Calls Try.prog 87 #[.slice (some ⟨b, 0, none⟩) 2 2] w (Gives (.int .i64 d) w) := by
  have e0 : ¬ b = w.heap.size := by omega
  have e1 : ¬ b = w.heap.size + 1 := by omega
  have e2 : ¬ b = w.heap.size + 1 + 1 := by omega
  have e3 : ¬ b = w.heap.size + 1 + 1 + 1 := by omega
  by_cases c0 : c = 0
  · subst c0
    simp only [ne_eq, not_true_eq_false, if_false] at hd
    by_cases d0 : d = 0
    · subst d0
      go_enter Try.func87, Try.ntmps87
      go_wp2
      refine wp_loop_rounds 3 ?_
      repeat any_goals (rw [rounds_succ]; go_wp2_with ((go_at_call 100; refine (check_any _ _ _ _).mono ?_; rintro e w' ⟨rfl, rfl⟩)))
      go_ret
      exact Gives.mk rfl (by repeat' (first | (with_reducible exact Below.refl _ _) | (with_reducible refine Below.alloc ?_ ?_ _) | (with_reducible refine Below.setCell ?_ ?_ _) | (with_reducible refine Below.drew ?_) | (with_reducible refine Below.trans ?_ (Below.mono (by assumption) ?_)) | (simp; done) | (simp; omega) | omega))
    · go_enter Try.func87, Try.ntmps87
      go_wp2
      refine wp_loop_rounds 3 ?_
      repeat any_goals (rw [rounds_succ]; go_wp2_with ((go_at_call 100; refine (check_any _ _ _ _).mono ?_; rintro e w' ⟨rfl, rfl⟩)))
      go_ret
      exact Gives.mk rfl (by repeat' (first | (with_reducible exact Below.refl _ _) | (with_reducible refine Below.alloc ?_ ?_ _) | (with_reducible refine Below.setCell ?_ ?_ _) | (with_reducible refine Below.drew ?_) | (with_reducible refine Below.trans ?_ (Below.mono (by assumption) ?_)) | (simp; done) | (simp; omega) | omega))
  · simp only [ne_eq, c0, not_false_eq_true, if_true] at hd
    subst hd
    go_enter Try.func87, Try.ntmps87
    go_wp2
    refine wp_loop_rounds 3 ?_
    repeat any_goals (rw [rounds_succ]; go_wp2_with ((go_at_call 100; refine (check_any _ _ _ _).mono ?_; rintro e w' ⟨rfl, rfl⟩)))
    go_ret
    exact Gives.mk rfl (by repeat' (first | (with_reducible exact Below.refl _ _) | (with_reducible refine Below.alloc ?_ ?_ _) | (with_reducible refine Below.setCell ?_ ?_ _) | (with_reducible refine Below.drew ?_) | (with_reducible refine Below.trans ?_ (Below.mono (by assumption) ?_)) | (simp; done) | (simp; omega) | omega))

end Go.Proofs.Ytfdnmlggemonhaa
