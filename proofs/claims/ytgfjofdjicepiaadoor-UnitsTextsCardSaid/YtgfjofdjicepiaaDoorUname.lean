/-
  Package units: Name and Decimals, over the table of the kinds.
-/
import Derived.Test.YtgfjofdjicepiaaDoorUround
import Derived.Test.YtgfjofdjicepiaaDoorUm
import Derived.Test.YtgfjofdjicepiaaDoorFtext2
namespace Go.Proofs.YtgfjofdjicepiaaDoor
open Go.RowKit
set_option linter.unusedVariables false
set_option linter.unusedSimpArgs false
/-- The table of the kinds lies in memory. -/
def KI (w : World) : Prop := 0 < w.heap.size ∧ ∀ k : Nat, 1 ≤ k → k ≤ 5 → w.cell? ⟨0, 2 * k, none⟩ = some (.string ⟨(Sp.unitL k).toArray⟩) ∧ w.cell? ⟨0, 2 * k + 1, none⟩ = some (.int .i64 (Sp.decK k))
theorem KI.below {w w' : World} (K : KI w) (h : Below w.heap.size w w') : KI w' :=
  ⟨Nat.lt_of_lt_of_le K.1 h.size, fun k h1 h2 => ⟨(h.cell (p := ⟨0, 2 * k, none⟩) K.1).trans (K.2 k h1 h2).1, (h.cell (p := ⟨0, 2 * k + 1, none⟩) K.1).trans (K.2 k h1 h2).2⟩⟩

theorem uname_bad (k : Int) (h : ¬ (1 ≤ k ∧ k ≤ 5)) (w : World) : Calls Tryd.prog 11 #[.int .i64 k] w (Gives (.tuple #[.string ⟨#[]⟩, .int .i64 1]) w) := by
  have kn := fun w => uknown_any k w
  rw [decide_eq_false h] at kn
  clear h
  go_enter Tryd.func11, Tryd.ntmps11
  go_wp2_with fail
  refine (kn _).mono ?_; rintro _ w1 ⟨rfl, hb⟩
  go_wp2_with fail
  go_ret2
  exact Gives.mk rfl (by repeat' (first | (with_reducible exact Below.refl _ _) | (with_reducible refine Below.alloc ?_ ?_ _) | (with_reducible refine Below.setCell ?_ ?_ _) | (with_reducible refine Below.drew ?_) | (with_reducible refine Below.trans ?_ (Below.mono (by assumption) ?_)) | (simp; done) | (simp; omega) | omega))

theorem uname_1 (w : World) (K : KI w) : Calls Tryd.prog 11 #[.int .i64 1] w (Gives (.tuple #[.string ⟨#[109]⟩, .int .i64 0]) w) := by
  have kn := fun w => uknown_any 1 w
  rw [decide_eq_true (by omega)] at kn
  go_enter Tryd.func11, Tryd.ntmps11
  go_wp2_with fail
  refine (kn _).mono ?_; rintro _ w1 ⟨rfl, hb⟩
  have c0 : w1.cell? ⟨0, 2, none⟩ = some (.string ⟨#[109]⟩) := ((K.below hb).2 1 (by omega) (by omega)).1
  go_wp2_with fail
  go_ret2
  exact Gives.mk rfl (by repeat' (first | (with_reducible exact Below.refl _ _) | (with_reducible refine Below.alloc ?_ ?_ _) | (with_reducible refine Below.setCell ?_ ?_ _) | (with_reducible refine Below.drew ?_) | (with_reducible refine Below.trans ?_ (Below.mono (by assumption) ?_)) | (simp; done) | (simp; omega) | omega))

theorem uname_2 (w : World) (K : KI w) : Calls Tryd.prog 11 #[.int .i64 2] w (Gives (.tuple #[.string ⟨#[99, 109]⟩, .int .i64 0]) w) := by
  have kn := fun w => uknown_any 2 w
  rw [decide_eq_true (by omega)] at kn
  go_enter Tryd.func11, Tryd.ntmps11
  go_wp2_with fail
  refine (kn _).mono ?_; rintro _ w1 ⟨rfl, hb⟩
  have c0 : w1.cell? ⟨0, 4, none⟩ = some (.string ⟨#[99, 109]⟩) := ((K.below hb).2 2 (by omega) (by omega)).1
  go_wp2_with fail
  go_ret2
  exact Gives.mk rfl (by repeat' (first | (with_reducible exact Below.refl _ _) | (with_reducible refine Below.alloc ?_ ?_ _) | (with_reducible refine Below.setCell ?_ ?_ _) | (with_reducible refine Below.drew ?_) | (with_reducible refine Below.trans ?_ (Below.mono (by assumption) ?_)) | (simp; done) | (simp; omega) | omega))

theorem uname_3 (w : World) (K : KI w) : Calls Tryd.prog 11 #[.int .i64 3] w (Gives (.tuple #[.string ⟨#[109, 51]⟩, .int .i64 0]) w) := by
  have kn := fun w => uknown_any 3 w
  rw [decide_eq_true (by omega)] at kn
  go_enter Tryd.func11, Tryd.ntmps11
  go_wp2_with fail
  refine (kn _).mono ?_; rintro _ w1 ⟨rfl, hb⟩
  have c0 : w1.cell? ⟨0, 6, none⟩ = some (.string ⟨#[109, 51]⟩) := ((K.below hb).2 3 (by omega) (by omega)).1
  go_wp2_with fail
  go_ret2
  exact Gives.mk rfl (by repeat' (first | (with_reducible exact Below.refl _ _) | (with_reducible refine Below.alloc ?_ ?_ _) | (with_reducible refine Below.setCell ?_ ?_ _) | (with_reducible refine Below.drew ?_) | (with_reducible refine Below.trans ?_ (Below.mono (by assumption) ?_)) | (simp; done) | (simp; omega) | omega))

theorem uname_4 (w : World) (K : KI w) : Calls Tryd.prog 11 #[.int .i64 4] w (Gives (.tuple #[.string ⟨#[116]⟩, .int .i64 0]) w) := by
  have kn := fun w => uknown_any 4 w
  rw [decide_eq_true (by omega)] at kn
  go_enter Tryd.func11, Tryd.ntmps11
  go_wp2_with fail
  refine (kn _).mono ?_; rintro _ w1 ⟨rfl, hb⟩
  have c0 : w1.cell? ⟨0, 8, none⟩ = some (.string ⟨#[116]⟩) := ((K.below hb).2 4 (by omega) (by omega)).1
  go_wp2_with fail
  go_ret2
  exact Gives.mk rfl (by repeat' (first | (with_reducible exact Below.refl _ _) | (with_reducible refine Below.alloc ?_ ?_ _) | (with_reducible refine Below.setCell ?_ ?_ _) | (with_reducible refine Below.drew ?_) | (with_reducible refine Below.trans ?_ (Below.mono (by assumption) ?_)) | (simp; done) | (simp; omega) | omega))

theorem uname_5 (w : World) (K : KI w) : Calls Tryd.prog 11 #[.int .i64 5] w (Gives (.tuple #[.string ⟨#[107, 114]⟩, .int .i64 0]) w) := by
  have kn := fun w => uknown_any 5 w
  rw [decide_eq_true (by omega)] at kn
  go_enter Tryd.func11, Tryd.ntmps11
  go_wp2_with fail
  refine (kn _).mono ?_; rintro _ w1 ⟨rfl, hb⟩
  have c0 : w1.cell? ⟨0, 10, none⟩ = some (.string ⟨#[107, 114]⟩) := ((K.below hb).2 5 (by omega) (by omega)).1
  go_wp2_with fail
  go_ret2
  exact Gives.mk rfl (by repeat' (first | (with_reducible exact Below.refl _ _) | (with_reducible refine Below.alloc ?_ ?_ _) | (with_reducible refine Below.setCell ?_ ?_ _) | (with_reducible refine Below.drew ?_) | (with_reducible refine Below.trans ?_ (Below.mono (by assumption) ?_)) | (simp; done) | (simp; omega) | omega))

theorem uname_any (k : Int) (w : World) (K : KI w) : Calls Tryd.prog 11 #[.int .i64 k] w (Gives (.tuple #[.string ⟨(Sp.nameS k).1.toArray⟩, .int .i64 (Sp.nameS k).2]) w) := by
  by_cases h : 1 ≤ k ∧ k ≤ 5
  · have hc : k = 1 ∨ k = 2 ∨ k = 3 ∨ k = 4 ∨ k = 5 := by omega
    rcases hc with rfl | rfl | rfl | rfl | rfl
    · exact uname_1 w K
    · exact uname_2 w K
    · exact uname_3 w K
    · exact uname_4 w K
    · exact uname_5 w K
  · have e : Sp.nameS k = ([], 1) := by unfold Sp.nameS; rw [if_neg h]
    rw [e]
    exact uname_bad k h w

theorem udec_bad (k : Int) (h : ¬ (1 ≤ k ∧ k ≤ 5)) (w : World) : Calls Tryd.prog 13 #[.int .i64 k] w (Gives (.tuple #[.int .i64 0, .int .i64 1]) w) := by
  have kn := fun w => uknown_any k w
  rw [decide_eq_false h] at kn
  clear h
  go_enter Tryd.func13, Tryd.ntmps13
  go_wp2_with fail
  refine (kn _).mono ?_; rintro _ w1 ⟨rfl, hb⟩
  go_wp2_with fail
  go_ret2
  exact Gives.mk rfl (by repeat' (first | (with_reducible exact Below.refl _ _) | (with_reducible refine Below.alloc ?_ ?_ _) | (with_reducible refine Below.setCell ?_ ?_ _) | (with_reducible refine Below.drew ?_) | (with_reducible refine Below.trans ?_ (Below.mono (by assumption) ?_)) | (simp; done) | (simp; omega) | omega))

theorem udec_1 (w : World) (K : KI w) : Calls Tryd.prog 13 #[.int .i64 1] w (Gives (.tuple #[.int .i64 1, .int .i64 0]) w) := by
  have kn := fun w => uknown_any 1 w
  rw [decide_eq_true (by omega)] at kn
  go_enter Tryd.func13, Tryd.ntmps13
  go_wp2_with fail
  refine (kn _).mono ?_; rintro _ w1 ⟨rfl, hb⟩
  have c0 : w1.cell? ⟨0, 3, none⟩ = some (.int .i64 1) := ((K.below hb).2 1 (by omega) (by omega)).2
  go_wp2_with fail
  go_ret2
  exact Gives.mk rfl (by repeat' (first | (with_reducible exact Below.refl _ _) | (with_reducible refine Below.alloc ?_ ?_ _) | (with_reducible refine Below.setCell ?_ ?_ _) | (with_reducible refine Below.drew ?_) | (with_reducible refine Below.trans ?_ (Below.mono (by assumption) ?_)) | (simp; done) | (simp; omega) | omega))

theorem udec_2 (w : World) (K : KI w) : Calls Tryd.prog 13 #[.int .i64 2] w (Gives (.tuple #[.int .i64 1, .int .i64 0]) w) := by
  have kn := fun w => uknown_any 2 w
  rw [decide_eq_true (by omega)] at kn
  go_enter Tryd.func13, Tryd.ntmps13
  go_wp2_with fail
  refine (kn _).mono ?_; rintro _ w1 ⟨rfl, hb⟩
  have c0 : w1.cell? ⟨0, 5, none⟩ = some (.int .i64 1) := ((K.below hb).2 2 (by omega) (by omega)).2
  go_wp2_with fail
  go_ret2
  exact Gives.mk rfl (by repeat' (first | (with_reducible exact Below.refl _ _) | (with_reducible refine Below.alloc ?_ ?_ _) | (with_reducible refine Below.setCell ?_ ?_ _) | (with_reducible refine Below.drew ?_) | (with_reducible refine Below.trans ?_ (Below.mono (by assumption) ?_)) | (simp; done) | (simp; omega) | omega))

theorem udec_3 (w : World) (K : KI w) : Calls Tryd.prog 13 #[.int .i64 3] w (Gives (.tuple #[.int .i64 3, .int .i64 0]) w) := by
  have kn := fun w => uknown_any 3 w
  rw [decide_eq_true (by omega)] at kn
  go_enter Tryd.func13, Tryd.ntmps13
  go_wp2_with fail
  refine (kn _).mono ?_; rintro _ w1 ⟨rfl, hb⟩
  have c0 : w1.cell? ⟨0, 7, none⟩ = some (.int .i64 3) := ((K.below hb).2 3 (by omega) (by omega)).2
  go_wp2_with fail
  go_ret2
  exact Gives.mk rfl (by repeat' (first | (with_reducible exact Below.refl _ _) | (with_reducible refine Below.alloc ?_ ?_ _) | (with_reducible refine Below.setCell ?_ ?_ _) | (with_reducible refine Below.drew ?_) | (with_reducible refine Below.trans ?_ (Below.mono (by assumption) ?_)) | (simp; done) | (simp; omega) | omega))

theorem udec_4 (w : World) (K : KI w) : Calls Tryd.prog 13 #[.int .i64 4] w (Gives (.tuple #[.int .i64 3, .int .i64 0]) w) := by
  have kn := fun w => uknown_any 4 w
  rw [decide_eq_true (by omega)] at kn
  go_enter Tryd.func13, Tryd.ntmps13
  go_wp2_with fail
  refine (kn _).mono ?_; rintro _ w1 ⟨rfl, hb⟩
  have c0 : w1.cell? ⟨0, 9, none⟩ = some (.int .i64 3) := ((K.below hb).2 4 (by omega) (by omega)).2
  go_wp2_with fail
  go_ret2
  exact Gives.mk rfl (by repeat' (first | (with_reducible exact Below.refl _ _) | (with_reducible refine Below.alloc ?_ ?_ _) | (with_reducible refine Below.setCell ?_ ?_ _) | (with_reducible refine Below.drew ?_) | (with_reducible refine Below.trans ?_ (Below.mono (by assumption) ?_)) | (simp; done) | (simp; omega) | omega))

theorem udec_5 (w : World) (K : KI w) : Calls Tryd.prog 13 #[.int .i64 5] w (Gives (.tuple #[.int .i64 2, .int .i64 0]) w) := by
  have kn := fun w => uknown_any 5 w
  rw [decide_eq_true (by omega)] at kn
  go_enter Tryd.func13, Tryd.ntmps13
  go_wp2_with fail
  refine (kn _).mono ?_; rintro _ w1 ⟨rfl, hb⟩
  have c0 : w1.cell? ⟨0, 11, none⟩ = some (.int .i64 2) := ((K.below hb).2 5 (by omega) (by omega)).2
  go_wp2_with fail
  go_ret2
  exact Gives.mk rfl (by repeat' (first | (with_reducible exact Below.refl _ _) | (with_reducible refine Below.alloc ?_ ?_ _) | (with_reducible refine Below.setCell ?_ ?_ _) | (with_reducible refine Below.drew ?_) | (with_reducible refine Below.trans ?_ (Below.mono (by assumption) ?_)) | (simp; done) | (simp; omega) | omega))

theorem udec_any (k : Int) (w : World) (K : KI w) : Calls Tryd.prog 13 #[.int .i64 k] w (Gives (.tuple #[.int .i64 (Sp.decS k).1, .int .i64 (Sp.decS k).2]) w) := by
  by_cases h : 1 ≤ k ∧ k ≤ 5
  · have hc : k = 1 ∨ k = 2 ∨ k = 3 ∨ k = 4 ∨ k = 5 := by omega
    rcases hc with rfl | rfl | rfl | rfl | rfl
    · exact udec_1 w K
    · exact udec_2 w K
    · exact udec_3 w K
    · exact udec_4 w K
    · exact udec_5 w K
  · have e : Sp.decS k = (0, 1) := by unfold Sp.decS; rw [if_neg h]
    rw [e]
    exact udec_bad k h w

theorem rname_any (k : Int) (w : World) : Calls Tryd.prog 12 #[.int .i64 k] w (Gives (.tuple #[.string ⟨(Sp.nameS k).1.toArray⟩, .int .i64 (Sp.nameS k).2]) w) := by
  by_cases h : 1 ≤ k ∧ k ≤ 5
  · have hc : k = 1 ∨ k = 2 ∨ k = 3 ∨ k = 4 ∨ k = 5 := by omega
    rcases hc with rfl | rfl | rfl | rfl | rfl
    all_goals
      go_enter Tryd.func12, Tryd.ntmps12
      go_wp2_with fail
      go_ret2
      exact Gives.mk rfl (by repeat' (first | (with_reducible exact Below.refl _ _) | (with_reducible refine Below.alloc ?_ ?_ _) | (with_reducible refine Below.setCell ?_ ?_ _) | (with_reducible refine Below.drew ?_) | (with_reducible refine Below.trans ?_ (Below.mono (by assumption) ?_)) | (simp; done) | (simp; omega) | omega))
  · have e : Sp.nameS k = ([], 1) := by unfold Sp.nameS; rw [if_neg h]
    rw [e]
    have g1 : (k == 1) = false := by simp; omega
    have g2 : (k == 2) = false := by simp; omega
    have g3 : (k == 3) = false := by simp; omega
    have g4 : (k == 4) = false := by simp; omega
    have g5 : (k == 5) = false := by simp; omega
    clear h e
    go_enter Tryd.func12, Tryd.ntmps12
    go_wp2_with fail
    go_ret2
    exact Gives.mk rfl (by repeat' (first | (with_reducible exact Below.refl _ _) | (with_reducible refine Below.alloc ?_ ?_ _) | (with_reducible refine Below.setCell ?_ ?_ _) | (with_reducible refine Below.drew ?_) | (with_reducible refine Below.trans ?_ (Below.mono (by assumption) ?_)) | (simp; done) | (simp; omega) | omega))

theorem rdec_any (k : Int) (w : World) : Calls Tryd.prog 14 #[.int .i64 k] w (Gives (.tuple #[.int .i64 (Sp.decS k).1, .int .i64 (Sp.decS k).2]) w) := by
  by_cases h : 1 ≤ k ∧ k ≤ 5
  · have hc : k = 1 ∨ k = 2 ∨ k = 3 ∨ k = 4 ∨ k = 5 := by omega
    rcases hc with rfl | rfl | rfl | rfl | rfl
    all_goals
      go_enter Tryd.func14, Tryd.ntmps14
      go_wp2_with fail
      go_ret2
      exact Gives.mk rfl (by repeat' (first | (with_reducible exact Below.refl _ _) | (with_reducible refine Below.alloc ?_ ?_ _) | (with_reducible refine Below.setCell ?_ ?_ _) | (with_reducible refine Below.drew ?_) | (with_reducible refine Below.trans ?_ (Below.mono (by assumption) ?_)) | (simp; done) | (simp; omega) | omega))
  · have e : Sp.decS k = (0, 1) := by unfold Sp.decS; rw [if_neg h]
    rw [e]
    have g1 : (k == 1) = false := by simp; omega
    have g2 : (k == 2) = false := by simp; omega
    have g3 : (k == 3) = false := by simp; omega
    have g4 : (k == 4) = false := by simp; omega
    have g5 : (k == 5) = false := by simp; omega
    clear h e
    go_enter Tryd.func14, Tryd.ntmps14
    go_wp2_with fail
    go_ret2
    exact Gives.mk rfl (by repeat' (first | (with_reducible exact Below.refl _ _) | (with_reducible refine Below.alloc ?_ ?_ _) | (with_reducible refine Below.setCell ?_ ?_ _) | (with_reducible refine Below.drew ?_) | (with_reducible refine Below.trans ?_ (Below.mono (by assumption) ?_)) | (simp; done) | (simp; omega) | omega))

end Go.Proofs.YtgfjofdjicepiaaDoor
