/-
  UnitsCalendar: the walk.
-/
import Derived.Test.YtgfjofdjicepiaaDoorUawake
import Derived.Test.YtgfjofdjicepiaaDoorUkinds
import Derived.Test.YtgfjofdjicepiaaDoorUmb
namespace Go.Proofs.YtgfjofdjicepiaaDoor
open Go.RowKit
set_option linter.unusedVariables false
set_option linter.unusedSimpArgs false
set_option maxRecDepth 100000 in
set_option maxHeartbeats 2000000 in
theorem ucal_bad (k : Int) (hk : k < 0 ∨ 100000 < k) (w : World) (da : ∀ W, Below w.heap.size w W → Calls Tryd.prog 29 #[.int .i64 k] W (Gives (.tuple #[.string ⟨#[]⟩, .int .i64 2]) W))
    (aw : ∀ W, Below w.heap.size w W → Calls Tryd.prog 17 #[] W (Gives (.bool true) W)) :
    Calls Tryd.prog 10 #[.int .i64 k] w (Gives (.bool true) w) := by
  rcases Int.lt_or_le k 0 with h | h
  · have k1 : decide (k < 0) = true := decide_eq_true h
    go_enter Tryd.func10, Tryd.ntmps10
    go_wp2_with fail
    refine (da _ (Below.refl _ _)).mono ?_; rintro _ w1 ⟨rfl, hb⟩
    have B1 : Below w.heap.size w w1 := by repeat' (first | (with_reducible exact Below.refl _ _) | (with_reducible refine Below.alloc ?_ ?_ _) | (with_reducible refine Below.setCell ?_ ?_ _) | (with_reducible refine Below.drew ?_) | (with_reducible refine Below.trans ?_ (Below.mono (by assumption) ?_)) | (simp; done) | (simp; omega) | omega)
    clear hb
    go_wp2_with fail
    refine (aw _ B1).mono ?_; rintro _ w2 ⟨rfl, hb⟩
    have B2 : Below w.heap.size w w2 := B1.trans (hb.mono B1.size)
    clear hb
    go_wp2_with fail
    go_ret
    exact Gives.mk rfl B2
  · have k1 : decide (k < 0) = false := decide_eq_false (by omega)
    have k2 : decide (100000 < k) = true := decide_eq_true (by omega)
    go_enter Tryd.func10, Tryd.ntmps10
    go_wp2_with fail
    refine (da _ (Below.refl _ _)).mono ?_; rintro _ w1 ⟨rfl, hb⟩
    have B1 : Below w.heap.size w w1 := by repeat' (first | (with_reducible exact Below.refl _ _) | (with_reducible refine Below.alloc ?_ ?_ _) | (with_reducible refine Below.setCell ?_ ?_ _) | (with_reducible refine Below.drew ?_) | (with_reducible refine Below.trans ?_ (Below.mono (by assumption) ?_)) | (simp; done) | (simp; omega) | omega)
    clear hb
    go_wp2_with fail
    refine (aw _ B1).mono ?_; rintro _ w2 ⟨rfl, hb⟩
    have B2 : Below w.heap.size w w2 := B1.trans (hb.mono B1.size)
    clear hb
    go_wp2_with fail
    go_ret
    exact Gives.mk rfl B2
set_option maxRecDepth 100000 in
set_option maxHeartbeats 2000000 in
theorem ucal_good (k k2 a b g : Int) (T : ByteArray) (h0 : 0 ≤ k) (h1 : k ≤ 100000) (hk2 : k + 1 = k2) (a0 : 0 ≤ a) (a6 : a ≤ 6) (w : World)
    (da : ∀ W, Below w.heap.size w W → Calls Tryd.prog 29 #[.int .i64 k] W (Gives (.tuple #[.string T, .int .i64 0]) W))
    (pd : ∀ w : World, Calls Tryd.prog 31 #[.string T] w (Gives (.tuple #[.int .i64 k, .int .i64 0]) w)) (w1' : ∀ w : World, Calls Tryd.prog 27 #[.int .i64 k] w (Gives (.tuple #[.int .i64 a, .int .i64 0]) w))
    (w2' : ∀ w : World, Calls Tryd.prog 27 #[.int .i64 k2] w (Gives (.tuple #[.int .i64 b, .int .i64 g]) w)) (hg : ¬ g = 0 ∨ (g = 0 ∧ (a + 1).tmod 7 = b))
    (aw : ∀ W, Below w.heap.size w W → Calls Tryd.prog 17 #[] W (Gives (.bool true) W)) :
    Calls Tryd.prog 10 #[.int .i64 k] w (Gives (.bool true) w) := by
  have f1 : decide (a < 0) = false := decide_eq_false (by omega)
  have f2 : decide (6 < a) = false := decide_eq_false (by omega)
  go_enter Tryd.func10, Tryd.ntmps10
  go_wp2_with fail
  refine (da _ (Below.refl _ _)).mono ?_; rintro _ w1 ⟨rfl, hb⟩
  have B1 : Below w.heap.size w w1 := by repeat' (first | (with_reducible exact Below.refl _ _) | (with_reducible refine Below.alloc ?_ ?_ _) | (with_reducible refine Below.setCell ?_ ?_ _) | (with_reducible refine Below.drew ?_) | (with_reducible refine Below.trans ?_ (Below.mono (by assumption) ?_)) | (simp; done) | (simp; omega) | omega)
  clear hb da
  go_wp2_with fail
  refine (pd _).mono ?_; rintro _ w2 ⟨rfl, hb⟩
  have B2 : Below w.heap.size w w2 := B1.trans (hb.mono B1.size)
  clear hb B1 pd
  go_wp2_with fail
  refine (w1' _).mono ?_; rintro _ w3 ⟨rfl, hb⟩
  have B3 : Below w.heap.size w w3 := B2.trans (hb.mono B2.size)
  clear hb B2 w1'
  go_wp2_with fail
  refine (w2' _).mono ?_; rintro _ w4 ⟨rfl, hb⟩
  have B4 : Below w.heap.size w w4 := B3.trans (hb.mono B3.size)
  clear hb B3 w2'
  rcases hg with hg | ⟨rfl, hg⟩
  · have f3 : (g != 0) = true := by simpa using hg
    clear hg
    go_wp2_with fail
    refine (aw _ B4).mono ?_; rintro _ w5 ⟨rfl, hb⟩
    have B5 : Below w.heap.size w w5 := B4.trans (hb.mono B4.size)
    clear hb B4
    go_wp2_with fail
    go_ret
    exact Gives.mk rfl B5
  · go_wp2_with fail
    refine (aw _ B4).mono ?_; rintro _ w5 ⟨rfl, hb⟩
    have B5 : Below w.heap.size w w5 := B4.trans (hb.mono B4.size)
    clear hb B4
    go_wp2_with fail
    go_ret
    exact Gives.mk rfl B5
theorem ucal_as (k : Int) (n0 : -9223372036854775808 ≤ k) (n1 : k ≤ 9223372036854775807) (w : World) (ht : Lib.TabIs Tryd.prog w "internal/strconv.uint64pow10" .u64 Lib.pow10Tab) (K : KI w) :
    Calls Tryd.prog 10 #[.int .i64 k] w (Gives (.bool true) w) := by
  have aw := fun W (B : Below w.heap.size w W) => uawake_any W (tab_below gPow ht B) (K.below B)
  have da := fun W (B : Below w.heap.size w W) => udate_any k W (tab_below gPow ht B)
  unfold Sp.dateS at da
  by_cases h : 0 ≤ k ∧ k ≤ 100000
  · rw [if_neg (by omega)] at da
    have e := Sp.date_back h.1 h.2
    have lz : (Sp.dayL k).length ≤ 900 := by
      unfold Sp.dayL
      have a := uitoa_len (k / 365) (by omega) (by omega)
      have b := padL_len (k % 365 + 1) 3
      have c := uitoa_len (k % 365 + 1) (by omega) (by omega)
      rw [List.length_append, List.length_append, List.length_singleton]
      omega
    have pd := fun w => uparsedate_any ⟨(Sp.dayL k).toArray⟩ (by rw [utoList_mk]; exact lz) w
    rw [utoList_mk, e] at pd
    have et : k.tmod 7 = k % 7 := Int.tmod_eq_emod_of_nonneg h.1
    have et2 : (k.tmod 7 + 1).tmod 7 = (k + 1) % 7 := by
      rw [et, Int.tmod_eq_emod_of_nonneg (by omega)]
      omega
    by_cases q : k + 1 ≤ 100000
    · exact ucal_good k (k + 1) (k.tmod 7) ((k + 1).tmod 7) 0 _ h.1 h.2 rfl (by omega) (by omega) w da pd (fun w => uweek_any k _ 0 (.inr ⟨h, rfl, rfl⟩) w) (fun w => uweek_any (k + 1) _ 0 (.inr ⟨by omega, rfl, rfl⟩) w)
        (.inr ⟨rfl, by rw [et2, Int.tmod_eq_emod_of_nonneg (by omega)]⟩) aw
    · exact ucal_good k (k + 1) (k.tmod 7) 0 2 _ h.1 h.2 rfl (by omega) (by omega) w da pd (fun w => uweek_any k _ 0 (.inr ⟨h, rfl, rfl⟩) w) (fun w => uweek_any (k + 1) 0 2 (.inl ⟨by omega, rfl, rfl⟩) w)
        (.inl (by omega)) aw
  · rw [if_pos (by omega)] at da
    exact ucal_bad k (by omega) w da aw
end Go.Proofs.YtgfjofdjicepiaaDoor
