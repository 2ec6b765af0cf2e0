/-
  The functions of package couperef02, each by a contract: CompareWide, Compare, for every input.
-/
import Derived.Test.YtcbecfimikpljaaFradd2
import Derived.Test.YtcbecfimikpljaaFops2
import Derived.Deep.RegionHeld3
namespace Go.Proofs.Ytcbecfimikpljaa
open Go.RowKit
set_option linter.unusedVariables false
set_option linter.unusedSimpArgs false

theorem rzero_any (n : Bool) (H L : Int) (z : Bool) (hz : (decide (H = 0) && decide (L = 0)) = z) (w : World) :
    ∀ w : World, Calls Try.prog 85 #[.agg #[.bool n, .int .i64 H, .int .i64 L]] w fun e w' => e = .returned (.bool z) ∧ w' = w.alloc (Obj.cells #[.bool n, .int .i64 H, .int .i64 L] 80) := by
  intro w
  by_cases h : H = 0
  · subst h
    by_cases l : L = 0
    · subst l
      have e : z = true := by rw [← hz]; rfl
      subst e
      go_enter Try.func85, Try.ntmps85
      go_wp2
      go_returns
      exact ⟨rfl, rfl⟩
    · have e : z = false := by rw [← hz]; simp [l]
      subst e
      have g : (L == 0) = false := by simp; exact l
      go_enter Try.func85, Try.ntmps85
      go_wp2
      go_returns
      exact ⟨rfl, rfl⟩
  · have e : z = false := by rw [← hz]; simp [h]
    subst e
    have g : (H == 0) = false := by simp; exact h
    go_enter Try.func85, Try.ntmps85
    go_wp2
    go_returns
    exact ⟨rfl, rfl⟩
namespace Sp
/-- A number of a sign and a magnitude. -/
def sv (n : Bool) (V : Int) : Int := if n = true then -V else V
theorem cmp_flip {x y : Int} : Wd.cmpI (-x) (-y) = Wd.cmpI y x := by
  unfold Wd.cmpI
  by_cases c : y < x
  · rw [if_pos c, if_pos (by omega)]
  · by_cases c2 : y = x
    · rw [if_neg c, if_pos c2, if_neg (by omega), if_pos (by omega)]
    · rw [if_neg c, if_neg c2, if_neg (by omega), if_neg (by omega)]
theorem cmpV_is (x y : Int) : cmpV x y = Wd.cmpI x y := by
  unfold cmpV Wd.cmpI
  by_cases c : x < y
  · rw [if_pos c, if_pos c]
  · by_cases c2 : x = y
    · rw [if_neg c, if_neg c, if_pos c2, if_neg (by omega)]
    · rw [if_neg c, if_neg c, if_neg c2, if_pos (by omega)]
theorem cmp_lt {x y : Int} (h : x < y) : Wd.cmpI x y = -1 := by unfold Wd.cmpI; rw [if_pos h]
theorem cmp_gt {x y : Int} (h : y < x) : Wd.cmpI x y = 1 := by unfold Wd.cmpI; rw [if_neg (by omega), if_neg (by omega)]
theorem cmp_eq {x y : Int} (h : x = y) : Wd.cmpI x y = 0 := by unfold Wd.cmpI; rw [if_neg (by omega), if_pos h]
end Sp

set_option maxHeartbeats 4000000 in
theorem rcmpw_any (n m : Bool) (H L G M : Int) (H0 : 0 ≤ H) (H1 : H ≤ 4000000000000000) (L0 : 0 ≤ L) (L1 : L < 1000000000000000) (G0 : 0 ≤ G) (G1 : G ≤ 4000000000000000) (M0 : 0 ≤ M) (M1 : M < 1000000000000000) (r : Int)
    (hr : Wd.cmpI (Sp.sv n (H * 1000000000000000 + L)) (Sp.sv m (G * 1000000000000000 + M)) = r) (w : World) :
    Calls Try.prog 64 #[.agg #[.bool n, .int .i64 H, .int .i64 L], .agg #[.bool m, .int .i64 G, .int .i64 M]] w (Gives (.int .i64 r) w) := by
  unfold Sp.sv at hr
  by_cases za : H = 0 ∧ L = 0
  · obtain ⟨rfl, rfl⟩ := za
    have z1 := fun n w => rzero_any n 0 0 true (by rfl) w w
    by_cases zb : G = 0 ∧ M = 0
    · obtain ⟨rfl, rfl⟩ := zb
      have e : r = 0 := by rw [← hr]; cases n <;> cases m <;> rfl
      subst e
      clear hr
      go_enter Try.func64, Try.ntmps64
      go_wp2_with (go_at_call 85; (with_reducible refine (z1 _ _).mono ?_); rintro _ w1 ⟨rfl, rfl⟩)
      all_goals
        go_ret
        exact Gives.mk rfl (by repeat' (first | (with_reducible exact Below.refl _ _) | (with_reducible refine Below.alloc ?_ ?_ _) | (with_reducible refine Below.setCell ?_ ?_ _) | (with_reducible refine Below.drew ?_) | (with_reducible refine below_dn ?_ _) | (with_reducible refine Below.trans ?_ (Below.mono (by assumption) ?_)) | (simp; done) | (simp; omega) | omega))
    · have z2 := fun n w => rzero_any n G M false (by simp; omega) w w
      have cs := fun n m w => rcmpsize_any n m 0 0 G M (by omega) (by omega) (by omega) (by omega) G0 (by omega) M0 M1 w
      rw [Sp.cmpV_is] at cs
      cases m
      · have e : r = Wd.cmpI (0 * 1000000000000000 + 0) (G * 1000000000000000 + M) := by rw [← hr]; cases n <;> rfl
        rw [← e] at cs
        clear hr e zb
        go_enter Try.func64, Try.ntmps64
        go_wp2_with (first | (go_at_call 85; (with_reducible refine (z1 _ _).mono ?_); rintro _ w1 ⟨rfl, rfl⟩) | (go_at_call 85; (with_reducible refine (z2 _ _).mono ?_); rintro _ w1 ⟨rfl, rfl⟩) | (go_at_call 86; (with_reducible refine (cs _ _ _).mono ?_); rintro _ w2 ⟨rfl, hb⟩))
        all_goals
          go_ret
          exact Gives.mk rfl (by repeat' (first | (with_reducible exact Below.refl _ _) | (with_reducible refine Below.alloc ?_ ?_ _) | (with_reducible refine Below.setCell ?_ ?_ _) | (with_reducible refine Below.drew ?_) | (with_reducible refine below_dn ?_ _) | (with_reducible refine Below.trans ?_ (Below.mono (by assumption) ?_)) | (simp; done) | (simp; omega) | omega))
      · have e : r = 1 := by rw [← hr]; cases n <;> exact Sp.cmp_gt (by simp; omega)
        subst e
        clear hr cs zb
        go_enter Try.func64, Try.ntmps64
        go_wp2_with (first | (go_at_call 85; (with_reducible refine (z1 _ _).mono ?_); rintro _ w1 ⟨rfl, rfl⟩) | (go_at_call 85; (with_reducible refine (z2 _ _).mono ?_); rintro _ w1 ⟨rfl, rfl⟩) | (go_at_call 86; (with_reducible refine (cs _ _ _).mono ?_); rintro _ w2 ⟨rfl, hb⟩))
        all_goals
          go_ret
          exact Gives.mk rfl (by repeat' (first | (with_reducible exact Below.refl _ _) | (with_reducible refine Below.alloc ?_ ?_ _) | (with_reducible refine Below.setCell ?_ ?_ _) | (with_reducible refine Below.drew ?_) | (with_reducible refine below_dn ?_ _) | (with_reducible refine Below.trans ?_ (Below.mono (by assumption) ?_)) | (simp; done) | (simp; omega) | omega))
  · have z1 := fun n w => rzero_any n H L false (by simp; omega) w w
    by_cases zb : G = 0 ∧ M = 0
    · obtain ⟨rfl, rfl⟩ := zb
      have z2 := fun n w => rzero_any n 0 0 true (by rfl) w w
      have cs := fun n m w => rcmpsize_any n m H L 0 0 H0 (by omega) L0 L1 (by omega) (by omega) (by omega) (by omega) w
      rw [Sp.cmpV_is] at cs
      cases n
      · have e : r = Wd.cmpI (H * 1000000000000000 + L) (0 * 1000000000000000 + 0) := by rw [← hr]; cases m <;> rfl
        rw [← e] at cs
        clear hr e za
        go_enter Try.func64, Try.ntmps64
        go_wp2_with (first | (go_at_call 85; (with_reducible refine (z1 _ _).mono ?_); rintro _ w1 ⟨rfl, rfl⟩) | (go_at_call 85; (with_reducible refine (z2 _ _).mono ?_); rintro _ w1 ⟨rfl, rfl⟩) | (go_at_call 86; (with_reducible refine (cs _ _ _).mono ?_); rintro _ w2 ⟨rfl, hb⟩))
        all_goals
          go_ret
          exact Gives.mk rfl (by repeat' (first | (with_reducible exact Below.refl _ _) | (with_reducible refine Below.alloc ?_ ?_ _) | (with_reducible refine Below.setCell ?_ ?_ _) | (with_reducible refine Below.drew ?_) | (with_reducible refine below_dn ?_ _) | (with_reducible refine Below.trans ?_ (Below.mono (by assumption) ?_)) | (simp; done) | (simp; omega) | omega))
      · have e : r = -1 := by rw [← hr]; cases m <;> exact Sp.cmp_lt (by simp; omega)
        subst e
        clear hr cs za
        go_enter Try.func64, Try.ntmps64
        go_wp2_with (first | (go_at_call 85; (with_reducible refine (z1 _ _).mono ?_); rintro _ w1 ⟨rfl, rfl⟩) | (go_at_call 85; (with_reducible refine (z2 _ _).mono ?_); rintro _ w1 ⟨rfl, rfl⟩) | (go_at_call 86; (with_reducible refine (cs _ _ _).mono ?_); rintro _ w2 ⟨rfl, hb⟩))
        all_goals
          go_ret
          exact Gives.mk rfl (by repeat' (first | (with_reducible exact Below.refl _ _) | (with_reducible refine Below.alloc ?_ ?_ _) | (with_reducible refine Below.setCell ?_ ?_ _) | (with_reducible refine Below.drew ?_) | (with_reducible refine below_dn ?_ _) | (with_reducible refine Below.trans ?_ (Below.mono (by assumption) ?_)) | (simp; done) | (simp; omega) | omega))
    · have z2 := fun n w => rzero_any n G M false (by simp; omega) w w
      cases n <;> cases m
      · have cs := fun n m w => rcmpsize_any n m H L G M H0 (by omega) L0 L1 G0 (by omega) M0 M1 w
        rw [Sp.cmpV_is] at cs
        simp only [Bool.false_eq_true, if_false] at hr
        rw [hr] at cs
        clear hr za zb
        go_enter Try.func64, Try.ntmps64
        go_wp2_with (first | (go_at_call 85; (with_reducible refine (z1 _ _).mono ?_); rintro _ w1 ⟨rfl, rfl⟩) | (go_at_call 85; (with_reducible refine (z2 _ _).mono ?_); rintro _ w1 ⟨rfl, rfl⟩) | (go_at_call 86; (with_reducible refine (cs _ _ _).mono ?_); rintro _ w2 ⟨rfl, hb⟩))
        all_goals
          go_ret
          exact Gives.mk rfl (by repeat' (first | (with_reducible exact Below.refl _ _) | (with_reducible refine Below.alloc ?_ ?_ _) | (with_reducible refine Below.setCell ?_ ?_ _) | (with_reducible refine Below.drew ?_) | (with_reducible refine below_dn ?_ _) | (with_reducible refine Below.trans ?_ (Below.mono (by assumption) ?_)) | (simp; done) | (simp; omega) | omega))
      · have e : r = 1 := by rw [← hr]; exact Sp.cmp_gt (by simp; omega)
        subst e
        clear hr za zb
        go_enter Try.func64, Try.ntmps64
        go_wp2_with (first | (go_at_call 85; (with_reducible refine (z1 _ _).mono ?_); rintro _ w1 ⟨rfl, rfl⟩) | (go_at_call 85; (with_reducible refine (z2 _ _).mono ?_); rintro _ w1 ⟨rfl, rfl⟩))
        all_goals
          go_ret
          exact Gives.mk rfl (by repeat' (first | (with_reducible exact Below.refl _ _) | (with_reducible refine Below.alloc ?_ ?_ _) | (with_reducible refine Below.setCell ?_ ?_ _) | (with_reducible refine Below.drew ?_) | (with_reducible refine below_dn ?_ _) | (with_reducible refine Below.trans ?_ (Below.mono (by assumption) ?_)) | (simp; done) | (simp; omega) | omega))
      · have e : r = -1 := by rw [← hr]; exact Sp.cmp_lt (by simp; omega)
        subst e
        clear hr za zb
        go_enter Try.func64, Try.ntmps64
        go_wp2_with (first | (go_at_call 85; (with_reducible refine (z1 _ _).mono ?_); rintro _ w1 ⟨rfl, rfl⟩) | (go_at_call 85; (with_reducible refine (z2 _ _).mono ?_); rintro _ w1 ⟨rfl, rfl⟩))
        all_goals
          go_ret
          exact Gives.mk rfl (by repeat' (first | (with_reducible exact Below.refl _ _) | (with_reducible refine Below.alloc ?_ ?_ _) | (with_reducible refine Below.setCell ?_ ?_ _) | (with_reducible refine Below.drew ?_) | (with_reducible refine below_dn ?_ _) | (with_reducible refine Below.trans ?_ (Below.mono (by assumption) ?_)) | (simp; done) | (simp; omega) | omega))
      · have cs := fun n m w => rcmpsize_any n m G M H L G0 (by omega) M0 M1 H0 (by omega) L0 L1 w
        rw [Sp.cmpV_is] at cs
        simp only [if_true] at hr
        rw [Sp.cmp_flip] at hr
        rw [hr] at cs
        clear hr za zb
        go_enter Try.func64, Try.ntmps64
        go_wp2_with (first | (go_at_call 85; (with_reducible refine (z1 _ _).mono ?_); rintro _ w1 ⟨rfl, rfl⟩) | (go_at_call 85; (with_reducible refine (z2 _ _).mono ?_); rintro _ w1 ⟨rfl, rfl⟩) | (go_at_call 86; (with_reducible refine (cs _ _ _).mono ?_); rintro _ w2 ⟨rfl, hb⟩))
        all_goals
          go_ret
          exact Gives.mk rfl (by repeat' (first | (with_reducible exact Below.refl _ _) | (with_reducible refine Below.alloc ?_ ?_ _) | (with_reducible refine Below.setCell ?_ ?_ _) | (with_reducible refine Below.drew ?_) | (with_reducible refine below_dn ?_ _) | (with_reducible refine Below.trans ?_ (Below.mono (by assumption) ?_)) | (simp; done) | (simp; omega) | omega))
set_option maxHeartbeats 4000000 in
theorem rcmp_walk (a b c d : Int) (n1 : Bool) (h1 l1 : Int) (n2 : Bool) (h2 l2 : Int) (r : Int) (w : World)
    (tw : ∀ w : World, Calls Try.prog 63 #[.agg #[.int .i64 a, .int .i64 b], .agg #[.int .i64 c, .int .i64 d]] w (Gives (.int .i64 0) w))
    (m1 : ∀ w : World, Calls Try.prog 65 #[.int .i64 a, .int .i64 d] w fun e w' => e = .returned (.agg #[.bool n1, .int .i64 h1, .int .i64 l1]) ∧ w' = w.alloc (Obj.cells #[.bool n1, .int .i64 h1, .int .i64 l1] 80))
    (m2 : ∀ w : World, Calls Try.prog 65 #[.int .i64 c, .int .i64 b] w fun e w' => e = .returned (.agg #[.bool n2, .int .i64 h2, .int .i64 l2]) ∧ w' = w.alloc (Obj.cells #[.bool n2, .int .i64 h2, .int .i64 l2] 80))
    (cw : ∀ w : World, Calls Try.prog 64 #[.agg #[.bool n1, .int .i64 h1, .int .i64 l1], .agg #[.bool n2, .int .i64 h2, .int .i64 l2]] w (Gives (.int .i64 r) w)) :
    Calls Try.prog 40 #[.agg #[.int .i64 a, .int .i64 b], .agg #[.int .i64 c, .int .i64 d]] w (Gives (.int .i64 r) w) := by
  go_enter Try.func40, Try.ntmps40
  go_wp2_with (go_at_call 63; refine (tw _).mono ?_; rintro _ w1 ⟨rfl, hb⟩; have pz : w.heap.size < (w1).heap.size := Nat.lt_of_lt_of_le (show w.heap.size < _ from (by first | assumption | (simp; done) | (simp; omega) | (dsimp only; omega) | omega)) hb.size; have p0 : (w1).cell? ⟨w.heap.size, 0, none⟩ = some (.int .i64 (a)) := (hb.cell (p := ⟨w.heap.size, 0, none⟩) (by first | assumption | (simp; done) | (simp; omega) | (dsimp only; omega) | omega)).trans (by first | assumption | (simp [go_sem]; done) | (simp [go_sem, *]; done)); have p1 : (w1).cell? ⟨w.heap.size, 1, none⟩ = some (.int .i64 (b)) := (hb.cell (p := ⟨w.heap.size, 1, none⟩) (by first | assumption | (simp; done) | (simp; omega) | (dsimp only; omega) | omega)).trans (by first | assumption | (simp [go_sem]; done) | (simp [go_sem, *]; done)); have pf : ∀ o, (w1).frozen? ⟨w.heap.size, o, none⟩ = false := fun o => (hb.frozen (p := ⟨w.heap.size, o, none⟩) (by first | assumption | (simp; done) | (simp; omega) | (dsimp only; omega) | omega)).trans (by first | (simp [go_sem]; done) | (simp [go_sem, *]; done)); have qz : w.heap.size + 1 < (w1).heap.size := Nat.lt_of_lt_of_le (show w.heap.size + 1 < _ from (by first | assumption | (simp; done) | (simp; omega) | (dsimp only; omega) | omega)) hb.size; have q0 : (w1).cell? ⟨w.heap.size + 1, 0, none⟩ = some (.int .i64 (c)) := (hb.cell (p := ⟨w.heap.size + 1, 0, none⟩) (by first | assumption | (simp; done) | (simp; omega) | (dsimp only; omega) | omega)).trans (by first | assumption | (simp [go_sem]; done) | (simp [go_sem, *]; done)); have q1 : (w1).cell? ⟨w.heap.size + 1, 1, none⟩ = some (.int .i64 (d)) := (hb.cell (p := ⟨w.heap.size + 1, 1, none⟩) (by first | assumption | (simp; done) | (simp; omega) | (dsimp only; omega) | omega)).trans (by first | assumption | (simp [go_sem]; done) | (simp [go_sem, *]; done)); have qf : ∀ o, (w1).frozen? ⟨w.heap.size + 1, o, none⟩ = false := fun o => (hb.frozen (p := ⟨w.heap.size + 1, o, none⟩) (by first | assumption | (simp; done) | (simp; omega) | (dsimp only; omega) | omega)).trans (by first | (simp [go_sem]; done) | (simp [go_sem, *]; done)); have BN : Below w.heap.size w w1 := (by repeat' (first | (with_reducible exact Below.refl _ _) | (with_reducible refine Below.alloc ?_ ?_ _) | (with_reducible refine Below.setCell ?_ ?_ _) | (with_reducible refine Below.drew ?_) | (with_reducible refine Below.trans ?_ (Below.mono (by assumption) ?_)) | (simp; done) | (simp; omega) | omega)); clear hb)
  have BH := hid BN
  have hsz := BN.size
  have K : Hid (∀ W', Below w1.heap.size w1 W' → (Below w1.heap.size w1 W' ∧ W'.cell? ⟨w.heap.size, 0, none⟩ = some (.int .i64 a) ∧ W'.cell? ⟨w.heap.size, 1, none⟩ = some (.int .i64 b) ∧ W'.cell? ⟨w.heap.size + 1, 0, none⟩ = some (.int .i64 c) ∧ W'.cell? ⟨w.heap.size + 1, 1, none⟩ = some (.int .i64 d))) := hid fun W' B =>
    ⟨B, (B.cell (p := ⟨w.heap.size, 0, none⟩) (by first | assumption | (simp; done) | (simp; omega) | (dsimp only; omega) | omega)).trans p0, (B.cell (p := ⟨w.heap.size, 1, none⟩) (by first | assumption | (simp; done) | (simp; omega) | (dsimp only; omega) | omega)).trans p1, (B.cell (p := ⟨w.heap.size + 1, 0, none⟩) (by first | assumption | (simp; done) | (simp; omega) | (dsimp only; omega) | omega)).trans q0, (B.cell (p := ⟨w.heap.size + 1, 1, none⟩) (by first | assumption | (simp; done) | (simp; omega) | (dsimp only; omega) | omega)).trans q1⟩
  clear BN pz p0 p1 pf qz q0 q1 qf
  go_region_held3 (fun w' => Below w1.heap.size w1 w' ∧ w'.cell? ⟨w.heap.size, 0, none⟩ = some (.int .i64 a) ∧ w'.cell? ⟨w.heap.size, 1, none⟩ = some (.int .i64 b) ∧ w'.cell? ⟨w.heap.size + 1, 0, none⟩ = some (.int .i64 c) ∧ w'.cell? ⟨w.heap.size + 1, 1, none⟩ = some (.int .i64 d)) ((exact K.out _ (by repeat' (first | (with_reducible exact Below.refl _ _) | (with_reducible refine Below.alloc ?_ ?_ _) | (with_reducible refine Below.setCell ?_ ?_ _) | (with_reducible refine Below.drew ?_) | (with_reducible refine below_dn ?_ _) | (with_reducible refine Below.trans ?_ (Below.mono (by assumption) ?_)) | (simp; done) | (simp; omega) | omega))))
    (first | (go_at_call 65; (with_reducible refine (m1 _).mono ?_); rintro e5 w5 ⟨rfl, rfl⟩) | (go_at_call 65; (with_reducible refine (m2 _).mono ?_); rintro e5 w5 ⟨rfl, rfl⟩) | (go_at_call 64; refine (cw _).mono ?_; rintro e5 w6 ⟨rfl, hb2⟩; have hb : Below w1.heap.size w1 w6 := (by repeat' (first | (with_reducible exact Below.refl _ _) | (with_reducible refine Below.alloc ?_ ?_ _) | (with_reducible refine Below.setCell ?_ ?_ _) | (with_reducible refine Below.drew ?_) | (with_reducible refine below_dn ?_ _) | (with_reducible refine Below.trans ?_ (Below.mono (by assumption) ?_)) | (simp; done) | (simp; omega) | omega)); have hz2 : w1.heap.size ≤ w6.heap.size := hb.size; clear hb2))
  all_goals
    go_wp2
    go_ret
    have BB := BH.out
    exact Gives.mk rfl (BB.trans (hb.mono hsz))
theorem rcmp_any (a b c d : Int) (A0 : -9223372036854775808 ≤ a) (A1 : a ≤ 9223372036854775807) (B0 : -9223372036854775808 ≤ b) (B1 : b ≤ 9223372036854775807) (C0 : -9223372036854775808 ≤ c) (C1 : c ≤ 9223372036854775807) (D0 : -9223372036854775808 ≤ d) (D1 : d ≤ 9223372036854775807) (w : World) :
    Calls Try.prog 40 #[.agg #[.int .i64 a, .int .i64 b], .agg #[.int .i64 c, .int .i64 d]] w (Gives (.int .i64 (Sp.cmpF a b c d)) w) := by
  have tw := fun w => rtwo_any a b c d A0 A1 B0 B1 C0 C1 D0 D1 w
  unfold Sp.cmpF
  by_cases d0 : Sp.bothF a b c d = 0
  · rw [if_neg (by omega)]
    rw [d0] at tw
    obtain ⟨v1, v2⟩ := Sp.bothF_zero.1 d0
    obtain ⟨b0, _, an, bm⟩ := Sp.valid_of v1
    obtain ⟨e0, _, cn, dm⟩ := Sp.valid_of v2
    obtain ⟨V1, hV1⟩ : ∃ V : Int, (a.natAbs : Int) * (d.natAbs : Int) = V := ⟨_, rfl⟩
    obtain ⟨V2, hV2⟩ : ∃ V : Int, (c.natAbs : Int) * (b.natAbs : Int) = V := ⟨_, rfl⟩
    have p1 := prod_le15 (x := a) (y := d) (by omega) (by omega)
    have p2 := prod_le15 (x := c) (y := b) (by omega) (by omega)
    rw [hV1] at p1
    rw [hV2] at p2
    obtain ⟨q11, q12, q13, q14, q15⟩ := parts_of p1.1 1000000000000000 p1.2
    obtain ⟨q21, q22, q23, q24, q25⟩ := parts_of p2.1 1000000000000000 p2.2
    obtain ⟨n1, hn1⟩ : ∃ n, (decide (a < 0) != decide (d < 0)) = n := ⟨_, rfl⟩
    obtain ⟨n2, hn2⟩ : ∃ n, (decide (c < 0) != decide (b < 0)) = n := ⟨_, rfl⟩
    have s1 := Sp.times_sign (a := a) (k := d) (by omega)
    have s2 := Sp.times_sign (a := c) (k := b) (by omega)
    rw [hn1] at s1
    rw [hn2] at s2
    have sv1 : Sp.sv n1 V1 = a * d := by
      have e : V1 = ((a * d).natAbs : Int) := by rw [Int.natAbs_mul, Int.natCast_mul]; exact hV1.symm
      unfold Sp.sv
      cases n1
      · have := s1.2 rfl
        simp only [Bool.false_eq_true, if_false]
        omega
      · have := s1.1 rfl
        simp only [if_true]
        omega
    have sv2 : Sp.sv n2 V2 = c * b := by
      have e : V2 = ((c * b).natAbs : Int) := by rw [Int.natAbs_mul, Int.natCast_mul]; exact hV2.symm
      unfold Sp.sv
      cases n2
      · have := s2.2 rfl
        simp only [Bool.false_eq_true, if_false]
        omega
      · have := s2.1 rfl
        simp only [if_true]
        omega
    exact rcmp_walk a b c d n1 (V1 / 1000000000000000) (V1 % 1000000000000000) n2 (V2 / 1000000000000000) (V2 % 1000000000000000) _ w tw
      (fun w => rtimes_says a d (by omega) (by omega) (by omega) (by omega) V1 hV1 n1 hn1 w) (fun w => rtimes_says c b (by omega) (by omega) (by omega) (by omega) V2 hV2 n2 hn2 w)
      (fun w => rcmpw_any n1 n2 _ _ _ _ q11 (by omega) q13 q14 q21 (by omega) q23 q24 _ (by rw [q15, q25, sv1, sv2]) w)
  · rw [if_pos d0]
    obtain ⟨y, hy⟩ : ∃ y, Sp.bothF a b c d = y := ⟨_, rfl⟩
    rw [hy] at d0 tw
    clear hy
    have g : (y == 0) = false := by simp; exact d0
    go_enter Try.func40, Try.ntmps40
    go_wp2_with (go_at_call 63; refine (tw _).mono ?_; rintro _ w1 ⟨rfl, hb⟩)
    go_ret
    exact Gives.mk rfl (by repeat' (first | (with_reducible exact Below.refl _ _) | (with_reducible refine Below.alloc ?_ ?_ _) | (with_reducible refine Below.setCell ?_ ?_ _) | (with_reducible refine Below.drew ?_) | (with_reducible refine Below.trans ?_ (Below.mono (by assumption) ?_)) | (simp; done) | (simp; omega) | omega))
end Go.Proofs.Ytcbecfimikpljaa
