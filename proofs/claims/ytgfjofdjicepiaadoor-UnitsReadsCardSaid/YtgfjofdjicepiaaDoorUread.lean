/-
  Package units: allDigits, Parse, Date, ParseDate, walked over their callees' contracts.
-/
import Derived.Test.YtgfjofdjicepiaaDoorUfmt
import Derived.Test.YtgfjofdjicepiaaDoorUhect
namespace Go.Proofs.YtgfjofdjicepiaaDoor
open Go.RowKit
set_option linter.unusedVariables false
set_option linter.unusedSimpArgs false

set_option maxRecDepth 100000 in
set_option maxHeartbeats 2000000 in
theorem uad_A (t s1 s2 : ByteArray) (d : Int) (pt : Bool)
    (ct : ∀ w : World, Calls Tryd.prog 43 #[.string t, .string ⟨#[46]⟩] w (Gives (.tuple #[.string s1, .string s2, .bool pt]) w)) (iw : ∀ w : World, Calls Tryd.prog 61 #[.string s1] w (Gives (.bool false) w)) (w : World) :
    Calls Tryd.prog 44 #[.string t, .int .i64 d] w (Gives (.tuple #[.string ⟨#[]⟩, .bool false]) w) := by
  go_enter Tryd.func44, Tryd.ntmps44
  go_wp2_with fail
  refine (ct _).mono ?_; rintro _ w1 ⟨rfl, hb⟩
  have B1 : Below w.heap.size w w1 := by repeat' (first | (with_reducible exact Below.refl _ _) | (with_reducible refine Below.alloc ?_ ?_ _) | (with_reducible refine Below.setCell ?_ ?_ _) | (with_reducible refine Below.drew ?_) | (with_reducible refine Below.trans ?_ (Below.mono (by assumption) ?_)) | (simp; done) | (simp; omega) | omega)
  clear hb
  go_wp2_with fail
  refine (iw _).mono ?_; rintro _ w2 ⟨rfl, hb⟩
  have B2 : Below w.heap.size w w2 := B1.trans (hb.mono B1.size)
  clear hb B1
  go_wp2_with fail
  go_ret2
  exact Gives.mk rfl B2

set_option maxRecDepth 100000 in
set_option maxHeartbeats 2000000 in
theorem uad_B (t s1 s2 : ByteArray) (d : Int)
    (ct : ∀ w : World, Calls Tryd.prog 43 #[.string t, .string ⟨#[46]⟩] w (Gives (.tuple #[.string s1, .string s2, .bool true]) w)) (iw : ∀ w : World, Calls Tryd.prog 61 #[.string s1] w (Gives (.bool true) w)) (idg : ∀ w : World, Calls Tryd.prog 62 #[.string s2] w (Gives (.bool false) w)) (w : World) :
    Calls Tryd.prog 44 #[.string t, .int .i64 d] w (Gives (.tuple #[.string ⟨#[]⟩, .bool false]) w) := by
  go_enter Tryd.func44, Tryd.ntmps44
  go_wp2_with fail
  refine (ct _).mono ?_; rintro _ w1 ⟨rfl, hb⟩
  have B1 : Below w.heap.size w w1 := by repeat' (first | (with_reducible exact Below.refl _ _) | (with_reducible refine Below.alloc ?_ ?_ _) | (with_reducible refine Below.setCell ?_ ?_ _) | (with_reducible refine Below.drew ?_) | (with_reducible refine Below.trans ?_ (Below.mono (by assumption) ?_)) | (simp; done) | (simp; omega) | omega)
  clear hb
  go_wp2_with fail
  refine (iw _).mono ?_; rintro _ w2 ⟨rfl, hb⟩
  have B2 : Below w.heap.size w w2 := B1.trans (hb.mono B1.size)
  clear hb B1
  go_wp2_with fail
  refine (idg _).mono ?_; rintro _ w3 ⟨rfl, hb⟩
  have B3 : Below w.heap.size w w3 := B2.trans (hb.mono B2.size)
  clear hb B2
  go_wp2_with fail
  go_ret2
  exact Gives.mk rfl B3

set_option maxRecDepth 100000 in
set_option maxHeartbeats 2000000 in
theorem uad_C (t s1 s2 : ByteArray) (d : Int) (m : Nat) (hm : s2.size = m) (m1 : m ≤ 1000) (d0 : 0 ≤ d) (d1 : d ≤ 10) (hq : d < m)
    (ct : ∀ w : World, Calls Tryd.prog 43 #[.string t, .string ⟨#[46]⟩] w (Gives (.tuple #[.string s1, .string s2, .bool true]) w)) (iw : ∀ w : World, Calls Tryd.prog 61 #[.string s1] w (Gives (.bool true) w)) (idg : ∀ w : World, Calls Tryd.prog 62 #[.string s2] w (Gives (.bool true) w)) (w : World) :
    Calls Tryd.prog 44 #[.string t, .int .i64 d] w (Gives (.tuple #[.string ⟨#[]⟩, .bool false]) w) := by
  have k1 : decide (d < (m : Int)) = true := decide_eq_true hq
  go_enter Tryd.func44, Tryd.ntmps44
  go_wp2_with fail
  refine (ct _).mono ?_; rintro _ w1 ⟨rfl, hb⟩
  have B1 : Below w.heap.size w w1 := by repeat' (first | (with_reducible exact Below.refl _ _) | (with_reducible refine Below.alloc ?_ ?_ _) | (with_reducible refine Below.setCell ?_ ?_ _) | (with_reducible refine Below.drew ?_) | (with_reducible refine Below.trans ?_ (Below.mono (by assumption) ?_)) | (simp; done) | (simp; omega) | omega)
  clear hb
  go_wp2_with fail
  refine (iw _).mono ?_; rintro _ w2 ⟨rfl, hb⟩
  have B2 : Below w.heap.size w w2 := B1.trans (hb.mono B1.size)
  clear hb B1
  go_wp2_with fail
  refine (idg _).mono ?_; rintro _ w3 ⟨rfl, hb⟩
  have B3 : Below w.heap.size w w3 := B2.trans (hb.mono B2.size)
  clear hb B2
  go_wp2_with fail
  go_ret2
  exact Gives.mk rfl B3

set_option maxRecDepth 100000 in
set_option maxHeartbeats 2000000 in
theorem uad_D0 (t s1 s2 B1 R B2 : ByteArray) (d : Int) (m : Nat) (hm : s2.size = m) (m1 : m ≤ 1000) (d0 : 0 ≤ d) (d1 : d ≤ 10) (hq : (m : Int) ≤ d) (D : Int) (hD : d - m = D)
    (ct : ∀ w : World, Calls Tryd.prog 43 #[.string t, .string ⟨#[46]⟩] w (Gives (.tuple #[.string s1, .string s2, .bool false]) w)) (iw : ∀ w : World, Calls Tryd.prog 61 #[.string s1] w (Gives (.bool true) w)) (ad : ∀ W, (Op.stringOp .add s1 s2).run Tryd.prog W = .ok (.string B1) W) (rp : ∀ w : World, Calls Tryd.prog 68 #[.string ⟨#[48]⟩, .int .i64 D] w (Gives (.string R) w)) (ad2 : ∀ W, (Op.stringOp .add B1 R).run Tryd.prog W = .ok (.string B2) W) (w : World) :
    Calls Tryd.prog 44 #[.string t, .int .i64 d] w (Gives (.tuple #[.string B2, .bool true]) w) := by
  have k1 : decide (d < (m : Int)) = false := decide_eq_false (by omega)
  go_enter Tryd.func44, Tryd.ntmps44
  go_wp2_with fail
  refine (ct _).mono ?_; rintro _ w1 ⟨rfl, hb⟩
  have B1 : Below w.heap.size w w1 := by repeat' (first | (with_reducible exact Below.refl _ _) | (with_reducible refine Below.alloc ?_ ?_ _) | (with_reducible refine Below.setCell ?_ ?_ _) | (with_reducible refine Below.drew ?_) | (with_reducible refine Below.trans ?_ (Below.mono (by assumption) ?_)) | (simp; done) | (simp; omega) | omega)
  clear hb
  go_wp2_with fail
  refine (iw _).mono ?_; rintro _ w2 ⟨rfl, hb⟩
  have B2 : Below w.heap.size w w2 := B1.trans (hb.mono B1.size)
  clear hb B1
  go_wp2_with fail
  refine (rp _).mono ?_; rintro _ w3 ⟨rfl, hb⟩
  have B3 : Below w.heap.size w w3 := B2.trans (hb.mono B2.size)
  clear hb B2
  go_wp2_with fail
  go_ret2
  exact Gives.mk rfl B3

set_option maxRecDepth 100000 in
set_option maxHeartbeats 2000000 in
theorem uad_D1 (t s1 s2 B1 R B2 : ByteArray) (d : Int) (m : Nat) (hm : s2.size = m) (m1 : m ≤ 1000) (d0 : 0 ≤ d) (d1 : d ≤ 10) (hq : (m : Int) ≤ d) (D : Int) (hD : d - m = D)
    (ct : ∀ w : World, Calls Tryd.prog 43 #[.string t, .string ⟨#[46]⟩] w (Gives (.tuple #[.string s1, .string s2, .bool true]) w)) (iw : ∀ w : World, Calls Tryd.prog 61 #[.string s1] w (Gives (.bool true) w)) (idg : ∀ w : World, Calls Tryd.prog 62 #[.string s2] w (Gives (.bool true) w)) (ad : ∀ W, (Op.stringOp .add s1 s2).run Tryd.prog W = .ok (.string B1) W) (rp : ∀ w : World, Calls Tryd.prog 68 #[.string ⟨#[48]⟩, .int .i64 D] w (Gives (.string R) w)) (ad2 : ∀ W, (Op.stringOp .add B1 R).run Tryd.prog W = .ok (.string B2) W) (w : World) :
    Calls Tryd.prog 44 #[.string t, .int .i64 d] w (Gives (.tuple #[.string B2, .bool true]) w) := by
  have k1 : decide (d < (m : Int)) = false := decide_eq_false (by omega)
  go_enter Tryd.func44, Tryd.ntmps44
  go_wp2_with fail
  refine (ct _).mono ?_; rintro _ w1 ⟨rfl, hb⟩
  have B1 : Below w.heap.size w w1 := by repeat' (first | (with_reducible exact Below.refl _ _) | (with_reducible refine Below.alloc ?_ ?_ _) | (with_reducible refine Below.setCell ?_ ?_ _) | (with_reducible refine Below.drew ?_) | (with_reducible refine Below.trans ?_ (Below.mono (by assumption) ?_)) | (simp; done) | (simp; omega) | omega)
  clear hb
  go_wp2_with fail
  refine (iw _).mono ?_; rintro _ w2 ⟨rfl, hb⟩
  have B2 : Below w.heap.size w w2 := B1.trans (hb.mono B1.size)
  clear hb B1
  go_wp2_with fail
  refine (idg _).mono ?_; rintro _ w3 ⟨rfl, hb⟩
  have B3 : Below w.heap.size w w3 := B2.trans (hb.mono B2.size)
  clear hb B2
  go_wp2_with fail
  refine (rp _).mono ?_; rintro _ w4 ⟨rfl, hb⟩
  have B4 : Below w.heap.size w w4 := B3.trans (hb.mono B3.size)
  clear hb B3
  go_wp2_with fail
  go_ret2
  exact Gives.mk rfl B4

theorem uad_any (s : ByteArray) (d : Nat) (hd : d ≤ 10) (hs : s.data.toList.length ≤ 900) (w : World) :
    Calls Tryd.prog 44 #[.string s, .int .i64 d] w (Gives (.tuple #[.string ⟨((Sp.adS s.data.toList d).getD []).toArray⟩, .bool (Sp.adS s.data.toList d).isSome]) w) := by
  have ct := fun w => ucut_any 46 s (by omega) w
  have hle := Sp.at1_le 46 s.data.toList
  generalize hL : s.data.toList = L at ct hle hs ⊢
  have l1 : (L.take (Sp.at1 46 L)).length ≤ 900 := by rw [List.length_take]; omega
  have l2 : (L.drop (Sp.at1 46 L + 1)).length ≤ 900 := by rw [List.length_drop]; omega
  have l3 : (L.take (Sp.at1 46 L)).length + (L.drop (Sp.at1 46 L + 1)).length ≤ 900 := by rw [List.length_take, List.length_drop]; omega
  have iw := fun w => uwhole_any ⟨(L.take (Sp.at1 46 L)).toArray⟩ (by rw [utoList_mk]; omega) w
  have idg := fun w => udig_any ⟨(L.drop (Sp.at1 46 L + 1)).toArray⟩ (by rw [utoList_mk]; omega) w
  rw [utoList_mk] at iw idg
  have hm : (⟨(L.drop (Sp.at1 46 L + 1)).toArray⟩ : ByteArray).size = (L.drop (Sp.at1 46 L + 1)).length := by rw [Lib.size_eq, utoList_mk]
  have ad := add_run (L.take (Sp.at1 46 L)) (L.drop (Sp.at1 46 L + 1)) (by omega)
  unfold Sp.adS
  cases hw : Sp.wholeB (L.take (Sp.at1 46 L)) with
  | false =>
    rw [hw] at iw
    rw [if_pos (.inl rfl)]
    exact uad_A s _ _ d _ ct iw w
  | true =>
    rw [hw] at iw
    by_cases hp : Sp.at1 46 L < L.length
    · rw [decide_eq_true hp] at ct
      cases hg : Sp.digB (L.drop (Sp.at1 46 L + 1)) with
      | false =>
        rw [hg] at idg
        rw [if_pos (.inr (.inl ⟨hp, rfl⟩))]
        exact uad_B s _ _ d ct iw idg w
      | true =>
        rw [hg] at idg
        by_cases hq : d < (L.drop (Sp.at1 46 L + 1)).length
        · rw [if_pos (.inr (.inr hq))]
          exact uad_C s _ _ d _ hm (by omega) (by omega) (by omega) (by omega) ct iw idg w
        · rw [if_neg (by rintro (h | h | h); exact absurd h (by simp); exact absurd h.2 (by simp); exact hq h)]
          exact uad_D1 s _ _ _ _ _ d _ hm (by omega) (by omega) (by omega) (by omega) _ rfl ct iw idg ad (fun w => urep_any (d - (L.drop (Sp.at1 46 L + 1)).length) _ (by omega) (by omega) w) (add_run _ _ (by rw [List.length_append, List.length_replicate]; omega)) w
    · rw [decide_eq_false hp] at ct
      have l0 : (L.drop (Sp.at1 46 L + 1)).length = 0 := by rw [List.length_drop]; omega
      rw [if_neg (by rintro (h | h | h); exact absurd h (by simp); exact hp h.1; omega)]
      exact uad_D0 s _ _ _ _ _ d _ hm (by omega) (by omega) (by omega) (by omega) _ rfl ct iw ad (fun w => urep_any (d - (L.drop (Sp.at1 46 L + 1)).length) _ (by omega) (by omega) w) (add_run _ _ (by rw [List.length_append, List.length_replicate]; omega)) w

theorem upr_bad (k : Int) (t : ByteArray) (h : ¬ (1 ≤ k ∧ k ≤ 5)) (w : World) : Calls Tryd.prog 18 #[.int .i64 k, .string t] w (Gives (.tuple #[.int .i64 0, .int .i64 1]) w) := by
  have kn := fun w => uknown_any k w
  rw [decide_eq_false h] at kn
  clear h
  go_enter Tryd.func18, Tryd.ntmps18
  go_wp2_with fail
  refine (kn _).mono ?_; rintro _ w1 ⟨rfl, hb⟩
  go_wp2_with fail
  go_ret2
  exact Gives.mk rfl (by repeat' (first | (with_reducible exact Below.refl _ _) | (with_reducible refine Below.alloc ?_ ?_ _) | (with_reducible refine Below.setCell ?_ ?_ _) | (with_reducible refine Below.drew ?_) | (with_reducible refine Below.trans ?_ (Below.mono (by assumption) ?_)) | (simp; done) | (simp; omega) | omega))
theorem upr_long (k : Int) (t : ByteArray) (m : Nat) (hm : t.size = m) (h64 : 64 < m) (h : 1 ≤ k ∧ k ≤ 5) (w : World) : Calls Tryd.prog 18 #[.int .i64 k, .string t] w (Gives (.tuple #[.int .i64 0, .int .i64 8]) w) := by
  have kn := fun w => uknown_any k w
  rw [decide_eq_true h] at kn
  clear h
  go_enter Tryd.func18, Tryd.ntmps18
  go_wp2_with fail
  refine (kn _).mono ?_; rintro _ w1 ⟨rfl, hb⟩
  go_wp2_with fail
  go_ret2
  exact Gives.mk rfl (by repeat' (first | (with_reducible exact Below.refl _ _) | (with_reducible refine Below.alloc ?_ ?_ _) | (with_reducible refine Below.setCell ?_ ?_ _) | (with_reducible refine Below.drew ?_) | (with_reducible refine Below.trans ?_ (Below.mono (by assumption) ?_)) | (simp; done) | (simp; omega) | omega))

set_option maxRecDepth 100000 in
set_option maxHeartbeats 2000000 in
theorem upr_two (k d : Int) (t r s1 D U s2 : ByteArray) (fnd : Bool) (neg : Bool) (m : Nat) (hm : t.size = m) (h64 : m ≤ 64) (k1 : 1 ≤ k) (k5 : k ≤ 5) (w : World)
    (cl : ∀ W, Below w.heap.size w W → W.cell? ⟨0, k.toNat * 2, none⟩ = some (.string U) ∧ W.cell? ⟨0, k.toNat * 2 + 1, none⟩ = some (.int .i64 d))
    (cp : ∀ w : World, Calls Tryd.prog 42 #[.string t, .string ⟨#[45]⟩] w fun e w' => e = .returned (.tuple #[.string r, .bool neg]) ∧ w' = w)
    (ct : ∀ w : World, Calls Tryd.prog 43 #[.string r, .string ⟨#[32]⟩] w (Gives (.tuple #[.string s1, .string s2, .bool fnd]) w))
    (ad : ∀ w : World, Calls Tryd.prog 44 #[.string s1, .int .i64 d] w (Gives (.tuple #[.string D, .bool false]) w)) :
    Calls Tryd.prog 18 #[.int .i64 k, .string t] w (Gives (.tuple #[.int .i64 0, .int .i64 4]) w) := by
  have kn := fun w => uknown_any k w
  rw [decide_eq_true ⟨k1, k5⟩] at kn
  go_enter Tryd.func18, Tryd.ntmps18
  go_wp2_with fail
  refine (kn _).mono ?_; rintro _ w1 ⟨rfl, hb⟩
  have B1 : Below w.heap.size w w1 := by repeat' (first | (with_reducible exact Below.refl _ _) | (with_reducible refine Below.alloc ?_ ?_ _) | (with_reducible refine Below.setCell ?_ ?_ _) | (with_reducible refine Below.drew ?_) | (with_reducible refine Below.trans ?_ (Below.mono (by assumption) ?_)) | (simp; done) | (simp; omega) | omega)
  clear hb
  go_wp2_with fail
  refine (cp _).mono ?_; rintro _ w' ⟨rfl, rfl⟩
  go_wp2_with fail
  refine (ct _).mono ?_; rintro _ w2 ⟨rfl, hb⟩
  have B2 : Below w.heap.size w w2 := B1.trans (hb.mono B1.size)
  clear hb B1
  have c0 := (cl _ B2).1
  have c1 := (cl _ B2).2
  go_wp2_with fail
  refine (ad _).mono ?_; rintro _ w3 ⟨rfl, hb⟩
  have B3 : Below w.heap.size w w3 := B2.trans (hb.mono B2.size)
  clear hb B2
  clear c0 c1
  have c0 := (cl _ B3).1
  have c1 := (cl _ B3).2
  go_wp2_with fail
  go_ret2
  exact Gives.mk rfl B3

set_option maxRecDepth 100000 in
set_option maxHeartbeats 2000000 in
theorem upr_three (k d : Int) (t r s1 D U s2 : ByteArray) (fnd : Bool) (neg : Bool) (m : Nat) (hm : t.size = m) (h64 : m ≤ 64) (k1 : 1 ≤ k) (k5 : k ≤ 5) (w : World)
    (cl : ∀ W, Below w.heap.size w W → W.cell? ⟨0, k.toNat * 2, none⟩ = some (.string U) ∧ W.cell? ⟨0, k.toNat * 2 + 1, none⟩ = some (.int .i64 d))
    (cp : ∀ w : World, Calls Tryd.prog 42 #[.string t, .string ⟨#[45]⟩] w fun e w' => e = .returned (.tuple #[.string r, .bool neg]) ∧ w' = w)
    (ct : ∀ w : World, Calls Tryd.prog 43 #[.string r, .string ⟨#[32]⟩] w (Gives (.tuple #[.string s1, .string s2, .bool fnd]) w))
    (ad : ∀ w : World, Calls Tryd.prog 44 #[.string s1, .int .i64 d] w (Gives (.tuple #[.string D, .bool true]) w))
    (hne : (s2.toList == U.toList) = false) :
    Calls Tryd.prog 18 #[.int .i64 k, .string t] w (Gives (.tuple #[.int .i64 0, .int .i64 4]) w) := by
  have kn := fun w => uknown_any k w
  rw [decide_eq_true ⟨k1, k5⟩] at kn
  have hne2 : (s2.toList != U.toList) = true := by unfold bne; rw [hne]; rfl
  go_enter Tryd.func18, Tryd.ntmps18
  go_wp2_with fail
  refine (kn _).mono ?_; rintro _ w1 ⟨rfl, hb⟩
  have B1 : Below w.heap.size w w1 := by repeat' (first | (with_reducible exact Below.refl _ _) | (with_reducible refine Below.alloc ?_ ?_ _) | (with_reducible refine Below.setCell ?_ ?_ _) | (with_reducible refine Below.drew ?_) | (with_reducible refine Below.trans ?_ (Below.mono (by assumption) ?_)) | (simp; done) | (simp; omega) | omega)
  clear hb
  go_wp2_with fail
  refine (cp _).mono ?_; rintro _ w' ⟨rfl, rfl⟩
  go_wp2_with fail
  refine (ct _).mono ?_; rintro _ w2 ⟨rfl, hb⟩
  have B2 : Below w.heap.size w w2 := B1.trans (hb.mono B1.size)
  clear hb B1
  have c0 := (cl _ B2).1
  have c1 := (cl _ B2).2
  go_wp2_with fail
  refine (ad _).mono ?_; rintro _ w3 ⟨rfl, hb⟩
  have B3 : Below w.heap.size w w3 := B2.trans (hb.mono B2.size)
  clear hb B2
  clear c0 c1
  have c0 := (cl _ B3).1
  have c1 := (cl _ B3).2
  go_wp2_with fail
  go_ret2
  exact Gives.mk rfl B3

set_option maxRecDepth 100000 in
set_option maxHeartbeats 2000000 in
theorem upr_four (k d : Int) (t r s1 D U : ByteArray) (fnd : Bool) (neg : Bool) (n e : Int) (he : ¬ e = 0) (m : Nat) (hm : t.size = m) (h64 : m ≤ 64) (k1 : 1 ≤ k) (k5 : k ≤ 5) (w : World)
    (cl : ∀ W, Below w.heap.size w W → W.cell? ⟨0, k.toNat * 2, none⟩ = some (.string U) ∧ W.cell? ⟨0, k.toNat * 2 + 1, none⟩ = some (.int .i64 d))
    (cp : ∀ w : World, Calls Tryd.prog 42 #[.string t, .string ⟨#[45]⟩] w fun e w' => e = .returned (.tuple #[.string r, .bool neg]) ∧ w' = w)
    (ct : ∀ w : World, Calls Tryd.prog 43 #[.string r, .string ⟨#[32]⟩] w (Gives (.tuple #[.string s1, .string U, .bool fnd]) w))
    (ad : ∀ w : World, Calls Tryd.prog 44 #[.string s1, .int .i64 d] w (Gives (.tuple #[.string D, .bool true]) w))
    (vl : ∀ w : World, Calls Tryd.prog 45 #[.string D] w (Gives (.tuple #[.int .i64 n, .int .i64 e]) w)) :
    Calls Tryd.prog 18 #[.int .i64 k, .string t] w (Gives (.tuple #[.int .i64 0, .int .i64 e]) w) := by
  have kn := fun w => uknown_any k w
  rw [decide_eq_true ⟨k1, k5⟩] at kn
  have g : (e != 0) = true := by simpa using he
  go_enter Tryd.func18, Tryd.ntmps18
  go_wp2_with fail
  refine (kn _).mono ?_; rintro _ w1 ⟨rfl, hb⟩
  have B1 : Below w.heap.size w w1 := by repeat' (first | (with_reducible exact Below.refl _ _) | (with_reducible refine Below.alloc ?_ ?_ _) | (with_reducible refine Below.setCell ?_ ?_ _) | (with_reducible refine Below.drew ?_) | (with_reducible refine Below.trans ?_ (Below.mono (by assumption) ?_)) | (simp; done) | (simp; omega) | omega)
  clear hb
  go_wp2_with fail
  refine (cp _).mono ?_; rintro _ w' ⟨rfl, rfl⟩
  go_wp2_with fail
  refine (ct _).mono ?_; rintro _ w2 ⟨rfl, hb⟩
  have B2 : Below w.heap.size w w2 := B1.trans (hb.mono B1.size)
  clear hb B1
  have c0 := (cl _ B2).1
  have c1 := (cl _ B2).2
  go_wp2_with fail
  refine (ad _).mono ?_; rintro _ w3 ⟨rfl, hb⟩
  have B3 : Below w.heap.size w w3 := B2.trans (hb.mono B2.size)
  clear hb B2
  clear c0 c1
  have c0 := (cl _ B3).1
  have c1 := (cl _ B3).2
  go_wp2_with fail
  refine (vl _).mono ?_; rintro _ w4 ⟨rfl, hb⟩
  have B4 : Below w.heap.size w w4 := B3.trans (hb.mono B3.size)
  clear hb B3
  go_wp2_with fail
  go_ret2
  exact Gives.mk rfl B4

set_option maxRecDepth 100000 in
set_option maxHeartbeats 2000000 in
theorem upr_five (k d : Int) (t r s1 D U : ByteArray) (fnd : Bool) (n : Int) (m : Nat) (hm : t.size = m) (h64 : m ≤ 64) (k1 : 1 ≤ k) (k5 : k ≤ 5) (w : World)
    (cl : ∀ W, Below w.heap.size w W → W.cell? ⟨0, k.toNat * 2, none⟩ = some (.string U) ∧ W.cell? ⟨0, k.toNat * 2 + 1, none⟩ = some (.int .i64 d))
    (cp : ∀ w : World, Calls Tryd.prog 42 #[.string t, .string ⟨#[45]⟩] w fun e w' => e = .returned (.tuple #[.string r, .bool false]) ∧ w' = w)
    (ct : ∀ w : World, Calls Tryd.prog 43 #[.string r, .string ⟨#[32]⟩] w (Gives (.tuple #[.string s1, .string U, .bool fnd]) w))
    (ad : ∀ w : World, Calls Tryd.prog 44 #[.string s1, .int .i64 d] w (Gives (.tuple #[.string D, .bool true]) w))
    (vl : ∀ w : World, Calls Tryd.prog 45 #[.string D] w (Gives (.tuple #[.int .i64 n, .int .i64 0]) w)) :
    Calls Tryd.prog 18 #[.int .i64 k, .string t] w (Gives (.tuple #[.int .i64 n, .int .i64 0]) w) := by
  have kn := fun w => uknown_any k w
  rw [decide_eq_true ⟨k1, k5⟩] at kn
  go_enter Tryd.func18, Tryd.ntmps18
  go_wp2_with fail
  refine (kn _).mono ?_; rintro _ w1 ⟨rfl, hb⟩
  have B1 : Below w.heap.size w w1 := by repeat' (first | (with_reducible exact Below.refl _ _) | (with_reducible refine Below.alloc ?_ ?_ _) | (with_reducible refine Below.setCell ?_ ?_ _) | (with_reducible refine Below.drew ?_) | (with_reducible refine Below.trans ?_ (Below.mono (by assumption) ?_)) | (simp; done) | (simp; omega) | omega)
  clear hb
  go_wp2_with fail
  refine (cp _).mono ?_; rintro _ w' ⟨rfl, rfl⟩
  go_wp2_with fail
  refine (ct _).mono ?_; rintro _ w2 ⟨rfl, hb⟩
  have B2 : Below w.heap.size w w2 := B1.trans (hb.mono B1.size)
  clear hb B1
  have c0 := (cl _ B2).1
  have c1 := (cl _ B2).2
  go_wp2_with fail
  refine (ad _).mono ?_; rintro _ w3 ⟨rfl, hb⟩
  have B3 : Below w.heap.size w w3 := B2.trans (hb.mono B2.size)
  clear hb B2
  clear c0 c1
  have c0 := (cl _ B3).1
  have c1 := (cl _ B3).2
  go_wp2_with fail
  refine (vl _).mono ?_; rintro _ w4 ⟨rfl, hb⟩
  have B4 : Below w.heap.size w w4 := B3.trans (hb.mono B3.size)
  clear hb B3
  go_wp2_with fail
  go_ret2
  exact Gives.mk rfl B4

set_option maxRecDepth 100000 in
set_option maxHeartbeats 2000000 in
theorem upr_six (k d : Int) (t r s1 D U : ByteArray) (fnd : Bool) (m : Nat) (hm : t.size = m) (h64 : m ≤ 64) (k1 : 1 ≤ k) (k5 : k ≤ 5) (w : World)
    (cl : ∀ W, Below w.heap.size w W → W.cell? ⟨0, k.toNat * 2, none⟩ = some (.string U) ∧ W.cell? ⟨0, k.toNat * 2 + 1, none⟩ = some (.int .i64 d))
    (cp : ∀ w : World, Calls Tryd.prog 42 #[.string t, .string ⟨#[45]⟩] w fun e w' => e = .returned (.tuple #[.string r, .bool true]) ∧ w' = w)
    (ct : ∀ w : World, Calls Tryd.prog 43 #[.string r, .string ⟨#[32]⟩] w (Gives (.tuple #[.string s1, .string U, .bool fnd]) w))
    (ad : ∀ w : World, Calls Tryd.prog 44 #[.string s1, .int .i64 d] w (Gives (.tuple #[.string D, .bool true]) w))
    (vl : ∀ w : World, Calls Tryd.prog 45 #[.string D] w (Gives (.tuple #[.int .i64 0, .int .i64 0]) w)) :
    Calls Tryd.prog 18 #[.int .i64 k, .string t] w (Gives (.tuple #[.int .i64 0, .int .i64 4]) w) := by
  have kn := fun w => uknown_any k w
  rw [decide_eq_true ⟨k1, k5⟩] at kn
  go_enter Tryd.func18, Tryd.ntmps18
  go_wp2_with fail
  refine (kn _).mono ?_; rintro _ w1 ⟨rfl, hb⟩
  have B1 : Below w.heap.size w w1 := by repeat' (first | (with_reducible exact Below.refl _ _) | (with_reducible refine Below.alloc ?_ ?_ _) | (with_reducible refine Below.setCell ?_ ?_ _) | (with_reducible refine Below.drew ?_) | (with_reducible refine Below.trans ?_ (Below.mono (by assumption) ?_)) | (simp; done) | (simp; omega) | omega)
  clear hb
  go_wp2_with fail
  refine (cp _).mono ?_; rintro _ w' ⟨rfl, rfl⟩
  go_wp2_with fail
  refine (ct _).mono ?_; rintro _ w2 ⟨rfl, hb⟩
  have B2 : Below w.heap.size w w2 := B1.trans (hb.mono B1.size)
  clear hb B1
  have c0 := (cl _ B2).1
  have c1 := (cl _ B2).2
  go_wp2_with fail
  refine (ad _).mono ?_; rintro _ w3 ⟨rfl, hb⟩
  have B3 : Below w.heap.size w w3 := B2.trans (hb.mono B2.size)
  clear hb B2
  clear c0 c1
  have c0 := (cl _ B3).1
  have c1 := (cl _ B3).2
  go_wp2_with fail
  refine (vl _).mono ?_; rintro _ w4 ⟨rfl, hb⟩
  have B4 : Below w.heap.size w w4 := B3.trans (hb.mono B3.size)
  clear hb B3
  go_wp2_with fail
  go_ret2
  exact Gives.mk rfl B4

set_option maxRecDepth 100000 in
set_option maxHeartbeats 2000000 in
theorem upr_seven (k d : Int) (t r s1 D U : ByteArray) (fnd : Bool) (n N : Int) (hn : ¬ n = 0) (hN : -n = N) (n0 : 0 ≤ n) (n1 : n ≤ 1000000000000000) (m : Nat) (hm : t.size = m) (h64 : m ≤ 64) (k1 : 1 ≤ k) (k5 : k ≤ 5) (w : World)
    (cl : ∀ W, Below w.heap.size w W → W.cell? ⟨0, k.toNat * 2, none⟩ = some (.string U) ∧ W.cell? ⟨0, k.toNat * 2 + 1, none⟩ = some (.int .i64 d))
    (cp : ∀ w : World, Calls Tryd.prog 42 #[.string t, .string ⟨#[45]⟩] w fun e w' => e = .returned (.tuple #[.string r, .bool true]) ∧ w' = w)
    (ct : ∀ w : World, Calls Tryd.prog 43 #[.string r, .string ⟨#[32]⟩] w (Gives (.tuple #[.string s1, .string U, .bool fnd]) w))
    (ad : ∀ w : World, Calls Tryd.prog 44 #[.string s1, .int .i64 d] w (Gives (.tuple #[.string D, .bool true]) w))
    (vl : ∀ w : World, Calls Tryd.prog 45 #[.string D] w (Gives (.tuple #[.int .i64 n, .int .i64 0]) w)) :
    Calls Tryd.prog 18 #[.int .i64 k, .string t] w (Gives (.tuple #[.int .i64 N, .int .i64 0]) w) := by
  have kn := fun w => uknown_any k w
  rw [decide_eq_true ⟨k1, k5⟩] at kn
  have g : (n == 0) = false := by simpa using hn
  go_enter Tryd.func18, Tryd.ntmps18
  go_wp2_with fail
  refine (kn _).mono ?_; rintro _ w1 ⟨rfl, hb⟩
  have B1 : Below w.heap.size w w1 := by repeat' (first | (with_reducible exact Below.refl _ _) | (with_reducible refine Below.alloc ?_ ?_ _) | (with_reducible refine Below.setCell ?_ ?_ _) | (with_reducible refine Below.drew ?_) | (with_reducible refine Below.trans ?_ (Below.mono (by assumption) ?_)) | (simp; done) | (simp; omega) | omega)
  clear hb
  go_wp2_with fail
  refine (cp _).mono ?_; rintro _ w' ⟨rfl, rfl⟩
  go_wp2_with fail
  refine (ct _).mono ?_; rintro _ w2 ⟨rfl, hb⟩
  have B2 : Below w.heap.size w w2 := B1.trans (hb.mono B1.size)
  clear hb B1
  have c0 := (cl _ B2).1
  have c1 := (cl _ B2).2
  go_wp2_with fail
  refine (ad _).mono ?_; rintro _ w3 ⟨rfl, hb⟩
  have B3 : Below w.heap.size w w3 := B2.trans (hb.mono B2.size)
  clear hb B2
  clear c0 c1
  have c0 := (cl _ B3).1
  have c1 := (cl _ B3).2
  go_wp2_with fail
  refine (vl _).mono ?_; rintro _ w4 ⟨rfl, hb⟩
  have B4 : Below w.heap.size w w4 := B3.trans (hb.mono B3.size)
  clear hb B3
  go_wp2_with fail
  go_ret2
  exact Gives.mk rfl B4

theorem udate_bad (k : Int) (h : ¬ (0 ≤ k ∧ k ≤ 100000)) (w : World) : Calls Tryd.prog 29 #[.int .i64 k] w (Gives (.tuple #[.string ⟨#[]⟩, .int .i64 2]) w) := by
  have kn := fun w => uisday_any k w
  rw [decide_eq_false h] at kn
  clear h
  go_enter Tryd.func29, Tryd.ntmps29
  go_wp2_with fail
  refine (kn _).mono ?_; rintro _ w1 ⟨rfl, hb⟩
  go_wp2_with fail
  go_ret2
  exact Gives.mk rfl (by repeat' (first | (with_reducible exact Below.refl _ _) | (with_reducible refine Below.alloc ?_ ?_ _) | (with_reducible refine Below.setCell ?_ ?_ _) | (with_reducible refine Below.drew ?_) | (with_reducible refine Below.trans ?_ (Below.mono (by assumption) ?_)) | (simp; done) | (simp; omega) | omega))
set_option maxRecDepth 100000 in
set_option maxHeartbeats 2000000 in
theorem udate_good (k q r s : Int) (T S B1 B2 : ByteArray) (h : 0 ≤ k ∧ k ≤ 100000) (hq : k.tdiv 365 = q) (hr : k.tmod 365 = r) (hs : r + 1 = s) (r0 : 0 ≤ r) (r1 : r ≤ 365) (q0 : 0 ≤ q) (q1 : q ≤ 100000) (w : World)
    (i1 : ∀ W, Below w.heap.size w W → Calls Tryd.prog 60 #[.int .i64 q] W (Gives (.string T) W)) (pd : ∀ W, Below w.heap.size w W → Calls Tryd.prog 37 #[.int .i64 s, .int .i64 3] W (Gives (.string S) W))
    (ad : ∀ W, (Op.stringOp .add T ⟨#[45]⟩).run Tryd.prog W = .ok (.string B1) W) (ad2 : ∀ W, (Op.stringOp .add B1 S).run Tryd.prog W = .ok (.string B2) W) :
    Calls Tryd.prog 29 #[.int .i64 k] w (Gives (.tuple #[.string B2, .int .i64 0]) w) := by
  have kn := fun w => uisday_any k w
  rw [decide_eq_true h] at kn
  go_enter Tryd.func29, Tryd.ntmps29
  go_wp2_with fail
  refine (kn _).mono ?_; rintro _ w1 ⟨rfl, hb⟩
  have BN1 : Below w.heap.size w w1 := by repeat' (first | (with_reducible exact Below.refl _ _) | (with_reducible refine Below.alloc ?_ ?_ _) | (with_reducible refine Below.setCell ?_ ?_ _) | (with_reducible refine Below.drew ?_) | (with_reducible refine Below.trans ?_ (Below.mono (by assumption) ?_)) | (simp; done) | (simp; omega) | omega)
  clear hb
  go_wp2_with fail
  refine (i1 _ BN1).mono ?_; rintro _ w2 ⟨rfl, hb⟩
  have B2x : Below w.heap.size w w2 := BN1.trans (hb.mono BN1.size)
  clear hb i1 BN1
  go_wp2_with fail
  refine (pd _ B2x).mono ?_; rintro _ w3 ⟨rfl, hb⟩
  have B3x : Below w.heap.size w w3 := B2x.trans (hb.mono B2x.size)
  clear hb pd B2x
  go_wp2_with fail
  go_ret2
  exact Gives.mk rfl B3x

set_option maxRecDepth 100000 in
set_option maxHeartbeats 2000000 in
theorem upd_notwhole (t s1 s2 : ByteArray) (fnd : Bool)
    (ct : ∀ w : World, Calls Tryd.prog 43 #[.string t, .string ⟨#[45]⟩] w (Gives (.tuple #[.string s1, .string s2, .bool fnd]) w))
    (iw : ∀ w : World, Calls Tryd.prog 61 #[.string s1] w (Gives (.bool false) w)) (w : World) :
    Calls Tryd.prog 31 #[.string t] w (Gives (.tuple #[.int .i64 0, .int .i64 4]) w) := by
  go_enter Tryd.func31, Tryd.ntmps31
  go_wp2_with fail
  refine (ct _).mono ?_; rintro _ w1 ⟨rfl, hb⟩
  have B1 : Below w.heap.size w w1 := by repeat' (first | (with_reducible exact Below.refl _ _) | (with_reducible refine Below.alloc ?_ ?_ _) | (with_reducible refine Below.setCell ?_ ?_ _) | (with_reducible refine Below.drew ?_) | (with_reducible refine Below.trans ?_ (Below.mono (by assumption) ?_)) | (simp; done) | (simp; omega) | omega)
  clear hb
  go_wp2_with fail
  refine (iw _).mono ?_; rintro _ w2 ⟨rfl, hb⟩
  have B2 : Below w.heap.size w w2 := B1.trans (hb.mono B1.size)
  clear hb B1
  go_wp2_with fail
  go_ret2
  exact Gives.mk rfl B2

set_option maxRecDepth 100000 in
set_option maxHeartbeats 2000000 in
theorem upd_long (t s1 s2 : ByteArray) (fnd : Bool) (m : Nat) (hm : s1.size = m) (m1 : m ≤ 1000) (hm4 : 4 < m)
    (ct : ∀ w : World, Calls Tryd.prog 43 #[.string t, .string ⟨#[45]⟩] w (Gives (.tuple #[.string s1, .string s2, .bool fnd]) w))
    (iw : ∀ w : World, Calls Tryd.prog 61 #[.string s1] w (Gives (.bool true) w)) (w : World) :
    Calls Tryd.prog 31 #[.string t] w (Gives (.tuple #[.int .i64 0, .int .i64 4]) w) := by
  have k1 : decide (4 < (m : Int)) = true := decide_eq_true (by omega)
  go_enter Tryd.func31, Tryd.ntmps31
  go_wp2_with fail
  refine (ct _).mono ?_; rintro _ w1 ⟨rfl, hb⟩
  have B1 : Below w.heap.size w w1 := by repeat' (first | (with_reducible exact Below.refl _ _) | (with_reducible refine Below.alloc ?_ ?_ _) | (with_reducible refine Below.setCell ?_ ?_ _) | (with_reducible refine Below.drew ?_) | (with_reducible refine Below.trans ?_ (Below.mono (by assumption) ?_)) | (simp; done) | (simp; omega) | omega)
  clear hb
  go_wp2_with fail
  refine (iw _).mono ?_; rintro _ w2 ⟨rfl, hb⟩
  have B2 : Below w.heap.size w w2 := B1.trans (hb.mono B1.size)
  clear hb B1
  go_wp2_with fail
  go_ret2
  exact Gives.mk rfl B2

set_option maxRecDepth 100000 in
set_option maxHeartbeats 2000000 in
theorem upd_notdig (t s1 s2 : ByteArray) (fnd : Bool) (m : Nat) (hm : s1.size = m) (m1 : m ≤ 1000) (hm4 : m ≤ 4)
    (ct : ∀ w : World, Calls Tryd.prog 43 #[.string t, .string ⟨#[45]⟩] w (Gives (.tuple #[.string s1, .string s2, .bool fnd]) w))
    (iw : ∀ w : World, Calls Tryd.prog 61 #[.string s1] w (Gives (.bool true) w))
    (idg : ∀ w : World, Calls Tryd.prog 62 #[.string s2] w (Gives (.bool false) w)) (w : World) :
    Calls Tryd.prog 31 #[.string t] w (Gives (.tuple #[.int .i64 0, .int .i64 4]) w) := by
  have k1 : decide (4 < (m : Int)) = false := decide_eq_false (by omega)
  go_enter Tryd.func31, Tryd.ntmps31
  go_wp2_with fail
  refine (ct _).mono ?_; rintro _ w1 ⟨rfl, hb⟩
  have B1 : Below w.heap.size w w1 := by repeat' (first | (with_reducible exact Below.refl _ _) | (with_reducible refine Below.alloc ?_ ?_ _) | (with_reducible refine Below.setCell ?_ ?_ _) | (with_reducible refine Below.drew ?_) | (with_reducible refine Below.trans ?_ (Below.mono (by assumption) ?_)) | (simp; done) | (simp; omega) | omega)
  clear hb
  go_wp2_with fail
  refine (iw _).mono ?_; rintro _ w2 ⟨rfl, hb⟩
  have B2 : Below w.heap.size w w2 := B1.trans (hb.mono B1.size)
  clear hb B1
  go_wp2_with fail
  refine (idg _).mono ?_; rintro _ w3 ⟨rfl, hb⟩
  have B3 : Below w.heap.size w w3 := B2.trans (hb.mono B2.size)
  clear hb B2
  go_wp2_with fail
  go_ret2
  exact Gives.mk rfl B3

set_option maxRecDepth 100000 in
set_option maxHeartbeats 2000000 in
theorem upd_notthree (t s1 s2 : ByteArray) (fnd : Bool) (m : Nat) (hm : s1.size = m) (m1 : m ≤ 1000) (hm4 : m ≤ 4) (q : Nat) (hq : s2.size = q) (q1 : q ≤ 1000) (hq3 : ¬ q = 3)
    (ct : ∀ w : World, Calls Tryd.prog 43 #[.string t, .string ⟨#[45]⟩] w (Gives (.tuple #[.string s1, .string s2, .bool fnd]) w))
    (iw : ∀ w : World, Calls Tryd.prog 61 #[.string s1] w (Gives (.bool true) w))
    (idg : ∀ w : World, Calls Tryd.prog 62 #[.string s2] w (Gives (.bool true) w)) (w : World) :
    Calls Tryd.prog 31 #[.string t] w (Gives (.tuple #[.int .i64 0, .int .i64 4]) w) := by
  have k1 : decide (4 < (m : Int)) = false := decide_eq_false (by omega)
  have k2 : ((q : Int) != 3) = true := by simp; omega
  clear hq3
  go_enter Tryd.func31, Tryd.ntmps31
  go_wp2_with fail
  refine (ct _).mono ?_; rintro _ w1 ⟨rfl, hb⟩
  have B1 : Below w.heap.size w w1 := by repeat' (first | (with_reducible exact Below.refl _ _) | (with_reducible refine Below.alloc ?_ ?_ _) | (with_reducible refine Below.setCell ?_ ?_ _) | (with_reducible refine Below.drew ?_) | (with_reducible refine Below.trans ?_ (Below.mono (by assumption) ?_)) | (simp; done) | (simp; omega) | omega)
  clear hb
  go_wp2_with fail
  refine (iw _).mono ?_; rintro _ w2 ⟨rfl, hb⟩
  have B2 : Below w.heap.size w w2 := B1.trans (hb.mono B1.size)
  clear hb B1
  go_wp2_with fail
  refine (idg _).mono ?_; rintro _ w3 ⟨rfl, hb⟩
  have B3 : Below w.heap.size w w3 := B2.trans (hb.mono B2.size)
  clear hb B2
  go_wp2_with fail
  go_ret2
  exact Gives.mk rfl B3

set_option maxRecDepth 100000 in
set_option maxHeartbeats 2000000 in
theorem upd_range1 (t s1 s2 : ByteArray) (fnd : Bool) (m : Nat) (hm : s1.size = m) (m1 : m ≤ 1000) (hm4 : m ≤ 4) (q : Nat) (hq : s2.size = q) (q1 : q ≤ 1000) (hq3 : q = 3) (y z ey ez Y D : Int) (hY : y * 365 = Y) (hD : Y + z - 1 = D) (y0 : 0 ≤ Y) (y1 : Y ≤ 400000000000000000) (z0 : 0 ≤ z) (z1 : z ≤ 1000000000000000) (hc : z < 1)
    (ct : ∀ w : World, Calls Tryd.prog 43 #[.string t, .string ⟨#[45]⟩] w (Gives (.tuple #[.string s1, .string s2, .bool fnd]) w))
    (iw : ∀ w : World, Calls Tryd.prog 61 #[.string s1] w (Gives (.bool true) w))
    (idg : ∀ w : World, Calls Tryd.prog 62 #[.string s2] w (Gives (.bool true) w))
    (v1 : ∀ w : World, Calls Tryd.prog 45 #[.string s1] w (Gives (.tuple #[.int .i64 y, .int .i64 ey]) w)) (v2 : ∀ w : World, Calls Tryd.prog 45 #[.string s2] w (Gives (.tuple #[.int .i64 z, .int .i64 ez]) w)) (w : World) :
    Calls Tryd.prog 31 #[.string t] w (Gives (.tuple #[.int .i64 0, .int .i64 2]) w) := by
  have k1 : decide (4 < (m : Int)) = false := decide_eq_false (by omega)
  have k2 : ((q : Int) != 3) = false := by simp; omega
  clear hq3
  have k3 : decide (z < 1) = true := decide_eq_true hc
  go_enter Tryd.func31, Tryd.ntmps31
  go_wp2_with fail
  refine (ct _).mono ?_; rintro _ w1 ⟨rfl, hb⟩
  have B1 : Below w.heap.size w w1 := by repeat' (first | (with_reducible exact Below.refl _ _) | (with_reducible refine Below.alloc ?_ ?_ _) | (with_reducible refine Below.setCell ?_ ?_ _) | (with_reducible refine Below.drew ?_) | (with_reducible refine Below.trans ?_ (Below.mono (by assumption) ?_)) | (simp; done) | (simp; omega) | omega)
  clear hb
  go_wp2_with fail
  refine (iw _).mono ?_; rintro _ w2 ⟨rfl, hb⟩
  have B2 : Below w.heap.size w w2 := B1.trans (hb.mono B1.size)
  clear hb B1
  go_wp2_with fail
  refine (idg _).mono ?_; rintro _ w3 ⟨rfl, hb⟩
  have B3 : Below w.heap.size w w3 := B2.trans (hb.mono B2.size)
  clear hb B2
  go_wp2_with fail
  refine (v1 _).mono ?_; rintro _ w4 ⟨rfl, hb⟩
  have B4 : Below w.heap.size w w4 := B3.trans (hb.mono B3.size)
  clear hb B3
  go_wp2_with fail
  refine (v2 _).mono ?_; rintro _ w5 ⟨rfl, hb⟩
  have B5 : Below w.heap.size w w5 := B4.trans (hb.mono B4.size)
  clear hb B4
  go_wp2_with fail
  go_ret2
  exact Gives.mk rfl B5

set_option maxRecDepth 100000 in
set_option maxHeartbeats 2000000 in
theorem upd_range2 (t s1 s2 : ByteArray) (fnd : Bool) (m : Nat) (hm : s1.size = m) (m1 : m ≤ 1000) (hm4 : m ≤ 4) (q : Nat) (hq : s2.size = q) (q1 : q ≤ 1000) (hq3 : q = 3) (y z ey ez Y D : Int) (hY : y * 365 = Y) (hD : Y + z - 1 = D) (y0 : 0 ≤ Y) (y1 : Y ≤ 400000000000000000) (z0 : 0 ≤ z) (z1 : z ≤ 1000000000000000) (hc : 365 < z)
    (ct : ∀ w : World, Calls Tryd.prog 43 #[.string t, .string ⟨#[45]⟩] w (Gives (.tuple #[.string s1, .string s2, .bool fnd]) w))
    (iw : ∀ w : World, Calls Tryd.prog 61 #[.string s1] w (Gives (.bool true) w))
    (idg : ∀ w : World, Calls Tryd.prog 62 #[.string s2] w (Gives (.bool true) w))
    (v1 : ∀ w : World, Calls Tryd.prog 45 #[.string s1] w (Gives (.tuple #[.int .i64 y, .int .i64 ey]) w)) (v2 : ∀ w : World, Calls Tryd.prog 45 #[.string s2] w (Gives (.tuple #[.int .i64 z, .int .i64 ez]) w)) (w : World) :
    Calls Tryd.prog 31 #[.string t] w (Gives (.tuple #[.int .i64 0, .int .i64 2]) w) := by
  have k1 : decide (4 < (m : Int)) = false := decide_eq_false (by omega)
  have k2 : ((q : Int) != 3) = false := by simp; omega
  clear hq3
  have k3 : decide (z < 1) = false := decide_eq_false (by omega)
  have k4 : decide (365 < z) = true := decide_eq_true hc
  go_enter Tryd.func31, Tryd.ntmps31
  go_wp2_with fail
  refine (ct _).mono ?_; rintro _ w1 ⟨rfl, hb⟩
  have B1 : Below w.heap.size w w1 := by repeat' (first | (with_reducible exact Below.refl _ _) | (with_reducible refine Below.alloc ?_ ?_ _) | (with_reducible refine Below.setCell ?_ ?_ _) | (with_reducible refine Below.drew ?_) | (with_reducible refine Below.trans ?_ (Below.mono (by assumption) ?_)) | (simp; done) | (simp; omega) | omega)
  clear hb
  go_wp2_with fail
  refine (iw _).mono ?_; rintro _ w2 ⟨rfl, hb⟩
  have B2 : Below w.heap.size w w2 := B1.trans (hb.mono B1.size)
  clear hb B1
  go_wp2_with fail
  refine (idg _).mono ?_; rintro _ w3 ⟨rfl, hb⟩
  have B3 : Below w.heap.size w w3 := B2.trans (hb.mono B2.size)
  clear hb B2
  go_wp2_with fail
  refine (v1 _).mono ?_; rintro _ w4 ⟨rfl, hb⟩
  have B4 : Below w.heap.size w w4 := B3.trans (hb.mono B3.size)
  clear hb B3
  go_wp2_with fail
  refine (v2 _).mono ?_; rintro _ w5 ⟨rfl, hb⟩
  have B5 : Below w.heap.size w w5 := B4.trans (hb.mono B4.size)
  clear hb B4
  go_wp2_with fail
  go_ret2
  exact Gives.mk rfl B5

set_option maxRecDepth 100000 in
set_option maxHeartbeats 2000000 in
theorem upd_range3 (t s1 s2 : ByteArray) (fnd : Bool) (m : Nat) (hm : s1.size = m) (m1 : m ≤ 1000) (hm4 : m ≤ 4) (q : Nat) (hq : s2.size = q) (q1 : q ≤ 1000) (hq3 : q = 3) (y z ey ez Y D : Int) (hY : y * 365 = Y) (hD : Y + z - 1 = D) (y0 : 0 ≤ Y) (y1 : Y ≤ 400000000000000000) (z0 : 0 ≤ z) (z1 : z ≤ 1000000000000000) (h1 : 1 ≤ z) (h2 : z ≤ 365) (hc : 100000 < D)
    (ct : ∀ w : World, Calls Tryd.prog 43 #[.string t, .string ⟨#[45]⟩] w (Gives (.tuple #[.string s1, .string s2, .bool fnd]) w))
    (iw : ∀ w : World, Calls Tryd.prog 61 #[.string s1] w (Gives (.bool true) w))
    (idg : ∀ w : World, Calls Tryd.prog 62 #[.string s2] w (Gives (.bool true) w))
    (v1 : ∀ w : World, Calls Tryd.prog 45 #[.string s1] w (Gives (.tuple #[.int .i64 y, .int .i64 ey]) w)) (v2 : ∀ w : World, Calls Tryd.prog 45 #[.string s2] w (Gives (.tuple #[.int .i64 z, .int .i64 ez]) w)) (w : World) :
    Calls Tryd.prog 31 #[.string t] w (Gives (.tuple #[.int .i64 0, .int .i64 2]) w) := by
  have k1 : decide (4 < (m : Int)) = false := decide_eq_false (by omega)
  have k2 : ((q : Int) != 3) = false := by simp; omega
  clear hq3
  have dy := fun w => uisday_any D w
  rw [decide_eq_false (by omega)] at dy
  have k3 : decide (z < 1) = false := decide_eq_false (by omega)
  have k4 : decide (365 < z) = false := decide_eq_false (by omega)
  go_enter Tryd.func31, Tryd.ntmps31
  go_wp2_with fail
  refine (ct _).mono ?_; rintro _ w1 ⟨rfl, hb⟩
  have B1 : Below w.heap.size w w1 := by repeat' (first | (with_reducible exact Below.refl _ _) | (with_reducible refine Below.alloc ?_ ?_ _) | (with_reducible refine Below.setCell ?_ ?_ _) | (with_reducible refine Below.drew ?_) | (with_reducible refine Below.trans ?_ (Below.mono (by assumption) ?_)) | (simp; done) | (simp; omega) | omega)
  clear hb
  go_wp2_with fail
  refine (iw _).mono ?_; rintro _ w2 ⟨rfl, hb⟩
  have B2 : Below w.heap.size w w2 := B1.trans (hb.mono B1.size)
  clear hb B1
  go_wp2_with fail
  refine (idg _).mono ?_; rintro _ w3 ⟨rfl, hb⟩
  have B3 : Below w.heap.size w w3 := B2.trans (hb.mono B2.size)
  clear hb B2
  go_wp2_with fail
  refine (v1 _).mono ?_; rintro _ w4 ⟨rfl, hb⟩
  have B4 : Below w.heap.size w w4 := B3.trans (hb.mono B3.size)
  clear hb B3
  go_wp2_with fail
  refine (v2 _).mono ?_; rintro _ w5 ⟨rfl, hb⟩
  have B5 : Below w.heap.size w w5 := B4.trans (hb.mono B4.size)
  clear hb B4
  go_wp2_with fail
  refine (dy _).mono ?_; rintro _ w6 ⟨rfl, hb⟩
  have B6 : Below w.heap.size w w6 := B5.trans (hb.mono B5.size)
  clear hb B5
  go_wp2_with fail
  go_ret2
  exact Gives.mk rfl B6

set_option maxRecDepth 100000 in
set_option maxHeartbeats 2000000 in
theorem upd_good (t s1 s2 : ByteArray) (fnd : Bool) (m : Nat) (hm : s1.size = m) (m1 : m ≤ 1000) (hm4 : m ≤ 4) (q : Nat) (hq : s2.size = q) (q1 : q ≤ 1000) (hq3 : q = 3) (y z ey ez Y D : Int) (hY : y * 365 = Y) (hD : Y + z - 1 = D) (y0 : 0 ≤ Y) (y1 : Y ≤ 400000000000000000) (z0 : 0 ≤ z) (z1 : z ≤ 1000000000000000) (h1 : 1 ≤ z) (h2 : z ≤ 365) (h3 : D ≤ 100000)
    (ct : ∀ w : World, Calls Tryd.prog 43 #[.string t, .string ⟨#[45]⟩] w (Gives (.tuple #[.string s1, .string s2, .bool fnd]) w))
    (iw : ∀ w : World, Calls Tryd.prog 61 #[.string s1] w (Gives (.bool true) w))
    (idg : ∀ w : World, Calls Tryd.prog 62 #[.string s2] w (Gives (.bool true) w))
    (v1 : ∀ w : World, Calls Tryd.prog 45 #[.string s1] w (Gives (.tuple #[.int .i64 y, .int .i64 ey]) w)) (v2 : ∀ w : World, Calls Tryd.prog 45 #[.string s2] w (Gives (.tuple #[.int .i64 z, .int .i64 ez]) w)) (w : World) :
    Calls Tryd.prog 31 #[.string t] w (Gives (.tuple #[.int .i64 D, .int .i64 0]) w) := by
  have k1 : decide (4 < (m : Int)) = false := decide_eq_false (by omega)
  have k2 : ((q : Int) != 3) = false := by simp; omega
  clear hq3
  have dy := fun w => uisday_any D w
  rw [decide_eq_true (by omega)] at dy
  have k3 : decide (z < 1) = false := decide_eq_false (by omega)
  have k4 : decide (365 < z) = false := decide_eq_false (by omega)
  go_enter Tryd.func31, Tryd.ntmps31
  go_wp2_with fail
  refine (ct _).mono ?_; rintro _ w1 ⟨rfl, hb⟩
  have B1 : Below w.heap.size w w1 := by repeat' (first | (with_reducible exact Below.refl _ _) | (with_reducible refine Below.alloc ?_ ?_ _) | (with_reducible refine Below.setCell ?_ ?_ _) | (with_reducible refine Below.drew ?_) | (with_reducible refine Below.trans ?_ (Below.mono (by assumption) ?_)) | (simp; done) | (simp; omega) | omega)
  clear hb
  go_wp2_with fail
  refine (iw _).mono ?_; rintro _ w2 ⟨rfl, hb⟩
  have B2 : Below w.heap.size w w2 := B1.trans (hb.mono B1.size)
  clear hb B1
  go_wp2_with fail
  refine (idg _).mono ?_; rintro _ w3 ⟨rfl, hb⟩
  have B3 : Below w.heap.size w w3 := B2.trans (hb.mono B2.size)
  clear hb B2
  go_wp2_with fail
  refine (v1 _).mono ?_; rintro _ w4 ⟨rfl, hb⟩
  have B4 : Below w.heap.size w w4 := B3.trans (hb.mono B3.size)
  clear hb B3
  go_wp2_with fail
  refine (v2 _).mono ?_; rintro _ w5 ⟨rfl, hb⟩
  have B5 : Below w.heap.size w w5 := B4.trans (hb.mono B4.size)
  clear hb B4
  go_wp2_with fail
  refine (dy _).mono ?_; rintro _ w6 ⟨rfl, hb⟩
  have B6 : Below w.heap.size w w6 := B5.trans (hb.mono B5.size)
  clear hb B5
  go_wp2_with fail
  go_ret2
  exact Gives.mk rfl B6

end Go.Proofs.YtgfjofdjicepiaaDoor
