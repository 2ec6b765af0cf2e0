/-
  fraction.Parse, by contract, at any text.
-/
import Derived.Test.YtjbnejhpfknfcaaDoorFtxn
import Derived.Test.YtjbnejhpfknfcaaDoorFtext2
namespace Go.Proofs.YtjbnejhpfknfcaaDoor
open Go.RowKit
set_option linter.unusedVariables false
set_option linter.unusedSimpArgs false
theorem ext_take (s : ByteArray) (k : Nat) : s.extract 0 k = ⟨(s.data.toList.take k).toArray⟩ := by
  refine ByteArray.ext ?_
  rw [ByteArray.data_extract]
  refine Array.toList_inj.1 ?_
  simp
theorem ext_drop (s : ByteArray) (k : Nat) : s.extract k s.size = ⟨(s.data.toList.drop k).toArray⟩ := by
  refine ByteArray.ext ?_
  rw [ByteArray.data_extract]
  refine Array.toList_inj.1 ?_
  rw [Lib.size_eq]
  simp
  exact List.take_of_length_le (by simp)
theorem run_take (s : ByteArray) (k : Nat) (h : k ≤ s.size) : ∀ W, (Instr.slice 9 (.string s) none (some (.int .i64 k)) none).run Tryd.prog W = .ok (.string ⟨(s.data.toList.take k).toArray⟩) W := by
  intro W
  rw [run_slice_string_to_if W _ _ _ _ Tryd.underlying9, if_pos ⟨by omega, by omega⟩, ← ext_take]
  rfl
theorem run_drop (s : ByteArray) (k : Nat) (h : k ≤ s.size) (j : Int) (hj : j = k) : ∀ W, (Instr.slice 9 (.string s) (some (.int .i64 j)) none none).run Tryd.prog W = .ok (.string ⟨(s.data.toList.drop k).toArray⟩) W := by
  intro W
  subst hj
  rw [run_slice_string_from_if W _ _ _ _ Tryd.underlying9, if_pos ⟨by omega, by omega⟩, ← ext_drop]
  rfl
theorem fcutl_any (s : ByteArray) (hs : s.data.toList.length ≤ 1000) (w : World) : Calls Tryd.prog 78 #[.string s, .string ⟨#[47]⟩] w (Gives (.tuple #[.string ⟨(s.data.toList.take (Sp.slash s.data.toList)).toArray⟩, .string ⟨(s.data.toList.drop (Sp.slash s.data.toList + 1)).toArray⟩, .bool (decide (Sp.slash s.data.toList < s.data.toList.length))]) w) := by
  have e1 := Sp.indexByte_slash s.data.toList
  have hle := Sp.slash_le s.data.toList
  have ix : ∀ w : World, Calls Tryd.prog 91 #[.string s, .string ⟨#[47]⟩] w fun e w' => e = .returned (.int .i64 (Lib.indexByte s.data.toList 47)) ∧ w' = w := fun w => Tryd.stringslite_Index_one s 47 w
  have hz : s.size = s.data.toList.length := Lib.size_eq s
  rw [e1] at ix
  clear e1
  by_cases h : Sp.slash s.data.toList < s.data.toList.length
  · rw [if_pos h] at ix
    have e : decide (Sp.slash s.data.toList < s.data.toList.length) = true := decide_eq_true h
    rw [e]
    have s0 := run_take s (Sp.slash s.data.toList) (by omega)
    have s1 := run_drop s (Sp.slash s.data.toList + 1) (by omega) ((Sp.slash s.data.toList : Int) + 1) (by omega)
    generalize (s.data.toList.take (Sp.slash s.data.toList)).toArray = x at s0 ⊢
    generalize (s.data.toList.drop (Sp.slash s.data.toList + 1)).toArray = y at s1 ⊢
    generalize Sp.slash s.data.toList = k at h ix s0 s1 hle
    have hb : (k : Int) < 1000 := by omega
    clear e hle h hz hs
    go_enter Tryd.func78, Tryd.ntmps78
    go_wp2_with (go_at_call 91; refine (ix _).mono ?_; rintro _ w' ⟨rfl, rfl⟩)
    go_quiet (fail)
    go_wp2
    go_ret3
    exact Gives.mk rfl (by repeat' (first | (with_reducible exact Below.refl _ _) | (with_reducible refine Below.alloc ?_ ?_ _) | (with_reducible refine Below.setCell ?_ ?_ _) | (with_reducible refine Below.drew ?_) | (with_reducible refine below_dn ?_ _) | (with_reducible refine Below.trans ?_ (Below.mono (by assumption) ?_)) | (simp; done) | (simp; omega) | omega))
  · rw [if_neg h] at ix
    have e : decide (Sp.slash s.data.toList < s.data.toList.length) = false := decide_eq_false h
    rw [e]
    have hk : Sp.slash s.data.toList = s.data.toList.length := by omega
    rw [hk, List.take_length, List.drop_eq_nil_of_le (by omega)]
    clear h e hk hle hz
    go_enter Tryd.func78, Tryd.ntmps78
    go_wp2_with (go_at_call 91; refine (ix _).mono ?_; rintro _ w' ⟨rfl, rfl⟩)
    go_ret3
    exact Gives.mk rfl (by repeat' (first | (with_reducible exact Below.refl _ _) | (with_reducible refine Below.alloc ?_ ?_ _) | (with_reducible refine Below.setCell ?_ ?_ _) | (with_reducible refine Below.drew ?_) | (with_reducible refine below_dn ?_ _) | (with_reducible refine Below.trans ?_ (Below.mono (by assumption) ?_)) | (simp; done) | (simp; omega) | omega))
theorem fcut_any (s : ByteArray) (hs : s.data.toList.length ≤ 1000) (w : World) : Calls Tryd.prog 65 #[.string s, .string ⟨#[47]⟩] w (Gives (.tuple #[.string ⟨(s.data.toList.take (Sp.slash s.data.toList)).toArray⟩, .string ⟨(s.data.toList.drop (Sp.slash s.data.toList + 1)).toArray⟩, .bool (decide (Sp.slash s.data.toList < s.data.toList.length))]) w) := by
  have cl := fun w => fcutl_any s hs w
  go_enter Tryd.func65, Tryd.ntmps65
  go_wp2_with (go_at_call 78; refine (cl _).mono ?_; rintro _ w1 ⟨rfl, hb⟩)
  go_ret3
  exact Gives.mk rfl (by repeat' (first | (with_reducible exact Below.refl _ _) | (with_reducible refine Below.alloc ?_ ?_ _) | (with_reducible refine Below.setCell ?_ ?_ _) | (with_reducible refine Below.drew ?_) | (with_reducible refine below_dn ?_ _) | (with_reducible refine Below.trans ?_ (Below.mono (by assumption) ?_)) | (simp; done) | (simp; omega) | omega))
set_option maxRecDepth 100000 in
set_option maxHeartbeats 2000000 in
theorem fparse_bad_true (t r s1 s2 : ByteArray) (a A d lo hi e : Int) (div : Bool)
    (cp : ∀ w : World, Calls Tryd.prog 64 #[.string t, .string ⟨#[45]⟩] w fun e w' => e = .returned (.tuple #[.string r, .bool true]) ∧ w' = w)
    (ct : ∀ w : World, Calls Tryd.prog 65 #[.string r, .string ⟨#[47]⟩] w (Gives (.tuple #[.string s1, .string s2, .bool div]) w))
    (n1 : ∀ w : World, Calls Tryd.prog 66 #[.string s1] w (Gives (.tuple #[.int .i64 a, .bool false]) w))
    (w : World) : Calls Tryd.prog 39 #[.string t] w (Gives (.tuple #[.agg #[.int .i64 0, .int .i64 0], .int .i64 4]) w) := by
  go_enter Tryd.func39, Tryd.ntmps39
  go_wp2_with fail
  refine (cp _).mono ?_; rintro _ w' ⟨rfl, rfl⟩
  go_wp2_with fail
  refine (ct _).mono ?_; rintro _ w1 ⟨rfl, hb⟩
  have yz : w.heap.size < (w1).heap.size := Nat.lt_of_lt_of_le (show w.heap.size < _ from (by first | assumption | (simp; done) | (simp; omega) | (dsimp only; omega) | omega)) hb.size; have y0 : (w1).cell? ⟨w.heap.size, 0, none⟩ = some (.int .i64 0) := (hb.cell (p := ⟨w.heap.size, 0, none⟩) (by first | assumption | (simp; done) | (simp; omega) | (dsimp only; omega) | omega)).trans (by first | assumption | (simp [go_sem]; done) | (simp [go_sem, *]; done)); have y1 : (w1).cell? ⟨w.heap.size, 1, none⟩ = some (.int .i64 0) := (hb.cell (p := ⟨w.heap.size, 1, none⟩) (by first | assumption | (simp; done) | (simp; omega) | (dsimp only; omega) | omega)).trans (by first | assumption | (simp [go_sem]; done) | (simp [go_sem, *]; done)); have yf : ∀ o, (w1).frozen? ⟨w.heap.size, o, none⟩ = false := fun o => (hb.frozen (p := ⟨w.heap.size, o, none⟩) (by first | assumption | (simp; done) | (simp; omega) | (dsimp only; omega) | omega)).trans (by first | (simp [go_sem]; done) | (simp [*]; done))
  have BN1 : Below w.heap.size w w1 := by repeat' (first | (with_reducible exact Below.refl _ _) | (with_reducible refine Below.alloc ?_ ?_ _) | (with_reducible refine Below.setCell ?_ ?_ _) | (with_reducible refine Below.drew ?_) | (with_reducible refine below_dn ?_ _) | (with_reducible refine Below.trans ?_ (Below.mono (by assumption) ?_)) | (simp; done) | (simp; omega) | omega)
  clear hb
  go_wp2_with fail
  refine (n1 _).mono ?_; rintro _ w2 ⟨rfl, hb⟩
  have xz : w.heap.size < (w2).heap.size := Nat.lt_of_lt_of_le (show w.heap.size < _ from (by first | assumption | (simp; done) | (simp; omega) | (dsimp only; omega) | omega)) hb.size; have x0 : (w2).cell? ⟨w.heap.size, 0, none⟩ = some (.int .i64 0) := (hb.cell (p := ⟨w.heap.size, 0, none⟩) (by first | assumption | (simp; done) | (simp; omega) | (dsimp only; omega) | omega)).trans (by first | assumption | (simp [go_sem]; done) | (simp [go_sem, *]; done)); have x1 : (w2).cell? ⟨w.heap.size, 1, none⟩ = some (.int .i64 0) := (hb.cell (p := ⟨w.heap.size, 1, none⟩) (by first | assumption | (simp; done) | (simp; omega) | (dsimp only; omega) | omega)).trans (by first | assumption | (simp [go_sem]; done) | (simp [go_sem, *]; done)); have xf : ∀ o, (w2).frozen? ⟨w.heap.size, o, none⟩ = false := fun o => (hb.frozen (p := ⟨w.heap.size, o, none⟩) (by first | assumption | (simp; done) | (simp; omega) | (dsimp only; omega) | omega)).trans (by first | (simp [go_sem]; done) | (simp [*]; done))
  have BN2 : Below w.heap.size w w2 := by (have := BN1.size; repeat' (first | (with_reducible exact Below.refl _ _) | (with_reducible refine Below.alloc ?_ ?_ _) | (with_reducible refine Below.setCell ?_ ?_ _) | (with_reducible refine Below.drew ?_) | (with_reducible refine below_dn ?_ _) | (with_reducible refine Below.trans ?_ (Below.mono (by assumption) ?_)) | (simp; done) | (simp; omega) | omega))
  clear hb BN1 y0 y1 yf yz
  have hz := BN2.size
  go_wp2_with fail
  refine bodyPost_ret (v := .tuple #[.agg #[.int .i64 0, .int .i64 0], .int .i64 4]) (by simp [results, Tryd.results39, go_sem, x0, x1]) rfl ?_
  exact Gives.mk rfl (by repeat' (first | (with_reducible exact Below.refl _ _) | (with_reducible refine Below.alloc ?_ ?_ _) | (with_reducible refine Below.setCell ?_ ?_ _) | (with_reducible refine Below.drew ?_) | (with_reducible refine below_dn ?_ _) | (with_reducible refine Below.trans ?_ (Below.mono (by assumption) ?_)) | (simp; done) | (simp; omega) | omega))
set_option maxRecDepth 100000 in
set_option maxHeartbeats 2000000 in
theorem fparse_one_true (t r s1 s2 : ByteArray) (a A d lo hi e : Int)
    (cp : ∀ w : World, Calls Tryd.prog 64 #[.string t, .string ⟨#[45]⟩] w fun e w' => e = .returned (.tuple #[.string r, .bool true]) ∧ w' = w)
    (ct : ∀ w : World, Calls Tryd.prog 65 #[.string r, .string ⟨#[47]⟩] w (Gives (.tuple #[.string s1, .string s2, .bool false]) w))
    (n1 : ∀ w : World, Calls Tryd.prog 66 #[.string s1] w (Gives (.tuple #[.int .i64 a, .bool true]) w))
    (hA : -a = A) (a0 : 0 ≤ a) (a1 : a < 10000000000000000)
    (nw : ∀ w : World, Calls Tryd.prog 12 #[.int .i64 A, .int .i64 1] w (Gives (.tuple #[.agg #[.int .i64 lo, .int .i64 hi], .int .i64 e]) w))
    (w : World) : Calls Tryd.prog 39 #[.string t] w (Gives (.tuple #[.agg #[.int .i64 lo, .int .i64 hi], .int .i64 e]) w) := by
  go_enter Tryd.func39, Tryd.ntmps39
  go_wp2_with fail
  refine (cp _).mono ?_; rintro _ w' ⟨rfl, rfl⟩
  go_wp2_with fail
  refine (ct _).mono ?_; rintro _ w1 ⟨rfl, hb⟩
  have yz : w.heap.size < (w1).heap.size := Nat.lt_of_lt_of_le (show w.heap.size < _ from (by first | assumption | (simp; done) | (simp; omega) | (dsimp only; omega) | omega)) hb.size; have y0 : (w1).cell? ⟨w.heap.size, 0, none⟩ = some (.int .i64 0) := (hb.cell (p := ⟨w.heap.size, 0, none⟩) (by first | assumption | (simp; done) | (simp; omega) | (dsimp only; omega) | omega)).trans (by first | assumption | (simp [go_sem]; done) | (simp [go_sem, *]; done)); have y1 : (w1).cell? ⟨w.heap.size, 1, none⟩ = some (.int .i64 0) := (hb.cell (p := ⟨w.heap.size, 1, none⟩) (by first | assumption | (simp; done) | (simp; omega) | (dsimp only; omega) | omega)).trans (by first | assumption | (simp [go_sem]; done) | (simp [go_sem, *]; done)); have yf : ∀ o, (w1).frozen? ⟨w.heap.size, o, none⟩ = false := fun o => (hb.frozen (p := ⟨w.heap.size, o, none⟩) (by first | assumption | (simp; done) | (simp; omega) | (dsimp only; omega) | omega)).trans (by first | (simp [go_sem]; done) | (simp [*]; done))
  have BN1 : Below w.heap.size w w1 := by repeat' (first | (with_reducible exact Below.refl _ _) | (with_reducible refine Below.alloc ?_ ?_ _) | (with_reducible refine Below.setCell ?_ ?_ _) | (with_reducible refine Below.drew ?_) | (with_reducible refine below_dn ?_ _) | (with_reducible refine Below.trans ?_ (Below.mono (by assumption) ?_)) | (simp; done) | (simp; omega) | omega)
  clear hb
  go_wp2_with fail
  refine (n1 _).mono ?_; rintro _ w2 ⟨rfl, hb⟩
  have xz : w.heap.size < (w2).heap.size := Nat.lt_of_lt_of_le (show w.heap.size < _ from (by first | assumption | (simp; done) | (simp; omega) | (dsimp only; omega) | omega)) hb.size; have x0 : (w2).cell? ⟨w.heap.size, 0, none⟩ = some (.int .i64 0) := (hb.cell (p := ⟨w.heap.size, 0, none⟩) (by first | assumption | (simp; done) | (simp; omega) | (dsimp only; omega) | omega)).trans (by first | assumption | (simp [go_sem]; done) | (simp [go_sem, *]; done)); have x1 : (w2).cell? ⟨w.heap.size, 1, none⟩ = some (.int .i64 0) := (hb.cell (p := ⟨w.heap.size, 1, none⟩) (by first | assumption | (simp; done) | (simp; omega) | (dsimp only; omega) | omega)).trans (by first | assumption | (simp [go_sem]; done) | (simp [go_sem, *]; done)); have xf : ∀ o, (w2).frozen? ⟨w.heap.size, o, none⟩ = false := fun o => (hb.frozen (p := ⟨w.heap.size, o, none⟩) (by first | assumption | (simp; done) | (simp; omega) | (dsimp only; omega) | omega)).trans (by first | (simp [go_sem]; done) | (simp [*]; done))
  have BN2 : Below w.heap.size w w2 := by (have := BN1.size; repeat' (first | (with_reducible exact Below.refl _ _) | (with_reducible refine Below.alloc ?_ ?_ _) | (with_reducible refine Below.setCell ?_ ?_ _) | (with_reducible refine Below.drew ?_) | (with_reducible refine below_dn ?_ _) | (with_reducible refine Below.trans ?_ (Below.mono (by assumption) ?_)) | (simp; done) | (simp; omega) | omega))
  clear hb BN1 y0 y1 yf yz
  go_wp2_with fail
  refine (nw _).mono ?_; rintro _ w3 ⟨rfl, hb⟩
  have yz : w.heap.size < (w3).heap.size := Nat.lt_of_lt_of_le (show w.heap.size < _ from (by first | assumption | (simp; done) | (simp; omega) | (dsimp only; omega) | omega)) hb.size; have y0 : (w3).cell? ⟨w.heap.size, 0, none⟩ = some (.int .i64 0) := (hb.cell (p := ⟨w.heap.size, 0, none⟩) (by first | assumption | (simp; done) | (simp; omega) | (dsimp only; omega) | omega)).trans (by first | assumption | (simp [go_sem]; done) | (simp [go_sem, *]; done)); have y1 : (w3).cell? ⟨w.heap.size, 1, none⟩ = some (.int .i64 0) := (hb.cell (p := ⟨w.heap.size, 1, none⟩) (by first | assumption | (simp; done) | (simp; omega) | (dsimp only; omega) | omega)).trans (by first | assumption | (simp [go_sem]; done) | (simp [go_sem, *]; done)); have yf : ∀ o, (w3).frozen? ⟨w.heap.size, o, none⟩ = false := fun o => (hb.frozen (p := ⟨w.heap.size, o, none⟩) (by first | assumption | (simp; done) | (simp; omega) | (dsimp only; omega) | omega)).trans (by first | (simp [go_sem]; done) | (simp [*]; done))
  have BN3 : Below w.heap.size w w3 := by (have := BN2.size; repeat' (first | (with_reducible exact Below.refl _ _) | (with_reducible refine Below.alloc ?_ ?_ _) | (with_reducible refine Below.setCell ?_ ?_ _) | (with_reducible refine Below.drew ?_) | (with_reducible refine below_dn ?_ _) | (with_reducible refine Below.trans ?_ (Below.mono (by assumption) ?_)) | (simp; done) | (simp; omega) | omega))
  clear hb BN2 x0 x1 xf xz
  have hz := BN3.size
  go_wp2_with fail
  refine bodyPost_ret (v := .tuple #[.agg #[.int .i64 lo, .int .i64 hi], .int .i64 e]) (by simp [results, Tryd.results39, go_sem, y0, y1]) rfl ?_
  exact Gives.mk rfl (by repeat' (first | (with_reducible exact Below.refl _ _) | (with_reducible refine Below.alloc ?_ ?_ _) | (with_reducible refine Below.setCell ?_ ?_ _) | (with_reducible refine Below.drew ?_) | (with_reducible refine below_dn ?_ _) | (with_reducible refine Below.trans ?_ (Below.mono (by assumption) ?_)) | (simp; done) | (simp; omega) | omega))
set_option maxRecDepth 100000 in
set_option maxHeartbeats 2000000 in
theorem fparse_worse_true (t r s1 s2 : ByteArray) (a A d lo hi e : Int)
    (cp : ∀ w : World, Calls Tryd.prog 64 #[.string t, .string ⟨#[45]⟩] w fun e w' => e = .returned (.tuple #[.string r, .bool true]) ∧ w' = w)
    (ct : ∀ w : World, Calls Tryd.prog 65 #[.string r, .string ⟨#[47]⟩] w (Gives (.tuple #[.string s1, .string s2, .bool true]) w))
    (n1 : ∀ w : World, Calls Tryd.prog 66 #[.string s1] w (Gives (.tuple #[.int .i64 a, .bool true]) w))
    (n2 : ∀ w : World, Calls Tryd.prog 66 #[.string s2] w (Gives (.tuple #[.int .i64 d, .bool false]) w))
    (w : World) : Calls Tryd.prog 39 #[.string t] w (Gives (.tuple #[.agg #[.int .i64 0, .int .i64 0], .int .i64 4]) w) := by
  go_enter Tryd.func39, Tryd.ntmps39
  go_wp2_with fail
  refine (cp _).mono ?_; rintro _ w' ⟨rfl, rfl⟩
  go_wp2_with fail
  refine (ct _).mono ?_; rintro _ w1 ⟨rfl, hb⟩
  have yz : w.heap.size < (w1).heap.size := Nat.lt_of_lt_of_le (show w.heap.size < _ from (by first | assumption | (simp; done) | (simp; omega) | (dsimp only; omega) | omega)) hb.size; have y0 : (w1).cell? ⟨w.heap.size, 0, none⟩ = some (.int .i64 0) := (hb.cell (p := ⟨w.heap.size, 0, none⟩) (by first | assumption | (simp; done) | (simp; omega) | (dsimp only; omega) | omega)).trans (by first | assumption | (simp [go_sem]; done) | (simp [go_sem, *]; done)); have y1 : (w1).cell? ⟨w.heap.size, 1, none⟩ = some (.int .i64 0) := (hb.cell (p := ⟨w.heap.size, 1, none⟩) (by first | assumption | (simp; done) | (simp; omega) | (dsimp only; omega) | omega)).trans (by first | assumption | (simp [go_sem]; done) | (simp [go_sem, *]; done)); have yf : ∀ o, (w1).frozen? ⟨w.heap.size, o, none⟩ = false := fun o => (hb.frozen (p := ⟨w.heap.size, o, none⟩) (by first | assumption | (simp; done) | (simp; omega) | (dsimp only; omega) | omega)).trans (by first | (simp [go_sem]; done) | (simp [*]; done))
  have BN1 : Below w.heap.size w w1 := by repeat' (first | (with_reducible exact Below.refl _ _) | (with_reducible refine Below.alloc ?_ ?_ _) | (with_reducible refine Below.setCell ?_ ?_ _) | (with_reducible refine Below.drew ?_) | (with_reducible refine below_dn ?_ _) | (with_reducible refine Below.trans ?_ (Below.mono (by assumption) ?_)) | (simp; done) | (simp; omega) | omega)
  clear hb
  go_wp2_with fail
  refine (n1 _).mono ?_; rintro _ w2 ⟨rfl, hb⟩
  have xz : w.heap.size < (w2).heap.size := Nat.lt_of_lt_of_le (show w.heap.size < _ from (by first | assumption | (simp; done) | (simp; omega) | (dsimp only; omega) | omega)) hb.size; have x0 : (w2).cell? ⟨w.heap.size, 0, none⟩ = some (.int .i64 0) := (hb.cell (p := ⟨w.heap.size, 0, none⟩) (by first | assumption | (simp; done) | (simp; omega) | (dsimp only; omega) | omega)).trans (by first | assumption | (simp [go_sem]; done) | (simp [go_sem, *]; done)); have x1 : (w2).cell? ⟨w.heap.size, 1, none⟩ = some (.int .i64 0) := (hb.cell (p := ⟨w.heap.size, 1, none⟩) (by first | assumption | (simp; done) | (simp; omega) | (dsimp only; omega) | omega)).trans (by first | assumption | (simp [go_sem]; done) | (simp [go_sem, *]; done)); have xf : ∀ o, (w2).frozen? ⟨w.heap.size, o, none⟩ = false := fun o => (hb.frozen (p := ⟨w.heap.size, o, none⟩) (by first | assumption | (simp; done) | (simp; omega) | (dsimp only; omega) | omega)).trans (by first | (simp [go_sem]; done) | (simp [*]; done))
  have BN2 : Below w.heap.size w w2 := by (have := BN1.size; repeat' (first | (with_reducible exact Below.refl _ _) | (with_reducible refine Below.alloc ?_ ?_ _) | (with_reducible refine Below.setCell ?_ ?_ _) | (with_reducible refine Below.drew ?_) | (with_reducible refine below_dn ?_ _) | (with_reducible refine Below.trans ?_ (Below.mono (by assumption) ?_)) | (simp; done) | (simp; omega) | omega))
  clear hb BN1 y0 y1 yf yz
  go_wp2_with fail
  refine (n2 _).mono ?_; rintro _ w3 ⟨rfl, hb⟩
  have yz : w.heap.size < (w3).heap.size := Nat.lt_of_lt_of_le (show w.heap.size < _ from (by first | assumption | (simp; done) | (simp; omega) | (dsimp only; omega) | omega)) hb.size; have y0 : (w3).cell? ⟨w.heap.size, 0, none⟩ = some (.int .i64 0) := (hb.cell (p := ⟨w.heap.size, 0, none⟩) (by first | assumption | (simp; done) | (simp; omega) | (dsimp only; omega) | omega)).trans (by first | assumption | (simp [go_sem]; done) | (simp [go_sem, *]; done)); have y1 : (w3).cell? ⟨w.heap.size, 1, none⟩ = some (.int .i64 0) := (hb.cell (p := ⟨w.heap.size, 1, none⟩) (by first | assumption | (simp; done) | (simp; omega) | (dsimp only; omega) | omega)).trans (by first | assumption | (simp [go_sem]; done) | (simp [go_sem, *]; done)); have yf : ∀ o, (w3).frozen? ⟨w.heap.size, o, none⟩ = false := fun o => (hb.frozen (p := ⟨w.heap.size, o, none⟩) (by first | assumption | (simp; done) | (simp; omega) | (dsimp only; omega) | omega)).trans (by first | (simp [go_sem]; done) | (simp [*]; done))
  have BN3 : Below w.heap.size w w3 := by (have := BN2.size; repeat' (first | (with_reducible exact Below.refl _ _) | (with_reducible refine Below.alloc ?_ ?_ _) | (with_reducible refine Below.setCell ?_ ?_ _) | (with_reducible refine Below.drew ?_) | (with_reducible refine below_dn ?_ _) | (with_reducible refine Below.trans ?_ (Below.mono (by assumption) ?_)) | (simp; done) | (simp; omega) | omega))
  clear hb BN2 x0 x1 xf xz
  have hz := BN3.size
  go_wp2_with fail
  refine bodyPost_ret (v := .tuple #[.agg #[.int .i64 0, .int .i64 0], .int .i64 4]) (by simp [results, Tryd.results39, go_sem, y0, y1]) rfl ?_
  exact Gives.mk rfl (by repeat' (first | (with_reducible exact Below.refl _ _) | (with_reducible refine Below.alloc ?_ ?_ _) | (with_reducible refine Below.setCell ?_ ?_ _) | (with_reducible refine Below.drew ?_) | (with_reducible refine below_dn ?_ _) | (with_reducible refine Below.trans ?_ (Below.mono (by assumption) ?_)) | (simp; done) | (simp; omega) | omega))
set_option maxRecDepth 100000 in
set_option maxHeartbeats 2000000 in
theorem fparse_two_true (t r s1 s2 : ByteArray) (a A d lo hi e : Int)
    (cp : ∀ w : World, Calls Tryd.prog 64 #[.string t, .string ⟨#[45]⟩] w fun e w' => e = .returned (.tuple #[.string r, .bool true]) ∧ w' = w)
    (ct : ∀ w : World, Calls Tryd.prog 65 #[.string r, .string ⟨#[47]⟩] w (Gives (.tuple #[.string s1, .string s2, .bool true]) w))
    (n1 : ∀ w : World, Calls Tryd.prog 66 #[.string s1] w (Gives (.tuple #[.int .i64 a, .bool true]) w))
    (n2 : ∀ w : World, Calls Tryd.prog 66 #[.string s2] w (Gives (.tuple #[.int .i64 d, .bool true]) w))
    (hA : -a = A) (a0 : 0 ≤ a) (a1 : a < 10000000000000000)
    (nw : ∀ w : World, Calls Tryd.prog 12 #[.int .i64 A, .int .i64 d] w (Gives (.tuple #[.agg #[.int .i64 lo, .int .i64 hi], .int .i64 e]) w))
    (w : World) : Calls Tryd.prog 39 #[.string t] w (Gives (.tuple #[.agg #[.int .i64 lo, .int .i64 hi], .int .i64 e]) w) := by
  go_enter Tryd.func39, Tryd.ntmps39
  go_wp2_with fail
  refine (cp _).mono ?_; rintro _ w' ⟨rfl, rfl⟩
  go_wp2_with fail
  refine (ct _).mono ?_; rintro _ w1 ⟨rfl, hb⟩
  have yz : w.heap.size < (w1).heap.size := Nat.lt_of_lt_of_le (show w.heap.size < _ from (by first | assumption | (simp; done) | (simp; omega) | (dsimp only; omega) | omega)) hb.size; have y0 : (w1).cell? ⟨w.heap.size, 0, none⟩ = some (.int .i64 0) := (hb.cell (p := ⟨w.heap.size, 0, none⟩) (by first | assumption | (simp; done) | (simp; omega) | (dsimp only; omega) | omega)).trans (by first | assumption | (simp [go_sem]; done) | (simp [go_sem, *]; done)); have y1 : (w1).cell? ⟨w.heap.size, 1, none⟩ = some (.int .i64 0) := (hb.cell (p := ⟨w.heap.size, 1, none⟩) (by first | assumption | (simp; done) | (simp; omega) | (dsimp only; omega) | omega)).trans (by first | assumption | (simp [go_sem]; done) | (simp [go_sem, *]; done)); have yf : ∀ o, (w1).frozen? ⟨w.heap.size, o, none⟩ = false := fun o => (hb.frozen (p := ⟨w.heap.size, o, none⟩) (by first | assumption | (simp; done) | (simp; omega) | (dsimp only; omega) | omega)).trans (by first | (simp [go_sem]; done) | (simp [*]; done))
  have BN1 : Below w.heap.size w w1 := by repeat' (first | (with_reducible exact Below.refl _ _) | (with_reducible refine Below.alloc ?_ ?_ _) | (with_reducible refine Below.setCell ?_ ?_ _) | (with_reducible refine Below.drew ?_) | (with_reducible refine below_dn ?_ _) | (with_reducible refine Below.trans ?_ (Below.mono (by assumption) ?_)) | (simp; done) | (simp; omega) | omega)
  clear hb
  go_wp2_with fail
  refine (n1 _).mono ?_; rintro _ w2 ⟨rfl, hb⟩
  have xz : w.heap.size < (w2).heap.size := Nat.lt_of_lt_of_le (show w.heap.size < _ from (by first | assumption | (simp; done) | (simp; omega) | (dsimp only; omega) | omega)) hb.size; have x0 : (w2).cell? ⟨w.heap.size, 0, none⟩ = some (.int .i64 0) := (hb.cell (p := ⟨w.heap.size, 0, none⟩) (by first | assumption | (simp; done) | (simp; omega) | (dsimp only; omega) | omega)).trans (by first | assumption | (simp [go_sem]; done) | (simp [go_sem, *]; done)); have x1 : (w2).cell? ⟨w.heap.size, 1, none⟩ = some (.int .i64 0) := (hb.cell (p := ⟨w.heap.size, 1, none⟩) (by first | assumption | (simp; done) | (simp; omega) | (dsimp only; omega) | omega)).trans (by first | assumption | (simp [go_sem]; done) | (simp [go_sem, *]; done)); have xf : ∀ o, (w2).frozen? ⟨w.heap.size, o, none⟩ = false := fun o => (hb.frozen (p := ⟨w.heap.size, o, none⟩) (by first | assumption | (simp; done) | (simp; omega) | (dsimp only; omega) | omega)).trans (by first | (simp [go_sem]; done) | (simp [*]; done))
  have BN2 : Below w.heap.size w w2 := by (have := BN1.size; repeat' (first | (with_reducible exact Below.refl _ _) | (with_reducible refine Below.alloc ?_ ?_ _) | (with_reducible refine Below.setCell ?_ ?_ _) | (with_reducible refine Below.drew ?_) | (with_reducible refine below_dn ?_ _) | (with_reducible refine Below.trans ?_ (Below.mono (by assumption) ?_)) | (simp; done) | (simp; omega) | omega))
  clear hb BN1 y0 y1 yf yz
  go_wp2_with fail
  refine (n2 _).mono ?_; rintro _ w3 ⟨rfl, hb⟩
  have yz : w.heap.size < (w3).heap.size := Nat.lt_of_lt_of_le (show w.heap.size < _ from (by first | assumption | (simp; done) | (simp; omega) | (dsimp only; omega) | omega)) hb.size; have y0 : (w3).cell? ⟨w.heap.size, 0, none⟩ = some (.int .i64 0) := (hb.cell (p := ⟨w.heap.size, 0, none⟩) (by first | assumption | (simp; done) | (simp; omega) | (dsimp only; omega) | omega)).trans (by first | assumption | (simp [go_sem]; done) | (simp [go_sem, *]; done)); have y1 : (w3).cell? ⟨w.heap.size, 1, none⟩ = some (.int .i64 0) := (hb.cell (p := ⟨w.heap.size, 1, none⟩) (by first | assumption | (simp; done) | (simp; omega) | (dsimp only; omega) | omega)).trans (by first | assumption | (simp [go_sem]; done) | (simp [go_sem, *]; done)); have yf : ∀ o, (w3).frozen? ⟨w.heap.size, o, none⟩ = false := fun o => (hb.frozen (p := ⟨w.heap.size, o, none⟩) (by first | assumption | (simp; done) | (simp; omega) | (dsimp only; omega) | omega)).trans (by first | (simp [go_sem]; done) | (simp [*]; done))
  have BN3 : Below w.heap.size w w3 := by (have := BN2.size; repeat' (first | (with_reducible exact Below.refl _ _) | (with_reducible refine Below.alloc ?_ ?_ _) | (with_reducible refine Below.setCell ?_ ?_ _) | (with_reducible refine Below.drew ?_) | (with_reducible refine below_dn ?_ _) | (with_reducible refine Below.trans ?_ (Below.mono (by assumption) ?_)) | (simp; done) | (simp; omega) | omega))
  clear hb BN2 x0 x1 xf xz
  go_wp2_with fail
  refine (nw _).mono ?_; rintro _ w4 ⟨rfl, hb⟩
  have xz : w.heap.size < (w4).heap.size := Nat.lt_of_lt_of_le (show w.heap.size < _ from (by first | assumption | (simp; done) | (simp; omega) | (dsimp only; omega) | omega)) hb.size; have x0 : (w4).cell? ⟨w.heap.size, 0, none⟩ = some (.int .i64 0) := (hb.cell (p := ⟨w.heap.size, 0, none⟩) (by first | assumption | (simp; done) | (simp; omega) | (dsimp only; omega) | omega)).trans (by first | assumption | (simp [go_sem]; done) | (simp [go_sem, *]; done)); have x1 : (w4).cell? ⟨w.heap.size, 1, none⟩ = some (.int .i64 0) := (hb.cell (p := ⟨w.heap.size, 1, none⟩) (by first | assumption | (simp; done) | (simp; omega) | (dsimp only; omega) | omega)).trans (by first | assumption | (simp [go_sem]; done) | (simp [go_sem, *]; done)); have xf : ∀ o, (w4).frozen? ⟨w.heap.size, o, none⟩ = false := fun o => (hb.frozen (p := ⟨w.heap.size, o, none⟩) (by first | assumption | (simp; done) | (simp; omega) | (dsimp only; omega) | omega)).trans (by first | (simp [go_sem]; done) | (simp [*]; done))
  have BN4 : Below w.heap.size w w4 := by (have := BN3.size; repeat' (first | (with_reducible exact Below.refl _ _) | (with_reducible refine Below.alloc ?_ ?_ _) | (with_reducible refine Below.setCell ?_ ?_ _) | (with_reducible refine Below.drew ?_) | (with_reducible refine below_dn ?_ _) | (with_reducible refine Below.trans ?_ (Below.mono (by assumption) ?_)) | (simp; done) | (simp; omega) | omega))
  clear hb BN3 y0 y1 yf yz
  have hz := BN4.size
  go_wp2_with fail
  refine bodyPost_ret (v := .tuple #[.agg #[.int .i64 lo, .int .i64 hi], .int .i64 e]) (by simp [results, Tryd.results39, go_sem, x0, x1]) rfl ?_
  exact Gives.mk rfl (by repeat' (first | (with_reducible exact Below.refl _ _) | (with_reducible refine Below.alloc ?_ ?_ _) | (with_reducible refine Below.setCell ?_ ?_ _) | (with_reducible refine Below.drew ?_) | (with_reducible refine below_dn ?_ _) | (with_reducible refine Below.trans ?_ (Below.mono (by assumption) ?_)) | (simp; done) | (simp; omega) | omega))
set_option maxRecDepth 100000 in
set_option maxHeartbeats 2000000 in
theorem fparse_bad_false (t r s1 s2 : ByteArray) (a A d lo hi e : Int) (div : Bool)
    (cp : ∀ w : World, Calls Tryd.prog 64 #[.string t, .string ⟨#[45]⟩] w fun e w' => e = .returned (.tuple #[.string r, .bool false]) ∧ w' = w)
    (ct : ∀ w : World, Calls Tryd.prog 65 #[.string r, .string ⟨#[47]⟩] w (Gives (.tuple #[.string s1, .string s2, .bool div]) w))
    (n1 : ∀ w : World, Calls Tryd.prog 66 #[.string s1] w (Gives (.tuple #[.int .i64 a, .bool false]) w))
    (w : World) : Calls Tryd.prog 39 #[.string t] w (Gives (.tuple #[.agg #[.int .i64 0, .int .i64 0], .int .i64 4]) w) := by
  go_enter Tryd.func39, Tryd.ntmps39
  go_wp2_with fail
  refine (cp _).mono ?_; rintro _ w' ⟨rfl, rfl⟩
  go_wp2_with fail
  refine (ct _).mono ?_; rintro _ w1 ⟨rfl, hb⟩
  have yz : w.heap.size < (w1).heap.size := Nat.lt_of_lt_of_le (show w.heap.size < _ from (by first | assumption | (simp; done) | (simp; omega) | (dsimp only; omega) | omega)) hb.size; have y0 : (w1).cell? ⟨w.heap.size, 0, none⟩ = some (.int .i64 0) := (hb.cell (p := ⟨w.heap.size, 0, none⟩) (by first | assumption | (simp; done) | (simp; omega) | (dsimp only; omega) | omega)).trans (by first | assumption | (simp [go_sem]; done) | (simp [go_sem, *]; done)); have y1 : (w1).cell? ⟨w.heap.size, 1, none⟩ = some (.int .i64 0) := (hb.cell (p := ⟨w.heap.size, 1, none⟩) (by first | assumption | (simp; done) | (simp; omega) | (dsimp only; omega) | omega)).trans (by first | assumption | (simp [go_sem]; done) | (simp [go_sem, *]; done)); have yf : ∀ o, (w1).frozen? ⟨w.heap.size, o, none⟩ = false := fun o => (hb.frozen (p := ⟨w.heap.size, o, none⟩) (by first | assumption | (simp; done) | (simp; omega) | (dsimp only; omega) | omega)).trans (by first | (simp [go_sem]; done) | (simp [*]; done))
  have BN1 : Below w.heap.size w w1 := by repeat' (first | (with_reducible exact Below.refl _ _) | (with_reducible refine Below.alloc ?_ ?_ _) | (with_reducible refine Below.setCell ?_ ?_ _) | (with_reducible refine Below.drew ?_) | (with_reducible refine below_dn ?_ _) | (with_reducible refine Below.trans ?_ (Below.mono (by assumption) ?_)) | (simp; done) | (simp; omega) | omega)
  clear hb
  go_wp2_with fail
  refine (n1 _).mono ?_; rintro _ w2 ⟨rfl, hb⟩
  have xz : w.heap.size < (w2).heap.size := Nat.lt_of_lt_of_le (show w.heap.size < _ from (by first | assumption | (simp; done) | (simp; omega) | (dsimp only; omega) | omega)) hb.size; have x0 : (w2).cell? ⟨w.heap.size, 0, none⟩ = some (.int .i64 0) := (hb.cell (p := ⟨w.heap.size, 0, none⟩) (by first | assumption | (simp; done) | (simp; omega) | (dsimp only; omega) | omega)).trans (by first | assumption | (simp [go_sem]; done) | (simp [go_sem, *]; done)); have x1 : (w2).cell? ⟨w.heap.size, 1, none⟩ = some (.int .i64 0) := (hb.cell (p := ⟨w.heap.size, 1, none⟩) (by first | assumption | (simp; done) | (simp; omega) | (dsimp only; omega) | omega)).trans (by first | assumption | (simp [go_sem]; done) | (simp [go_sem, *]; done)); have xf : ∀ o, (w2).frozen? ⟨w.heap.size, o, none⟩ = false := fun o => (hb.frozen (p := ⟨w.heap.size, o, none⟩) (by first | assumption | (simp; done) | (simp; omega) | (dsimp only; omega) | omega)).trans (by first | (simp [go_sem]; done) | (simp [*]; done))
  have BN2 : Below w.heap.size w w2 := by (have := BN1.size; repeat' (first | (with_reducible exact Below.refl _ _) | (with_reducible refine Below.alloc ?_ ?_ _) | (with_reducible refine Below.setCell ?_ ?_ _) | (with_reducible refine Below.drew ?_) | (with_reducible refine below_dn ?_ _) | (with_reducible refine Below.trans ?_ (Below.mono (by assumption) ?_)) | (simp; done) | (simp; omega) | omega))
  clear hb BN1 y0 y1 yf yz
  have hz := BN2.size
  go_wp2_with fail
  refine bodyPost_ret (v := .tuple #[.agg #[.int .i64 0, .int .i64 0], .int .i64 4]) (by simp [results, Tryd.results39, go_sem, x0, x1]) rfl ?_
  exact Gives.mk rfl (by repeat' (first | (with_reducible exact Below.refl _ _) | (with_reducible refine Below.alloc ?_ ?_ _) | (with_reducible refine Below.setCell ?_ ?_ _) | (with_reducible refine Below.drew ?_) | (with_reducible refine below_dn ?_ _) | (with_reducible refine Below.trans ?_ (Below.mono (by assumption) ?_)) | (simp; done) | (simp; omega) | omega))
set_option maxRecDepth 100000 in
set_option maxHeartbeats 2000000 in
theorem fparse_one_false (t r s1 s2 : ByteArray) (a A d lo hi e : Int)
    (cp : ∀ w : World, Calls Tryd.prog 64 #[.string t, .string ⟨#[45]⟩] w fun e w' => e = .returned (.tuple #[.string r, .bool false]) ∧ w' = w)
    (ct : ∀ w : World, Calls Tryd.prog 65 #[.string r, .string ⟨#[47]⟩] w (Gives (.tuple #[.string s1, .string s2, .bool false]) w))
    (n1 : ∀ w : World, Calls Tryd.prog 66 #[.string s1] w (Gives (.tuple #[.int .i64 a, .bool true]) w))
    (hA : a = A) (a0 : 0 ≤ a) (a1 : a < 10000000000000000)
    (nw : ∀ w : World, Calls Tryd.prog 12 #[.int .i64 A, .int .i64 1] w (Gives (.tuple #[.agg #[.int .i64 lo, .int .i64 hi], .int .i64 e]) w))
    (w : World) : Calls Tryd.prog 39 #[.string t] w (Gives (.tuple #[.agg #[.int .i64 lo, .int .i64 hi], .int .i64 e]) w) := by
  subst hA
  go_enter Tryd.func39, Tryd.ntmps39
  go_wp2_with fail
  refine (cp _).mono ?_; rintro _ w' ⟨rfl, rfl⟩
  go_wp2_with fail
  refine (ct _).mono ?_; rintro _ w1 ⟨rfl, hb⟩
  have yz : w.heap.size < (w1).heap.size := Nat.lt_of_lt_of_le (show w.heap.size < _ from (by first | assumption | (simp; done) | (simp; omega) | (dsimp only; omega) | omega)) hb.size; have y0 : (w1).cell? ⟨w.heap.size, 0, none⟩ = some (.int .i64 0) := (hb.cell (p := ⟨w.heap.size, 0, none⟩) (by first | assumption | (simp; done) | (simp; omega) | (dsimp only; omega) | omega)).trans (by first | assumption | (simp [go_sem]; done) | (simp [go_sem, *]; done)); have y1 : (w1).cell? ⟨w.heap.size, 1, none⟩ = some (.int .i64 0) := (hb.cell (p := ⟨w.heap.size, 1, none⟩) (by first | assumption | (simp; done) | (simp; omega) | (dsimp only; omega) | omega)).trans (by first | assumption | (simp [go_sem]; done) | (simp [go_sem, *]; done)); have yf : ∀ o, (w1).frozen? ⟨w.heap.size, o, none⟩ = false := fun o => (hb.frozen (p := ⟨w.heap.size, o, none⟩) (by first | assumption | (simp; done) | (simp; omega) | (dsimp only; omega) | omega)).trans (by first | (simp [go_sem]; done) | (simp [*]; done))
  have BN1 : Below w.heap.size w w1 := by repeat' (first | (with_reducible exact Below.refl _ _) | (with_reducible refine Below.alloc ?_ ?_ _) | (with_reducible refine Below.setCell ?_ ?_ _) | (with_reducible refine Below.drew ?_) | (with_reducible refine below_dn ?_ _) | (with_reducible refine Below.trans ?_ (Below.mono (by assumption) ?_)) | (simp; done) | (simp; omega) | omega)
  clear hb
  go_wp2_with fail
  refine (n1 _).mono ?_; rintro _ w2 ⟨rfl, hb⟩
  have xz : w.heap.size < (w2).heap.size := Nat.lt_of_lt_of_le (show w.heap.size < _ from (by first | assumption | (simp; done) | (simp; omega) | (dsimp only; omega) | omega)) hb.size; have x0 : (w2).cell? ⟨w.heap.size, 0, none⟩ = some (.int .i64 0) := (hb.cell (p := ⟨w.heap.size, 0, none⟩) (by first | assumption | (simp; done) | (simp; omega) | (dsimp only; omega) | omega)).trans (by first | assumption | (simp [go_sem]; done) | (simp [go_sem, *]; done)); have x1 : (w2).cell? ⟨w.heap.size, 1, none⟩ = some (.int .i64 0) := (hb.cell (p := ⟨w.heap.size, 1, none⟩) (by first | assumption | (simp; done) | (simp; omega) | (dsimp only; omega) | omega)).trans (by first | assumption | (simp [go_sem]; done) | (simp [go_sem, *]; done)); have xf : ∀ o, (w2).frozen? ⟨w.heap.size, o, none⟩ = false := fun o => (hb.frozen (p := ⟨w.heap.size, o, none⟩) (by first | assumption | (simp; done) | (simp; omega) | (dsimp only; omega) | omega)).trans (by first | (simp [go_sem]; done) | (simp [*]; done))
  have BN2 : Below w.heap.size w w2 := by (have := BN1.size; repeat' (first | (with_reducible exact Below.refl _ _) | (with_reducible refine Below.alloc ?_ ?_ _) | (with_reducible refine Below.setCell ?_ ?_ _) | (with_reducible refine Below.drew ?_) | (with_reducible refine below_dn ?_ _) | (with_reducible refine Below.trans ?_ (Below.mono (by assumption) ?_)) | (simp; done) | (simp; omega) | omega))
  clear hb BN1 y0 y1 yf yz
  go_wp2_with fail
  refine (nw _).mono ?_; rintro _ w3 ⟨rfl, hb⟩
  have yz : w.heap.size < (w3).heap.size := Nat.lt_of_lt_of_le (show w.heap.size < _ from (by first | assumption | (simp; done) | (simp; omega) | (dsimp only; omega) | omega)) hb.size; have y0 : (w3).cell? ⟨w.heap.size, 0, none⟩ = some (.int .i64 0) := (hb.cell (p := ⟨w.heap.size, 0, none⟩) (by first | assumption | (simp; done) | (simp; omega) | (dsimp only; omega) | omega)).trans (by first | assumption | (simp [go_sem]; done) | (simp [go_sem, *]; done)); have y1 : (w3).cell? ⟨w.heap.size, 1, none⟩ = some (.int .i64 0) := (hb.cell (p := ⟨w.heap.size, 1, none⟩) (by first | assumption | (simp; done) | (simp; omega) | (dsimp only; omega) | omega)).trans (by first | assumption | (simp [go_sem]; done) | (simp [go_sem, *]; done)); have yf : ∀ o, (w3).frozen? ⟨w.heap.size, o, none⟩ = false := fun o => (hb.frozen (p := ⟨w.heap.size, o, none⟩) (by first | assumption | (simp; done) | (simp; omega) | (dsimp only; omega) | omega)).trans (by first | (simp [go_sem]; done) | (simp [*]; done))
  have BN3 : Below w.heap.size w w3 := by (have := BN2.size; repeat' (first | (with_reducible exact Below.refl _ _) | (with_reducible refine Below.alloc ?_ ?_ _) | (with_reducible refine Below.setCell ?_ ?_ _) | (with_reducible refine Below.drew ?_) | (with_reducible refine below_dn ?_ _) | (with_reducible refine Below.trans ?_ (Below.mono (by assumption) ?_)) | (simp; done) | (simp; omega) | omega))
  clear hb BN2 x0 x1 xf xz
  have hz := BN3.size
  go_wp2_with fail
  refine bodyPost_ret (v := .tuple #[.agg #[.int .i64 lo, .int .i64 hi], .int .i64 e]) (by simp [results, Tryd.results39, go_sem, y0, y1]) rfl ?_
  exact Gives.mk rfl (by repeat' (first | (with_reducible exact Below.refl _ _) | (with_reducible refine Below.alloc ?_ ?_ _) | (with_reducible refine Below.setCell ?_ ?_ _) | (with_reducible refine Below.drew ?_) | (with_reducible refine below_dn ?_ _) | (with_reducible refine Below.trans ?_ (Below.mono (by assumption) ?_)) | (simp; done) | (simp; omega) | omega))
set_option maxRecDepth 100000 in
set_option maxHeartbeats 2000000 in
theorem fparse_worse_false (t r s1 s2 : ByteArray) (a A d lo hi e : Int)
    (cp : ∀ w : World, Calls Tryd.prog 64 #[.string t, .string ⟨#[45]⟩] w fun e w' => e = .returned (.tuple #[.string r, .bool false]) ∧ w' = w)
    (ct : ∀ w : World, Calls Tryd.prog 65 #[.string r, .string ⟨#[47]⟩] w (Gives (.tuple #[.string s1, .string s2, .bool true]) w))
    (n1 : ∀ w : World, Calls Tryd.prog 66 #[.string s1] w (Gives (.tuple #[.int .i64 a, .bool true]) w))
    (n2 : ∀ w : World, Calls Tryd.prog 66 #[.string s2] w (Gives (.tuple #[.int .i64 d, .bool false]) w))
    (w : World) : Calls Tryd.prog 39 #[.string t] w (Gives (.tuple #[.agg #[.int .i64 0, .int .i64 0], .int .i64 4]) w) := by
  go_enter Tryd.func39, Tryd.ntmps39
  go_wp2_with fail
  refine (cp _).mono ?_; rintro _ w' ⟨rfl, rfl⟩
  go_wp2_with fail
  refine (ct _).mono ?_; rintro _ w1 ⟨rfl, hb⟩
  have yz : w.heap.size < (w1).heap.size := Nat.lt_of_lt_of_le (show w.heap.size < _ from (by first | assumption | (simp; done) | (simp; omega) | (dsimp only; omega) | omega)) hb.size; have y0 : (w1).cell? ⟨w.heap.size, 0, none⟩ = some (.int .i64 0) := (hb.cell (p := ⟨w.heap.size, 0, none⟩) (by first | assumption | (simp; done) | (simp; omega) | (dsimp only; omega) | omega)).trans (by first | assumption | (simp [go_sem]; done) | (simp [go_sem, *]; done)); have y1 : (w1).cell? ⟨w.heap.size, 1, none⟩ = some (.int .i64 0) := (hb.cell (p := ⟨w.heap.size, 1, none⟩) (by first | assumption | (simp; done) | (simp; omega) | (dsimp only; omega) | omega)).trans (by first | assumption | (simp [go_sem]; done) | (simp [go_sem, *]; done)); have yf : ∀ o, (w1).frozen? ⟨w.heap.size, o, none⟩ = false := fun o => (hb.frozen (p := ⟨w.heap.size, o, none⟩) (by first | assumption | (simp; done) | (simp; omega) | (dsimp only; omega) | omega)).trans (by first | (simp [go_sem]; done) | (simp [*]; done))
  have BN1 : Below w.heap.size w w1 := by repeat' (first | (with_reducible exact Below.refl _ _) | (with_reducible refine Below.alloc ?_ ?_ _) | (with_reducible refine Below.setCell ?_ ?_ _) | (with_reducible refine Below.drew ?_) | (with_reducible refine below_dn ?_ _) | (with_reducible refine Below.trans ?_ (Below.mono (by assumption) ?_)) | (simp; done) | (simp; omega) | omega)
  clear hb
  go_wp2_with fail
  refine (n1 _).mono ?_; rintro _ w2 ⟨rfl, hb⟩
  have xz : w.heap.size < (w2).heap.size := Nat.lt_of_lt_of_le (show w.heap.size < _ from (by first | assumption | (simp; done) | (simp; omega) | (dsimp only; omega) | omega)) hb.size; have x0 : (w2).cell? ⟨w.heap.size, 0, none⟩ = some (.int .i64 0) := (hb.cell (p := ⟨w.heap.size, 0, none⟩) (by first | assumption | (simp; done) | (simp; omega) | (dsimp only; omega) | omega)).trans (by first | assumption | (simp [go_sem]; done) | (simp [go_sem, *]; done)); have x1 : (w2).cell? ⟨w.heap.size, 1, none⟩ = some (.int .i64 0) := (hb.cell (p := ⟨w.heap.size, 1, none⟩) (by first | assumption | (simp; done) | (simp; omega) | (dsimp only; omega) | omega)).trans (by first | assumption | (simp [go_sem]; done) | (simp [go_sem, *]; done)); have xf : ∀ o, (w2).frozen? ⟨w.heap.size, o, none⟩ = false := fun o => (hb.frozen (p := ⟨w.heap.size, o, none⟩) (by first | assumption | (simp; done) | (simp; omega) | (dsimp only; omega) | omega)).trans (by first | (simp [go_sem]; done) | (simp [*]; done))
  have BN2 : Below w.heap.size w w2 := by (have := BN1.size; repeat' (first | (with_reducible exact Below.refl _ _) | (with_reducible refine Below.alloc ?_ ?_ _) | (with_reducible refine Below.setCell ?_ ?_ _) | (with_reducible refine Below.drew ?_) | (with_reducible refine below_dn ?_ _) | (with_reducible refine Below.trans ?_ (Below.mono (by assumption) ?_)) | (simp; done) | (simp; omega) | omega))
  clear hb BN1 y0 y1 yf yz
  go_wp2_with fail
  refine (n2 _).mono ?_; rintro _ w3 ⟨rfl, hb⟩
  have yz : w.heap.size < (w3).heap.size := Nat.lt_of_lt_of_le (show w.heap.size < _ from (by first | assumption | (simp; done) | (simp; omega) | (dsimp only; omega) | omega)) hb.size; have y0 : (w3).cell? ⟨w.heap.size, 0, none⟩ = some (.int .i64 0) := (hb.cell (p := ⟨w.heap.size, 0, none⟩) (by first | assumption | (simp; done) | (simp; omega) | (dsimp only; omega) | omega)).trans (by first | assumption | (simp [go_sem]; done) | (simp [go_sem, *]; done)); have y1 : (w3).cell? ⟨w.heap.size, 1, none⟩ = some (.int .i64 0) := (hb.cell (p := ⟨w.heap.size, 1, none⟩) (by first | assumption | (simp; done) | (simp; omega) | (dsimp only; omega) | omega)).trans (by first | assumption | (simp [go_sem]; done) | (simp [go_sem, *]; done)); have yf : ∀ o, (w3).frozen? ⟨w.heap.size, o, none⟩ = false := fun o => (hb.frozen (p := ⟨w.heap.size, o, none⟩) (by first | assumption | (simp; done) | (simp; omega) | (dsimp only; omega) | omega)).trans (by first | (simp [go_sem]; done) | (simp [*]; done))
  have BN3 : Below w.heap.size w w3 := by (have := BN2.size; repeat' (first | (with_reducible exact Below.refl _ _) | (with_reducible refine Below.alloc ?_ ?_ _) | (with_reducible refine Below.setCell ?_ ?_ _) | (with_reducible refine Below.drew ?_) | (with_reducible refine below_dn ?_ _) | (with_reducible refine Below.trans ?_ (Below.mono (by assumption) ?_)) | (simp; done) | (simp; omega) | omega))
  clear hb BN2 x0 x1 xf xz
  have hz := BN3.size
  go_wp2_with fail
  refine bodyPost_ret (v := .tuple #[.agg #[.int .i64 0, .int .i64 0], .int .i64 4]) (by simp [results, Tryd.results39, go_sem, y0, y1]) rfl ?_
  exact Gives.mk rfl (by repeat' (first | (with_reducible exact Below.refl _ _) | (with_reducible refine Below.alloc ?_ ?_ _) | (with_reducible refine Below.setCell ?_ ?_ _) | (with_reducible refine Below.drew ?_) | (with_reducible refine below_dn ?_ _) | (with_reducible refine Below.trans ?_ (Below.mono (by assumption) ?_)) | (simp; done) | (simp; omega) | omega))
set_option maxRecDepth 100000 in
set_option maxHeartbeats 2000000 in
theorem fparse_two_false (t r s1 s2 : ByteArray) (a A d lo hi e : Int)
    (cp : ∀ w : World, Calls Tryd.prog 64 #[.string t, .string ⟨#[45]⟩] w fun e w' => e = .returned (.tuple #[.string r, .bool false]) ∧ w' = w)
    (ct : ∀ w : World, Calls Tryd.prog 65 #[.string r, .string ⟨#[47]⟩] w (Gives (.tuple #[.string s1, .string s2, .bool true]) w))
    (n1 : ∀ w : World, Calls Tryd.prog 66 #[.string s1] w (Gives (.tuple #[.int .i64 a, .bool true]) w))
    (n2 : ∀ w : World, Calls Tryd.prog 66 #[.string s2] w (Gives (.tuple #[.int .i64 d, .bool true]) w))
    (hA : a = A) (a0 : 0 ≤ a) (a1 : a < 10000000000000000)
    (nw : ∀ w : World, Calls Tryd.prog 12 #[.int .i64 A, .int .i64 d] w (Gives (.tuple #[.agg #[.int .i64 lo, .int .i64 hi], .int .i64 e]) w))
    (w : World) : Calls Tryd.prog 39 #[.string t] w (Gives (.tuple #[.agg #[.int .i64 lo, .int .i64 hi], .int .i64 e]) w) := by
  subst hA
  go_enter Tryd.func39, Tryd.ntmps39
  go_wp2_with fail
  refine (cp _).mono ?_; rintro _ w' ⟨rfl, rfl⟩
  go_wp2_with fail
  refine (ct _).mono ?_; rintro _ w1 ⟨rfl, hb⟩
  have yz : w.heap.size < (w1).heap.size := Nat.lt_of_lt_of_le (show w.heap.size < _ from (by first | assumption | (simp; done) | (simp; omega) | (dsimp only; omega) | omega)) hb.size; have y0 : (w1).cell? ⟨w.heap.size, 0, none⟩ = some (.int .i64 0) := (hb.cell (p := ⟨w.heap.size, 0, none⟩) (by first | assumption | (simp; done) | (simp; omega) | (dsimp only; omega) | omega)).trans (by first | assumption | (simp [go_sem]; done) | (simp [go_sem, *]; done)); have y1 : (w1).cell? ⟨w.heap.size, 1, none⟩ = some (.int .i64 0) := (hb.cell (p := ⟨w.heap.size, 1, none⟩) (by first | assumption | (simp; done) | (simp; omega) | (dsimp only; omega) | omega)).trans (by first | assumption | (simp [go_sem]; done) | (simp [go_sem, *]; done)); have yf : ∀ o, (w1).frozen? ⟨w.heap.size, o, none⟩ = false := fun o => (hb.frozen (p := ⟨w.heap.size, o, none⟩) (by first | assumption | (simp; done) | (simp; omega) | (dsimp only; omega) | omega)).trans (by first | (simp [go_sem]; done) | (simp [*]; done))
  have BN1 : Below w.heap.size w w1 := by repeat' (first | (with_reducible exact Below.refl _ _) | (with_reducible refine Below.alloc ?_ ?_ _) | (with_reducible refine Below.setCell ?_ ?_ _) | (with_reducible refine Below.drew ?_) | (with_reducible refine below_dn ?_ _) | (with_reducible refine Below.trans ?_ (Below.mono (by assumption) ?_)) | (simp; done) | (simp; omega) | omega)
  clear hb
  go_wp2_with fail
  refine (n1 _).mono ?_; rintro _ w2 ⟨rfl, hb⟩
  have xz : w.heap.size < (w2).heap.size := Nat.lt_of_lt_of_le (show w.heap.size < _ from (by first | assumption | (simp; done) | (simp; omega) | (dsimp only; omega) | omega)) hb.size; have x0 : (w2).cell? ⟨w.heap.size, 0, none⟩ = some (.int .i64 0) := (hb.cell (p := ⟨w.heap.size, 0, none⟩) (by first | assumption | (simp; done) | (simp; omega) | (dsimp only; omega) | omega)).trans (by first | assumption | (simp [go_sem]; done) | (simp [go_sem, *]; done)); have x1 : (w2).cell? ⟨w.heap.size, 1, none⟩ = some (.int .i64 0) := (hb.cell (p := ⟨w.heap.size, 1, none⟩) (by first | assumption | (simp; done) | (simp; omega) | (dsimp only; omega) | omega)).trans (by first | assumption | (simp [go_sem]; done) | (simp [go_sem, *]; done)); have xf : ∀ o, (w2).frozen? ⟨w.heap.size, o, none⟩ = false := fun o => (hb.frozen (p := ⟨w.heap.size, o, none⟩) (by first | assumption | (simp; done) | (simp; omega) | (dsimp only; omega) | omega)).trans (by first | (simp [go_sem]; done) | (simp [*]; done))
  have BN2 : Below w.heap.size w w2 := by (have := BN1.size; repeat' (first | (with_reducible exact Below.refl _ _) | (with_reducible refine Below.alloc ?_ ?_ _) | (with_reducible refine Below.setCell ?_ ?_ _) | (with_reducible refine Below.drew ?_) | (with_reducible refine below_dn ?_ _) | (with_reducible refine Below.trans ?_ (Below.mono (by assumption) ?_)) | (simp; done) | (simp; omega) | omega))
  clear hb BN1 y0 y1 yf yz
  go_wp2_with fail
  refine (n2 _).mono ?_; rintro _ w3 ⟨rfl, hb⟩
  have yz : w.heap.size < (w3).heap.size := Nat.lt_of_lt_of_le (show w.heap.size < _ from (by first | assumption | (simp; done) | (simp; omega) | (dsimp only; omega) | omega)) hb.size; have y0 : (w3).cell? ⟨w.heap.size, 0, none⟩ = some (.int .i64 0) := (hb.cell (p := ⟨w.heap.size, 0, none⟩) (by first | assumption | (simp; done) | (simp; omega) | (dsimp only; omega) | omega)).trans (by first | assumption | (simp [go_sem]; done) | (simp [go_sem, *]; done)); have y1 : (w3).cell? ⟨w.heap.size, 1, none⟩ = some (.int .i64 0) := (hb.cell (p := ⟨w.heap.size, 1, none⟩) (by first | assumption | (simp; done) | (simp; omega) | (dsimp only; omega) | omega)).trans (by first | assumption | (simp [go_sem]; done) | (simp [go_sem, *]; done)); have yf : ∀ o, (w3).frozen? ⟨w.heap.size, o, none⟩ = false := fun o => (hb.frozen (p := ⟨w.heap.size, o, none⟩) (by first | assumption | (simp; done) | (simp; omega) | (dsimp only; omega) | omega)).trans (by first | (simp [go_sem]; done) | (simp [*]; done))
  have BN3 : Below w.heap.size w w3 := by (have := BN2.size; repeat' (first | (with_reducible exact Below.refl _ _) | (with_reducible refine Below.alloc ?_ ?_ _) | (with_reducible refine Below.setCell ?_ ?_ _) | (with_reducible refine Below.drew ?_) | (with_reducible refine below_dn ?_ _) | (with_reducible refine Below.trans ?_ (Below.mono (by assumption) ?_)) | (simp; done) | (simp; omega) | omega))
  clear hb BN2 x0 x1 xf xz
  go_wp2_with fail
  refine (nw _).mono ?_; rintro _ w4 ⟨rfl, hb⟩
  have xz : w.heap.size < (w4).heap.size := Nat.lt_of_lt_of_le (show w.heap.size < _ from (by first | assumption | (simp; done) | (simp; omega) | (dsimp only; omega) | omega)) hb.size; have x0 : (w4).cell? ⟨w.heap.size, 0, none⟩ = some (.int .i64 0) := (hb.cell (p := ⟨w.heap.size, 0, none⟩) (by first | assumption | (simp; done) | (simp; omega) | (dsimp only; omega) | omega)).trans (by first | assumption | (simp [go_sem]; done) | (simp [go_sem, *]; done)); have x1 : (w4).cell? ⟨w.heap.size, 1, none⟩ = some (.int .i64 0) := (hb.cell (p := ⟨w.heap.size, 1, none⟩) (by first | assumption | (simp; done) | (simp; omega) | (dsimp only; omega) | omega)).trans (by first | assumption | (simp [go_sem]; done) | (simp [go_sem, *]; done)); have xf : ∀ o, (w4).frozen? ⟨w.heap.size, o, none⟩ = false := fun o => (hb.frozen (p := ⟨w.heap.size, o, none⟩) (by first | assumption | (simp; done) | (simp; omega) | (dsimp only; omega) | omega)).trans (by first | (simp [go_sem]; done) | (simp [*]; done))
  have BN4 : Below w.heap.size w w4 := by (have := BN3.size; repeat' (first | (with_reducible exact Below.refl _ _) | (with_reducible refine Below.alloc ?_ ?_ _) | (with_reducible refine Below.setCell ?_ ?_ _) | (with_reducible refine Below.drew ?_) | (with_reducible refine below_dn ?_ _) | (with_reducible refine Below.trans ?_ (Below.mono (by assumption) ?_)) | (simp; done) | (simp; omega) | omega))
  clear hb BN3 y0 y1 yf yz
  have hz := BN4.size
  go_wp2_with fail
  refine bodyPost_ret (v := .tuple #[.agg #[.int .i64 lo, .int .i64 hi], .int .i64 e]) (by simp [results, Tryd.results39, go_sem, x0, x1]) rfl ?_
  exact Gives.mk rfl (by repeat' (first | (with_reducible exact Below.refl _ _) | (with_reducible refine Below.alloc ?_ ?_ _) | (with_reducible refine Below.setCell ?_ ?_ _) | (with_reducible refine Below.drew ?_) | (with_reducible refine below_dn ?_ _) | (with_reducible refine Below.trans ?_ (Below.mono (by assumption) ?_)) | (simp; done) | (simp; omega) | omega))
theorem toList_mk (l : List UInt8) : (⟨l.toArray⟩ : ByteArray).data.toList = l := by simp
theorem fparse_any (t : ByteArray) (hs : t.data.toList.length ≤ 1000) (lo hi e : Int) (hv : Sp.parseS t.data.toList = (lo, hi, e)) (w : World) :
    Calls Tryd.prog 39 #[.string t] w (Gives (.tuple #[.agg #[.int .i64 lo, .int .i64 hi], .int .i64 e]) w) := by
  have cp : ∀ w : World, Calls Tryd.prog 64 #[.string t, .string ⟨#[45]⟩] w fun e w' => e = .returned (.tuple #[.string ⟨(Lib.trimPrefix t.data.toList [45]).toArray⟩, .bool (Lib.hasPrefix t.data.toList [45])]) ∧ w' = w := fun w => Tryd.strings_CutPrefix t ⟨#[45]⟩ w
  have ct := fun w => fcut_any ⟨(Lib.trimPrefix t.data.toList [45]).toArray⟩ (by rw [toList_mk]; unfold Lib.trimPrefix; split <;> first | exact hs | (simp only [List.length_drop]; omega)) w
  simp only [toList_mk] at ct
  unfold Sp.parseS at hv
  generalize Lib.hasPrefix t.data.toList [45] = neg at cp hv
  generalize Lib.trimPrefix t.data.toList [45] = r at cp ct hv
  unfold Sp.restS at hv
  obtain ⟨a0, a1⟩ := Sp.numS_bound (r.take (Sp.slash r))
  obtain ⟨d0, d1⟩ := Sp.numS_bound (r.drop (Sp.slash r + 1))
  have n1 := fun w => fnum_any ⟨(r.take (Sp.slash r)).toArray⟩ (Sp.numS (r.take (Sp.slash r))).1 (Sp.numS (r.take (Sp.slash r))).2 (by rw [toList_mk]) w
  have n2 := fun w => fnum_any ⟨(r.drop (Sp.slash r + 1)).toArray⟩ (Sp.numS (r.drop (Sp.slash r + 1))).1 (Sp.numS (r.drop (Sp.slash r + 1))).2 (by rw [toList_mk]) w
  generalize Sp.numS (r.take (Sp.slash r)) = p at hv n1 a0 a1
  generalize Sp.numS (r.drop (Sp.slash r + 1)) = q at hv n2 d0 d1
  obtain ⟨a, ok⟩ := p
  obtain ⟨d, fine⟩ := q
  simp only at hv n1 n2 a0 a1 d0 d1
  cases ok with
  | false =>
    rw [if_pos rfl] at hv
    obtain ⟨rfl, h2⟩ := Prod.mk.inj hv; obtain ⟨rfl, rfl⟩ := Prod.mk.inj h2
    cases neg with
    | true => exact fparse_bad_true t _ _ _ a a d 0 0 4 _ cp ct n1 w
    | false => exact fparse_bad_false t _ _ _ a a d 0 0 4 _ cp ct n1 w
  | true =>
    rw [if_neg (by simp)] at hv
    by_cases h : Sp.slash r < r.length
    · rw [decide_eq_true h] at ct
      cases fine with
      | false =>
        rw [if_pos ⟨h, rfl⟩] at hv
        obtain ⟨rfl, h2⟩ := Prod.mk.inj hv; obtain ⟨rfl, rfl⟩ := Prod.mk.inj h2
        cases neg with
        | true => exact fparse_worse_true t _ _ _ a a d 0 0 4 cp ct n1 n2 w
        | false => exact fparse_worse_false t _ _ _ a a d 0 0 4 cp ct n1 n2 w
      | true =>
        rw [if_neg (by simp), if_pos h] at hv
        cases neg with
        | true => exact fparse_two_true t _ _ _ a _ d lo hi e cp ct n1 n2 rfl a0 a1 (fun w => fnew_any _ _ (by omega) (by omega) (by omega) (by omega) lo hi e hv w) w
        | false => exact fparse_two_false t _ _ _ a _ d lo hi e cp ct n1 n2 rfl a0 a1 (fun w => fnew_any _ _ (by omega) (by omega) (by omega) (by omega) lo hi e hv w) w
    · rw [decide_eq_false h] at ct
      rw [if_neg (by simp [h]), if_neg h] at hv
      cases neg with
      | true => exact fparse_one_true t _ _ _ a _ d lo hi e cp ct n1 rfl a0 a1 (fun w => fnew_any _ _ (by omega) (by omega) (by omega) (by omega) lo hi e hv w) w
      | false => exact fparse_one_false t _ _ _ a _ d lo hi e cp ct n1 rfl a0 a1 (fun w => fnew_any _ _ (by omega) (by omega) (by omega) (by omega) lo hi e hv w) w
end Go.Proofs.YtjbnejhpfknfcaaDoor
