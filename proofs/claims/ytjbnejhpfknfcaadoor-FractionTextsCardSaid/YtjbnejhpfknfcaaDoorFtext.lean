/-
  The functions of package fraction, each by a contract: number, Parse and Text at the values of the chapter's examples.
-/
import Derived.Test.YtjbnejhpfknfcaaDoorFnew
import Derived.Test.YtjbnejhpfknfcaaDoorShelf
import Derived.Lib.ItoaNum
namespace Go.Proofs.YtjbnejhpfknfcaaDoor
open Go.RowKit
set_option linter.unusedVariables false
set_option linter.unusedSimpArgs false

set_option maxHeartbeats 1000000 in
theorem fnum_a (w : World) : Calls Tryd.prog 66 #[.string ⟨#[48, 49, 48]⟩] w (Gives (.tuple #[.int .i64 10, .bool true]) w) := by
  have i0 : ∀ w, (Instr.index 9 (.string ⟨#[48, 49, 48]⟩) (.int .i64 0)).run Tryd.prog w = .ok (.int .u8 48) w := fun _ => by kernel_rfl
  have i1 : ∀ w, (Instr.index 9 (.string ⟨#[48, 49, 48]⟩) (.int .i64 1)).run Tryd.prog w = .ok (.int .u8 49) w := fun _ => by kernel_rfl
  have i2 : ∀ w, (Instr.index 9 (.string ⟨#[48, 49, 48]⟩) (.int .i64 2)).run Tryd.prog w = .ok (.int .u8 48) w := fun _ => by kernel_rfl
  go_enter Tryd.func66, Tryd.ntmps66
  go_wp2
  refine wp_loop_rounds 4 ?_
  rw [rounds_succ]
  go_wp2
  rw [rounds_succ]
  go_wp2
  rw [rounds_succ]
  go_wp2
  rw [rounds_succ]
  go_wp2
  go_ret2
  exact Gives.mk rfl (by repeat' (first | (with_reducible exact Below.refl _ _) | (with_reducible refine Below.alloc ?_ ?_ _) | (with_reducible refine Below.setCell ?_ ?_ _) | (with_reducible refine Below.drew ?_) | (with_reducible refine Below.trans ?_ (Below.mono (by assumption) ?_)) | (simp; done) | (simp; omega) | omega))
set_option maxHeartbeats 1000000 in
theorem fnum_b (w : World) : Calls Tryd.prog 66 #[.string ⟨#[52]⟩] w (Gives (.tuple #[.int .i64 4, .bool true]) w) := by
  have i0 : ∀ w, (Instr.index 9 (.string ⟨#[52]⟩) (.int .i64 0)).run Tryd.prog w = .ok (.int .u8 52) w := fun _ => by kernel_rfl
  go_enter Tryd.func66, Tryd.ntmps66
  go_wp2
  refine wp_loop_rounds 2 ?_
  rw [rounds_succ]
  go_wp2
  rw [rounds_succ]
  go_wp2
  go_ret2
  exact Gives.mk rfl (by repeat' (first | (with_reducible exact Below.refl _ _) | (with_reducible refine Below.alloc ?_ ?_ _) | (with_reducible refine Below.setCell ?_ ?_ _) | (with_reducible refine Below.drew ?_) | (with_reducible refine Below.trans ?_ (Below.mono (by assumption) ?_)) | (simp; done) | (simp; omega) | omega))
set_option maxHeartbeats 1000000 in
theorem fnum_c (w : World) : Calls Tryd.prog 66 #[.string ⟨#[49, 48]⟩] w (Gives (.tuple #[.int .i64 10, .bool true]) w) := by
  have i0 : ∀ w, (Instr.index 9 (.string ⟨#[49, 48]⟩) (.int .i64 0)).run Tryd.prog w = .ok (.int .u8 49) w := fun _ => by kernel_rfl
  have i1 : ∀ w, (Instr.index 9 (.string ⟨#[49, 48]⟩) (.int .i64 1)).run Tryd.prog w = .ok (.int .u8 48) w := fun _ => by kernel_rfl
  go_enter Tryd.func66, Tryd.ntmps66
  go_wp2
  refine wp_loop_rounds 3 ?_
  rw [rounds_succ]
  go_wp2
  rw [rounds_succ]
  go_wp2
  rw [rounds_succ]
  go_wp2
  go_ret2
  exact Gives.mk rfl (by repeat' (first | (with_reducible exact Below.refl _ _) | (with_reducible refine Below.alloc ?_ ?_ _) | (with_reducible refine Below.setCell ?_ ?_ _) | (with_reducible refine Below.drew ?_) | (with_reducible refine Below.trans ?_ (Below.mono (by assumption) ?_)) | (simp; done) | (simp; omega) | omega))
set_option maxHeartbeats 1000000 in
theorem fnum_d (w : World) : Calls Tryd.prog 66 #[.string ⟨#[45, 52]⟩] w (Gives (.tuple #[.int .i64 0, .bool false]) w) := by
  have i0 : ∀ w, (Instr.index 9 (.string ⟨#[45, 52]⟩) (.int .i64 0)).run Tryd.prog w = .ok (.int .u8 45) w := fun _ => by kernel_rfl
  go_enter Tryd.func66, Tryd.ntmps66
  go_wp2
  refine wp_loop_rounds 2 ?_
  rw [rounds_succ]
  go_wp2
  go_ret2
  exact Gives.mk rfl (by repeat' (first | (with_reducible exact Below.refl _ _) | (with_reducible refine Below.alloc ?_ ?_ _) | (with_reducible refine Below.setCell ?_ ?_ _) | (with_reducible refine Below.drew ?_) | (with_reducible refine Below.trans ?_ (Below.mono (by assumption) ?_)) | (simp; done) | (simp; omega) | omega))
set_option maxRecDepth 100000 in
theorem fcutl_a (w : World) : Calls Tryd.prog 78 #[.string ⟨#[48, 49, 48, 47, 52]⟩, .string ⟨#[47]⟩] w (Gives (.tuple #[.string ⟨#[48, 49, 48]⟩, .string ⟨#[52]⟩, .bool true]) w) := by
  have e1 : Lib.indexByte [48, 49, 48, 47, 52] 47 = 3 := by decide +kernel
  have ix : ∀ w : World, Calls Tryd.prog 91 #[.string ⟨#[48, 49, 48, 47, 52]⟩, .string ⟨#[47]⟩] w fun e w' => e = .returned (.int .i64 3) ∧ w' = w := fun w => by
    have h := Tryd.stringslite_Index_one ⟨#[48, 49, 48, 47, 52]⟩ 47 w
    simp only [e1] at h
    exact h
  have s0 : ∀ w, (Instr.slice 9 (.string ⟨#[48, 49, 48, 47, 52]⟩) none (some (.int .i64 3)) none).run Tryd.prog w = .ok (.string ⟨#[48, 49, 48]⟩) w := fun _ => by kernel_rfl
  have s1 : ∀ w, (Instr.slice 9 (.string ⟨#[48, 49, 48, 47, 52]⟩) (some (.int .i64 4)) none none).run Tryd.prog w = .ok (.string ⟨#[52]⟩) w := fun _ => by kernel_rfl
  go_enter Tryd.func78, Tryd.ntmps78
  go_wp2_with (go_at_call 91; refine (ix _).mono ?_; rintro _ w' ⟨rfl, rfl⟩)
  go_quiet (fail)
  go_wp2
  go_ret3
  exact Gives.mk rfl (by repeat' (first | (with_reducible exact Below.refl _ _) | (with_reducible refine Below.alloc ?_ ?_ _) | (with_reducible refine Below.setCell ?_ ?_ _) | (with_reducible refine Below.drew ?_) | (with_reducible refine below_dn ?_ _) | (with_reducible refine Below.trans ?_ (Below.mono (by assumption) ?_)) | (simp; done) | (simp; omega) | omega))
theorem fcut_a (w : World) : Calls Tryd.prog 65 #[.string ⟨#[48, 49, 48, 47, 52]⟩, .string ⟨#[47]⟩] w (Gives (.tuple #[.string ⟨#[48, 49, 48]⟩, .string ⟨#[52]⟩, .bool true]) w) := by
  have cl := fun w => fcutl_a w
  go_enter Tryd.func65, Tryd.ntmps65
  go_wp2_with (go_at_call 78; refine (cl _).mono ?_; rintro _ w1 ⟨rfl, hb⟩)
  go_ret3
  exact Gives.mk rfl (by repeat' (first | (with_reducible exact Below.refl _ _) | (with_reducible refine Below.alloc ?_ ?_ _) | (with_reducible refine Below.setCell ?_ ?_ _) | (with_reducible refine Below.drew ?_) | (with_reducible refine below_dn ?_ _) | (with_reducible refine Below.trans ?_ (Below.mono (by assumption) ?_)) | (simp; done) | (simp; omega) | omega))
set_option maxRecDepth 100000 in
theorem fcutl_b (w : World) : Calls Tryd.prog 78 #[.string ⟨#[49, 48, 47, 45, 52]⟩, .string ⟨#[47]⟩] w (Gives (.tuple #[.string ⟨#[49, 48]⟩, .string ⟨#[45, 52]⟩, .bool true]) w) := by
  have e1 : Lib.indexByte [49, 48, 47, 45, 52] 47 = 2 := by decide +kernel
  have ix : ∀ w : World, Calls Tryd.prog 91 #[.string ⟨#[49, 48, 47, 45, 52]⟩, .string ⟨#[47]⟩] w fun e w' => e = .returned (.int .i64 2) ∧ w' = w := fun w => by
    have h := Tryd.stringslite_Index_one ⟨#[49, 48, 47, 45, 52]⟩ 47 w
    simp only [e1] at h
    exact h
  have s0 : ∀ w, (Instr.slice 9 (.string ⟨#[49, 48, 47, 45, 52]⟩) none (some (.int .i64 2)) none).run Tryd.prog w = .ok (.string ⟨#[49, 48]⟩) w := fun _ => by kernel_rfl
  have s1 : ∀ w, (Instr.slice 9 (.string ⟨#[49, 48, 47, 45, 52]⟩) (some (.int .i64 3)) none none).run Tryd.prog w = .ok (.string ⟨#[45, 52]⟩) w := fun _ => by kernel_rfl
  go_enter Tryd.func78, Tryd.ntmps78
  go_wp2_with (go_at_call 91; refine (ix _).mono ?_; rintro _ w' ⟨rfl, rfl⟩)
  go_quiet (fail)
  go_wp2
  go_ret3
  exact Gives.mk rfl (by repeat' (first | (with_reducible exact Below.refl _ _) | (with_reducible refine Below.alloc ?_ ?_ _) | (with_reducible refine Below.setCell ?_ ?_ _) | (with_reducible refine Below.drew ?_) | (with_reducible refine below_dn ?_ _) | (with_reducible refine Below.trans ?_ (Below.mono (by assumption) ?_)) | (simp; done) | (simp; omega) | omega))
theorem fcut_b (w : World) : Calls Tryd.prog 65 #[.string ⟨#[49, 48, 47, 45, 52]⟩, .string ⟨#[47]⟩] w (Gives (.tuple #[.string ⟨#[49, 48]⟩, .string ⟨#[45, 52]⟩, .bool true]) w) := by
  have cl := fun w => fcutl_b w
  go_enter Tryd.func65, Tryd.ntmps65
  go_wp2_with (go_at_call 78; refine (cl _).mono ?_; rintro _ w1 ⟨rfl, hb⟩)
  go_ret3
  exact Gives.mk rfl (by repeat' (first | (with_reducible exact Below.refl _ _) | (with_reducible refine Below.alloc ?_ ?_ _) | (with_reducible refine Below.setCell ?_ ?_ _) | (with_reducible refine Below.drew ?_) | (with_reducible refine below_dn ?_ _) | (with_reducible refine Below.trans ?_ (Below.mono (by assumption) ?_)) | (simp; done) | (simp; omega) | omega))
set_option maxRecDepth 100000 in
theorem fparse_a (w : World) : Calls Tryd.prog 39 #[.string ⟨#[45, 48, 49, 48, 47, 52]⟩] w (Gives (.tuple #[.agg #[.int .i64 (-5), .int .i64 2], .int .i64 0]) w) := by
  have cp : ∀ w : World, Calls Tryd.prog 64 #[.string ⟨#[45, 48, 49, 48, 47, 52]⟩, .string ⟨#[45]⟩] w fun e w' => e = .returned (.tuple #[.string ⟨#[48, 49, 48, 47, 52]⟩, .bool true]) ∧ w' = w := fun w => Tryd.strings_CutPrefix ⟨#[45, 48, 49, 48, 47, 52]⟩ ⟨#[45]⟩ w
  have nw := fun w => fnew_any (-10) 4 (by omega) (by omega) (by omega) (by omega) (-5) 2 0 (by decide) w
  have n1 := fun w => fnum_a w
  have n2 := fun w => fnum_b w
  have ct := fun w => fcut_a w
  go_enter Tryd.func39, Tryd.ntmps39
  go_wp2_with fail
  refine (cp _).mono ?_; rintro _ w' ⟨rfl, rfl⟩
  go_wp2_with fail
  refine (ct _).mono ?_; rintro _ w1 ⟨rfl, hb⟩
  have xz : w.heap.size < (w1).heap.size := Nat.lt_of_lt_of_le (show w.heap.size < _ from (by first | assumption | (simp; done) | (simp; omega) | (dsimp only; omega) | omega)) hb.size; have x0 : (w1).cell? ⟨w.heap.size, 0, none⟩ = some (.int .i64 0) := (hb.cell (p := ⟨w.heap.size, 0, none⟩) (by first | assumption | (simp; done) | (simp; omega) | (dsimp only; omega) | omega)).trans (by first | assumption | (simp [go_sem]; done) | (simp [go_sem, *]; done)); have x1 : (w1).cell? ⟨w.heap.size, 1, none⟩ = some (.int .i64 0) := (hb.cell (p := ⟨w.heap.size, 1, none⟩) (by first | assumption | (simp; done) | (simp; omega) | (dsimp only; omega) | omega)).trans (by first | assumption | (simp [go_sem]; done) | (simp [go_sem, *]; done)); have xf : ∀ o, (w1).frozen? ⟨w.heap.size, o, none⟩ = false := fun o => (hb.frozen (p := ⟨w.heap.size, o, none⟩) (by first | assumption | (simp; done) | (simp; omega) | (dsimp only; omega) | omega)).trans (by first | (simp [go_sem]; done) | (simp [*]; done))
  have BN : Below w.heap.size w w1 := by repeat' (first | (with_reducible exact Below.refl _ _) | (with_reducible refine Below.alloc ?_ ?_ _) | (with_reducible refine Below.setCell ?_ ?_ _) | (with_reducible refine Below.drew ?_) | (with_reducible refine below_dn ?_ _) | (with_reducible refine Below.trans ?_ (Below.mono (by assumption) ?_)) | (simp; done) | (simp; omega) | omega)
  clear hb
  go_wp2_with fail
  refine (n1 _).mono ?_; rintro _ w2 ⟨rfl, hb⟩
  have yz : w.heap.size < (w2).heap.size := Nat.lt_of_lt_of_le (show w.heap.size < _ from (by first | assumption | (simp; done) | (simp; omega) | (dsimp only; omega) | omega)) hb.size; have y0 : (w2).cell? ⟨w.heap.size, 0, none⟩ = some (.int .i64 0) := (hb.cell (p := ⟨w.heap.size, 0, none⟩) (by first | assumption | (simp; done) | (simp; omega) | (dsimp only; omega) | omega)).trans (by first | assumption | (simp [go_sem]; done) | (simp [go_sem, *]; done)); have y1 : (w2).cell? ⟨w.heap.size, 1, none⟩ = some (.int .i64 0) := (hb.cell (p := ⟨w.heap.size, 1, none⟩) (by first | assumption | (simp; done) | (simp; omega) | (dsimp only; omega) | omega)).trans (by first | assumption | (simp [go_sem]; done) | (simp [go_sem, *]; done)); have yf : ∀ o, (w2).frozen? ⟨w.heap.size, o, none⟩ = false := fun o => (hb.frozen (p := ⟨w.heap.size, o, none⟩) (by first | assumption | (simp; done) | (simp; omega) | (dsimp only; omega) | omega)).trans (by first | (simp [go_sem]; done) | (simp [*]; done))
  have BN2 : Below w.heap.size w w2 := by (have := BN.size; repeat' (first | (with_reducible exact Below.refl _ _) | (with_reducible refine Below.alloc ?_ ?_ _) | (with_reducible refine Below.setCell ?_ ?_ _) | (with_reducible refine Below.drew ?_) | (with_reducible refine below_dn ?_ _) | (with_reducible refine Below.trans ?_ (Below.mono (by assumption) ?_)) | (simp; done) | (simp; omega) | omega))
  clear hb BN x0 x1 xf xz
  go_wp2_with fail
  refine (n2 _).mono ?_; rintro _ w3 ⟨rfl, hb⟩
  have xz : w.heap.size < (w3).heap.size := Nat.lt_of_lt_of_le (show w.heap.size < _ from (by first | assumption | (simp; done) | (simp; omega) | (dsimp only; omega) | omega)) hb.size; have x0 : (w3).cell? ⟨w.heap.size, 0, none⟩ = some (.int .i64 0) := (hb.cell (p := ⟨w.heap.size, 0, none⟩) (by first | assumption | (simp; done) | (simp; omega) | (dsimp only; omega) | omega)).trans (by first | assumption | (simp [go_sem]; done) | (simp [go_sem, *]; done)); have x1 : (w3).cell? ⟨w.heap.size, 1, none⟩ = some (.int .i64 0) := (hb.cell (p := ⟨w.heap.size, 1, none⟩) (by first | assumption | (simp; done) | (simp; omega) | (dsimp only; omega) | omega)).trans (by first | assumption | (simp [go_sem]; done) | (simp [go_sem, *]; done)); have xf : ∀ o, (w3).frozen? ⟨w.heap.size, o, none⟩ = false := fun o => (hb.frozen (p := ⟨w.heap.size, o, none⟩) (by first | assumption | (simp; done) | (simp; omega) | (dsimp only; omega) | omega)).trans (by first | (simp [go_sem]; done) | (simp [*]; done))
  have BN : Below w.heap.size w w3 := by (have := BN2.size; repeat' (first | (with_reducible exact Below.refl _ _) | (with_reducible refine Below.alloc ?_ ?_ _) | (with_reducible refine Below.setCell ?_ ?_ _) | (with_reducible refine Below.drew ?_) | (with_reducible refine below_dn ?_ _) | (with_reducible refine Below.trans ?_ (Below.mono (by assumption) ?_)) | (simp; done) | (simp; omega) | omega))
  clear hb BN2 y0 y1 yf yz
  go_wp2_with fail
  refine (nw _).mono ?_; rintro _ w4 ⟨rfl, hb⟩
  have yz : w.heap.size < (w4).heap.size := Nat.lt_of_lt_of_le (show w.heap.size < _ from (by first | assumption | (simp; done) | (simp; omega) | (dsimp only; omega) | omega)) hb.size; have y0 : (w4).cell? ⟨w.heap.size, 0, none⟩ = some (.int .i64 0) := (hb.cell (p := ⟨w.heap.size, 0, none⟩) (by first | assumption | (simp; done) | (simp; omega) | (dsimp only; omega) | omega)).trans (by first | assumption | (simp [go_sem]; done) | (simp [go_sem, *]; done)); have y1 : (w4).cell? ⟨w.heap.size, 1, none⟩ = some (.int .i64 0) := (hb.cell (p := ⟨w.heap.size, 1, none⟩) (by first | assumption | (simp; done) | (simp; omega) | (dsimp only; omega) | omega)).trans (by first | assumption | (simp [go_sem]; done) | (simp [go_sem, *]; done)); have yf : ∀ o, (w4).frozen? ⟨w.heap.size, o, none⟩ = false := fun o => (hb.frozen (p := ⟨w.heap.size, o, none⟩) (by first | assumption | (simp; done) | (simp; omega) | (dsimp only; omega) | omega)).trans (by first | (simp [go_sem]; done) | (simp [*]; done))
  have hz := BN.size
  go_wp2_with fail
  refine bodyPost_ret (v := .tuple #[.agg #[.int .i64 (-5), .int .i64 2], .int .i64 0]) (by simp [results, Tryd.results39, go_sem, y0, y1]) rfl ?_
  exact Gives.mk rfl (by repeat' (first | (with_reducible exact Below.refl _ _) | (with_reducible refine Below.alloc ?_ ?_ _) | (with_reducible refine Below.setCell ?_ ?_ _) | (with_reducible refine Below.drew ?_) | (with_reducible refine below_dn ?_ _) | (with_reducible refine Below.trans ?_ (Below.mono (by assumption) ?_)) | (simp; done) | (simp; omega) | omega))
set_option maxRecDepth 100000 in
theorem fparse_b (w : World) : Calls Tryd.prog 39 #[.string ⟨#[49, 48, 47, 45, 52]⟩] w (Gives (.tuple #[.agg #[.int .i64 0, .int .i64 0], .int .i64 4]) w) := by
  have cp : ∀ w : World, Calls Tryd.prog 64 #[.string ⟨#[49, 48, 47, 45, 52]⟩, .string ⟨#[45]⟩] w fun e w' => e = .returned (.tuple #[.string ⟨#[49, 48, 47, 45, 52]⟩, .bool false]) ∧ w' = w := fun w => Tryd.strings_CutPrefix ⟨#[49, 48, 47, 45, 52]⟩ ⟨#[45]⟩ w
  have n1 := fun w => fnum_c w
  have n2 := fun w => fnum_d w
  have ct := fun w => fcut_b w
  go_enter Tryd.func39, Tryd.ntmps39
  go_wp2_with fail
  refine (cp _).mono ?_; rintro _ w' ⟨rfl, rfl⟩
  go_wp2_with fail
  refine (ct _).mono ?_; rintro _ w1 ⟨rfl, hb⟩
  have xz : w.heap.size < (w1).heap.size := Nat.lt_of_lt_of_le (show w.heap.size < _ from (by first | assumption | (simp; done) | (simp; omega) | (dsimp only; omega) | omega)) hb.size; have x0 : (w1).cell? ⟨w.heap.size, 0, none⟩ = some (.int .i64 0) := (hb.cell (p := ⟨w.heap.size, 0, none⟩) (by first | assumption | (simp; done) | (simp; omega) | (dsimp only; omega) | omega)).trans (by first | assumption | (simp [go_sem]; done) | (simp [go_sem, *]; done)); have x1 : (w1).cell? ⟨w.heap.size, 1, none⟩ = some (.int .i64 0) := (hb.cell (p := ⟨w.heap.size, 1, none⟩) (by first | assumption | (simp; done) | (simp; omega) | (dsimp only; omega) | omega)).trans (by first | assumption | (simp [go_sem]; done) | (simp [go_sem, *]; done)); have xf : ∀ o, (w1).frozen? ⟨w.heap.size, o, none⟩ = false := fun o => (hb.frozen (p := ⟨w.heap.size, o, none⟩) (by first | assumption | (simp; done) | (simp; omega) | (dsimp only; omega) | omega)).trans (by first | (simp [go_sem]; done) | (simp [*]; done))
  have BN : Below w.heap.size w w1 := by repeat' (first | (with_reducible exact Below.refl _ _) | (with_reducible refine Below.alloc ?_ ?_ _) | (with_reducible refine Below.setCell ?_ ?_ _) | (with_reducible refine Below.drew ?_) | (with_reducible refine below_dn ?_ _) | (with_reducible refine Below.trans ?_ (Below.mono (by assumption) ?_)) | (simp; done) | (simp; omega) | omega)
  clear hb
  go_wp2_with fail
  refine (n1 _).mono ?_; rintro _ w2 ⟨rfl, hb⟩
  have yz : w.heap.size < (w2).heap.size := Nat.lt_of_lt_of_le (show w.heap.size < _ from (by first | assumption | (simp; done) | (simp; omega) | (dsimp only; omega) | omega)) hb.size; have y0 : (w2).cell? ⟨w.heap.size, 0, none⟩ = some (.int .i64 0) := (hb.cell (p := ⟨w.heap.size, 0, none⟩) (by first | assumption | (simp; done) | (simp; omega) | (dsimp only; omega) | omega)).trans (by first | assumption | (simp [go_sem]; done) | (simp [go_sem, *]; done)); have y1 : (w2).cell? ⟨w.heap.size, 1, none⟩ = some (.int .i64 0) := (hb.cell (p := ⟨w.heap.size, 1, none⟩) (by first | assumption | (simp; done) | (simp; omega) | (dsimp only; omega) | omega)).trans (by first | assumption | (simp [go_sem]; done) | (simp [go_sem, *]; done)); have yf : ∀ o, (w2).frozen? ⟨w.heap.size, o, none⟩ = false := fun o => (hb.frozen (p := ⟨w.heap.size, o, none⟩) (by first | assumption | (simp; done) | (simp; omega) | (dsimp only; omega) | omega)).trans (by first | (simp [go_sem]; done) | (simp [*]; done))
  have BN2 : Below w.heap.size w w2 := by (have := BN.size; repeat' (first | (with_reducible exact Below.refl _ _) | (with_reducible refine Below.alloc ?_ ?_ _) | (with_reducible refine Below.setCell ?_ ?_ _) | (with_reducible refine Below.drew ?_) | (with_reducible refine below_dn ?_ _) | (with_reducible refine Below.trans ?_ (Below.mono (by assumption) ?_)) | (simp; done) | (simp; omega) | omega))
  clear hb BN x0 x1 xf xz
  go_wp2_with fail
  refine (n2 _).mono ?_; rintro _ w3 ⟨rfl, hb⟩
  have xz : w.heap.size < (w3).heap.size := Nat.lt_of_lt_of_le (show w.heap.size < _ from (by first | assumption | (simp; done) | (simp; omega) | (dsimp only; omega) | omega)) hb.size; have x0 : (w3).cell? ⟨w.heap.size, 0, none⟩ = some (.int .i64 0) := (hb.cell (p := ⟨w.heap.size, 0, none⟩) (by first | assumption | (simp; done) | (simp; omega) | (dsimp only; omega) | omega)).trans (by first | assumption | (simp [go_sem]; done) | (simp [go_sem, *]; done)); have x1 : (w3).cell? ⟨w.heap.size, 1, none⟩ = some (.int .i64 0) := (hb.cell (p := ⟨w.heap.size, 1, none⟩) (by first | assumption | (simp; done) | (simp; omega) | (dsimp only; omega) | omega)).trans (by first | assumption | (simp [go_sem]; done) | (simp [go_sem, *]; done)); have xf : ∀ o, (w3).frozen? ⟨w.heap.size, o, none⟩ = false := fun o => (hb.frozen (p := ⟨w.heap.size, o, none⟩) (by first | assumption | (simp; done) | (simp; omega) | (dsimp only; omega) | omega)).trans (by first | (simp [go_sem]; done) | (simp [*]; done))
  have hz := BN2.size
  go_wp2_with fail
  refine bodyPost_ret (v := .tuple #[.agg #[.int .i64 0, .int .i64 0], .int .i64 4]) (by simp [results, Tryd.results39, go_sem, x0, x1]) rfl ?_
  exact Gives.mk rfl (by repeat' (first | (with_reducible exact Below.refl _ _) | (with_reducible refine Below.alloc ?_ ?_ _) | (with_reducible refine Below.setCell ?_ ?_ _) | (with_reducible refine Below.drew ?_) | (with_reducible refine below_dn ?_ _) | (with_reducible refine Below.trans ?_ (Below.mono (by assumption) ?_)) | (simp; done) | (simp; omega) | omega))
end Go.Proofs.YtjbnejhpfknfcaaDoor
