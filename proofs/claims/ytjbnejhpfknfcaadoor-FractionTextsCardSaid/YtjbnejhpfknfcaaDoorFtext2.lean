/-
  The functions of package fraction, each by a contract: Text, where the table of the powers of ten lies as it lay.
-/
import Derived.Test.YtjbnejhpfknfcaaDoorFops
import Derived.Test.YtjbnejhpfknfcaaDoorShelf
import Derived.Lib.ItoaNum
import Derived.Lib.LaidTab
import Derived.Lib.AppendIntMem
namespace Go.Proofs.YtjbnejhpfknfcaaDoor
open Go.RowKit
set_option linter.unusedVariables false
set_option linter.unusedSimpArgs false

/-- A table that lay ahead of the call lies there still. -/
theorem tab_below {P : Program} {n : String} {g : Nat} {k : IntKind} {zs : List Int} {w w' : World} (hg : P.globalNamed n = some g) (h : Lib.TabIs P w n k zs) (hb : Below w.heap.size w w') : Lib.TabIs P w' n k zs := by
  unfold Lib.TabIs World.var? at h ⊢
  rw [hg] at h ⊢
  simp only [Option.bind_some] at h ⊢
  by_cases hl : g < w.heap.size
  · rw [hb.block g hl]; exact h
  · rw [Array.getElem?_eq_none (by omega)] at h
    simp at h
/-- strconv.Itoa, wherever the table of the powers of ten lies as it lay. -/
theorem itoa_gives (n : Int) (h0 : -9223372036854775808 ≤ n) (h1 : n ≤ 9223372036854775807) (W : World) (ht : Lib.TabIs Tryd.prog W "internal/strconv.uint64pow10" .u64 Lib.pow10Tab) (T : ByteArray) (hT : T = ⟨(Lib.itoa n).toArray⟩) :
    Calls Tryd.prog 63 #[.int .i64 n] W (Gives (.string T) W) := by
  refine (Tryd.strconv_Itoa n h0 h1 W ht).mono ?_
  rintro e w' ⟨rfl, k, os, rfl⟩
  subst hT
  exact Gives.mk rfl (Lib.below_grow _ _ (Nat.le_refl _) k os)
theorem gPow : Tryd.prog.globalNamed "internal/strconv.uint64pow10" = some 3 := by kernel_rfl
set_option maxRecDepth 100000 in
set_option maxHeartbeats 2000000 in
theorem ftext_walk (n d : Int) (dd : ¬ d = 1) (w : World)
    (ck : ∀ w : World, Calls Tryd.prog 17 #[.agg #[.int .i64 n, .int .i64 d]] w (Gives (.int .i64 0) w))
    (i1 : ∀ W, Below w.heap.size w W → Calls Tryd.prog 63 #[.int .i64 n] W (Gives (.string ⟨#[45, 51]⟩) W))
    (i2 : ∀ W, Below w.heap.size w W → Calls Tryd.prog 63 #[.int .i64 d] W (Gives (.string ⟨#[50]⟩) W)) :
    Calls Tryd.prog 37 #[.agg #[.int .i64 n, .int .i64 d]] w (Gives (.tuple #[.string ⟨#[45, 51, 47, 50]⟩, .int .i64 0]) w) := by
  have g : (d == 1) = false := by simpa using dd
  go_enter Tryd.func37, Tryd.ntmps37
  go_wp2_with fail
  refine (ck _).mono ?_; rintro _ w1 ⟨rfl, hb⟩
  have pz : w.heap.size < (w1).heap.size := Nat.lt_of_lt_of_le (show w.heap.size < _ from (by first | assumption | (simp; done) | (simp; omega) | (dsimp only; omega) | omega)) hb.size; have p0 : (w1).cell? ⟨w.heap.size, 0, none⟩ = some (.int .i64 n) := (hb.cell (p := ⟨w.heap.size, 0, none⟩) (by first | assumption | (simp; done) | (simp; omega) | (dsimp only; omega) | omega)).trans (by first | assumption | (simp [go_sem]; done) | (simp [go_sem, *]; done)); have p1 : (w1).cell? ⟨w.heap.size, 1, none⟩ = some (.int .i64 d) := (hb.cell (p := ⟨w.heap.size, 1, none⟩) (by first | assumption | (simp; done) | (simp; omega) | (dsimp only; omega) | omega)).trans (by first | assumption | (simp [go_sem]; done) | (simp [go_sem, *]; done)); have pf : ∀ o, (w1).frozen? ⟨w.heap.size, o, none⟩ = false := fun o => (hb.frozen (p := ⟨w.heap.size, o, none⟩) (by first | assumption | (simp; done) | (simp; omega) | (dsimp only; omega) | omega)).trans (by first | (simp [go_sem]; done) | (simp [*]; done))
  have BN : Below w.heap.size w w1 := by repeat' (first | (with_reducible exact Below.refl _ _) | (with_reducible refine Below.alloc ?_ ?_ _) | (with_reducible refine Below.setCell ?_ ?_ _) | (with_reducible refine Below.drew ?_) | (with_reducible refine Below.trans ?_ (Below.mono (by assumption) ?_)) | (simp; done) | (simp; omega) | omega)
  have BH := hid BN
  have hsz := BN.size
  have PH := hid (And.intro pz (And.intro p0 p1))
  clear BN hb
  go_wp2_with fail
  have K : Hid (∀ W', Below w1.heap.size w1 W' → (Below w1.heap.size w1 W' ∧ w1.heap.size ≤ W'.heap.size ∧ W'.cell? ⟨w.heap.size, 0, none⟩ = some (.int .i64 n) ∧ W'.cell? ⟨w.heap.size, 1, none⟩ = some (.int .i64 d))) := hid fun W' B =>
    ⟨B, B.size, (B.cell (p := ⟨w.heap.size, 0, none⟩) PH.out.1).trans PH.out.2.1, (B.cell (p := ⟨w.heap.size, 1, none⟩) PH.out.1).trans PH.out.2.2⟩
  have LB : Hid (∀ W', Below w1.heap.size w1 W' → Below w.heap.size w W') := hid fun W' B => Below.trans BH.out (B.mono hsz)
  clear pf
  go_region_held3 (fun w' => Below w1.heap.size w1 w' ∧ w1.heap.size ≤ w'.heap.size ∧ w'.cell? ⟨w.heap.size, 0, none⟩ = some (.int .i64 n) ∧ w'.cell? ⟨w.heap.size, 1, none⟩ = some (.int .i64 d)) ((exact K.out _ (by repeat' (first | (with_reducible exact Below.refl _ _) | (with_reducible refine Below.alloc ?_ ?_ _) | (with_reducible refine Below.setCell ?_ ?_ _) | (with_reducible refine Below.drew ?_) | (with_reducible refine below_dn ?_ _) | (with_reducible refine Below.trans ?_ (Below.mono (by assumption) ?_)) | (simp; done) | (simp; omega) | omega))))
    (first | (go_at_call 63; (with_reducible refine (i1 _ (LB.out _ (by repeat' (first | (with_reducible exact Below.refl _ _) | (with_reducible refine Below.alloc ?_ ?_ _) | (with_reducible refine Below.setCell ?_ ?_ _) | (with_reducible refine Below.drew ?_) | (with_reducible refine below_dn ?_ _) | (with_reducible refine Below.trans ?_ (Below.mono (by assumption) ?_)) | (simp; done) | (simp; omega) | omega)))).mono ?_); rintro _ w5 ⟨rfl, hb2⟩; have hb5 : Below w1.heap.size w1 w5 := (by repeat' (first | (with_reducible exact Below.refl _ _) | (with_reducible refine Below.alloc ?_ ?_ _) | (with_reducible refine Below.setCell ?_ ?_ _) | (with_reducible refine Below.drew ?_) | (with_reducible refine below_dn ?_ _) | (with_reducible refine Below.trans ?_ (Below.mono (by assumption) ?_)) | (simp; done) | (simp; omega) | omega)); have hz5 : w1.heap.size ≤ w5.heap.size := hb5.size; clear hb2) | (go_at_call 63; (with_reducible refine (i2 _ (LB.out _ (by repeat' (first | (with_reducible exact Below.refl _ _) | (with_reducible refine Below.alloc ?_ ?_ _) | (with_reducible refine Below.setCell ?_ ?_ _) | (with_reducible refine Below.drew ?_) | (with_reducible refine below_dn ?_ _) | (with_reducible refine Below.trans ?_ (Below.mono (by assumption) ?_)) | (simp; done) | (simp; omega) | omega)))).mono ?_); rintro _ w5 ⟨rfl, hb2⟩; have hb5 : Below w1.heap.size w1 w5 := (by repeat' (first | (with_reducible exact Below.refl _ _) | (with_reducible refine Below.alloc ?_ ?_ _) | (with_reducible refine Below.setCell ?_ ?_ _) | (with_reducible refine Below.drew ?_) | (with_reducible refine below_dn ?_ _) | (with_reducible refine Below.trans ?_ (Below.mono (by assumption) ?_)) | (simp; done) | (simp; omega) | omega)); have hz5 : w1.heap.size ≤ w5.heap.size := hb5.size; clear hb2))
  all_goals
    go_wp2
    go_ret2
    have BB := BH.out
    exact Gives.mk rfl (by repeat' (first | (with_reducible exact Below.refl _ _) | (with_reducible refine Below.alloc ?_ ?_ _) | (with_reducible refine Below.setCell ?_ ?_ _) | (with_reducible refine Below.drew ?_) | (with_reducible refine below_dn ?_ _) | (with_reducible refine Below.trans ?_ (Below.mono (by assumption) ?_)) | (simp; done) | (simp; omega) | omega))
theorem ftext_a (w : World) (ht : Lib.TabIs Tryd.prog w "internal/strconv.uint64pow10" .u64 Lib.pow10Tab) :
    Calls Tryd.prog 37 #[.agg #[.int .i64 (-3), .int .i64 2]] w (Gives (.tuple #[.string ⟨#[45, 51, 47, 50]⟩, .int .i64 0]) w) := by
  have ck := fun w => fcheck_any (-3) 2 (by omega) (by omega) (by omega) (by omega) w
  have e : Sp.fchk (-3) 2 = 0 := by decide
  rw [e] at ck
  exact ftext_walk (-3) 2 (by omega) w ck (fun W B => itoa_gives (-3) (by omega) (by omega) W (tab_below gPow ht B) _ (by decide +kernel)) (fun W B => itoa_gives 2 (by omega) (by omega) W (tab_below gPow ht B) _ (by decide +kernel))
end Go.Proofs.YtjbnejhpfknfcaaDoor
