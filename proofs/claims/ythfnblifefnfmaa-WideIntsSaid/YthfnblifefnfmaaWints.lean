/-
  WideInts: the walk.
-/
import Derived.Test.YthfnblifefnfmaaWreftext
import Derived.Test.YthfnblifefnfmaaWrefquo
import Derived.Test.YthfnblifefnfmaaWawake
namespace Go.Proofs.Ythfnblifefnfmaa
open Go.RowKit
set_option linter.unusedVariables false
set_option linter.unusedSimpArgs false

set_option maxRecDepth 100000 in
set_option maxHeartbeats 8000000 in
theorem wints_walk (n1 : Bool) (h1 l1 a c : Int) (v e : Int) (na : Bool) (ha la : Int) (S : ByteArray) (w : World)
    (it : ∀ w : World, Calls Try.prog 8 #[.agg #[.bool n1, .int .u64 h1, .int .u64 l1]] w (Gives (.tuple #[.int .i64 v, .int .i64 e]) w))
    (it2 : ∀ w : World, Calls Try.prog 9 #[.agg #[.bool n1, .int .u64 h1, .int .u64 l1]] w (Gives (.tuple #[.int .i64 v, .int .i64 e]) w))
    (ck : ∀ w : World, Calls Try.prog 10 #[.agg #[.bool n1, .int .u64 h1, .int .u64 l1]] w fun e w' => e = .returned (.int .i64 c) ∧ w' = w.alloc (Obj.cells #[.bool n1, .int .u64 h1, .int .u64 l1] 24))
    (ck2 : ∀ w : World, Calls Try.prog 11 #[.agg #[.bool n1, .int .u64 h1, .int .u64 l1]] w fun e w' => e = .returned (.int .i64 c) ∧ w' = w.alloc (Obj.cells #[.bool n1, .int .u64 h1, .int .u64 l1] 24))
    (oo : ∀ w : World, Calls Try.prog 12 #[.int .i64 a] w fun e w' => e = .returned (.agg #[.bool na, .int .u64 ha, .int .u64 la]) ∧ w' = (w.alloc (Obj.cells #[.bool na, .int .u64 ha, .int .u64 la] 24)).alloc (Obj.cells #[.bool na, .int .u64 ha, .int .u64 la] 24))
    (oo2 : ∀ w : World, Calls Try.prog 13 #[.int .i64 a] w (Gives (.agg #[.bool na, .int .u64 ha, .int .u64 la]) w))
    (tx : ∀ w : World, Calls Try.prog 14 #[.agg #[.bool n1, .int .u64 h1, .int .u64 l1]] w (Gives (.string S) w))
    (tx2 : ∀ w : World, Calls Try.prog 15 #[.agg #[.bool n1, .int .u64 h1, .int .u64 l1]] w (Gives (.string S) w)) :
    Calls Try.prog 3 #[.agg #[.bool n1, .int .u64 h1, .int .u64 l1], .int .i64 a] w (Gives (.bool true) w) := by
  go_enter Try.func3, Try.ntmps3
  go_wp2_with fail
  refine (it _).mono ?_; rintro e u1 ⟨rfl, hb⟩
  have BN : Below w.heap.size w u1 := by repeat' (first | (with_reducible exact Below.refl _ _) | (with_reducible refine Below.alloc ?_ ?_ _) | (with_reducible refine Below.setCell ?_ ?_ _) | (with_reducible refine Below.drew ?_) | (with_reducible refine Below.trans ?_ (Below.mono (by assumption) ?_)) | (simp; done) | (simp; omega) | omega)
  have pabz : w.heap.size < (u1).heap.size := Nat.lt_of_lt_of_le (show w.heap.size < _ from (by first | assumption | (simp; done) | (simp; omega) | (dsimp only; omega) | omega)) hb.size; have pab0 : (u1).cell? ⟨w.heap.size, 0, none⟩ = some (.bool n1) := (hb.cell (p := ⟨w.heap.size, 0, none⟩) (by first | assumption | (simp; done) | (simp; omega) | (dsimp only; omega) | omega)).trans (by first | assumption | (simp [go_sem]; done) | (simp [go_sem, *]; done)); have pab1 : (u1).cell? ⟨w.heap.size, 1, none⟩ = some (.int .u64 h1) := (hb.cell (p := ⟨w.heap.size, 1, none⟩) (by first | assumption | (simp; done) | (simp; omega) | (dsimp only; omega) | omega)).trans (by first | assumption | (simp [go_sem]; done) | (simp [go_sem, *]; done)); have pab2 : (u1).cell? ⟨w.heap.size, 2, none⟩ = some (.int .u64 l1) := (hb.cell (p := ⟨w.heap.size, 2, none⟩) (by first | assumption | (simp; done) | (simp; omega) | (dsimp only; omega) | omega)).trans (by first | assumption | (simp [go_sem]; done) | (simp [go_sem, *]; done))
  have BH := hid BN
  have hsz := BN.size
  clear BN hb
  go_wp2_with fail
  refine (it2 _).mono ?_; rintro e u2 ⟨rfl, hb⟩
  have BB := BH.out
  have BN : Below w.heap.size w u2 := by repeat' (first | (with_reducible exact Below.refl _ _) | (with_reducible refine Below.alloc ?_ ?_ _) | (with_reducible refine Below.setCell ?_ ?_ _) | (with_reducible refine Below.drew ?_) | (with_reducible refine Below.trans ?_ (Below.mono (by assumption) ?_)) | (simp; done) | (simp; omega) | omega)
  have paaz : w.heap.size < (u2).heap.size := Nat.lt_of_lt_of_le (show w.heap.size < _ from (by first | assumption | (simp; done) | (simp; omega) | (dsimp only; omega) | omega)) hb.size; have paa0 : (u2).cell? ⟨w.heap.size, 0, none⟩ = some (.bool n1) := (hb.cell (p := ⟨w.heap.size, 0, none⟩) (by first | assumption | (simp; done) | (simp; omega) | (dsimp only; omega) | omega)).trans (by first | assumption | (simp [go_sem]; done) | (simp [go_sem, *]; done)); have paa1 : (u2).cell? ⟨w.heap.size, 1, none⟩ = some (.int .u64 h1) := (hb.cell (p := ⟨w.heap.size, 1, none⟩) (by first | assumption | (simp; done) | (simp; omega) | (dsimp only; omega) | omega)).trans (by first | assumption | (simp [go_sem]; done) | (simp [go_sem, *]; done)); have paa2 : (u2).cell? ⟨w.heap.size, 2, none⟩ = some (.int .u64 l1) := (hb.cell (p := ⟨w.heap.size, 2, none⟩) (by first | assumption | (simp; done) | (simp; omega) | (dsimp only; omega) | omega)).trans (by first | assumption | (simp [go_sem]; done) | (simp [go_sem, *]; done))
  clear BB BH hsz
  clear pabz pab0 pab1 pab2
  have BH := hid BN
  have KH := hid (And.intro paaz (And.intro paa0 (And.intro paa1 paa2)))
  clear BN hb it it2
  go_wp2_with fail
  have K : Hid (∀ W', Below u2.heap.size u2 W' → (Below u2.heap.size u2 W' ∧ u2.heap.size ≤ W'.heap.size ∧ W'.cell? ⟨w.heap.size, 0, none⟩ = some (.bool n1) ∧ W'.cell? ⟨w.heap.size, 1, none⟩ = some (.int .u64 h1) ∧ W'.cell? ⟨w.heap.size, 2, none⟩ = some (.int .u64 l1))) := hid fun W' B => ⟨B, B.size, (keep3 B KH.out).2⟩
  go_region_held3 (fun w' => Below u2.heap.size u2 w' ∧ u2.heap.size ≤ w'.heap.size ∧ w'.cell? ⟨w.heap.size, 0, none⟩ = some (.bool n1) ∧ w'.cell? ⟨w.heap.size, 1, none⟩ = some (.int .u64 h1) ∧ w'.cell? ⟨w.heap.size, 2, none⟩ = some (.int .u64 l1)) ((exact K.out _ (by repeat' (first | (with_reducible exact Below.refl _ _) | (with_reducible refine Below.alloc ?_ ?_ _) | (with_reducible refine Below.setCell ?_ ?_ _) | (with_reducible refine Below.drew ?_) | (with_reducible refine Below.trans ?_ (Below.mono (by assumption) ?_)) | (simp; done) | (simp; omega) | omega))))
    (first | (go_at_call 10; refine (ck _).mono ?_; rintro e w5 ⟨rfl, rfl⟩) | (go_at_call 11; refine (ck2 _).mono ?_; rintro e w5 ⟨rfl, rfl⟩) | (go_at_call 12; refine (oo _).mono ?_; rintro e w5 ⟨rfl, rfl⟩) | (go_at_call 13; refine (oo2 _).mono ?_; rintro e w5 ⟨rfl, hb2⟩; have hb5 : Below u2.heap.size u2 w5 := (by repeat' (first | (with_reducible exact Below.refl _ _) | (with_reducible refine Below.alloc ?_ ?_ _) | (with_reducible refine Below.setCell ?_ ?_ _) | (with_reducible refine Below.drew ?_) | (with_reducible refine Below.trans ?_ (Below.mono (by assumption) ?_)) | (simp; done) | (simp; omega) | omega)); have hz5 : u2.heap.size ≤ w5.heap.size := hb5.size; clear hb2) | (go_at_call 14; refine (tx _).mono ?_; rintro e w5 ⟨rfl, hb2⟩; have hb5 : Below u2.heap.size u2 w5 := (by repeat' (first | (with_reducible exact Below.refl _ _) | (with_reducible refine Below.alloc ?_ ?_ _) | (with_reducible refine Below.setCell ?_ ?_ _) | (with_reducible refine Below.drew ?_) | (with_reducible refine Below.trans ?_ (Below.mono (by assumption) ?_)) | (simp; done) | (simp; omega) | omega)); have hz5 : u2.heap.size ≤ w5.heap.size := hb5.size; clear hb2) | (go_at_call 15; refine (tx2 _).mono ?_; rintro e w5 ⟨rfl, hb2⟩; have hb5 : Below u2.heap.size u2 w5 := (by repeat' (first | (with_reducible exact Below.refl _ _) | (with_reducible refine Below.alloc ?_ ?_ _) | (with_reducible refine Below.setCell ?_ ?_ _) | (with_reducible refine Below.drew ?_) | (with_reducible refine Below.trans ?_ (Below.mono (by assumption) ?_)) | (simp; done) | (simp; omega) | omega)); have hz5 : u2.heap.size ≤ w5.heap.size := hb5.size; clear hb2) | (go_at_call 16; refine (awake_any _).mono ?_; rintro e w5 ⟨rfl, hb2⟩; have hb5 : Below u2.heap.size u2 w5 := (by repeat' (first | (with_reducible exact Below.refl _ _) | (with_reducible refine Below.alloc ?_ ?_ _) | (with_reducible refine Below.setCell ?_ ?_ _) | (with_reducible refine Below.drew ?_) | (with_reducible refine Below.trans ?_ (Below.mono (by assumption) ?_)) | (simp; done) | (simp; omega) | omega)); have hz5 : u2.heap.size ≤ w5.heap.size := hb5.size; clear hb2))
  all_goals
    have BB := BH.out
    have hsz := BB.size
    go_wp2
    go_ret
    exact Gives.mk rfl (by repeat' (first | (with_reducible exact Below.refl _ _) | (with_reducible refine Below.alloc ?_ ?_ _) | (with_reducible refine Below.setCell ?_ ?_ _) | (with_reducible refine Below.drew ?_) | (with_reducible refine Below.trans ?_ (Below.mono (by assumption) ?_)) | (simp; done) | (simp; omega) | omega))
theorem wints_as (n1 : Bool) (h1 l1 a : Int) (a0 : 0 ≤ h1) (a1 : h1 ≤ 18446744073709551615) (a2 : 0 ≤ l1) (a3 : l1 ≤ 18446744073709551615) (d0 : -9223372036854775808 ≤ a) (d1 : a ≤ 9223372036854775807) (w : World) :
    Calls Try.prog 3 #[.agg #[.bool n1, .int .u64 h1, .int .u64 l1], .int .i64 a] w (Gives (.bool true) w) := by
  have f1 : Wd.Fits ⟨n1, h1, l1⟩ := ⟨⟨a0, by simp only; omega⟩, ⟨a2, by simp only; omega⟩⟩
  obtain ⟨⟨v, e⟩, hV⟩ : ∃ r, Wd.intS ⟨n1, h1, l1⟩ = r := ⟨_, rfl⟩
  obtain ⟨S, t1, t2⟩ := texts_any n1 h1 l1 f1
  have ho : Wd.ofInt a = ⟨decide (a < 0), 0, (a.natAbs : Int)⟩ := by
    unfold Wd.ofInt
    congr 1 <;> omega
  exact wints_walk n1 h1 l1 a _ v e _ _ _ S w (fun w => int_any _ _ _ f1 _ _ hV w) (fun w => rwInt_any _ _ _ f1 _ _ hV w) (fun w => check_any n1 h1 l1 w) (fun w => refCheck_any n1 h1 l1 w a0 a2)
    (fun w => of_any a d0 d1 _ _ _ ho w) (fun w => rof_any a d0 d1 w) t1 t2
end Go.Proofs.Ythfnblifefnfmaa
