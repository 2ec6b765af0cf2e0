/-
  WideDivides: the walk.
-/
import Derived.Test.YthfnblifefnfmaaWrefquo4
import Derived.Test.YthfnblifefnfmaaWawake
namespace Go.Proofs.Ythfnblifefnfmaa
open Go.RowKit
set_option linter.unusedVariables false
set_option linter.unusedSimpArgs false

set_option maxRecDepth 100000 in
set_option maxHeartbeats 8000000 in
theorem wdivs_walk (n1 : Bool) (h1 l1 d : Int) (nq : Bool) (hq lq rs eq : Int) (v e : Int) (w : World)
    (dv : ∀ w : World, Calls Try.prog 25 #[.agg #[.bool n1, .int .u64 h1, .int .u64 l1], .int .i64 d] w (Gives (.tuple #[.agg #[.bool nq, .int .u64 hq, .int .u64 lq], .int .i64 rs, .int .i64 eq]) w))
    (dv2 : ∀ w : World, Calls Try.prog 26 #[.agg #[.bool n1, .int .u64 h1, .int .u64 l1], .int .i64 d] w (Gives (.tuple #[.agg #[.bool nq, .int .u64 hq, .int .u64 lq], .int .i64 rs, .int .i64 eq]) w))
    (gc : ∀ w : World, Calls Try.prog 27 #[.agg #[.bool n1, .int .u64 h1, .int .u64 l1], .int .i64 d] w (Gives (.tuple #[.int .i64 v, .int .i64 e]) w))
    (gc2 : ∀ w : World, Calls Try.prog 28 #[.agg #[.bool n1, .int .u64 h1, .int .u64 l1], .int .i64 d] w (Gives (.tuple #[.int .i64 v, .int .i64 e]) w)) :
    Calls Try.prog 5 #[.agg #[.bool n1, .int .u64 h1, .int .u64 l1], .int .i64 d] w (Gives (.bool true) w) := by
  go_enter Try.func5, Try.ntmps5
  go_wp2_with fail
  refine (dv _).mono ?_; rintro e u1 ⟨rfl, hb⟩
  have BN : Below w.heap.size w u1 := by repeat' (first | (with_reducible exact Below.refl _ _) | (with_reducible refine Below.alloc ?_ ?_ _) | (with_reducible refine Below.setCell ?_ ?_ _) | (with_reducible refine Below.drew ?_) | (with_reducible refine Below.trans ?_ (Below.mono (by assumption) ?_)) | (simp; done) | (simp; omega) | omega)
  have pabz : w.heap.size < (u1).heap.size := Nat.lt_of_lt_of_le (show w.heap.size < _ from (by first | assumption | (simp; done) | (simp; omega) | (dsimp only; omega) | omega)) hb.size; have pab0 : (u1).cell? ⟨w.heap.size, 0, none⟩ = some (.bool n1) := (hb.cell (p := ⟨w.heap.size, 0, none⟩) (by first | assumption | (simp; done) | (simp; omega) | (dsimp only; omega) | omega)).trans (by first | assumption | (simp [go_sem]; done) | (simp [go_sem, *]; done)); have pab1 : (u1).cell? ⟨w.heap.size, 1, none⟩ = some (.int .u64 h1) := (hb.cell (p := ⟨w.heap.size, 1, none⟩) (by first | assumption | (simp; done) | (simp; omega) | (dsimp only; omega) | omega)).trans (by first | assumption | (simp [go_sem]; done) | (simp [go_sem, *]; done)); have pab2 : (u1).cell? ⟨w.heap.size, 2, none⟩ = some (.int .u64 l1) := (hb.cell (p := ⟨w.heap.size, 2, none⟩) (by first | assumption | (simp; done) | (simp; omega) | (dsimp only; omega) | omega)).trans (by first | assumption | (simp [go_sem]; done) | (simp [go_sem, *]; done))
  have BH := hid BN
  have hsz := BN.size
  clear BN hb
  go_wp2_with fail
  refine (dv2 _).mono ?_; rintro e u2 ⟨rfl, hb⟩
  have BB := BH.out
  have BN : Below w.heap.size w u2 := by repeat' (first | (with_reducible exact Below.refl _ _) | (with_reducible refine Below.alloc ?_ ?_ _) | (with_reducible refine Below.setCell ?_ ?_ _) | (with_reducible refine Below.drew ?_) | (with_reducible refine Below.trans ?_ (Below.mono (by assumption) ?_)) | (simp; done) | (simp; omega) | omega)
  have paaz : w.heap.size < (u2).heap.size := Nat.lt_of_lt_of_le (show w.heap.size < _ from (by first | assumption | (simp; done) | (simp; omega) | (dsimp only; omega) | omega)) hb.size; have paa0 : (u2).cell? ⟨w.heap.size, 0, none⟩ = some (.bool n1) := (hb.cell (p := ⟨w.heap.size, 0, none⟩) (by first | assumption | (simp; done) | (simp; omega) | (dsimp only; omega) | omega)).trans (by first | assumption | (simp [go_sem]; done) | (simp [go_sem, *]; done)); have paa1 : (u2).cell? ⟨w.heap.size, 1, none⟩ = some (.int .u64 h1) := (hb.cell (p := ⟨w.heap.size, 1, none⟩) (by first | assumption | (simp; done) | (simp; omega) | (dsimp only; omega) | omega)).trans (by first | assumption | (simp [go_sem]; done) | (simp [go_sem, *]; done)); have paa2 : (u2).cell? ⟨w.heap.size, 2, none⟩ = some (.int .u64 l1) := (hb.cell (p := ⟨w.heap.size, 2, none⟩) (by first | assumption | (simp; done) | (simp; omega) | (dsimp only; omega) | omega)).trans (by first | assumption | (simp [go_sem]; done) | (simp [go_sem, *]; done))
  have baaz : u1.heap.size < (u2).heap.size := Nat.lt_of_lt_of_le (show u1.heap.size < _ from (by first | assumption | (simp; done) | (simp; omega) | (dsimp only; omega) | omega)) hb.size; have baa0 : (u2).cell? ⟨u1.heap.size, 0, none⟩ = some (.bool nq) := (hb.cell (p := ⟨u1.heap.size, 0, none⟩) (by first | assumption | (simp; done) | (simp; omega) | (dsimp only; omega) | omega)).trans (by first | assumption | (simp [go_sem]; done) | (simp [go_sem, *]; done)); have baa1 : (u2).cell? ⟨u1.heap.size, 1, none⟩ = some (.int .u64 hq) := (hb.cell (p := ⟨u1.heap.size, 1, none⟩) (by first | assumption | (simp; done) | (simp; omega) | (dsimp only; omega) | omega)).trans (by first | assumption | (simp [go_sem]; done) | (simp [go_sem, *]; done)); have baa2 : (u2).cell? ⟨u1.heap.size, 2, none⟩ = some (.int .u64 lq) := (hb.cell (p := ⟨u1.heap.size, 2, none⟩) (by first | assumption | (simp; done) | (simp; omega) | (dsimp only; omega) | omega)).trans (by first | assumption | (simp [go_sem]; done) | (simp [go_sem, *]; done))
  clear BB BH hsz
  clear pabz pab0 pab1 pab2
  have BH := hid BN
  have hsz := BN.size
  clear BN hb
  go_wp2_with fail
  refine (gc _).mono ?_; rintro e u3 ⟨rfl, hb⟩
  have BB := BH.out
  have BN : Below w.heap.size w u3 := by repeat' (first | (with_reducible exact Below.refl _ _) | (with_reducible refine Below.alloc ?_ ?_ _) | (with_reducible refine Below.setCell ?_ ?_ _) | (with_reducible refine Below.drew ?_) | (with_reducible refine Below.trans ?_ (Below.mono (by assumption) ?_)) | (simp; done) | (simp; omega) | omega)
  have pabz : w.heap.size < (u3).heap.size := Nat.lt_of_lt_of_le (show w.heap.size < _ from (by first | assumption | (simp; done) | (simp; omega) | (dsimp only; omega) | omega)) hb.size; have pab0 : (u3).cell? ⟨w.heap.size, 0, none⟩ = some (.bool n1) := (hb.cell (p := ⟨w.heap.size, 0, none⟩) (by first | assumption | (simp; done) | (simp; omega) | (dsimp only; omega) | omega)).trans (by first | assumption | (simp [go_sem]; done) | (simp [go_sem, *]; done)); have pab1 : (u3).cell? ⟨w.heap.size, 1, none⟩ = some (.int .u64 h1) := (hb.cell (p := ⟨w.heap.size, 1, none⟩) (by first | assumption | (simp; done) | (simp; omega) | (dsimp only; omega) | omega)).trans (by first | assumption | (simp [go_sem]; done) | (simp [go_sem, *]; done)); have pab2 : (u3).cell? ⟨w.heap.size, 2, none⟩ = some (.int .u64 l1) := (hb.cell (p := ⟨w.heap.size, 2, none⟩) (by first | assumption | (simp; done) | (simp; omega) | (dsimp only; omega) | omega)).trans (by first | assumption | (simp [go_sem]; done) | (simp [go_sem, *]; done))
  have babz : u1.heap.size < (u3).heap.size := Nat.lt_of_lt_of_le (show u1.heap.size < _ from (by first | assumption | (simp; done) | (simp; omega) | (dsimp only; omega) | omega)) hb.size; have bab0 : (u3).cell? ⟨u1.heap.size, 0, none⟩ = some (.bool nq) := (hb.cell (p := ⟨u1.heap.size, 0, none⟩) (by first | assumption | (simp; done) | (simp; omega) | (dsimp only; omega) | omega)).trans (by first | assumption | (simp [go_sem]; done) | (simp [go_sem, *]; done)); have bab1 : (u3).cell? ⟨u1.heap.size, 1, none⟩ = some (.int .u64 hq) := (hb.cell (p := ⟨u1.heap.size, 1, none⟩) (by first | assumption | (simp; done) | (simp; omega) | (dsimp only; omega) | omega)).trans (by first | assumption | (simp [go_sem]; done) | (simp [go_sem, *]; done)); have bab2 : (u3).cell? ⟨u1.heap.size, 2, none⟩ = some (.int .u64 lq) := (hb.cell (p := ⟨u1.heap.size, 2, none⟩) (by first | assumption | (simp; done) | (simp; omega) | (dsimp only; omega) | omega)).trans (by first | assumption | (simp [go_sem]; done) | (simp [go_sem, *]; done))
  have bbbz : u2.heap.size < (u3).heap.size := Nat.lt_of_lt_of_le (show u2.heap.size < _ from (by first | assumption | (simp; done) | (simp; omega) | (dsimp only; omega) | omega)) hb.size; have bbb0 : (u3).cell? ⟨u2.heap.size, 0, none⟩ = some (.bool nq) := (hb.cell (p := ⟨u2.heap.size, 0, none⟩) (by first | assumption | (simp; done) | (simp; omega) | (dsimp only; omega) | omega)).trans (by first | assumption | (simp [go_sem]; done) | (simp [go_sem, *]; done)); have bbb1 : (u3).cell? ⟨u2.heap.size, 1, none⟩ = some (.int .u64 hq) := (hb.cell (p := ⟨u2.heap.size, 1, none⟩) (by first | assumption | (simp; done) | (simp; omega) | (dsimp only; omega) | omega)).trans (by first | assumption | (simp [go_sem]; done) | (simp [go_sem, *]; done)); have bbb2 : (u3).cell? ⟨u2.heap.size, 2, none⟩ = some (.int .u64 lq) := (hb.cell (p := ⟨u2.heap.size, 2, none⟩) (by first | assumption | (simp; done) | (simp; omega) | (dsimp only; omega) | omega)).trans (by first | assumption | (simp [go_sem]; done) | (simp [go_sem, *]; done))
  clear BB BH hsz
  clear paaz paa0 paa1 paa2 baaz baa0 baa1 baa2
  have BH := hid BN
  have hsz := BN.size
  clear BN hb
  go_wp2_with fail
  refine (gc2 _).mono ?_; rintro e u4 ⟨rfl, hb⟩
  have BB := BH.out
  have BN : Below w.heap.size w u4 := by repeat' (first | (with_reducible exact Below.refl _ _) | (with_reducible refine Below.alloc ?_ ?_ _) | (with_reducible refine Below.setCell ?_ ?_ _) | (with_reducible refine Below.drew ?_) | (with_reducible refine Below.trans ?_ (Below.mono (by assumption) ?_)) | (simp; done) | (simp; omega) | omega)
  have paaz : w.heap.size < (u4).heap.size := Nat.lt_of_lt_of_le (show w.heap.size < _ from (by first | assumption | (simp; done) | (simp; omega) | (dsimp only; omega) | omega)) hb.size; have paa0 : (u4).cell? ⟨w.heap.size, 0, none⟩ = some (.bool n1) := (hb.cell (p := ⟨w.heap.size, 0, none⟩) (by first | assumption | (simp; done) | (simp; omega) | (dsimp only; omega) | omega)).trans (by first | assumption | (simp [go_sem]; done) | (simp [go_sem, *]; done)); have paa1 : (u4).cell? ⟨w.heap.size, 1, none⟩ = some (.int .u64 h1) := (hb.cell (p := ⟨w.heap.size, 1, none⟩) (by first | assumption | (simp; done) | (simp; omega) | (dsimp only; omega) | omega)).trans (by first | assumption | (simp [go_sem]; done) | (simp [go_sem, *]; done)); have paa2 : (u4).cell? ⟨w.heap.size, 2, none⟩ = some (.int .u64 l1) := (hb.cell (p := ⟨w.heap.size, 2, none⟩) (by first | assumption | (simp; done) | (simp; omega) | (dsimp only; omega) | omega)).trans (by first | assumption | (simp [go_sem]; done) | (simp [go_sem, *]; done))
  have baaz : u1.heap.size < (u4).heap.size := Nat.lt_of_lt_of_le (show u1.heap.size < _ from (by first | assumption | (simp; done) | (simp; omega) | (dsimp only; omega) | omega)) hb.size; have baa0 : (u4).cell? ⟨u1.heap.size, 0, none⟩ = some (.bool nq) := (hb.cell (p := ⟨u1.heap.size, 0, none⟩) (by first | assumption | (simp; done) | (simp; omega) | (dsimp only; omega) | omega)).trans (by first | assumption | (simp [go_sem]; done) | (simp [go_sem, *]; done)); have baa1 : (u4).cell? ⟨u1.heap.size, 1, none⟩ = some (.int .u64 hq) := (hb.cell (p := ⟨u1.heap.size, 1, none⟩) (by first | assumption | (simp; done) | (simp; omega) | (dsimp only; omega) | omega)).trans (by first | assumption | (simp [go_sem]; done) | (simp [go_sem, *]; done)); have baa2 : (u4).cell? ⟨u1.heap.size, 2, none⟩ = some (.int .u64 lq) := (hb.cell (p := ⟨u1.heap.size, 2, none⟩) (by first | assumption | (simp; done) | (simp; omega) | (dsimp only; omega) | omega)).trans (by first | assumption | (simp [go_sem]; done) | (simp [go_sem, *]; done))
  have bbaz : u2.heap.size < (u4).heap.size := Nat.lt_of_lt_of_le (show u2.heap.size < _ from (by first | assumption | (simp; done) | (simp; omega) | (dsimp only; omega) | omega)) hb.size; have bba0 : (u4).cell? ⟨u2.heap.size, 0, none⟩ = some (.bool nq) := (hb.cell (p := ⟨u2.heap.size, 0, none⟩) (by first | assumption | (simp; done) | (simp; omega) | (dsimp only; omega) | omega)).trans (by first | assumption | (simp [go_sem]; done) | (simp [go_sem, *]; done)); have bba1 : (u4).cell? ⟨u2.heap.size, 1, none⟩ = some (.int .u64 hq) := (hb.cell (p := ⟨u2.heap.size, 1, none⟩) (by first | assumption | (simp; done) | (simp; omega) | (dsimp only; omega) | omega)).trans (by first | assumption | (simp [go_sem]; done) | (simp [go_sem, *]; done)); have bba2 : (u4).cell? ⟨u2.heap.size, 2, none⟩ = some (.int .u64 lq) := (hb.cell (p := ⟨u2.heap.size, 2, none⟩) (by first | assumption | (simp; done) | (simp; omega) | (dsimp only; omega) | omega)).trans (by first | assumption | (simp [go_sem]; done) | (simp [go_sem, *]; done))
  clear BB BH hsz
  clear pabz pab0 pab1 pab2 babz bab0 bab1 bab2 bbbz bbb0 bbb1 bbb2
  have BH := hid BN
  have hsz := BN.size
  clear BN hb
  clear paaz paa0 paa1 paa2
  go_wp2_with fail
  refine (awake_any _).mono ?_; rintro e u7 ⟨rfl, hb⟩
  have BB := BH.out
  go_wp2_with fail
  go_ret
  exact Gives.mk rfl (by repeat' (first | (with_reducible exact Below.refl _ _) | (with_reducible refine Below.alloc ?_ ?_ _) | (with_reducible refine Below.setCell ?_ ?_ _) | (with_reducible refine Below.drew ?_) | (with_reducible refine Below.trans ?_ (Below.mono (by assumption) ?_)) | (simp; done) | (simp; omega) | omega))
theorem wdivs_as (n1 : Bool) (h1 l1 d : Int) (a0 : 0 ≤ h1) (a1 : h1 ≤ 18446744073709551615) (a2 : 0 ≤ l1) (a3 : l1 ≤ 18446744073709551615) (d0 : -9223372036854775808 ≤ d) (d1 : d ≤ 9223372036854775807) (w : World) :
    Calls Try.prog 5 #[.agg #[.bool n1, .int .u64 h1, .int .u64 l1], .int .i64 d] w (Gives (.bool true) w) := by
  have f1 : Wd.Fits ⟨n1, h1, l1⟩ := ⟨⟨a0, by simp only; omega⟩, ⟨a2, by simp only; omega⟩⟩
  obtain ⟨⟨⟨nq, hq, lq⟩, rs, eq⟩, hA⟩ : ∃ r, Wd.divS ⟨n1, h1, l1⟩ d = r := ⟨_, rfl⟩
  obtain ⟨⟨v, e⟩, hG⟩ : ∃ r, Wd.gcdS ⟨n1, h1, l1⟩ d = r := ⟨_, rfl⟩
  exact wdivs_walk n1 h1 l1 d nq hq lq rs eq v e w (fun w => divFloor_any _ _ _ _ f1 d0 d1 _ _ _ _ _ hA w) (fun w => rwDivFloor_any _ _ _ _ f1 d0 d1 _ _ _ _ _ hA w) (fun w => gcd_any _ _ _ _ f1 d0 d1 _ _ hG w) (fun w => rwgcd_any _ _ _ _ f1 d0 d1 _ _ hG w)
end Go.Proofs.Ythfnblifefnfmaa
