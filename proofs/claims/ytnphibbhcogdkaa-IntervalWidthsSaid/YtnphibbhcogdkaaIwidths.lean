/-
  IntervalWidths: the walk.
-/
import Derived.Test.YtnphibbhcogdkaaIawake
import Derived.Test.YtnphibbhcogdkaaIenclosesany
namespace Go.Proofs.Ytnphibbhcogdkaa
open Go.RowKit
set_option linter.unusedVariables false
set_option linter.unusedSimpArgs false

set_option maxRecDepth 100000 in
set_option maxHeartbeats 4000000 in
theorem widths_outa (a b c d va vb ea eb sl sh g tl th g2 ul uh i : Int) (w : World) (h1 : (ea != 0) = true) (h2 : (g != 0) = true) (h3 : (g2 != 0) = true) (h4 : (i != 0) = true)
    (wa : ∀ w : World, Calls Try.prog 53 #[.agg #[.int .i64 a, .int .i64 b]] w (Gives (.tuple #[.int .i64 va, .int .i64 ea]) w))
    (wb : ∀ w : World, Calls Try.prog 53 #[.agg #[.int .i64 c, .int .i64 d]] w (Gives (.tuple #[.int .i64 vb, .int .i64 eb]) w))
    (ad : ∀ w : World, Calls Try.prog 47 #[.agg #[.int .i64 a, .int .i64 b], .agg #[.int .i64 c, .int .i64 d]] w (Gives (.tuple #[.agg #[.int .i64 sl, .int .i64 sh], .int .i64 g]) w))
    (ad2 : ∀ w : World, Calls Try.prog 47 #[.agg #[.int .i64 c, .int .i64 d], .agg #[.int .i64 a, .int .i64 b]] w (Gives (.tuple #[.agg #[.int .i64 tl, .int .i64 th], .int .i64 g2]) w))
    (su : ∀ w : World, Calls Try.prog 49 #[.agg #[.int .i64 a, .int .i64 b], .agg #[.int .i64 c, .int .i64 d]] w (Gives (.tuple #[.agg #[.int .i64 ul, .int .i64 uh], .int .i64 i]) w)) :
    Calls Try.prog 15 #[.agg #[.int .i64 a, .int .i64 b], .agg #[.int .i64 c, .int .i64 d]] w (Gives (.bool true) w) := by
  go_enter Try.func15, Try.ntmps15
  go_wp2_with fail
  refine (wa _).mono ?_; rintro e u1 ⟨rfl, hb⟩
  have BN : Below w.heap.size w u1 := by repeat' (first | (with_reducible exact Below.refl _ _) | (with_reducible refine Below.alloc ?_ ?_ _) | (with_reducible refine Below.setCell ?_ ?_ _) | (with_reducible refine Below.drew ?_) | (with_reducible refine Below.trans ?_ (Below.mono (by assumption) ?_)) | (simp; done) | (simp; omega) | omega)
  have pabz : w.heap.size < (u1).heap.size := Nat.lt_of_lt_of_le (show w.heap.size < _ from (by first | assumption | (simp; done) | (simp; omega) | (dsimp only; omega) | omega)) hb.size; have pab0 : (u1).cell? ⟨w.heap.size, 0, none⟩ = some (.int .i64 (a)) := (hb.cell (p := ⟨w.heap.size, 0, none⟩) (by first | assumption | (simp; done) | (simp; omega) | (dsimp only; omega) | omega)).trans (by first | assumption | (simp [go_sem]; done) | (simp [go_sem, *]; done)); have pab1 : (u1).cell? ⟨w.heap.size, 1, none⟩ = some (.int .i64 (b)) := (hb.cell (p := ⟨w.heap.size, 1, none⟩) (by first | assumption | (simp; done) | (simp; omega) | (dsimp only; omega) | omega)).trans (by first | assumption | (simp [go_sem]; done) | (simp [go_sem, *]; done))
  have pbbz : w.heap.size + 1 < (u1).heap.size := Nat.lt_of_lt_of_le (show w.heap.size + 1 < _ from (by first | assumption | (simp; done) | (simp; omega) | (dsimp only; omega) | omega)) hb.size; have pbb0 : (u1).cell? ⟨w.heap.size + 1, 0, none⟩ = some (.int .i64 (c)) := (hb.cell (p := ⟨w.heap.size + 1, 0, none⟩) (by first | assumption | (simp; done) | (simp; omega) | (dsimp only; omega) | omega)).trans (by first | assumption | (simp [go_sem]; done) | (simp [go_sem, *]; done)); have pbb1 : (u1).cell? ⟨w.heap.size + 1, 1, none⟩ = some (.int .i64 (d)) := (hb.cell (p := ⟨w.heap.size + 1, 1, none⟩) (by first | assumption | (simp; done) | (simp; omega) | (dsimp only; omega) | omega)).trans (by first | assumption | (simp [go_sem]; done) | (simp [go_sem, *]; done))
  have BH := hid BN
  have hsz := BN.size
  clear BN hb
  go_wp2_with fail
  refine (wb _).mono ?_; rintro e u2 ⟨rfl, hb⟩
  have BB := BH.out
  have BN : Below w.heap.size w u2 := by repeat' (first | (with_reducible exact Below.refl _ _) | (with_reducible refine Below.alloc ?_ ?_ _) | (with_reducible refine Below.setCell ?_ ?_ _) | (with_reducible refine Below.drew ?_) | (with_reducible refine Below.trans ?_ (Below.mono (by assumption) ?_)) | (simp; done) | (simp; omega) | omega)
  have paaz : w.heap.size < (u2).heap.size := Nat.lt_of_lt_of_le (show w.heap.size < _ from (by first | assumption | (simp; done) | (simp; omega) | (dsimp only; omega) | omega)) hb.size; have paa0 : (u2).cell? ⟨w.heap.size, 0, none⟩ = some (.int .i64 (a)) := (hb.cell (p := ⟨w.heap.size, 0, none⟩) (by first | assumption | (simp; done) | (simp; omega) | (dsimp only; omega) | omega)).trans (by first | assumption | (simp [go_sem]; done) | (simp [go_sem, *]; done)); have paa1 : (u2).cell? ⟨w.heap.size, 1, none⟩ = some (.int .i64 (b)) := (hb.cell (p := ⟨w.heap.size, 1, none⟩) (by first | assumption | (simp; done) | (simp; omega) | (dsimp only; omega) | omega)).trans (by first | assumption | (simp [go_sem]; done) | (simp [go_sem, *]; done))
  have pbaz : w.heap.size + 1 < (u2).heap.size := Nat.lt_of_lt_of_le (show w.heap.size + 1 < _ from (by first | assumption | (simp; done) | (simp; omega) | (dsimp only; omega) | omega)) hb.size; have pba0 : (u2).cell? ⟨w.heap.size + 1, 0, none⟩ = some (.int .i64 (c)) := (hb.cell (p := ⟨w.heap.size + 1, 0, none⟩) (by first | assumption | (simp; done) | (simp; omega) | (dsimp only; omega) | omega)).trans (by first | assumption | (simp [go_sem]; done) | (simp [go_sem, *]; done)); have pba1 : (u2).cell? ⟨w.heap.size + 1, 1, none⟩ = some (.int .i64 (d)) := (hb.cell (p := ⟨w.heap.size + 1, 1, none⟩) (by first | assumption | (simp; done) | (simp; omega) | (dsimp only; omega) | omega)).trans (by first | assumption | (simp [go_sem]; done) | (simp [go_sem, *]; done))
  clear BB BH hsz
  clear pabz pab0 pab1 pbbz pbb0 pbb1
  have BH := hid BN
  have hsz := BN.size
  clear BN hb
  go_wp2_with fail
  refine (ad _).mono ?_; rintro e u3 ⟨rfl, hb⟩
  have BB := BH.out
  have BN : Below w.heap.size w u3 := by repeat' (first | (with_reducible exact Below.refl _ _) | (with_reducible refine Below.alloc ?_ ?_ _) | (with_reducible refine Below.setCell ?_ ?_ _) | (with_reducible refine Below.drew ?_) | (with_reducible refine Below.trans ?_ (Below.mono (by assumption) ?_)) | (simp; done) | (simp; omega) | omega)
  have pabz : w.heap.size < (u3).heap.size := Nat.lt_of_lt_of_le (show w.heap.size < _ from (by first | assumption | (simp; done) | (simp; omega) | (dsimp only; omega) | omega)) hb.size; have pab0 : (u3).cell? ⟨w.heap.size, 0, none⟩ = some (.int .i64 (a)) := (hb.cell (p := ⟨w.heap.size, 0, none⟩) (by first | assumption | (simp; done) | (simp; omega) | (dsimp only; omega) | omega)).trans (by first | assumption | (simp [go_sem]; done) | (simp [go_sem, *]; done)); have pab1 : (u3).cell? ⟨w.heap.size, 1, none⟩ = some (.int .i64 (b)) := (hb.cell (p := ⟨w.heap.size, 1, none⟩) (by first | assumption | (simp; done) | (simp; omega) | (dsimp only; omega) | omega)).trans (by first | assumption | (simp [go_sem]; done) | (simp [go_sem, *]; done))
  have pbbz : w.heap.size + 1 < (u3).heap.size := Nat.lt_of_lt_of_le (show w.heap.size + 1 < _ from (by first | assumption | (simp; done) | (simp; omega) | (dsimp only; omega) | omega)) hb.size; have pbb0 : (u3).cell? ⟨w.heap.size + 1, 0, none⟩ = some (.int .i64 (c)) := (hb.cell (p := ⟨w.heap.size + 1, 0, none⟩) (by first | assumption | (simp; done) | (simp; omega) | (dsimp only; omega) | omega)).trans (by first | assumption | (simp [go_sem]; done) | (simp [go_sem, *]; done)); have pbb1 : (u3).cell? ⟨w.heap.size + 1, 1, none⟩ = some (.int .i64 (d)) := (hb.cell (p := ⟨w.heap.size + 1, 1, none⟩) (by first | assumption | (simp; done) | (simp; omega) | (dsimp only; omega) | omega)).trans (by first | assumption | (simp [go_sem]; done) | (simp [go_sem, *]; done))
  clear BB BH hsz
  clear paaz paa0 paa1 pbaz pba0 pba1
  have BH := hid BN
  have hsz := BN.size
  clear BN hb
  go_wp2_with fail
  refine (ad2 _).mono ?_; rintro e u4 ⟨rfl, hb⟩
  have BB := BH.out
  have BN : Below w.heap.size w u4 := by repeat' (first | (with_reducible exact Below.refl _ _) | (with_reducible refine Below.alloc ?_ ?_ _) | (with_reducible refine Below.setCell ?_ ?_ _) | (with_reducible refine Below.drew ?_) | (with_reducible refine Below.trans ?_ (Below.mono (by assumption) ?_)) | (simp; done) | (simp; omega) | omega)
  have paaz : w.heap.size < (u4).heap.size := Nat.lt_of_lt_of_le (show w.heap.size < _ from (by first | assumption | (simp; done) | (simp; omega) | (dsimp only; omega) | omega)) hb.size; have paa0 : (u4).cell? ⟨w.heap.size, 0, none⟩ = some (.int .i64 (a)) := (hb.cell (p := ⟨w.heap.size, 0, none⟩) (by first | assumption | (simp; done) | (simp; omega) | (dsimp only; omega) | omega)).trans (by first | assumption | (simp [go_sem]; done) | (simp [go_sem, *]; done)); have paa1 : (u4).cell? ⟨w.heap.size, 1, none⟩ = some (.int .i64 (b)) := (hb.cell (p := ⟨w.heap.size, 1, none⟩) (by first | assumption | (simp; done) | (simp; omega) | (dsimp only; omega) | omega)).trans (by first | assumption | (simp [go_sem]; done) | (simp [go_sem, *]; done))
  have pbaz : w.heap.size + 1 < (u4).heap.size := Nat.lt_of_lt_of_le (show w.heap.size + 1 < _ from (by first | assumption | (simp; done) | (simp; omega) | (dsimp only; omega) | omega)) hb.size; have pba0 : (u4).cell? ⟨w.heap.size + 1, 0, none⟩ = some (.int .i64 (c)) := (hb.cell (p := ⟨w.heap.size + 1, 0, none⟩) (by first | assumption | (simp; done) | (simp; omega) | (dsimp only; omega) | omega)).trans (by first | assumption | (simp [go_sem]; done) | (simp [go_sem, *]; done)); have pba1 : (u4).cell? ⟨w.heap.size + 1, 1, none⟩ = some (.int .i64 (d)) := (hb.cell (p := ⟨w.heap.size + 1, 1, none⟩) (by first | assumption | (simp; done) | (simp; omega) | (dsimp only; omega) | omega)).trans (by first | assumption | (simp [go_sem]; done) | (simp [go_sem, *]; done))
  have bsaz : u3.heap.size < (u4).heap.size := Nat.lt_of_lt_of_le (show u3.heap.size < _ from (by first | assumption | (simp; done) | (simp; omega) | (dsimp only; omega) | omega)) hb.size; have bsa0 : (u4).cell? ⟨u3.heap.size, 0, none⟩ = some (.int .i64 (sl)) := (hb.cell (p := ⟨u3.heap.size, 0, none⟩) (by first | assumption | (simp; done) | (simp; omega) | (dsimp only; omega) | omega)).trans (by first | assumption | (simp [go_sem]; done) | (simp [go_sem, *]; done)); have bsa1 : (u4).cell? ⟨u3.heap.size, 1, none⟩ = some (.int .i64 (sh)) := (hb.cell (p := ⟨u3.heap.size, 1, none⟩) (by first | assumption | (simp; done) | (simp; omega) | (dsimp only; omega) | omega)).trans (by first | assumption | (simp [go_sem]; done) | (simp [go_sem, *]; done))
  clear BB BH hsz
  clear pabz pab0 pab1 pbbz pbb0 pbb1
  have BH := hid BN
  have hsz := BN.size
  clear BN hb
  go_wp2_with fail
  refine (su _).mono ?_; rintro e u5 ⟨rfl, hb⟩
  have BB := BH.out
  have BN : Below w.heap.size w u5 := by repeat' (first | (with_reducible exact Below.refl _ _) | (with_reducible refine Below.alloc ?_ ?_ _) | (with_reducible refine Below.setCell ?_ ?_ _) | (with_reducible refine Below.drew ?_) | (with_reducible refine Below.trans ?_ (Below.mono (by assumption) ?_)) | (simp; done) | (simp; omega) | omega)
  have pabz : w.heap.size < (u5).heap.size := Nat.lt_of_lt_of_le (show w.heap.size < _ from (by first | assumption | (simp; done) | (simp; omega) | (dsimp only; omega) | omega)) hb.size; have pab0 : (u5).cell? ⟨w.heap.size, 0, none⟩ = some (.int .i64 (a)) := (hb.cell (p := ⟨w.heap.size, 0, none⟩) (by first | assumption | (simp; done) | (simp; omega) | (dsimp only; omega) | omega)).trans (by first | assumption | (simp [go_sem]; done) | (simp [go_sem, *]; done)); have pab1 : (u5).cell? ⟨w.heap.size, 1, none⟩ = some (.int .i64 (b)) := (hb.cell (p := ⟨w.heap.size, 1, none⟩) (by first | assumption | (simp; done) | (simp; omega) | (dsimp only; omega) | omega)).trans (by first | assumption | (simp [go_sem]; done) | (simp [go_sem, *]; done))
  have pbbz : w.heap.size + 1 < (u5).heap.size := Nat.lt_of_lt_of_le (show w.heap.size + 1 < _ from (by first | assumption | (simp; done) | (simp; omega) | (dsimp only; omega) | omega)) hb.size; have pbb0 : (u5).cell? ⟨w.heap.size + 1, 0, none⟩ = some (.int .i64 (c)) := (hb.cell (p := ⟨w.heap.size + 1, 0, none⟩) (by first | assumption | (simp; done) | (simp; omega) | (dsimp only; omega) | omega)).trans (by first | assumption | (simp [go_sem]; done) | (simp [go_sem, *]; done)); have pbb1 : (u5).cell? ⟨w.heap.size + 1, 1, none⟩ = some (.int .i64 (d)) := (hb.cell (p := ⟨w.heap.size + 1, 1, none⟩) (by first | assumption | (simp; done) | (simp; omega) | (dsimp only; omega) | omega)).trans (by first | assumption | (simp [go_sem]; done) | (simp [go_sem, *]; done))
  have bsbz : u3.heap.size < (u5).heap.size := Nat.lt_of_lt_of_le (show u3.heap.size < _ from (by first | assumption | (simp; done) | (simp; omega) | (dsimp only; omega) | omega)) hb.size; have bsb0 : (u5).cell? ⟨u3.heap.size, 0, none⟩ = some (.int .i64 (sl)) := (hb.cell (p := ⟨u3.heap.size, 0, none⟩) (by first | assumption | (simp; done) | (simp; omega) | (dsimp only; omega) | omega)).trans (by first | assumption | (simp [go_sem]; done) | (simp [go_sem, *]; done)); have bsb1 : (u5).cell? ⟨u3.heap.size, 1, none⟩ = some (.int .i64 (sh)) := (hb.cell (p := ⟨u3.heap.size, 1, none⟩) (by first | assumption | (simp; done) | (simp; omega) | (dsimp only; omega) | omega)).trans (by first | assumption | (simp [go_sem]; done) | (simp [go_sem, *]; done))
  have btbz : u4.heap.size < (u5).heap.size := Nat.lt_of_lt_of_le (show u4.heap.size < _ from (by first | assumption | (simp; done) | (simp; omega) | (dsimp only; omega) | omega)) hb.size; have btb0 : (u5).cell? ⟨u4.heap.size, 0, none⟩ = some (.int .i64 (tl)) := (hb.cell (p := ⟨u4.heap.size, 0, none⟩) (by first | assumption | (simp; done) | (simp; omega) | (dsimp only; omega) | omega)).trans (by first | assumption | (simp [go_sem]; done) | (simp [go_sem, *]; done)); have btb1 : (u5).cell? ⟨u4.heap.size, 1, none⟩ = some (.int .i64 (th)) := (hb.cell (p := ⟨u4.heap.size, 1, none⟩) (by first | assumption | (simp; done) | (simp; omega) | (dsimp only; omega) | omega)).trans (by first | assumption | (simp [go_sem]; done) | (simp [go_sem, *]; done))
  clear BB BH hsz
  clear paaz paa0 paa1 pbaz pba0 pba1 bsaz bsa0 bsa1
  have BH := hid BN
  have hsz := BN.size
  clear BN hb
  clear pabz pab0 pab1
  clear pbbz pbb0 pbb1
  clear bsbz bsb0 bsb1
  clear btbz btb0 btb1
  go_wp2_with fail
  refine (iawake_any _).mono ?_; rintro e u6 ⟨rfl, hb⟩
  have BB := BH.out
  have BN : Below w.heap.size w u6 := by repeat' (first | (with_reducible exact Below.refl _ _) | (with_reducible refine Below.alloc ?_ ?_ _) | (with_reducible refine Below.setCell ?_ ?_ _) | (with_reducible refine Below.drew ?_) | (with_reducible refine Below.trans ?_ (Below.mono (by assumption) ?_)) | (simp; done) | (simp; omega) | omega)
  have buaz : u5.heap.size < (u6).heap.size := Nat.lt_of_lt_of_le (show u5.heap.size < _ from (by first | assumption | (simp; done) | (simp; omega) | (dsimp only; omega) | omega)) hb.size; have bua0 : (u6).cell? ⟨u5.heap.size, 0, none⟩ = some (.int .i64 (ul)) := (hb.cell (p := ⟨u5.heap.size, 0, none⟩) (by first | assumption | (simp; done) | (simp; omega) | (dsimp only; omega) | omega)).trans (by first | assumption | (simp [go_sem]; done) | (simp [go_sem, *]; done)); have bua1 : (u6).cell? ⟨u5.heap.size, 1, none⟩ = some (.int .i64 (uh)) := (hb.cell (p := ⟨u5.heap.size, 1, none⟩) (by first | assumption | (simp; done) | (simp; omega) | (dsimp only; omega) | omega)).trans (by first | assumption | (simp [go_sem]; done) | (simp [go_sem, *]; done))
  clear BB BH hsz
  have BH := hid BN
  have hsz := BN.size
  clear BN hb
  go_wp2_with fail
  go_ret
  have BB := BH.out
  exact Gives.mk rfl (by repeat' (first | (with_reducible exact Below.refl _ _) | (with_reducible refine Below.alloc ?_ ?_ _) | (with_reducible refine Below.setCell ?_ ?_ _) | (with_reducible refine Below.drew ?_) | (with_reducible refine Below.trans ?_ (Below.mono (by assumption) ?_)) | (simp; done) | (simp; omega) | omega))
set_option maxRecDepth 100000 in
set_option maxHeartbeats 4000000 in
theorem widths_outb (a b c d va vb ea eb sl sh g tl th g2 ul uh i : Int) (w : World) (h1 : (eb != 0) = true) (h2 : (g != 0) = true) (h3 : (g2 != 0) = true) (h4 : (i != 0) = true)
    (wa : ∀ w : World, Calls Try.prog 53 #[.agg #[.int .i64 a, .int .i64 b]] w (Gives (.tuple #[.int .i64 va, .int .i64 0]) w))
    (wb : ∀ w : World, Calls Try.prog 53 #[.agg #[.int .i64 c, .int .i64 d]] w (Gives (.tuple #[.int .i64 vb, .int .i64 eb]) w))
    (ad : ∀ w : World, Calls Try.prog 47 #[.agg #[.int .i64 a, .int .i64 b], .agg #[.int .i64 c, .int .i64 d]] w (Gives (.tuple #[.agg #[.int .i64 sl, .int .i64 sh], .int .i64 g]) w))
    (ad2 : ∀ w : World, Calls Try.prog 47 #[.agg #[.int .i64 c, .int .i64 d], .agg #[.int .i64 a, .int .i64 b]] w (Gives (.tuple #[.agg #[.int .i64 tl, .int .i64 th], .int .i64 g2]) w))
    (su : ∀ w : World, Calls Try.prog 49 #[.agg #[.int .i64 a, .int .i64 b], .agg #[.int .i64 c, .int .i64 d]] w (Gives (.tuple #[.agg #[.int .i64 ul, .int .i64 uh], .int .i64 i]) w)) :
    Calls Try.prog 15 #[.agg #[.int .i64 a, .int .i64 b], .agg #[.int .i64 c, .int .i64 d]] w (Gives (.bool true) w) := by
  go_enter Try.func15, Try.ntmps15
  go_wp2_with fail
  refine (wa _).mono ?_; rintro e u1 ⟨rfl, hb⟩
  have BN : Below w.heap.size w u1 := by repeat' (first | (with_reducible exact Below.refl _ _) | (with_reducible refine Below.alloc ?_ ?_ _) | (with_reducible refine Below.setCell ?_ ?_ _) | (with_reducible refine Below.drew ?_) | (with_reducible refine Below.trans ?_ (Below.mono (by assumption) ?_)) | (simp; done) | (simp; omega) | omega)
  have pabz : w.heap.size < (u1).heap.size := Nat.lt_of_lt_of_le (show w.heap.size < _ from (by first | assumption | (simp; done) | (simp; omega) | (dsimp only; omega) | omega)) hb.size; have pab0 : (u1).cell? ⟨w.heap.size, 0, none⟩ = some (.int .i64 (a)) := (hb.cell (p := ⟨w.heap.size, 0, none⟩) (by first | assumption | (simp; done) | (simp; omega) | (dsimp only; omega) | omega)).trans (by first | assumption | (simp [go_sem]; done) | (simp [go_sem, *]; done)); have pab1 : (u1).cell? ⟨w.heap.size, 1, none⟩ = some (.int .i64 (b)) := (hb.cell (p := ⟨w.heap.size, 1, none⟩) (by first | assumption | (simp; done) | (simp; omega) | (dsimp only; omega) | omega)).trans (by first | assumption | (simp [go_sem]; done) | (simp [go_sem, *]; done))
  have pbbz : w.heap.size + 1 < (u1).heap.size := Nat.lt_of_lt_of_le (show w.heap.size + 1 < _ from (by first | assumption | (simp; done) | (simp; omega) | (dsimp only; omega) | omega)) hb.size; have pbb0 : (u1).cell? ⟨w.heap.size + 1, 0, none⟩ = some (.int .i64 (c)) := (hb.cell (p := ⟨w.heap.size + 1, 0, none⟩) (by first | assumption | (simp; done) | (simp; omega) | (dsimp only; omega) | omega)).trans (by first | assumption | (simp [go_sem]; done) | (simp [go_sem, *]; done)); have pbb1 : (u1).cell? ⟨w.heap.size + 1, 1, none⟩ = some (.int .i64 (d)) := (hb.cell (p := ⟨w.heap.size + 1, 1, none⟩) (by first | assumption | (simp; done) | (simp; omega) | (dsimp only; omega) | omega)).trans (by first | assumption | (simp [go_sem]; done) | (simp [go_sem, *]; done))
  have BH := hid BN
  have hsz := BN.size
  clear BN hb
  go_wp2_with fail
  refine (wb _).mono ?_; rintro e u2 ⟨rfl, hb⟩
  have BB := BH.out
  have BN : Below w.heap.size w u2 := by repeat' (first | (with_reducible exact Below.refl _ _) | (with_reducible refine Below.alloc ?_ ?_ _) | (with_reducible refine Below.setCell ?_ ?_ _) | (with_reducible refine Below.drew ?_) | (with_reducible refine Below.trans ?_ (Below.mono (by assumption) ?_)) | (simp; done) | (simp; omega) | omega)
  have paaz : w.heap.size < (u2).heap.size := Nat.lt_of_lt_of_le (show w.heap.size < _ from (by first | assumption | (simp; done) | (simp; omega) | (dsimp only; omega) | omega)) hb.size; have paa0 : (u2).cell? ⟨w.heap.size, 0, none⟩ = some (.int .i64 (a)) := (hb.cell (p := ⟨w.heap.size, 0, none⟩) (by first | assumption | (simp; done) | (simp; omega) | (dsimp only; omega) | omega)).trans (by first | assumption | (simp [go_sem]; done) | (simp [go_sem, *]; done)); have paa1 : (u2).cell? ⟨w.heap.size, 1, none⟩ = some (.int .i64 (b)) := (hb.cell (p := ⟨w.heap.size, 1, none⟩) (by first | assumption | (simp; done) | (simp; omega) | (dsimp only; omega) | omega)).trans (by first | assumption | (simp [go_sem]; done) | (simp [go_sem, *]; done))
  have pbaz : w.heap.size + 1 < (u2).heap.size := Nat.lt_of_lt_of_le (show w.heap.size + 1 < _ from (by first | assumption | (simp; done) | (simp; omega) | (dsimp only; omega) | omega)) hb.size; have pba0 : (u2).cell? ⟨w.heap.size + 1, 0, none⟩ = some (.int .i64 (c)) := (hb.cell (p := ⟨w.heap.size + 1, 0, none⟩) (by first | assumption | (simp; done) | (simp; omega) | (dsimp only; omega) | omega)).trans (by first | assumption | (simp [go_sem]; done) | (simp [go_sem, *]; done)); have pba1 : (u2).cell? ⟨w.heap.size + 1, 1, none⟩ = some (.int .i64 (d)) := (hb.cell (p := ⟨w.heap.size + 1, 1, none⟩) (by first | assumption | (simp; done) | (simp; omega) | (dsimp only; omega) | omega)).trans (by first | assumption | (simp [go_sem]; done) | (simp [go_sem, *]; done))
  clear BB BH hsz
  clear pabz pab0 pab1 pbbz pbb0 pbb1
  have BH := hid BN
  have hsz := BN.size
  clear BN hb
  go_wp2_with fail
  refine (ad _).mono ?_; rintro e u3 ⟨rfl, hb⟩
  have BB := BH.out
  have BN : Below w.heap.size w u3 := by repeat' (first | (with_reducible exact Below.refl _ _) | (with_reducible refine Below.alloc ?_ ?_ _) | (with_reducible refine Below.setCell ?_ ?_ _) | (with_reducible refine Below.drew ?_) | (with_reducible refine Below.trans ?_ (Below.mono (by assumption) ?_)) | (simp; done) | (simp; omega) | omega)
  have pabz : w.heap.size < (u3).heap.size := Nat.lt_of_lt_of_le (show w.heap.size < _ from (by first | assumption | (simp; done) | (simp; omega) | (dsimp only; omega) | omega)) hb.size; have pab0 : (u3).cell? ⟨w.heap.size, 0, none⟩ = some (.int .i64 (a)) := (hb.cell (p := ⟨w.heap.size, 0, none⟩) (by first | assumption | (simp; done) | (simp; omega) | (dsimp only; omega) | omega)).trans (by first | assumption | (simp [go_sem]; done) | (simp [go_sem, *]; done)); have pab1 : (u3).cell? ⟨w.heap.size, 1, none⟩ = some (.int .i64 (b)) := (hb.cell (p := ⟨w.heap.size, 1, none⟩) (by first | assumption | (simp; done) | (simp; omega) | (dsimp only; omega) | omega)).trans (by first | assumption | (simp [go_sem]; done) | (simp [go_sem, *]; done))
  have pbbz : w.heap.size + 1 < (u3).heap.size := Nat.lt_of_lt_of_le (show w.heap.size + 1 < _ from (by first | assumption | (simp; done) | (simp; omega) | (dsimp only; omega) | omega)) hb.size; have pbb0 : (u3).cell? ⟨w.heap.size + 1, 0, none⟩ = some (.int .i64 (c)) := (hb.cell (p := ⟨w.heap.size + 1, 0, none⟩) (by first | assumption | (simp; done) | (simp; omega) | (dsimp only; omega) | omega)).trans (by first | assumption | (simp [go_sem]; done) | (simp [go_sem, *]; done)); have pbb1 : (u3).cell? ⟨w.heap.size + 1, 1, none⟩ = some (.int .i64 (d)) := (hb.cell (p := ⟨w.heap.size + 1, 1, none⟩) (by first | assumption | (simp; done) | (simp; omega) | (dsimp only; omega) | omega)).trans (by first | assumption | (simp [go_sem]; done) | (simp [go_sem, *]; done))
  clear BB BH hsz
  clear paaz paa0 paa1 pbaz pba0 pba1
  have BH := hid BN
  have hsz := BN.size
  clear BN hb
  go_wp2_with fail
  refine (ad2 _).mono ?_; rintro e u4 ⟨rfl, hb⟩
  have BB := BH.out
  have BN : Below w.heap.size w u4 := by repeat' (first | (with_reducible exact Below.refl _ _) | (with_reducible refine Below.alloc ?_ ?_ _) | (with_reducible refine Below.setCell ?_ ?_ _) | (with_reducible refine Below.drew ?_) | (with_reducible refine Below.trans ?_ (Below.mono (by assumption) ?_)) | (simp; done) | (simp; omega) | omega)
  have paaz : w.heap.size < (u4).heap.size := Nat.lt_of_lt_of_le (show w.heap.size < _ from (by first | assumption | (simp; done) | (simp; omega) | (dsimp only; omega) | omega)) hb.size; have paa0 : (u4).cell? ⟨w.heap.size, 0, none⟩ = some (.int .i64 (a)) := (hb.cell (p := ⟨w.heap.size, 0, none⟩) (by first | assumption | (simp; done) | (simp; omega) | (dsimp only; omega) | omega)).trans (by first | assumption | (simp [go_sem]; done) | (simp [go_sem, *]; done)); have paa1 : (u4).cell? ⟨w.heap.size, 1, none⟩ = some (.int .i64 (b)) := (hb.cell (p := ⟨w.heap.size, 1, none⟩) (by first | assumption | (simp; done) | (simp; omega) | (dsimp only; omega) | omega)).trans (by first | assumption | (simp [go_sem]; done) | (simp [go_sem, *]; done))
  have pbaz : w.heap.size + 1 < (u4).heap.size := Nat.lt_of_lt_of_le (show w.heap.size + 1 < _ from (by first | assumption | (simp; done) | (simp; omega) | (dsimp only; omega) | omega)) hb.size; have pba0 : (u4).cell? ⟨w.heap.size + 1, 0, none⟩ = some (.int .i64 (c)) := (hb.cell (p := ⟨w.heap.size + 1, 0, none⟩) (by first | assumption | (simp; done) | (simp; omega) | (dsimp only; omega) | omega)).trans (by first | assumption | (simp [go_sem]; done) | (simp [go_sem, *]; done)); have pba1 : (u4).cell? ⟨w.heap.size + 1, 1, none⟩ = some (.int .i64 (d)) := (hb.cell (p := ⟨w.heap.size + 1, 1, none⟩) (by first | assumption | (simp; done) | (simp; omega) | (dsimp only; omega) | omega)).trans (by first | assumption | (simp [go_sem]; done) | (simp [go_sem, *]; done))
  have bsaz : u3.heap.size < (u4).heap.size := Nat.lt_of_lt_of_le (show u3.heap.size < _ from (by first | assumption | (simp; done) | (simp; omega) | (dsimp only; omega) | omega)) hb.size; have bsa0 : (u4).cell? ⟨u3.heap.size, 0, none⟩ = some (.int .i64 (sl)) := (hb.cell (p := ⟨u3.heap.size, 0, none⟩) (by first | assumption | (simp; done) | (simp; omega) | (dsimp only; omega) | omega)).trans (by first | assumption | (simp [go_sem]; done) | (simp [go_sem, *]; done)); have bsa1 : (u4).cell? ⟨u3.heap.size, 1, none⟩ = some (.int .i64 (sh)) := (hb.cell (p := ⟨u3.heap.size, 1, none⟩) (by first | assumption | (simp; done) | (simp; omega) | (dsimp only; omega) | omega)).trans (by first | assumption | (simp [go_sem]; done) | (simp [go_sem, *]; done))
  clear BB BH hsz
  clear pabz pab0 pab1 pbbz pbb0 pbb1
  have BH := hid BN
  have hsz := BN.size
  clear BN hb
  go_wp2_with fail
  refine (su _).mono ?_; rintro e u5 ⟨rfl, hb⟩
  have BB := BH.out
  have BN : Below w.heap.size w u5 := by repeat' (first | (with_reducible exact Below.refl _ _) | (with_reducible refine Below.alloc ?_ ?_ _) | (with_reducible refine Below.setCell ?_ ?_ _) | (with_reducible refine Below.drew ?_) | (with_reducible refine Below.trans ?_ (Below.mono (by assumption) ?_)) | (simp; done) | (simp; omega) | omega)
  have pabz : w.heap.size < (u5).heap.size := Nat.lt_of_lt_of_le (show w.heap.size < _ from (by first | assumption | (simp; done) | (simp; omega) | (dsimp only; omega) | omega)) hb.size; have pab0 : (u5).cell? ⟨w.heap.size, 0, none⟩ = some (.int .i64 (a)) := (hb.cell (p := ⟨w.heap.size, 0, none⟩) (by first | assumption | (simp; done) | (simp; omega) | (dsimp only; omega) | omega)).trans (by first | assumption | (simp [go_sem]; done) | (simp [go_sem, *]; done)); have pab1 : (u5).cell? ⟨w.heap.size, 1, none⟩ = some (.int .i64 (b)) := (hb.cell (p := ⟨w.heap.size, 1, none⟩) (by first | assumption | (simp; done) | (simp; omega) | (dsimp only; omega) | omega)).trans (by first | assumption | (simp [go_sem]; done) | (simp [go_sem, *]; done))
  have pbbz : w.heap.size + 1 < (u5).heap.size := Nat.lt_of_lt_of_le (show w.heap.size + 1 < _ from (by first | assumption | (simp; done) | (simp; omega) | (dsimp only; omega) | omega)) hb.size; have pbb0 : (u5).cell? ⟨w.heap.size + 1, 0, none⟩ = some (.int .i64 (c)) := (hb.cell (p := ⟨w.heap.size + 1, 0, none⟩) (by first | assumption | (simp; done) | (simp; omega) | (dsimp only; omega) | omega)).trans (by first | assumption | (simp [go_sem]; done) | (simp [go_sem, *]; done)); have pbb1 : (u5).cell? ⟨w.heap.size + 1, 1, none⟩ = some (.int .i64 (d)) := (hb.cell (p := ⟨w.heap.size + 1, 1, none⟩) (by first | assumption | (simp; done) | (simp; omega) | (dsimp only; omega) | omega)).trans (by first | assumption | (simp [go_sem]; done) | (simp [go_sem, *]; done))
  have bsbz : u3.heap.size < (u5).heap.size := Nat.lt_of_lt_of_le (show u3.heap.size < _ from (by first | assumption | (simp; done) | (simp; omega) | (dsimp only; omega) | omega)) hb.size; have bsb0 : (u5).cell? ⟨u3.heap.size, 0, none⟩ = some (.int .i64 (sl)) := (hb.cell (p := ⟨u3.heap.size, 0, none⟩) (by first | assumption | (simp; done) | (simp; omega) | (dsimp only; omega) | omega)).trans (by first | assumption | (simp [go_sem]; done) | (simp [go_sem, *]; done)); have bsb1 : (u5).cell? ⟨u3.heap.size, 1, none⟩ = some (.int .i64 (sh)) := (hb.cell (p := ⟨u3.heap.size, 1, none⟩) (by first | assumption | (simp; done) | (simp; omega) | (dsimp only; omega) | omega)).trans (by first | assumption | (simp [go_sem]; done) | (simp [go_sem, *]; done))
  have btbz : u4.heap.size < (u5).heap.size := Nat.lt_of_lt_of_le (show u4.heap.size < _ from (by first | assumption | (simp; done) | (simp; omega) | (dsimp only; omega) | omega)) hb.size; have btb0 : (u5).cell? ⟨u4.heap.size, 0, none⟩ = some (.int .i64 (tl)) := (hb.cell (p := ⟨u4.heap.size, 0, none⟩) (by first | assumption | (simp; done) | (simp; omega) | (dsimp only; omega) | omega)).trans (by first | assumption | (simp [go_sem]; done) | (simp [go_sem, *]; done)); have btb1 : (u5).cell? ⟨u4.heap.size, 1, none⟩ = some (.int .i64 (th)) := (hb.cell (p := ⟨u4.heap.size, 1, none⟩) (by first | assumption | (simp; done) | (simp; omega) | (dsimp only; omega) | omega)).trans (by first | assumption | (simp [go_sem]; done) | (simp [go_sem, *]; done))
  clear BB BH hsz
  clear paaz paa0 paa1 pbaz pba0 pba1 bsaz bsa0 bsa1
  have BH := hid BN
  have hsz := BN.size
  clear BN hb
  clear pabz pab0 pab1
  clear pbbz pbb0 pbb1
  clear bsbz bsb0 bsb1
  clear btbz btb0 btb1
  go_wp2_with fail
  refine (iawake_any _).mono ?_; rintro e u6 ⟨rfl, hb⟩
  have BB := BH.out
  have BN : Below w.heap.size w u6 := by repeat' (first | (with_reducible exact Below.refl _ _) | (with_reducible refine Below.alloc ?_ ?_ _) | (with_reducible refine Below.setCell ?_ ?_ _) | (with_reducible refine Below.drew ?_) | (with_reducible refine Below.trans ?_ (Below.mono (by assumption) ?_)) | (simp; done) | (simp; omega) | omega)
  have buaz : u5.heap.size < (u6).heap.size := Nat.lt_of_lt_of_le (show u5.heap.size < _ from (by first | assumption | (simp; done) | (simp; omega) | (dsimp only; omega) | omega)) hb.size; have bua0 : (u6).cell? ⟨u5.heap.size, 0, none⟩ = some (.int .i64 (ul)) := (hb.cell (p := ⟨u5.heap.size, 0, none⟩) (by first | assumption | (simp; done) | (simp; omega) | (dsimp only; omega) | omega)).trans (by first | assumption | (simp [go_sem]; done) | (simp [go_sem, *]; done)); have bua1 : (u6).cell? ⟨u5.heap.size, 1, none⟩ = some (.int .i64 (uh)) := (hb.cell (p := ⟨u5.heap.size, 1, none⟩) (by first | assumption | (simp; done) | (simp; omega) | (dsimp only; omega) | omega)).trans (by first | assumption | (simp [go_sem]; done) | (simp [go_sem, *]; done))
  clear BB BH hsz
  have BH := hid BN
  have hsz := BN.size
  clear BN hb
  go_wp2_with fail
  go_ret
  have BB := BH.out
  exact Gives.mk rfl (by repeat' (first | (with_reducible exact Below.refl _ _) | (with_reducible refine Below.alloc ?_ ?_ _) | (with_reducible refine Below.setCell ?_ ?_ _) | (with_reducible refine Below.drew ?_) | (with_reducible refine Below.trans ?_ (Below.mono (by assumption) ?_)) | (simp; done) | (simp; omega) | omega))
set_option maxRecDepth 100000 in
set_option maxHeartbeats 4000000 in
theorem widths_in (a b c d va vb sl sh g ul uh i x j y k : Int) (w : World) (h1 : (g = 0 ∧ j = 0 ∧ x = va + vb) ∨ g = 8) (h2 : (i = 0 ∧ k = 0 ∧ y = va + vb) ∨ i = 8) (v0 : 0 ≤ va) (v1 : va ≤ 2000000000000000) (v2 : 0 ≤ vb) (v3 : vb ≤ 2000000000000000)
    (wa : ∀ w : World, Calls Try.prog 53 #[.agg #[.int .i64 a, .int .i64 b]] w (Gives (.tuple #[.int .i64 va, .int .i64 0]) w))
    (wb : ∀ w : World, Calls Try.prog 53 #[.agg #[.int .i64 c, .int .i64 d]] w (Gives (.tuple #[.int .i64 vb, .int .i64 0]) w))
    (ad : ∀ w : World, Calls Try.prog 47 #[.agg #[.int .i64 a, .int .i64 b], .agg #[.int .i64 c, .int .i64 d]] w (Gives (.tuple #[.agg #[.int .i64 sl, .int .i64 sh], .int .i64 g]) w))
    (ad2 : ∀ w : World, Calls Try.prog 47 #[.agg #[.int .i64 c, .int .i64 d], .agg #[.int .i64 a, .int .i64 b]] w (Gives (.tuple #[.agg #[.int .i64 sl, .int .i64 sh], .int .i64 g]) w))
    (su : ∀ w : World, Calls Try.prog 49 #[.agg #[.int .i64 a, .int .i64 b], .agg #[.int .i64 c, .int .i64 d]] w (Gives (.tuple #[.agg #[.int .i64 ul, .int .i64 uh], .int .i64 i]) w))
    (ws : ∀ w : World, Calls Try.prog 53 #[.agg #[.int .i64 sl, .int .i64 sh]] w (Gives (.tuple #[.int .i64 x, .int .i64 j]) w))
    (wu : ∀ w : World, Calls Try.prog 53 #[.agg #[.int .i64 ul, .int .i64 uh]] w (Gives (.tuple #[.int .i64 y, .int .i64 k]) w)) :
    Calls Try.prog 15 #[.agg #[.int .i64 a, .int .i64 b], .agg #[.int .i64 c, .int .i64 d]] w (Gives (.bool true) w) := by
  rcases h1 with ⟨rfl, rfl, rfl⟩ | rfl
  all_goals rcases h2 with ⟨rfl, rfl, rfl⟩ | rfl
  · go_enter Try.func15, Try.ntmps15
    go_wp2_with fail
    refine (wa _).mono ?_; rintro e u1 ⟨rfl, hb⟩
    have BN : Below w.heap.size w u1 := by repeat' (first | (with_reducible exact Below.refl _ _) | (with_reducible refine Below.alloc ?_ ?_ _) | (with_reducible refine Below.setCell ?_ ?_ _) | (with_reducible refine Below.drew ?_) | (with_reducible refine Below.trans ?_ (Below.mono (by assumption) ?_)) | (simp; done) | (simp; omega) | omega)
    have pabz : w.heap.size < (u1).heap.size := Nat.lt_of_lt_of_le (show w.heap.size < _ from (by first | assumption | (simp; done) | (simp; omega) | (dsimp only; omega) | omega)) hb.size; have pab0 : (u1).cell? ⟨w.heap.size, 0, none⟩ = some (.int .i64 (a)) := (hb.cell (p := ⟨w.heap.size, 0, none⟩) (by first | assumption | (simp; done) | (simp; omega) | (dsimp only; omega) | omega)).trans (by first | assumption | (simp [go_sem]; done) | (simp [go_sem, *]; done)); have pab1 : (u1).cell? ⟨w.heap.size, 1, none⟩ = some (.int .i64 (b)) := (hb.cell (p := ⟨w.heap.size, 1, none⟩) (by first | assumption | (simp; done) | (simp; omega) | (dsimp only; omega) | omega)).trans (by first | assumption | (simp [go_sem]; done) | (simp [go_sem, *]; done))
    have pbbz : w.heap.size + 1 < (u1).heap.size := Nat.lt_of_lt_of_le (show w.heap.size + 1 < _ from (by first | assumption | (simp; done) | (simp; omega) | (dsimp only; omega) | omega)) hb.size; have pbb0 : (u1).cell? ⟨w.heap.size + 1, 0, none⟩ = some (.int .i64 (c)) := (hb.cell (p := ⟨w.heap.size + 1, 0, none⟩) (by first | assumption | (simp; done) | (simp; omega) | (dsimp only; omega) | omega)).trans (by first | assumption | (simp [go_sem]; done) | (simp [go_sem, *]; done)); have pbb1 : (u1).cell? ⟨w.heap.size + 1, 1, none⟩ = some (.int .i64 (d)) := (hb.cell (p := ⟨w.heap.size + 1, 1, none⟩) (by first | assumption | (simp; done) | (simp; omega) | (dsimp only; omega) | omega)).trans (by first | assumption | (simp [go_sem]; done) | (simp [go_sem, *]; done))
    have BH := hid BN
    have hsz := BN.size
    clear BN hb
    go_wp2_with fail
    refine (wb _).mono ?_; rintro e u2 ⟨rfl, hb⟩
    have BB := BH.out
    have BN : Below w.heap.size w u2 := by repeat' (first | (with_reducible exact Below.refl _ _) | (with_reducible refine Below.alloc ?_ ?_ _) | (with_reducible refine Below.setCell ?_ ?_ _) | (with_reducible refine Below.drew ?_) | (with_reducible refine Below.trans ?_ (Below.mono (by assumption) ?_)) | (simp; done) | (simp; omega) | omega)
    have paaz : w.heap.size < (u2).heap.size := Nat.lt_of_lt_of_le (show w.heap.size < _ from (by first | assumption | (simp; done) | (simp; omega) | (dsimp only; omega) | omega)) hb.size; have paa0 : (u2).cell? ⟨w.heap.size, 0, none⟩ = some (.int .i64 (a)) := (hb.cell (p := ⟨w.heap.size, 0, none⟩) (by first | assumption | (simp; done) | (simp; omega) | (dsimp only; omega) | omega)).trans (by first | assumption | (simp [go_sem]; done) | (simp [go_sem, *]; done)); have paa1 : (u2).cell? ⟨w.heap.size, 1, none⟩ = some (.int .i64 (b)) := (hb.cell (p := ⟨w.heap.size, 1, none⟩) (by first | assumption | (simp; done) | (simp; omega) | (dsimp only; omega) | omega)).trans (by first | assumption | (simp [go_sem]; done) | (simp [go_sem, *]; done))
    have pbaz : w.heap.size + 1 < (u2).heap.size := Nat.lt_of_lt_of_le (show w.heap.size + 1 < _ from (by first | assumption | (simp; done) | (simp; omega) | (dsimp only; omega) | omega)) hb.size; have pba0 : (u2).cell? ⟨w.heap.size + 1, 0, none⟩ = some (.int .i64 (c)) := (hb.cell (p := ⟨w.heap.size + 1, 0, none⟩) (by first | assumption | (simp; done) | (simp; omega) | (dsimp only; omega) | omega)).trans (by first | assumption | (simp [go_sem]; done) | (simp [go_sem, *]; done)); have pba1 : (u2).cell? ⟨w.heap.size + 1, 1, none⟩ = some (.int .i64 (d)) := (hb.cell (p := ⟨w.heap.size + 1, 1, none⟩) (by first | assumption | (simp; done) | (simp; omega) | (dsimp only; omega) | omega)).trans (by first | assumption | (simp [go_sem]; done) | (simp [go_sem, *]; done))
    clear BB BH hsz
    clear pabz pab0 pab1 pbbz pbb0 pbb1
    have BH := hid BN
    have hsz := BN.size
    clear BN hb
    go_wp2_with fail
    refine (ad _).mono ?_; rintro e u3 ⟨rfl, hb⟩
    have BB := BH.out
    have BN : Below w.heap.size w u3 := by repeat' (first | (with_reducible exact Below.refl _ _) | (with_reducible refine Below.alloc ?_ ?_ _) | (with_reducible refine Below.setCell ?_ ?_ _) | (with_reducible refine Below.drew ?_) | (with_reducible refine Below.trans ?_ (Below.mono (by assumption) ?_)) | (simp; done) | (simp; omega) | omega)
    have pabz : w.heap.size < (u3).heap.size := Nat.lt_of_lt_of_le (show w.heap.size < _ from (by first | assumption | (simp; done) | (simp; omega) | (dsimp only; omega) | omega)) hb.size; have pab0 : (u3).cell? ⟨w.heap.size, 0, none⟩ = some (.int .i64 (a)) := (hb.cell (p := ⟨w.heap.size, 0, none⟩) (by first | assumption | (simp; done) | (simp; omega) | (dsimp only; omega) | omega)).trans (by first | assumption | (simp [go_sem]; done) | (simp [go_sem, *]; done)); have pab1 : (u3).cell? ⟨w.heap.size, 1, none⟩ = some (.int .i64 (b)) := (hb.cell (p := ⟨w.heap.size, 1, none⟩) (by first | assumption | (simp; done) | (simp; omega) | (dsimp only; omega) | omega)).trans (by first | assumption | (simp [go_sem]; done) | (simp [go_sem, *]; done))
    have pbbz : w.heap.size + 1 < (u3).heap.size := Nat.lt_of_lt_of_le (show w.heap.size + 1 < _ from (by first | assumption | (simp; done) | (simp; omega) | (dsimp only; omega) | omega)) hb.size; have pbb0 : (u3).cell? ⟨w.heap.size + 1, 0, none⟩ = some (.int .i64 (c)) := (hb.cell (p := ⟨w.heap.size + 1, 0, none⟩) (by first | assumption | (simp; done) | (simp; omega) | (dsimp only; omega) | omega)).trans (by first | assumption | (simp [go_sem]; done) | (simp [go_sem, *]; done)); have pbb1 : (u3).cell? ⟨w.heap.size + 1, 1, none⟩ = some (.int .i64 (d)) := (hb.cell (p := ⟨w.heap.size + 1, 1, none⟩) (by first | assumption | (simp; done) | (simp; omega) | (dsimp only; omega) | omega)).trans (by first | assumption | (simp [go_sem]; done) | (simp [go_sem, *]; done))
    clear BB BH hsz
    clear paaz paa0 paa1 pbaz pba0 pba1
    have BH := hid BN
    have hsz := BN.size
    clear BN hb
    go_wp2_with fail
    refine (ad2 _).mono ?_; rintro e u4 ⟨rfl, hb⟩
    have BB := BH.out
    have BN : Below w.heap.size w u4 := by repeat' (first | (with_reducible exact Below.refl _ _) | (with_reducible refine Below.alloc ?_ ?_ _) | (with_reducible refine Below.setCell ?_ ?_ _) | (with_reducible refine Below.drew ?_) | (with_reducible refine Below.trans ?_ (Below.mono (by assumption) ?_)) | (simp; done) | (simp; omega) | omega)
    have paaz : w.heap.size < (u4).heap.size := Nat.lt_of_lt_of_le (show w.heap.size < _ from (by first | assumption | (simp; done) | (simp; omega) | (dsimp only; omega) | omega)) hb.size; have paa0 : (u4).cell? ⟨w.heap.size, 0, none⟩ = some (.int .i64 (a)) := (hb.cell (p := ⟨w.heap.size, 0, none⟩) (by first | assumption | (simp; done) | (simp; omega) | (dsimp only; omega) | omega)).trans (by first | assumption | (simp [go_sem]; done) | (simp [go_sem, *]; done)); have paa1 : (u4).cell? ⟨w.heap.size, 1, none⟩ = some (.int .i64 (b)) := (hb.cell (p := ⟨w.heap.size, 1, none⟩) (by first | assumption | (simp; done) | (simp; omega) | (dsimp only; omega) | omega)).trans (by first | assumption | (simp [go_sem]; done) | (simp [go_sem, *]; done))
    have pbaz : w.heap.size + 1 < (u4).heap.size := Nat.lt_of_lt_of_le (show w.heap.size + 1 < _ from (by first | assumption | (simp; done) | (simp; omega) | (dsimp only; omega) | omega)) hb.size; have pba0 : (u4).cell? ⟨w.heap.size + 1, 0, none⟩ = some (.int .i64 (c)) := (hb.cell (p := ⟨w.heap.size + 1, 0, none⟩) (by first | assumption | (simp; done) | (simp; omega) | (dsimp only; omega) | omega)).trans (by first | assumption | (simp [go_sem]; done) | (simp [go_sem, *]; done)); have pba1 : (u4).cell? ⟨w.heap.size + 1, 1, none⟩ = some (.int .i64 (d)) := (hb.cell (p := ⟨w.heap.size + 1, 1, none⟩) (by first | assumption | (simp; done) | (simp; omega) | (dsimp only; omega) | omega)).trans (by first | assumption | (simp [go_sem]; done) | (simp [go_sem, *]; done))
    have bsaz : u3.heap.size < (u4).heap.size := Nat.lt_of_lt_of_le (show u3.heap.size < _ from (by first | assumption | (simp; done) | (simp; omega) | (dsimp only; omega) | omega)) hb.size; have bsa0 : (u4).cell? ⟨u3.heap.size, 0, none⟩ = some (.int .i64 (sl)) := (hb.cell (p := ⟨u3.heap.size, 0, none⟩) (by first | assumption | (simp; done) | (simp; omega) | (dsimp only; omega) | omega)).trans (by first | assumption | (simp [go_sem]; done) | (simp [go_sem, *]; done)); have bsa1 : (u4).cell? ⟨u3.heap.size, 1, none⟩ = some (.int .i64 (sh)) := (hb.cell (p := ⟨u3.heap.size, 1, none⟩) (by first | assumption | (simp; done) | (simp; omega) | (dsimp only; omega) | omega)).trans (by first | assumption | (simp [go_sem]; done) | (simp [go_sem, *]; done))
    clear BB BH hsz
    clear pabz pab0 pab1 pbbz pbb0 pbb1
    have BH := hid BN
    have hsz := BN.size
    clear BN hb
    go_wp2_with fail
    refine (su _).mono ?_; rintro e u5 ⟨rfl, hb⟩
    have BB := BH.out
    have BN : Below w.heap.size w u5 := by repeat' (first | (with_reducible exact Below.refl _ _) | (with_reducible refine Below.alloc ?_ ?_ _) | (with_reducible refine Below.setCell ?_ ?_ _) | (with_reducible refine Below.drew ?_) | (with_reducible refine Below.trans ?_ (Below.mono (by assumption) ?_)) | (simp; done) | (simp; omega) | omega)
    have pabz : w.heap.size < (u5).heap.size := Nat.lt_of_lt_of_le (show w.heap.size < _ from (by first | assumption | (simp; done) | (simp; omega) | (dsimp only; omega) | omega)) hb.size; have pab0 : (u5).cell? ⟨w.heap.size, 0, none⟩ = some (.int .i64 (a)) := (hb.cell (p := ⟨w.heap.size, 0, none⟩) (by first | assumption | (simp; done) | (simp; omega) | (dsimp only; omega) | omega)).trans (by first | assumption | (simp [go_sem]; done) | (simp [go_sem, *]; done)); have pab1 : (u5).cell? ⟨w.heap.size, 1, none⟩ = some (.int .i64 (b)) := (hb.cell (p := ⟨w.heap.size, 1, none⟩) (by first | assumption | (simp; done) | (simp; omega) | (dsimp only; omega) | omega)).trans (by first | assumption | (simp [go_sem]; done) | (simp [go_sem, *]; done))
    have pbbz : w.heap.size + 1 < (u5).heap.size := Nat.lt_of_lt_of_le (show w.heap.size + 1 < _ from (by first | assumption | (simp; done) | (simp; omega) | (dsimp only; omega) | omega)) hb.size; have pbb0 : (u5).cell? ⟨w.heap.size + 1, 0, none⟩ = some (.int .i64 (c)) := (hb.cell (p := ⟨w.heap.size + 1, 0, none⟩) (by first | assumption | (simp; done) | (simp; omega) | (dsimp only; omega) | omega)).trans (by first | assumption | (simp [go_sem]; done) | (simp [go_sem, *]; done)); have pbb1 : (u5).cell? ⟨w.heap.size + 1, 1, none⟩ = some (.int .i64 (d)) := (hb.cell (p := ⟨w.heap.size + 1, 1, none⟩) (by first | assumption | (simp; done) | (simp; omega) | (dsimp only; omega) | omega)).trans (by first | assumption | (simp [go_sem]; done) | (simp [go_sem, *]; done))
    have bsbz : u3.heap.size < (u5).heap.size := Nat.lt_of_lt_of_le (show u3.heap.size < _ from (by first | assumption | (simp; done) | (simp; omega) | (dsimp only; omega) | omega)) hb.size; have bsb0 : (u5).cell? ⟨u3.heap.size, 0, none⟩ = some (.int .i64 (sl)) := (hb.cell (p := ⟨u3.heap.size, 0, none⟩) (by first | assumption | (simp; done) | (simp; omega) | (dsimp only; omega) | omega)).trans (by first | assumption | (simp [go_sem]; done) | (simp [go_sem, *]; done)); have bsb1 : (u5).cell? ⟨u3.heap.size, 1, none⟩ = some (.int .i64 (sh)) := (hb.cell (p := ⟨u3.heap.size, 1, none⟩) (by first | assumption | (simp; done) | (simp; omega) | (dsimp only; omega) | omega)).trans (by first | assumption | (simp [go_sem]; done) | (simp [go_sem, *]; done))
    have btbz : u4.heap.size < (u5).heap.size := Nat.lt_of_lt_of_le (show u4.heap.size < _ from (by first | assumption | (simp; done) | (simp; omega) | (dsimp only; omega) | omega)) hb.size; have btb0 : (u5).cell? ⟨u4.heap.size, 0, none⟩ = some (.int .i64 (sl)) := (hb.cell (p := ⟨u4.heap.size, 0, none⟩) (by first | assumption | (simp; done) | (simp; omega) | (dsimp only; omega) | omega)).trans (by first | assumption | (simp [go_sem]; done) | (simp [go_sem, *]; done)); have btb1 : (u5).cell? ⟨u4.heap.size, 1, none⟩ = some (.int .i64 (sh)) := (hb.cell (p := ⟨u4.heap.size, 1, none⟩) (by first | assumption | (simp; done) | (simp; omega) | (dsimp only; omega) | omega)).trans (by first | assumption | (simp [go_sem]; done) | (simp [go_sem, *]; done))
    clear BB BH hsz
    clear paaz paa0 paa1 pbaz pba0 pba1 bsaz bsa0 bsa1
    have BH := hid BN
    have hsz := BN.size
    clear BN hb
    clear pabz pab0 pab1
    clear pbbz pbb0 pbb1
    go_wp2_with fail
    refine (ws _).mono ?_; rintro e u6 ⟨rfl, hb⟩
    have BB := BH.out
    have BN : Below w.heap.size w u6 := by repeat' (first | (with_reducible exact Below.refl _ _) | (with_reducible refine Below.alloc ?_ ?_ _) | (with_reducible refine Below.setCell ?_ ?_ _) | (with_reducible refine Below.drew ?_) | (with_reducible refine Below.trans ?_ (Below.mono (by assumption) ?_)) | (simp; done) | (simp; omega) | omega)
    have bsaz : u3.heap.size < (u6).heap.size := Nat.lt_of_lt_of_le (show u3.heap.size < _ from (by first | assumption | (simp; done) | (simp; omega) | (dsimp only; omega) | omega)) hb.size; have bsa0 : (u6).cell? ⟨u3.heap.size, 0, none⟩ = some (.int .i64 (sl)) := (hb.cell (p := ⟨u3.heap.size, 0, none⟩) (by first | assumption | (simp; done) | (simp; omega) | (dsimp only; omega) | omega)).trans (by first | assumption | (simp [go_sem]; done) | (simp [go_sem, *]; done)); have bsa1 : (u6).cell? ⟨u3.heap.size, 1, none⟩ = some (.int .i64 (sh)) := (hb.cell (p := ⟨u3.heap.size, 1, none⟩) (by first | assumption | (simp; done) | (simp; omega) | (dsimp only; omega) | omega)).trans (by first | assumption | (simp [go_sem]; done) | (simp [go_sem, *]; done))
    have btaz : u4.heap.size < (u6).heap.size := Nat.lt_of_lt_of_le (show u4.heap.size < _ from (by first | assumption | (simp; done) | (simp; omega) | (dsimp only; omega) | omega)) hb.size; have bta0 : (u6).cell? ⟨u4.heap.size, 0, none⟩ = some (.int .i64 (sl)) := (hb.cell (p := ⟨u4.heap.size, 0, none⟩) (by first | assumption | (simp; done) | (simp; omega) | (dsimp only; omega) | omega)).trans (by first | assumption | (simp [go_sem]; done) | (simp [go_sem, *]; done)); have bta1 : (u6).cell? ⟨u4.heap.size, 1, none⟩ = some (.int .i64 (sh)) := (hb.cell (p := ⟨u4.heap.size, 1, none⟩) (by first | assumption | (simp; done) | (simp; omega) | (dsimp only; omega) | omega)).trans (by first | assumption | (simp [go_sem]; done) | (simp [go_sem, *]; done))
    have buaz : u5.heap.size < (u6).heap.size := Nat.lt_of_lt_of_le (show u5.heap.size < _ from (by first | assumption | (simp; done) | (simp; omega) | (dsimp only; omega) | omega)) hb.size; have bua0 : (u6).cell? ⟨u5.heap.size, 0, none⟩ = some (.int .i64 (ul)) := (hb.cell (p := ⟨u5.heap.size, 0, none⟩) (by first | assumption | (simp; done) | (simp; omega) | (dsimp only; omega) | omega)).trans (by first | assumption | (simp [go_sem]; done) | (simp [go_sem, *]; done)); have bua1 : (u6).cell? ⟨u5.heap.size, 1, none⟩ = some (.int .i64 (uh)) := (hb.cell (p := ⟨u5.heap.size, 1, none⟩) (by first | assumption | (simp; done) | (simp; omega) | (dsimp only; omega) | omega)).trans (by first | assumption | (simp [go_sem]; done) | (simp [go_sem, *]; done))
    clear BB BH hsz
    clear bsbz bsb0 bsb1 btbz btb0 btb1
    have BH := hid BN
    have hsz := BN.size
    clear BN hb
    clear bsaz bsa0 bsa1
    clear btaz bta0 bta1
    go_wp2_with fail
    refine (wu _).mono ?_; rintro e u7 ⟨rfl, hb⟩
    have BB := BH.out
    have BN : Below w.heap.size w u7 := by repeat' (first | (with_reducible exact Below.refl _ _) | (with_reducible refine Below.alloc ?_ ?_ _) | (with_reducible refine Below.setCell ?_ ?_ _) | (with_reducible refine Below.drew ?_) | (with_reducible refine Below.trans ?_ (Below.mono (by assumption) ?_)) | (simp; done) | (simp; omega) | omega)
    have bubz : u5.heap.size < (u7).heap.size := Nat.lt_of_lt_of_le (show u5.heap.size < _ from (by first | assumption | (simp; done) | (simp; omega) | (dsimp only; omega) | omega)) hb.size; have bub0 : (u7).cell? ⟨u5.heap.size, 0, none⟩ = some (.int .i64 (ul)) := (hb.cell (p := ⟨u5.heap.size, 0, none⟩) (by first | assumption | (simp; done) | (simp; omega) | (dsimp only; omega) | omega)).trans (by first | assumption | (simp [go_sem]; done) | (simp [go_sem, *]; done)); have bub1 : (u7).cell? ⟨u5.heap.size, 1, none⟩ = some (.int .i64 (uh)) := (hb.cell (p := ⟨u5.heap.size, 1, none⟩) (by first | assumption | (simp; done) | (simp; omega) | (dsimp only; omega) | omega)).trans (by first | assumption | (simp [go_sem]; done) | (simp [go_sem, *]; done))
    clear BB BH hsz
    clear buaz bua0 bua1
    have BH := hid BN
    have hsz := BN.size
    clear BN hb
    clear bubz bub0 bub1
    go_wp2_with fail
    refine (iawake_any _).mono ?_; rintro e u8 ⟨rfl, hb⟩
    have BB := BH.out
    have BN : Below w.heap.size w u8 := by repeat' (first | (with_reducible exact Below.refl _ _) | (with_reducible refine Below.alloc ?_ ?_ _) | (with_reducible refine Below.setCell ?_ ?_ _) | (with_reducible refine Below.drew ?_) | (with_reducible refine Below.trans ?_ (Below.mono (by assumption) ?_)) | (simp; done) | (simp; omega) | omega)
    clear BB BH hsz
    have BH := hid BN
    have hsz := BN.size
    clear BN hb
    go_wp2_with fail
    go_ret
    have BB := BH.out
    exact Gives.mk rfl (by repeat' (first | (with_reducible exact Below.refl _ _) | (with_reducible refine Below.alloc ?_ ?_ _) | (with_reducible refine Below.setCell ?_ ?_ _) | (with_reducible refine Below.drew ?_) | (with_reducible refine Below.trans ?_ (Below.mono (by assumption) ?_)) | (simp; done) | (simp; omega) | omega))
  · go_enter Try.func15, Try.ntmps15
    go_wp2_with fail
    refine (wa _).mono ?_; rintro e u1 ⟨rfl, hb⟩
    have BN : Below w.heap.size w u1 := by repeat' (first | (with_reducible exact Below.refl _ _) | (with_reducible refine Below.alloc ?_ ?_ _) | (with_reducible refine Below.setCell ?_ ?_ _) | (with_reducible refine Below.drew ?_) | (with_reducible refine Below.trans ?_ (Below.mono (by assumption) ?_)) | (simp; done) | (simp; omega) | omega)
    have pabz : w.heap.size < (u1).heap.size := Nat.lt_of_lt_of_le (show w.heap.size < _ from (by first | assumption | (simp; done) | (simp; omega) | (dsimp only; omega) | omega)) hb.size; have pab0 : (u1).cell? ⟨w.heap.size, 0, none⟩ = some (.int .i64 (a)) := (hb.cell (p := ⟨w.heap.size, 0, none⟩) (by first | assumption | (simp; done) | (simp; omega) | (dsimp only; omega) | omega)).trans (by first | assumption | (simp [go_sem]; done) | (simp [go_sem, *]; done)); have pab1 : (u1).cell? ⟨w.heap.size, 1, none⟩ = some (.int .i64 (b)) := (hb.cell (p := ⟨w.heap.size, 1, none⟩) (by first | assumption | (simp; done) | (simp; omega) | (dsimp only; omega) | omega)).trans (by first | assumption | (simp [go_sem]; done) | (simp [go_sem, *]; done))
    have pbbz : w.heap.size + 1 < (u1).heap.size := Nat.lt_of_lt_of_le (show w.heap.size + 1 < _ from (by first | assumption | (simp; done) | (simp; omega) | (dsimp only; omega) | omega)) hb.size; have pbb0 : (u1).cell? ⟨w.heap.size + 1, 0, none⟩ = some (.int .i64 (c)) := (hb.cell (p := ⟨w.heap.size + 1, 0, none⟩) (by first | assumption | (simp; done) | (simp; omega) | (dsimp only; omega) | omega)).trans (by first | assumption | (simp [go_sem]; done) | (simp [go_sem, *]; done)); have pbb1 : (u1).cell? ⟨w.heap.size + 1, 1, none⟩ = some (.int .i64 (d)) := (hb.cell (p := ⟨w.heap.size + 1, 1, none⟩) (by first | assumption | (simp; done) | (simp; omega) | (dsimp only; omega) | omega)).trans (by first | assumption | (simp [go_sem]; done) | (simp [go_sem, *]; done))
    have BH := hid BN
    have hsz := BN.size
    clear BN hb
    go_wp2_with fail
    refine (wb _).mono ?_; rintro e u2 ⟨rfl, hb⟩
    have BB := BH.out
    have BN : Below w.heap.size w u2 := by repeat' (first | (with_reducible exact Below.refl _ _) | (with_reducible refine Below.alloc ?_ ?_ _) | (with_reducible refine Below.setCell ?_ ?_ _) | (with_reducible refine Below.drew ?_) | (with_reducible refine Below.trans ?_ (Below.mono (by assumption) ?_)) | (simp; done) | (simp; omega) | omega)
    have paaz : w.heap.size < (u2).heap.size := Nat.lt_of_lt_of_le (show w.heap.size < _ from (by first | assumption | (simp; done) | (simp; omega) | (dsimp only; omega) | omega)) hb.size; have paa0 : (u2).cell? ⟨w.heap.size, 0, none⟩ = some (.int .i64 (a)) := (hb.cell (p := ⟨w.heap.size, 0, none⟩) (by first | assumption | (simp; done) | (simp; omega) | (dsimp only; omega) | omega)).trans (by first | assumption | (simp [go_sem]; done) | (simp [go_sem, *]; done)); have paa1 : (u2).cell? ⟨w.heap.size, 1, none⟩ = some (.int .i64 (b)) := (hb.cell (p := ⟨w.heap.size, 1, none⟩) (by first | assumption | (simp; done) | (simp; omega) | (dsimp only; omega) | omega)).trans (by first | assumption | (simp [go_sem]; done) | (simp [go_sem, *]; done))
    have pbaz : w.heap.size + 1 < (u2).heap.size := Nat.lt_of_lt_of_le (show w.heap.size + 1 < _ from (by first | assumption | (simp; done) | (simp; omega) | (dsimp only; omega) | omega)) hb.size; have pba0 : (u2).cell? ⟨w.heap.size + 1, 0, none⟩ = some (.int .i64 (c)) := (hb.cell (p := ⟨w.heap.size + 1, 0, none⟩) (by first | assumption | (simp; done) | (simp; omega) | (dsimp only; omega) | omega)).trans (by first | assumption | (simp [go_sem]; done) | (simp [go_sem, *]; done)); have pba1 : (u2).cell? ⟨w.heap.size + 1, 1, none⟩ = some (.int .i64 (d)) := (hb.cell (p := ⟨w.heap.size + 1, 1, none⟩) (by first | assumption | (simp; done) | (simp; omega) | (dsimp only; omega) | omega)).trans (by first | assumption | (simp [go_sem]; done) | (simp [go_sem, *]; done))
    clear BB BH hsz
    clear pabz pab0 pab1 pbbz pbb0 pbb1
    have BH := hid BN
    have hsz := BN.size
    clear BN hb
    go_wp2_with fail
    refine (ad _).mono ?_; rintro e u3 ⟨rfl, hb⟩
    have BB := BH.out
    have BN : Below w.heap.size w u3 := by repeat' (first | (with_reducible exact Below.refl _ _) | (with_reducible refine Below.alloc ?_ ?_ _) | (with_reducible refine Below.setCell ?_ ?_ _) | (with_reducible refine Below.drew ?_) | (with_reducible refine Below.trans ?_ (Below.mono (by assumption) ?_)) | (simp; done) | (simp; omega) | omega)
    have pabz : w.heap.size < (u3).heap.size := Nat.lt_of_lt_of_le (show w.heap.size < _ from (by first | assumption | (simp; done) | (simp; omega) | (dsimp only; omega) | omega)) hb.size; have pab0 : (u3).cell? ⟨w.heap.size, 0, none⟩ = some (.int .i64 (a)) := (hb.cell (p := ⟨w.heap.size, 0, none⟩) (by first | assumption | (simp; done) | (simp; omega) | (dsimp only; omega) | omega)).trans (by first | assumption | (simp [go_sem]; done) | (simp [go_sem, *]; done)); have pab1 : (u3).cell? ⟨w.heap.size, 1, none⟩ = some (.int .i64 (b)) := (hb.cell (p := ⟨w.heap.size, 1, none⟩) (by first | assumption | (simp; done) | (simp; omega) | (dsimp only; omega) | omega)).trans (by first | assumption | (simp [go_sem]; done) | (simp [go_sem, *]; done))
    have pbbz : w.heap.size + 1 < (u3).heap.size := Nat.lt_of_lt_of_le (show w.heap.size + 1 < _ from (by first | assumption | (simp; done) | (simp; omega) | (dsimp only; omega) | omega)) hb.size; have pbb0 : (u3).cell? ⟨w.heap.size + 1, 0, none⟩ = some (.int .i64 (c)) := (hb.cell (p := ⟨w.heap.size + 1, 0, none⟩) (by first | assumption | (simp; done) | (simp; omega) | (dsimp only; omega) | omega)).trans (by first | assumption | (simp [go_sem]; done) | (simp [go_sem, *]; done)); have pbb1 : (u3).cell? ⟨w.heap.size + 1, 1, none⟩ = some (.int .i64 (d)) := (hb.cell (p := ⟨w.heap.size + 1, 1, none⟩) (by first | assumption | (simp; done) | (simp; omega) | (dsimp only; omega) | omega)).trans (by first | assumption | (simp [go_sem]; done) | (simp [go_sem, *]; done))
    clear BB BH hsz
    clear paaz paa0 paa1 pbaz pba0 pba1
    have BH := hid BN
    have hsz := BN.size
    clear BN hb
    go_wp2_with fail
    refine (ad2 _).mono ?_; rintro e u4 ⟨rfl, hb⟩
    have BB := BH.out
    have BN : Below w.heap.size w u4 := by repeat' (first | (with_reducible exact Below.refl _ _) | (with_reducible refine Below.alloc ?_ ?_ _) | (with_reducible refine Below.setCell ?_ ?_ _) | (with_reducible refine Below.drew ?_) | (with_reducible refine Below.trans ?_ (Below.mono (by assumption) ?_)) | (simp; done) | (simp; omega) | omega)
    have paaz : w.heap.size < (u4).heap.size := Nat.lt_of_lt_of_le (show w.heap.size < _ from (by first | assumption | (simp; done) | (simp; omega) | (dsimp only; omega) | omega)) hb.size; have paa0 : (u4).cell? ⟨w.heap.size, 0, none⟩ = some (.int .i64 (a)) := (hb.cell (p := ⟨w.heap.size, 0, none⟩) (by first | assumption | (simp; done) | (simp; omega) | (dsimp only; omega) | omega)).trans (by first | assumption | (simp [go_sem]; done) | (simp [go_sem, *]; done)); have paa1 : (u4).cell? ⟨w.heap.size, 1, none⟩ = some (.int .i64 (b)) := (hb.cell (p := ⟨w.heap.size, 1, none⟩) (by first | assumption | (simp; done) | (simp; omega) | (dsimp only; omega) | omega)).trans (by first | assumption | (simp [go_sem]; done) | (simp [go_sem, *]; done))
    have pbaz : w.heap.size + 1 < (u4).heap.size := Nat.lt_of_lt_of_le (show w.heap.size + 1 < _ from (by first | assumption | (simp; done) | (simp; omega) | (dsimp only; omega) | omega)) hb.size; have pba0 : (u4).cell? ⟨w.heap.size + 1, 0, none⟩ = some (.int .i64 (c)) := (hb.cell (p := ⟨w.heap.size + 1, 0, none⟩) (by first | assumption | (simp; done) | (simp; omega) | (dsimp only; omega) | omega)).trans (by first | assumption | (simp [go_sem]; done) | (simp [go_sem, *]; done)); have pba1 : (u4).cell? ⟨w.heap.size + 1, 1, none⟩ = some (.int .i64 (d)) := (hb.cell (p := ⟨w.heap.size + 1, 1, none⟩) (by first | assumption | (simp; done) | (simp; omega) | (dsimp only; omega) | omega)).trans (by first | assumption | (simp [go_sem]; done) | (simp [go_sem, *]; done))
    have bsaz : u3.heap.size < (u4).heap.size := Nat.lt_of_lt_of_le (show u3.heap.size < _ from (by first | assumption | (simp; done) | (simp; omega) | (dsimp only; omega) | omega)) hb.size; have bsa0 : (u4).cell? ⟨u3.heap.size, 0, none⟩ = some (.int .i64 (sl)) := (hb.cell (p := ⟨u3.heap.size, 0, none⟩) (by first | assumption | (simp; done) | (simp; omega) | (dsimp only; omega) | omega)).trans (by first | assumption | (simp [go_sem]; done) | (simp [go_sem, *]; done)); have bsa1 : (u4).cell? ⟨u3.heap.size, 1, none⟩ = some (.int .i64 (sh)) := (hb.cell (p := ⟨u3.heap.size, 1, none⟩) (by first | assumption | (simp; done) | (simp; omega) | (dsimp only; omega) | omega)).trans (by first | assumption | (simp [go_sem]; done) | (simp [go_sem, *]; done))
    clear BB BH hsz
    clear pabz pab0 pab1 pbbz pbb0 pbb1
    have BH := hid BN
    have hsz := BN.size
    clear BN hb
    go_wp2_with fail
    refine (su _).mono ?_; rintro e u5 ⟨rfl, hb⟩
    have BB := BH.out
    have BN : Below w.heap.size w u5 := by repeat' (first | (with_reducible exact Below.refl _ _) | (with_reducible refine Below.alloc ?_ ?_ _) | (with_reducible refine Below.setCell ?_ ?_ _) | (with_reducible refine Below.drew ?_) | (with_reducible refine Below.trans ?_ (Below.mono (by assumption) ?_)) | (simp; done) | (simp; omega) | omega)
    have pabz : w.heap.size < (u5).heap.size := Nat.lt_of_lt_of_le (show w.heap.size < _ from (by first | assumption | (simp; done) | (simp; omega) | (dsimp only; omega) | omega)) hb.size; have pab0 : (u5).cell? ⟨w.heap.size, 0, none⟩ = some (.int .i64 (a)) := (hb.cell (p := ⟨w.heap.size, 0, none⟩) (by first | assumption | (simp; done) | (simp; omega) | (dsimp only; omega) | omega)).trans (by first | assumption | (simp [go_sem]; done) | (simp [go_sem, *]; done)); have pab1 : (u5).cell? ⟨w.heap.size, 1, none⟩ = some (.int .i64 (b)) := (hb.cell (p := ⟨w.heap.size, 1, none⟩) (by first | assumption | (simp; done) | (simp; omega) | (dsimp only; omega) | omega)).trans (by first | assumption | (simp [go_sem]; done) | (simp [go_sem, *]; done))
    have pbbz : w.heap.size + 1 < (u5).heap.size := Nat.lt_of_lt_of_le (show w.heap.size + 1 < _ from (by first | assumption | (simp; done) | (simp; omega) | (dsimp only; omega) | omega)) hb.size; have pbb0 : (u5).cell? ⟨w.heap.size + 1, 0, none⟩ = some (.int .i64 (c)) := (hb.cell (p := ⟨w.heap.size + 1, 0, none⟩) (by first | assumption | (simp; done) | (simp; omega) | (dsimp only; omega) | omega)).trans (by first | assumption | (simp [go_sem]; done) | (simp [go_sem, *]; done)); have pbb1 : (u5).cell? ⟨w.heap.size + 1, 1, none⟩ = some (.int .i64 (d)) := (hb.cell (p := ⟨w.heap.size + 1, 1, none⟩) (by first | assumption | (simp; done) | (simp; omega) | (dsimp only; omega) | omega)).trans (by first | assumption | (simp [go_sem]; done) | (simp [go_sem, *]; done))
    have bsbz : u3.heap.size < (u5).heap.size := Nat.lt_of_lt_of_le (show u3.heap.size < _ from (by first | assumption | (simp; done) | (simp; omega) | (dsimp only; omega) | omega)) hb.size; have bsb0 : (u5).cell? ⟨u3.heap.size, 0, none⟩ = some (.int .i64 (sl)) := (hb.cell (p := ⟨u3.heap.size, 0, none⟩) (by first | assumption | (simp; done) | (simp; omega) | (dsimp only; omega) | omega)).trans (by first | assumption | (simp [go_sem]; done) | (simp [go_sem, *]; done)); have bsb1 : (u5).cell? ⟨u3.heap.size, 1, none⟩ = some (.int .i64 (sh)) := (hb.cell (p := ⟨u3.heap.size, 1, none⟩) (by first | assumption | (simp; done) | (simp; omega) | (dsimp only; omega) | omega)).trans (by first | assumption | (simp [go_sem]; done) | (simp [go_sem, *]; done))
    have btbz : u4.heap.size < (u5).heap.size := Nat.lt_of_lt_of_le (show u4.heap.size < _ from (by first | assumption | (simp; done) | (simp; omega) | (dsimp only; omega) | omega)) hb.size; have btb0 : (u5).cell? ⟨u4.heap.size, 0, none⟩ = some (.int .i64 (sl)) := (hb.cell (p := ⟨u4.heap.size, 0, none⟩) (by first | assumption | (simp; done) | (simp; omega) | (dsimp only; omega) | omega)).trans (by first | assumption | (simp [go_sem]; done) | (simp [go_sem, *]; done)); have btb1 : (u5).cell? ⟨u4.heap.size, 1, none⟩ = some (.int .i64 (sh)) := (hb.cell (p := ⟨u4.heap.size, 1, none⟩) (by first | assumption | (simp; done) | (simp; omega) | (dsimp only; omega) | omega)).trans (by first | assumption | (simp [go_sem]; done) | (simp [go_sem, *]; done))
    clear BB BH hsz
    clear paaz paa0 paa1 pbaz pba0 pba1 bsaz bsa0 bsa1
    have BH := hid BN
    have hsz := BN.size
    clear BN hb
    clear pabz pab0 pab1
    clear pbbz pbb0 pbb1
    go_wp2_with fail
    refine (ws _).mono ?_; rintro e u6 ⟨rfl, hb⟩
    have BB := BH.out
    have BN : Below w.heap.size w u6 := by repeat' (first | (with_reducible exact Below.refl _ _) | (with_reducible refine Below.alloc ?_ ?_ _) | (with_reducible refine Below.setCell ?_ ?_ _) | (with_reducible refine Below.drew ?_) | (with_reducible refine Below.trans ?_ (Below.mono (by assumption) ?_)) | (simp; done) | (simp; omega) | omega)
    have bsaz : u3.heap.size < (u6).heap.size := Nat.lt_of_lt_of_le (show u3.heap.size < _ from (by first | assumption | (simp; done) | (simp; omega) | (dsimp only; omega) | omega)) hb.size; have bsa0 : (u6).cell? ⟨u3.heap.size, 0, none⟩ = some (.int .i64 (sl)) := (hb.cell (p := ⟨u3.heap.size, 0, none⟩) (by first | assumption | (simp; done) | (simp; omega) | (dsimp only; omega) | omega)).trans (by first | assumption | (simp [go_sem]; done) | (simp [go_sem, *]; done)); have bsa1 : (u6).cell? ⟨u3.heap.size, 1, none⟩ = some (.int .i64 (sh)) := (hb.cell (p := ⟨u3.heap.size, 1, none⟩) (by first | assumption | (simp; done) | (simp; omega) | (dsimp only; omega) | omega)).trans (by first | assumption | (simp [go_sem]; done) | (simp [go_sem, *]; done))
    have btaz : u4.heap.size < (u6).heap.size := Nat.lt_of_lt_of_le (show u4.heap.size < _ from (by first | assumption | (simp; done) | (simp; omega) | (dsimp only; omega) | omega)) hb.size; have bta0 : (u6).cell? ⟨u4.heap.size, 0, none⟩ = some (.int .i64 (sl)) := (hb.cell (p := ⟨u4.heap.size, 0, none⟩) (by first | assumption | (simp; done) | (simp; omega) | (dsimp only; omega) | omega)).trans (by first | assumption | (simp [go_sem]; done) | (simp [go_sem, *]; done)); have bta1 : (u6).cell? ⟨u4.heap.size, 1, none⟩ = some (.int .i64 (sh)) := (hb.cell (p := ⟨u4.heap.size, 1, none⟩) (by first | assumption | (simp; done) | (simp; omega) | (dsimp only; omega) | omega)).trans (by first | assumption | (simp [go_sem]; done) | (simp [go_sem, *]; done))
    have buaz : u5.heap.size < (u6).heap.size := Nat.lt_of_lt_of_le (show u5.heap.size < _ from (by first | assumption | (simp; done) | (simp; omega) | (dsimp only; omega) | omega)) hb.size; have bua0 : (u6).cell? ⟨u5.heap.size, 0, none⟩ = some (.int .i64 (ul)) := (hb.cell (p := ⟨u5.heap.size, 0, none⟩) (by first | assumption | (simp; done) | (simp; omega) | (dsimp only; omega) | omega)).trans (by first | assumption | (simp [go_sem]; done) | (simp [go_sem, *]; done)); have bua1 : (u6).cell? ⟨u5.heap.size, 1, none⟩ = some (.int .i64 (uh)) := (hb.cell (p := ⟨u5.heap.size, 1, none⟩) (by first | assumption | (simp; done) | (simp; omega) | (dsimp only; omega) | omega)).trans (by first | assumption | (simp [go_sem]; done) | (simp [go_sem, *]; done))
    clear BB BH hsz
    clear bsbz bsb0 bsb1 btbz btb0 btb1
    have BH := hid BN
    have hsz := BN.size
    clear BN hb
    clear bsaz bsa0 bsa1
    clear btaz bta0 bta1
    go_wp2_with fail
    refine (wu _).mono ?_; rintro e u7 ⟨rfl, hb⟩
    have BB := BH.out
    have BN : Below w.heap.size w u7 := by repeat' (first | (with_reducible exact Below.refl _ _) | (with_reducible refine Below.alloc ?_ ?_ _) | (with_reducible refine Below.setCell ?_ ?_ _) | (with_reducible refine Below.drew ?_) | (with_reducible refine Below.trans ?_ (Below.mono (by assumption) ?_)) | (simp; done) | (simp; omega) | omega)
    have bubz : u5.heap.size < (u7).heap.size := Nat.lt_of_lt_of_le (show u5.heap.size < _ from (by first | assumption | (simp; done) | (simp; omega) | (dsimp only; omega) | omega)) hb.size; have bub0 : (u7).cell? ⟨u5.heap.size, 0, none⟩ = some (.int .i64 (ul)) := (hb.cell (p := ⟨u5.heap.size, 0, none⟩) (by first | assumption | (simp; done) | (simp; omega) | (dsimp only; omega) | omega)).trans (by first | assumption | (simp [go_sem]; done) | (simp [go_sem, *]; done)); have bub1 : (u7).cell? ⟨u5.heap.size, 1, none⟩ = some (.int .i64 (uh)) := (hb.cell (p := ⟨u5.heap.size, 1, none⟩) (by first | assumption | (simp; done) | (simp; omega) | (dsimp only; omega) | omega)).trans (by first | assumption | (simp [go_sem]; done) | (simp [go_sem, *]; done))
    clear BB BH hsz
    clear buaz bua0 bua1
    have BH := hid BN
    have hsz := BN.size
    clear BN hb
    clear bubz bub0 bub1
    go_wp2_with fail
    refine (iawake_any _).mono ?_; rintro e u8 ⟨rfl, hb⟩
    have BB := BH.out
    have BN : Below w.heap.size w u8 := by repeat' (first | (with_reducible exact Below.refl _ _) | (with_reducible refine Below.alloc ?_ ?_ _) | (with_reducible refine Below.setCell ?_ ?_ _) | (with_reducible refine Below.drew ?_) | (with_reducible refine Below.trans ?_ (Below.mono (by assumption) ?_)) | (simp; done) | (simp; omega) | omega)
    clear BB BH hsz
    have BH := hid BN
    have hsz := BN.size
    clear BN hb
    go_wp2_with fail
    go_ret
    have BB := BH.out
    exact Gives.mk rfl (by repeat' (first | (with_reducible exact Below.refl _ _) | (with_reducible refine Below.alloc ?_ ?_ _) | (with_reducible refine Below.setCell ?_ ?_ _) | (with_reducible refine Below.drew ?_) | (with_reducible refine Below.trans ?_ (Below.mono (by assumption) ?_)) | (simp; done) | (simp; omega) | omega))
  · go_enter Try.func15, Try.ntmps15
    go_wp2_with fail
    refine (wa _).mono ?_; rintro e u1 ⟨rfl, hb⟩
    have BN : Below w.heap.size w u1 := by repeat' (first | (with_reducible exact Below.refl _ _) | (with_reducible refine Below.alloc ?_ ?_ _) | (with_reducible refine Below.setCell ?_ ?_ _) | (with_reducible refine Below.drew ?_) | (with_reducible refine Below.trans ?_ (Below.mono (by assumption) ?_)) | (simp; done) | (simp; omega) | omega)
    have pabz : w.heap.size < (u1).heap.size := Nat.lt_of_lt_of_le (show w.heap.size < _ from (by first | assumption | (simp; done) | (simp; omega) | (dsimp only; omega) | omega)) hb.size; have pab0 : (u1).cell? ⟨w.heap.size, 0, none⟩ = some (.int .i64 (a)) := (hb.cell (p := ⟨w.heap.size, 0, none⟩) (by first | assumption | (simp; done) | (simp; omega) | (dsimp only; omega) | omega)).trans (by first | assumption | (simp [go_sem]; done) | (simp [go_sem, *]; done)); have pab1 : (u1).cell? ⟨w.heap.size, 1, none⟩ = some (.int .i64 (b)) := (hb.cell (p := ⟨w.heap.size, 1, none⟩) (by first | assumption | (simp; done) | (simp; omega) | (dsimp only; omega) | omega)).trans (by first | assumption | (simp [go_sem]; done) | (simp [go_sem, *]; done))
    have pbbz : w.heap.size + 1 < (u1).heap.size := Nat.lt_of_lt_of_le (show w.heap.size + 1 < _ from (by first | assumption | (simp; done) | (simp; omega) | (dsimp only; omega) | omega)) hb.size; have pbb0 : (u1).cell? ⟨w.heap.size + 1, 0, none⟩ = some (.int .i64 (c)) := (hb.cell (p := ⟨w.heap.size + 1, 0, none⟩) (by first | assumption | (simp; done) | (simp; omega) | (dsimp only; omega) | omega)).trans (by first | assumption | (simp [go_sem]; done) | (simp [go_sem, *]; done)); have pbb1 : (u1).cell? ⟨w.heap.size + 1, 1, none⟩ = some (.int .i64 (d)) := (hb.cell (p := ⟨w.heap.size + 1, 1, none⟩) (by first | assumption | (simp; done) | (simp; omega) | (dsimp only; omega) | omega)).trans (by first | assumption | (simp [go_sem]; done) | (simp [go_sem, *]; done))
    have BH := hid BN
    have hsz := BN.size
    clear BN hb
    go_wp2_with fail
    refine (wb _).mono ?_; rintro e u2 ⟨rfl, hb⟩
    have BB := BH.out
    have BN : Below w.heap.size w u2 := by repeat' (first | (with_reducible exact Below.refl _ _) | (with_reducible refine Below.alloc ?_ ?_ _) | (with_reducible refine Below.setCell ?_ ?_ _) | (with_reducible refine Below.drew ?_) | (with_reducible refine Below.trans ?_ (Below.mono (by assumption) ?_)) | (simp; done) | (simp; omega) | omega)
    have paaz : w.heap.size < (u2).heap.size := Nat.lt_of_lt_of_le (show w.heap.size < _ from (by first | assumption | (simp; done) | (simp; omega) | (dsimp only; omega) | omega)) hb.size; have paa0 : (u2).cell? ⟨w.heap.size, 0, none⟩ = some (.int .i64 (a)) := (hb.cell (p := ⟨w.heap.size, 0, none⟩) (by first | assumption | (simp; done) | (simp; omega) | (dsimp only; omega) | omega)).trans (by first | assumption | (simp [go_sem]; done) | (simp [go_sem, *]; done)); have paa1 : (u2).cell? ⟨w.heap.size, 1, none⟩ = some (.int .i64 (b)) := (hb.cell (p := ⟨w.heap.size, 1, none⟩) (by first | assumption | (simp; done) | (simp; omega) | (dsimp only; omega) | omega)).trans (by first | assumption | (simp [go_sem]; done) | (simp [go_sem, *]; done))
    have pbaz : w.heap.size + 1 < (u2).heap.size := Nat.lt_of_lt_of_le (show w.heap.size + 1 < _ from (by first | assumption | (simp; done) | (simp; omega) | (dsimp only; omega) | omega)) hb.size; have pba0 : (u2).cell? ⟨w.heap.size + 1, 0, none⟩ = some (.int .i64 (c)) := (hb.cell (p := ⟨w.heap.size + 1, 0, none⟩) (by first | assumption | (simp; done) | (simp; omega) | (dsimp only; omega) | omega)).trans (by first | assumption | (simp [go_sem]; done) | (simp [go_sem, *]; done)); have pba1 : (u2).cell? ⟨w.heap.size + 1, 1, none⟩ = some (.int .i64 (d)) := (hb.cell (p := ⟨w.heap.size + 1, 1, none⟩) (by first | assumption | (simp; done) | (simp; omega) | (dsimp only; omega) | omega)).trans (by first | assumption | (simp [go_sem]; done) | (simp [go_sem, *]; done))
    clear BB BH hsz
    clear pabz pab0 pab1 pbbz pbb0 pbb1
    have BH := hid BN
    have hsz := BN.size
    clear BN hb
    go_wp2_with fail
    refine (ad _).mono ?_; rintro e u3 ⟨rfl, hb⟩
    have BB := BH.out
    have BN : Below w.heap.size w u3 := by repeat' (first | (with_reducible exact Below.refl _ _) | (with_reducible refine Below.alloc ?_ ?_ _) | (with_reducible refine Below.setCell ?_ ?_ _) | (with_reducible refine Below.drew ?_) | (with_reducible refine Below.trans ?_ (Below.mono (by assumption) ?_)) | (simp; done) | (simp; omega) | omega)
    have pabz : w.heap.size < (u3).heap.size := Nat.lt_of_lt_of_le (show w.heap.size < _ from (by first | assumption | (simp; done) | (simp; omega) | (dsimp only; omega) | omega)) hb.size; have pab0 : (u3).cell? ⟨w.heap.size, 0, none⟩ = some (.int .i64 (a)) := (hb.cell (p := ⟨w.heap.size, 0, none⟩) (by first | assumption | (simp; done) | (simp; omega) | (dsimp only; omega) | omega)).trans (by first | assumption | (simp [go_sem]; done) | (simp [go_sem, *]; done)); have pab1 : (u3).cell? ⟨w.heap.size, 1, none⟩ = some (.int .i64 (b)) := (hb.cell (p := ⟨w.heap.size, 1, none⟩) (by first | assumption | (simp; done) | (simp; omega) | (dsimp only; omega) | omega)).trans (by first | assumption | (simp [go_sem]; done) | (simp [go_sem, *]; done))
    have pbbz : w.heap.size + 1 < (u3).heap.size := Nat.lt_of_lt_of_le (show w.heap.size + 1 < _ from (by first | assumption | (simp; done) | (simp; omega) | (dsimp only; omega) | omega)) hb.size; have pbb0 : (u3).cell? ⟨w.heap.size + 1, 0, none⟩ = some (.int .i64 (c)) := (hb.cell (p := ⟨w.heap.size + 1, 0, none⟩) (by first | assumption | (simp; done) | (simp; omega) | (dsimp only; omega) | omega)).trans (by first | assumption | (simp [go_sem]; done) | (simp [go_sem, *]; done)); have pbb1 : (u3).cell? ⟨w.heap.size + 1, 1, none⟩ = some (.int .i64 (d)) := (hb.cell (p := ⟨w.heap.size + 1, 1, none⟩) (by first | assumption | (simp; done) | (simp; omega) | (dsimp only; omega) | omega)).trans (by first | assumption | (simp [go_sem]; done) | (simp [go_sem, *]; done))
    clear BB BH hsz
    clear paaz paa0 paa1 pbaz pba0 pba1
    have BH := hid BN
    have hsz := BN.size
    clear BN hb
    go_wp2_with fail
    refine (ad2 _).mono ?_; rintro e u4 ⟨rfl, hb⟩
    have BB := BH.out
    have BN : Below w.heap.size w u4 := by repeat' (first | (with_reducible exact Below.refl _ _) | (with_reducible refine Below.alloc ?_ ?_ _) | (with_reducible refine Below.setCell ?_ ?_ _) | (with_reducible refine Below.drew ?_) | (with_reducible refine Below.trans ?_ (Below.mono (by assumption) ?_)) | (simp; done) | (simp; omega) | omega)
    have paaz : w.heap.size < (u4).heap.size := Nat.lt_of_lt_of_le (show w.heap.size < _ from (by first | assumption | (simp; done) | (simp; omega) | (dsimp only; omega) | omega)) hb.size; have paa0 : (u4).cell? ⟨w.heap.size, 0, none⟩ = some (.int .i64 (a)) := (hb.cell (p := ⟨w.heap.size, 0, none⟩) (by first | assumption | (simp; done) | (simp; omega) | (dsimp only; omega) | omega)).trans (by first | assumption | (simp [go_sem]; done) | (simp [go_sem, *]; done)); have paa1 : (u4).cell? ⟨w.heap.size, 1, none⟩ = some (.int .i64 (b)) := (hb.cell (p := ⟨w.heap.size, 1, none⟩) (by first | assumption | (simp; done) | (simp; omega) | (dsimp only; omega) | omega)).trans (by first | assumption | (simp [go_sem]; done) | (simp [go_sem, *]; done))
    have pbaz : w.heap.size + 1 < (u4).heap.size := Nat.lt_of_lt_of_le (show w.heap.size + 1 < _ from (by first | assumption | (simp; done) | (simp; omega) | (dsimp only; omega) | omega)) hb.size; have pba0 : (u4).cell? ⟨w.heap.size + 1, 0, none⟩ = some (.int .i64 (c)) := (hb.cell (p := ⟨w.heap.size + 1, 0, none⟩) (by first | assumption | (simp; done) | (simp; omega) | (dsimp only; omega) | omega)).trans (by first | assumption | (simp [go_sem]; done) | (simp [go_sem, *]; done)); have pba1 : (u4).cell? ⟨w.heap.size + 1, 1, none⟩ = some (.int .i64 (d)) := (hb.cell (p := ⟨w.heap.size + 1, 1, none⟩) (by first | assumption | (simp; done) | (simp; omega) | (dsimp only; omega) | omega)).trans (by first | assumption | (simp [go_sem]; done) | (simp [go_sem, *]; done))
    have bsaz : u3.heap.size < (u4).heap.size := Nat.lt_of_lt_of_le (show u3.heap.size < _ from (by first | assumption | (simp; done) | (simp; omega) | (dsimp only; omega) | omega)) hb.size; have bsa0 : (u4).cell? ⟨u3.heap.size, 0, none⟩ = some (.int .i64 (sl)) := (hb.cell (p := ⟨u3.heap.size, 0, none⟩) (by first | assumption | (simp; done) | (simp; omega) | (dsimp only; omega) | omega)).trans (by first | assumption | (simp [go_sem]; done) | (simp [go_sem, *]; done)); have bsa1 : (u4).cell? ⟨u3.heap.size, 1, none⟩ = some (.int .i64 (sh)) := (hb.cell (p := ⟨u3.heap.size, 1, none⟩) (by first | assumption | (simp; done) | (simp; omega) | (dsimp only; omega) | omega)).trans (by first | assumption | (simp [go_sem]; done) | (simp [go_sem, *]; done))
    clear BB BH hsz
    clear pabz pab0 pab1 pbbz pbb0 pbb1
    have BH := hid BN
    have hsz := BN.size
    clear BN hb
    go_wp2_with fail
    refine (su _).mono ?_; rintro e u5 ⟨rfl, hb⟩
    have BB := BH.out
    have BN : Below w.heap.size w u5 := by repeat' (first | (with_reducible exact Below.refl _ _) | (with_reducible refine Below.alloc ?_ ?_ _) | (with_reducible refine Below.setCell ?_ ?_ _) | (with_reducible refine Below.drew ?_) | (with_reducible refine Below.trans ?_ (Below.mono (by assumption) ?_)) | (simp; done) | (simp; omega) | omega)
    have pabz : w.heap.size < (u5).heap.size := Nat.lt_of_lt_of_le (show w.heap.size < _ from (by first | assumption | (simp; done) | (simp; omega) | (dsimp only; omega) | omega)) hb.size; have pab0 : (u5).cell? ⟨w.heap.size, 0, none⟩ = some (.int .i64 (a)) := (hb.cell (p := ⟨w.heap.size, 0, none⟩) (by first | assumption | (simp; done) | (simp; omega) | (dsimp only; omega) | omega)).trans (by first | assumption | (simp [go_sem]; done) | (simp [go_sem, *]; done)); have pab1 : (u5).cell? ⟨w.heap.size, 1, none⟩ = some (.int .i64 (b)) := (hb.cell (p := ⟨w.heap.size, 1, none⟩) (by first | assumption | (simp; done) | (simp; omega) | (dsimp only; omega) | omega)).trans (by first | assumption | (simp [go_sem]; done) | (simp [go_sem, *]; done))
    have pbbz : w.heap.size + 1 < (u5).heap.size := Nat.lt_of_lt_of_le (show w.heap.size + 1 < _ from (by first | assumption | (simp; done) | (simp; omega) | (dsimp only; omega) | omega)) hb.size; have pbb0 : (u5).cell? ⟨w.heap.size + 1, 0, none⟩ = some (.int .i64 (c)) := (hb.cell (p := ⟨w.heap.size + 1, 0, none⟩) (by first | assumption | (simp; done) | (simp; omega) | (dsimp only; omega) | omega)).trans (by first | assumption | (simp [go_sem]; done) | (simp [go_sem, *]; done)); have pbb1 : (u5).cell? ⟨w.heap.size + 1, 1, none⟩ = some (.int .i64 (d)) := (hb.cell (p := ⟨w.heap.size + 1, 1, none⟩) (by first | assumption | (simp; done) | (simp; omega) | (dsimp only; omega) | omega)).trans (by first | assumption | (simp [go_sem]; done) | (simp [go_sem, *]; done))
    have bsbz : u3.heap.size < (u5).heap.size := Nat.lt_of_lt_of_le (show u3.heap.size < _ from (by first | assumption | (simp; done) | (simp; omega) | (dsimp only; omega) | omega)) hb.size; have bsb0 : (u5).cell? ⟨u3.heap.size, 0, none⟩ = some (.int .i64 (sl)) := (hb.cell (p := ⟨u3.heap.size, 0, none⟩) (by first | assumption | (simp; done) | (simp; omega) | (dsimp only; omega) | omega)).trans (by first | assumption | (simp [go_sem]; done) | (simp [go_sem, *]; done)); have bsb1 : (u5).cell? ⟨u3.heap.size, 1, none⟩ = some (.int .i64 (sh)) := (hb.cell (p := ⟨u3.heap.size, 1, none⟩) (by first | assumption | (simp; done) | (simp; omega) | (dsimp only; omega) | omega)).trans (by first | assumption | (simp [go_sem]; done) | (simp [go_sem, *]; done))
    have btbz : u4.heap.size < (u5).heap.size := Nat.lt_of_lt_of_le (show u4.heap.size < _ from (by first | assumption | (simp; done) | (simp; omega) | (dsimp only; omega) | omega)) hb.size; have btb0 : (u5).cell? ⟨u4.heap.size, 0, none⟩ = some (.int .i64 (sl)) := (hb.cell (p := ⟨u4.heap.size, 0, none⟩) (by first | assumption | (simp; done) | (simp; omega) | (dsimp only; omega) | omega)).trans (by first | assumption | (simp [go_sem]; done) | (simp [go_sem, *]; done)); have btb1 : (u5).cell? ⟨u4.heap.size, 1, none⟩ = some (.int .i64 (sh)) := (hb.cell (p := ⟨u4.heap.size, 1, none⟩) (by first | assumption | (simp; done) | (simp; omega) | (dsimp only; omega) | omega)).trans (by first | assumption | (simp [go_sem]; done) | (simp [go_sem, *]; done))
    clear BB BH hsz
    clear paaz paa0 paa1 pbaz pba0 pba1 bsaz bsa0 bsa1
    have BH := hid BN
    have hsz := BN.size
    clear BN hb
    clear pabz pab0 pab1
    clear pbbz pbb0 pbb1
    go_wp2_with fail
    refine (ws _).mono ?_; rintro e u6 ⟨rfl, hb⟩
    have BB := BH.out
    have BN : Below w.heap.size w u6 := by repeat' (first | (with_reducible exact Below.refl _ _) | (with_reducible refine Below.alloc ?_ ?_ _) | (with_reducible refine Below.setCell ?_ ?_ _) | (with_reducible refine Below.drew ?_) | (with_reducible refine Below.trans ?_ (Below.mono (by assumption) ?_)) | (simp; done) | (simp; omega) | omega)
    have bsaz : u3.heap.size < (u6).heap.size := Nat.lt_of_lt_of_le (show u3.heap.size < _ from (by first | assumption | (simp; done) | (simp; omega) | (dsimp only; omega) | omega)) hb.size; have bsa0 : (u6).cell? ⟨u3.heap.size, 0, none⟩ = some (.int .i64 (sl)) := (hb.cell (p := ⟨u3.heap.size, 0, none⟩) (by first | assumption | (simp; done) | (simp; omega) | (dsimp only; omega) | omega)).trans (by first | assumption | (simp [go_sem]; done) | (simp [go_sem, *]; done)); have bsa1 : (u6).cell? ⟨u3.heap.size, 1, none⟩ = some (.int .i64 (sh)) := (hb.cell (p := ⟨u3.heap.size, 1, none⟩) (by first | assumption | (simp; done) | (simp; omega) | (dsimp only; omega) | omega)).trans (by first | assumption | (simp [go_sem]; done) | (simp [go_sem, *]; done))
    have btaz : u4.heap.size < (u6).heap.size := Nat.lt_of_lt_of_le (show u4.heap.size < _ from (by first | assumption | (simp; done) | (simp; omega) | (dsimp only; omega) | omega)) hb.size; have bta0 : (u6).cell? ⟨u4.heap.size, 0, none⟩ = some (.int .i64 (sl)) := (hb.cell (p := ⟨u4.heap.size, 0, none⟩) (by first | assumption | (simp; done) | (simp; omega) | (dsimp only; omega) | omega)).trans (by first | assumption | (simp [go_sem]; done) | (simp [go_sem, *]; done)); have bta1 : (u6).cell? ⟨u4.heap.size, 1, none⟩ = some (.int .i64 (sh)) := (hb.cell (p := ⟨u4.heap.size, 1, none⟩) (by first | assumption | (simp; done) | (simp; omega) | (dsimp only; omega) | omega)).trans (by first | assumption | (simp [go_sem]; done) | (simp [go_sem, *]; done))
    have buaz : u5.heap.size < (u6).heap.size := Nat.lt_of_lt_of_le (show u5.heap.size < _ from (by first | assumption | (simp; done) | (simp; omega) | (dsimp only; omega) | omega)) hb.size; have bua0 : (u6).cell? ⟨u5.heap.size, 0, none⟩ = some (.int .i64 (ul)) := (hb.cell (p := ⟨u5.heap.size, 0, none⟩) (by first | assumption | (simp; done) | (simp; omega) | (dsimp only; omega) | omega)).trans (by first | assumption | (simp [go_sem]; done) | (simp [go_sem, *]; done)); have bua1 : (u6).cell? ⟨u5.heap.size, 1, none⟩ = some (.int .i64 (uh)) := (hb.cell (p := ⟨u5.heap.size, 1, none⟩) (by first | assumption | (simp; done) | (simp; omega) | (dsimp only; omega) | omega)).trans (by first | assumption | (simp [go_sem]; done) | (simp [go_sem, *]; done))
    clear BB BH hsz
    clear bsbz bsb0 bsb1 btbz btb0 btb1
    have BH := hid BN
    have hsz := BN.size
    clear BN hb
    clear bsaz bsa0 bsa1
    clear btaz bta0 bta1
    go_wp2_with fail
    refine (wu _).mono ?_; rintro e u7 ⟨rfl, hb⟩
    have BB := BH.out
    have BN : Below w.heap.size w u7 := by repeat' (first | (with_reducible exact Below.refl _ _) | (with_reducible refine Below.alloc ?_ ?_ _) | (with_reducible refine Below.setCell ?_ ?_ _) | (with_reducible refine Below.drew ?_) | (with_reducible refine Below.trans ?_ (Below.mono (by assumption) ?_)) | (simp; done) | (simp; omega) | omega)
    have bubz : u5.heap.size < (u7).heap.size := Nat.lt_of_lt_of_le (show u5.heap.size < _ from (by first | assumption | (simp; done) | (simp; omega) | (dsimp only; omega) | omega)) hb.size; have bub0 : (u7).cell? ⟨u5.heap.size, 0, none⟩ = some (.int .i64 (ul)) := (hb.cell (p := ⟨u5.heap.size, 0, none⟩) (by first | assumption | (simp; done) | (simp; omega) | (dsimp only; omega) | omega)).trans (by first | assumption | (simp [go_sem]; done) | (simp [go_sem, *]; done)); have bub1 : (u7).cell? ⟨u5.heap.size, 1, none⟩ = some (.int .i64 (uh)) := (hb.cell (p := ⟨u5.heap.size, 1, none⟩) (by first | assumption | (simp; done) | (simp; omega) | (dsimp only; omega) | omega)).trans (by first | assumption | (simp [go_sem]; done) | (simp [go_sem, *]; done))
    clear BB BH hsz
    clear buaz bua0 bua1
    have BH := hid BN
    have hsz := BN.size
    clear BN hb
    clear bubz bub0 bub1
    go_wp2_with fail
    refine (iawake_any _).mono ?_; rintro e u8 ⟨rfl, hb⟩
    have BB := BH.out
    have BN : Below w.heap.size w u8 := by repeat' (first | (with_reducible exact Below.refl _ _) | (with_reducible refine Below.alloc ?_ ?_ _) | (with_reducible refine Below.setCell ?_ ?_ _) | (with_reducible refine Below.drew ?_) | (with_reducible refine Below.trans ?_ (Below.mono (by assumption) ?_)) | (simp; done) | (simp; omega) | omega)
    clear BB BH hsz
    have BH := hid BN
    have hsz := BN.size
    clear BN hb
    go_wp2_with fail
    go_ret
    have BB := BH.out
    exact Gives.mk rfl (by repeat' (first | (with_reducible exact Below.refl _ _) | (with_reducible refine Below.alloc ?_ ?_ _) | (with_reducible refine Below.setCell ?_ ?_ _) | (with_reducible refine Below.drew ?_) | (with_reducible refine Below.trans ?_ (Below.mono (by assumption) ?_)) | (simp; done) | (simp; omega) | omega))
  · go_enter Try.func15, Try.ntmps15
    go_wp2_with fail
    refine (wa _).mono ?_; rintro e u1 ⟨rfl, hb⟩
    have BN : Below w.heap.size w u1 := by repeat' (first | (with_reducible exact Below.refl _ _) | (with_reducible refine Below.alloc ?_ ?_ _) | (with_reducible refine Below.setCell ?_ ?_ _) | (with_reducible refine Below.drew ?_) | (with_reducible refine Below.trans ?_ (Below.mono (by assumption) ?_)) | (simp; done) | (simp; omega) | omega)
    have pabz : w.heap.size < (u1).heap.size := Nat.lt_of_lt_of_le (show w.heap.size < _ from (by first | assumption | (simp; done) | (simp; omega) | (dsimp only; omega) | omega)) hb.size; have pab0 : (u1).cell? ⟨w.heap.size, 0, none⟩ = some (.int .i64 (a)) := (hb.cell (p := ⟨w.heap.size, 0, none⟩) (by first | assumption | (simp; done) | (simp; omega) | (dsimp only; omega) | omega)).trans (by first | assumption | (simp [go_sem]; done) | (simp [go_sem, *]; done)); have pab1 : (u1).cell? ⟨w.heap.size, 1, none⟩ = some (.int .i64 (b)) := (hb.cell (p := ⟨w.heap.size, 1, none⟩) (by first | assumption | (simp; done) | (simp; omega) | (dsimp only; omega) | omega)).trans (by first | assumption | (simp [go_sem]; done) | (simp [go_sem, *]; done))
    have pbbz : w.heap.size + 1 < (u1).heap.size := Nat.lt_of_lt_of_le (show w.heap.size + 1 < _ from (by first | assumption | (simp; done) | (simp; omega) | (dsimp only; omega) | omega)) hb.size; have pbb0 : (u1).cell? ⟨w.heap.size + 1, 0, none⟩ = some (.int .i64 (c)) := (hb.cell (p := ⟨w.heap.size + 1, 0, none⟩) (by first | assumption | (simp; done) | (simp; omega) | (dsimp only; omega) | omega)).trans (by first | assumption | (simp [go_sem]; done) | (simp [go_sem, *]; done)); have pbb1 : (u1).cell? ⟨w.heap.size + 1, 1, none⟩ = some (.int .i64 (d)) := (hb.cell (p := ⟨w.heap.size + 1, 1, none⟩) (by first | assumption | (simp; done) | (simp; omega) | (dsimp only; omega) | omega)).trans (by first | assumption | (simp [go_sem]; done) | (simp [go_sem, *]; done))
    have BH := hid BN
    have hsz := BN.size
    clear BN hb
    go_wp2_with fail
    refine (wb _).mono ?_; rintro e u2 ⟨rfl, hb⟩
    have BB := BH.out
    have BN : Below w.heap.size w u2 := by repeat' (first | (with_reducible exact Below.refl _ _) | (with_reducible refine Below.alloc ?_ ?_ _) | (with_reducible refine Below.setCell ?_ ?_ _) | (with_reducible refine Below.drew ?_) | (with_reducible refine Below.trans ?_ (Below.mono (by assumption) ?_)) | (simp; done) | (simp; omega) | omega)
    have paaz : w.heap.size < (u2).heap.size := Nat.lt_of_lt_of_le (show w.heap.size < _ from (by first | assumption | (simp; done) | (simp; omega) | (dsimp only; omega) | omega)) hb.size; have paa0 : (u2).cell? ⟨w.heap.size, 0, none⟩ = some (.int .i64 (a)) := (hb.cell (p := ⟨w.heap.size, 0, none⟩) (by first | assumption | (simp; done) | (simp; omega) | (dsimp only; omega) | omega)).trans (by first | assumption | (simp [go_sem]; done) | (simp [go_sem, *]; done)); have paa1 : (u2).cell? ⟨w.heap.size, 1, none⟩ = some (.int .i64 (b)) := (hb.cell (p := ⟨w.heap.size, 1, none⟩) (by first | assumption | (simp; done) | (simp; omega) | (dsimp only; omega) | omega)).trans (by first | assumption | (simp [go_sem]; done) | (simp [go_sem, *]; done))
    have pbaz : w.heap.size + 1 < (u2).heap.size := Nat.lt_of_lt_of_le (show w.heap.size + 1 < _ from (by first | assumption | (simp; done) | (simp; omega) | (dsimp only; omega) | omega)) hb.size; have pba0 : (u2).cell? ⟨w.heap.size + 1, 0, none⟩ = some (.int .i64 (c)) := (hb.cell (p := ⟨w.heap.size + 1, 0, none⟩) (by first | assumption | (simp; done) | (simp; omega) | (dsimp only; omega) | omega)).trans (by first | assumption | (simp [go_sem]; done) | (simp [go_sem, *]; done)); have pba1 : (u2).cell? ⟨w.heap.size + 1, 1, none⟩ = some (.int .i64 (d)) := (hb.cell (p := ⟨w.heap.size + 1, 1, none⟩) (by first | assumption | (simp; done) | (simp; omega) | (dsimp only; omega) | omega)).trans (by first | assumption | (simp [go_sem]; done) | (simp [go_sem, *]; done))
    clear BB BH hsz
    clear pabz pab0 pab1 pbbz pbb0 pbb1
    have BH := hid BN
    have hsz := BN.size
    clear BN hb
    go_wp2_with fail
    refine (ad _).mono ?_; rintro e u3 ⟨rfl, hb⟩
    have BB := BH.out
    have BN : Below w.heap.size w u3 := by repeat' (first | (with_reducible exact Below.refl _ _) | (with_reducible refine Below.alloc ?_ ?_ _) | (with_reducible refine Below.setCell ?_ ?_ _) | (with_reducible refine Below.drew ?_) | (with_reducible refine Below.trans ?_ (Below.mono (by assumption) ?_)) | (simp; done) | (simp; omega) | omega)
    have pabz : w.heap.size < (u3).heap.size := Nat.lt_of_lt_of_le (show w.heap.size < _ from (by first | assumption | (simp; done) | (simp; omega) | (dsimp only; omega) | omega)) hb.size; have pab0 : (u3).cell? ⟨w.heap.size, 0, none⟩ = some (.int .i64 (a)) := (hb.cell (p := ⟨w.heap.size, 0, none⟩) (by first | assumption | (simp; done) | (simp; omega) | (dsimp only; omega) | omega)).trans (by first | assumption | (simp [go_sem]; done) | (simp [go_sem, *]; done)); have pab1 : (u3).cell? ⟨w.heap.size, 1, none⟩ = some (.int .i64 (b)) := (hb.cell (p := ⟨w.heap.size, 1, none⟩) (by first | assumption | (simp; done) | (simp; omega) | (dsimp only; omega) | omega)).trans (by first | assumption | (simp [go_sem]; done) | (simp [go_sem, *]; done))
    have pbbz : w.heap.size + 1 < (u3).heap.size := Nat.lt_of_lt_of_le (show w.heap.size + 1 < _ from (by first | assumption | (simp; done) | (simp; omega) | (dsimp only; omega) | omega)) hb.size; have pbb0 : (u3).cell? ⟨w.heap.size + 1, 0, none⟩ = some (.int .i64 (c)) := (hb.cell (p := ⟨w.heap.size + 1, 0, none⟩) (by first | assumption | (simp; done) | (simp; omega) | (dsimp only; omega) | omega)).trans (by first | assumption | (simp [go_sem]; done) | (simp [go_sem, *]; done)); have pbb1 : (u3).cell? ⟨w.heap.size + 1, 1, none⟩ = some (.int .i64 (d)) := (hb.cell (p := ⟨w.heap.size + 1, 1, none⟩) (by first | assumption | (simp; done) | (simp; omega) | (dsimp only; omega) | omega)).trans (by first | assumption | (simp [go_sem]; done) | (simp [go_sem, *]; done))
    clear BB BH hsz
    clear paaz paa0 paa1 pbaz pba0 pba1
    have BH := hid BN
    have hsz := BN.size
    clear BN hb
    go_wp2_with fail
    refine (ad2 _).mono ?_; rintro e u4 ⟨rfl, hb⟩
    have BB := BH.out
    have BN : Below w.heap.size w u4 := by repeat' (first | (with_reducible exact Below.refl _ _) | (with_reducible refine Below.alloc ?_ ?_ _) | (with_reducible refine Below.setCell ?_ ?_ _) | (with_reducible refine Below.drew ?_) | (with_reducible refine Below.trans ?_ (Below.mono (by assumption) ?_)) | (simp; done) | (simp; omega) | omega)
    have paaz : w.heap.size < (u4).heap.size := Nat.lt_of_lt_of_le (show w.heap.size < _ from (by first | assumption | (simp; done) | (simp; omega) | (dsimp only; omega) | omega)) hb.size; have paa0 : (u4).cell? ⟨w.heap.size, 0, none⟩ = some (.int .i64 (a)) := (hb.cell (p := ⟨w.heap.size, 0, none⟩) (by first | assumption | (simp; done) | (simp; omega) | (dsimp only; omega) | omega)).trans (by first | assumption | (simp [go_sem]; done) | (simp [go_sem, *]; done)); have paa1 : (u4).cell? ⟨w.heap.size, 1, none⟩ = some (.int .i64 (b)) := (hb.cell (p := ⟨w.heap.size, 1, none⟩) (by first | assumption | (simp; done) | (simp; omega) | (dsimp only; omega) | omega)).trans (by first | assumption | (simp [go_sem]; done) | (simp [go_sem, *]; done))
    have pbaz : w.heap.size + 1 < (u4).heap.size := Nat.lt_of_lt_of_le (show w.heap.size + 1 < _ from (by first | assumption | (simp; done) | (simp; omega) | (dsimp only; omega) | omega)) hb.size; have pba0 : (u4).cell? ⟨w.heap.size + 1, 0, none⟩ = some (.int .i64 (c)) := (hb.cell (p := ⟨w.heap.size + 1, 0, none⟩) (by first | assumption | (simp; done) | (simp; omega) | (dsimp only; omega) | omega)).trans (by first | assumption | (simp [go_sem]; done) | (simp [go_sem, *]; done)); have pba1 : (u4).cell? ⟨w.heap.size + 1, 1, none⟩ = some (.int .i64 (d)) := (hb.cell (p := ⟨w.heap.size + 1, 1, none⟩) (by first | assumption | (simp; done) | (simp; omega) | (dsimp only; omega) | omega)).trans (by first | assumption | (simp [go_sem]; done) | (simp [go_sem, *]; done))
    have bsaz : u3.heap.size < (u4).heap.size := Nat.lt_of_lt_of_le (show u3.heap.size < _ from (by first | assumption | (simp; done) | (simp; omega) | (dsimp only; omega) | omega)) hb.size; have bsa0 : (u4).cell? ⟨u3.heap.size, 0, none⟩ = some (.int .i64 (sl)) := (hb.cell (p := ⟨u3.heap.size, 0, none⟩) (by first | assumption | (simp; done) | (simp; omega) | (dsimp only; omega) | omega)).trans (by first | assumption | (simp [go_sem]; done) | (simp [go_sem, *]; done)); have bsa1 : (u4).cell? ⟨u3.heap.size, 1, none⟩ = some (.int .i64 (sh)) := (hb.cell (p := ⟨u3.heap.size, 1, none⟩) (by first | assumption | (simp; done) | (simp; omega) | (dsimp only; omega) | omega)).trans (by first | assumption | (simp [go_sem]; done) | (simp [go_sem, *]; done))
    clear BB BH hsz
    clear pabz pab0 pab1 pbbz pbb0 pbb1
    have BH := hid BN
    have hsz := BN.size
    clear BN hb
    go_wp2_with fail
    refine (su _).mono ?_; rintro e u5 ⟨rfl, hb⟩
    have BB := BH.out
    have BN : Below w.heap.size w u5 := by repeat' (first | (with_reducible exact Below.refl _ _) | (with_reducible refine Below.alloc ?_ ?_ _) | (with_reducible refine Below.setCell ?_ ?_ _) | (with_reducible refine Below.drew ?_) | (with_reducible refine Below.trans ?_ (Below.mono (by assumption) ?_)) | (simp; done) | (simp; omega) | omega)
    have pabz : w.heap.size < (u5).heap.size := Nat.lt_of_lt_of_le (show w.heap.size < _ from (by first | assumption | (simp; done) | (simp; omega) | (dsimp only; omega) | omega)) hb.size; have pab0 : (u5).cell? ⟨w.heap.size, 0, none⟩ = some (.int .i64 (a)) := (hb.cell (p := ⟨w.heap.size, 0, none⟩) (by first | assumption | (simp; done) | (simp; omega) | (dsimp only; omega) | omega)).trans (by first | assumption | (simp [go_sem]; done) | (simp [go_sem, *]; done)); have pab1 : (u5).cell? ⟨w.heap.size, 1, none⟩ = some (.int .i64 (b)) := (hb.cell (p := ⟨w.heap.size, 1, none⟩) (by first | assumption | (simp; done) | (simp; omega) | (dsimp only; omega) | omega)).trans (by first | assumption | (simp [go_sem]; done) | (simp [go_sem, *]; done))
    have pbbz : w.heap.size + 1 < (u5).heap.size := Nat.lt_of_lt_of_le (show w.heap.size + 1 < _ from (by first | assumption | (simp; done) | (simp; omega) | (dsimp only; omega) | omega)) hb.size; have pbb0 : (u5).cell? ⟨w.heap.size + 1, 0, none⟩ = some (.int .i64 (c)) := (hb.cell (p := ⟨w.heap.size + 1, 0, none⟩) (by first | assumption | (simp; done) | (simp; omega) | (dsimp only; omega) | omega)).trans (by first | assumption | (simp [go_sem]; done) | (simp [go_sem, *]; done)); have pbb1 : (u5).cell? ⟨w.heap.size + 1, 1, none⟩ = some (.int .i64 (d)) := (hb.cell (p := ⟨w.heap.size + 1, 1, none⟩) (by first | assumption | (simp; done) | (simp; omega) | (dsimp only; omega) | omega)).trans (by first | assumption | (simp [go_sem]; done) | (simp [go_sem, *]; done))
    have bsbz : u3.heap.size < (u5).heap.size := Nat.lt_of_lt_of_le (show u3.heap.size < _ from (by first | assumption | (simp; done) | (simp; omega) | (dsimp only; omega) | omega)) hb.size; have bsb0 : (u5).cell? ⟨u3.heap.size, 0, none⟩ = some (.int .i64 (sl)) := (hb.cell (p := ⟨u3.heap.size, 0, none⟩) (by first | assumption | (simp; done) | (simp; omega) | (dsimp only; omega) | omega)).trans (by first | assumption | (simp [go_sem]; done) | (simp [go_sem, *]; done)); have bsb1 : (u5).cell? ⟨u3.heap.size, 1, none⟩ = some (.int .i64 (sh)) := (hb.cell (p := ⟨u3.heap.size, 1, none⟩) (by first | assumption | (simp; done) | (simp; omega) | (dsimp only; omega) | omega)).trans (by first | assumption | (simp [go_sem]; done) | (simp [go_sem, *]; done))
    have btbz : u4.heap.size < (u5).heap.size := Nat.lt_of_lt_of_le (show u4.heap.size < _ from (by first | assumption | (simp; done) | (simp; omega) | (dsimp only; omega) | omega)) hb.size; have btb0 : (u5).cell? ⟨u4.heap.size, 0, none⟩ = some (.int .i64 (sl)) := (hb.cell (p := ⟨u4.heap.size, 0, none⟩) (by first | assumption | (simp; done) | (simp; omega) | (dsimp only; omega) | omega)).trans (by first | assumption | (simp [go_sem]; done) | (simp [go_sem, *]; done)); have btb1 : (u5).cell? ⟨u4.heap.size, 1, none⟩ = some (.int .i64 (sh)) := (hb.cell (p := ⟨u4.heap.size, 1, none⟩) (by first | assumption | (simp; done) | (simp; omega) | (dsimp only; omega) | omega)).trans (by first | assumption | (simp [go_sem]; done) | (simp [go_sem, *]; done))
    clear BB BH hsz
    clear paaz paa0 paa1 pbaz pba0 pba1 bsaz bsa0 bsa1
    have BH := hid BN
    have hsz := BN.size
    clear BN hb
    clear pabz pab0 pab1
    clear pbbz pbb0 pbb1
    go_wp2_with fail
    refine (ws _).mono ?_; rintro e u6 ⟨rfl, hb⟩
    have BB := BH.out
    have BN : Below w.heap.size w u6 := by repeat' (first | (with_reducible exact Below.refl _ _) | (with_reducible refine Below.alloc ?_ ?_ _) | (with_reducible refine Below.setCell ?_ ?_ _) | (with_reducible refine Below.drew ?_) | (with_reducible refine Below.trans ?_ (Below.mono (by assumption) ?_)) | (simp; done) | (simp; omega) | omega)
    have bsaz : u3.heap.size < (u6).heap.size := Nat.lt_of_lt_of_le (show u3.heap.size < _ from (by first | assumption | (simp; done) | (simp; omega) | (dsimp only; omega) | omega)) hb.size; have bsa0 : (u6).cell? ⟨u3.heap.size, 0, none⟩ = some (.int .i64 (sl)) := (hb.cell (p := ⟨u3.heap.size, 0, none⟩) (by first | assumption | (simp; done) | (simp; omega) | (dsimp only; omega) | omega)).trans (by first | assumption | (simp [go_sem]; done) | (simp [go_sem, *]; done)); have bsa1 : (u6).cell? ⟨u3.heap.size, 1, none⟩ = some (.int .i64 (sh)) := (hb.cell (p := ⟨u3.heap.size, 1, none⟩) (by first | assumption | (simp; done) | (simp; omega) | (dsimp only; omega) | omega)).trans (by first | assumption | (simp [go_sem]; done) | (simp [go_sem, *]; done))
    have btaz : u4.heap.size < (u6).heap.size := Nat.lt_of_lt_of_le (show u4.heap.size < _ from (by first | assumption | (simp; done) | (simp; omega) | (dsimp only; omega) | omega)) hb.size; have bta0 : (u6).cell? ⟨u4.heap.size, 0, none⟩ = some (.int .i64 (sl)) := (hb.cell (p := ⟨u4.heap.size, 0, none⟩) (by first | assumption | (simp; done) | (simp; omega) | (dsimp only; omega) | omega)).trans (by first | assumption | (simp [go_sem]; done) | (simp [go_sem, *]; done)); have bta1 : (u6).cell? ⟨u4.heap.size, 1, none⟩ = some (.int .i64 (sh)) := (hb.cell (p := ⟨u4.heap.size, 1, none⟩) (by first | assumption | (simp; done) | (simp; omega) | (dsimp only; omega) | omega)).trans (by first | assumption | (simp [go_sem]; done) | (simp [go_sem, *]; done))
    have buaz : u5.heap.size < (u6).heap.size := Nat.lt_of_lt_of_le (show u5.heap.size < _ from (by first | assumption | (simp; done) | (simp; omega) | (dsimp only; omega) | omega)) hb.size; have bua0 : (u6).cell? ⟨u5.heap.size, 0, none⟩ = some (.int .i64 (ul)) := (hb.cell (p := ⟨u5.heap.size, 0, none⟩) (by first | assumption | (simp; done) | (simp; omega) | (dsimp only; omega) | omega)).trans (by first | assumption | (simp [go_sem]; done) | (simp [go_sem, *]; done)); have bua1 : (u6).cell? ⟨u5.heap.size, 1, none⟩ = some (.int .i64 (uh)) := (hb.cell (p := ⟨u5.heap.size, 1, none⟩) (by first | assumption | (simp; done) | (simp; omega) | (dsimp only; omega) | omega)).trans (by first | assumption | (simp [go_sem]; done) | (simp [go_sem, *]; done))
    clear BB BH hsz
    clear bsbz bsb0 bsb1 btbz btb0 btb1
    have BH := hid BN
    have hsz := BN.size
    clear BN hb
    clear bsaz bsa0 bsa1
    clear btaz bta0 bta1
    go_wp2_with fail
    refine (wu _).mono ?_; rintro e u7 ⟨rfl, hb⟩
    have BB := BH.out
    have BN : Below w.heap.size w u7 := by repeat' (first | (with_reducible exact Below.refl _ _) | (with_reducible refine Below.alloc ?_ ?_ _) | (with_reducible refine Below.setCell ?_ ?_ _) | (with_reducible refine Below.drew ?_) | (with_reducible refine Below.trans ?_ (Below.mono (by assumption) ?_)) | (simp; done) | (simp; omega) | omega)
    have bubz : u5.heap.size < (u7).heap.size := Nat.lt_of_lt_of_le (show u5.heap.size < _ from (by first | assumption | (simp; done) | (simp; omega) | (dsimp only; omega) | omega)) hb.size; have bub0 : (u7).cell? ⟨u5.heap.size, 0, none⟩ = some (.int .i64 (ul)) := (hb.cell (p := ⟨u5.heap.size, 0, none⟩) (by first | assumption | (simp; done) | (simp; omega) | (dsimp only; omega) | omega)).trans (by first | assumption | (simp [go_sem]; done) | (simp [go_sem, *]; done)); have bub1 : (u7).cell? ⟨u5.heap.size, 1, none⟩ = some (.int .i64 (uh)) := (hb.cell (p := ⟨u5.heap.size, 1, none⟩) (by first | assumption | (simp; done) | (simp; omega) | (dsimp only; omega) | omega)).trans (by first | assumption | (simp [go_sem]; done) | (simp [go_sem, *]; done))
    clear BB BH hsz
    clear buaz bua0 bua1
    have BH := hid BN
    have hsz := BN.size
    clear BN hb
    clear bubz bub0 bub1
    go_wp2_with fail
    refine (iawake_any _).mono ?_; rintro e u8 ⟨rfl, hb⟩
    have BB := BH.out
    have BN : Below w.heap.size w u8 := by repeat' (first | (with_reducible exact Below.refl _ _) | (with_reducible refine Below.alloc ?_ ?_ _) | (with_reducible refine Below.setCell ?_ ?_ _) | (with_reducible refine Below.drew ?_) | (with_reducible refine Below.trans ?_ (Below.mono (by assumption) ?_)) | (simp; done) | (simp; omega) | omega)
    clear BB BH hsz
    have BH := hid BN
    have hsz := BN.size
    clear BN hb
    go_wp2_with fail
    go_ret
    have BB := BH.out
    exact Gives.mk rfl (by repeat' (first | (with_reducible exact Below.refl _ _) | (with_reducible refine Below.alloc ?_ ?_ _) | (with_reducible refine Below.setCell ?_ ?_ _) | (with_reducible refine Below.drew ?_) | (with_reducible refine Below.trans ?_ (Below.mono (by assumption) ?_)) | (simp; done) | (simp; omega) | omega))
theorem widths_any (a b c d : Int) (a0 : -9223372036854775808 ≤ a) (a1 : a ≤ 9223372036854775807) (b0 : -9223372036854775808 ≤ b) (b1 : b ≤ 9223372036854775807) (c0 : -9223372036854775808 ≤ c) (c1 : c ≤ 9223372036854775807) (d0 : -9223372036854775808 ≤ d) (d1 : d ≤ 9223372036854775807) (w : World) :
    Calls Try.prog 15 #[.agg #[.int .i64 a, .int .i64 b], .agg #[.int .i64 c, .int .i64 d]] w (Gives (.bool true) w) := by
  obtain ⟨⟨sl, sh, g⟩, hA⟩ : ∃ r, Sp.addS a b c d = r := ⟨_, rfl⟩
  obtain ⟨⟨tl, th, g2⟩, hB⟩ : ∃ r, Sp.addS c d a b = r := ⟨_, rfl⟩
  obtain ⟨⟨ul, uh, i⟩, hS⟩ : ∃ r, Sp.subS a b c d = r := ⟨_, rfl⟩
  obtain ⟨⟨va, ea⟩, hV⟩ : ∃ r, Sp.widthS a b = r := ⟨_, rfl⟩
  obtain ⟨⟨vb, eb⟩, hW⟩ : ∃ r, Sp.widthS c d = r := ⟨_, rfl⟩
  have wa := fun w => iwidth_any a b va ea hV w
  have wb := fun w => iwidth_any c d vb eb hW w
  have ad := fun w => iadd_any a b c d sl sh g hA w
  have ad2 := fun w => iadd_any c d a b tl th g2 hB w
  have su := fun w => isub_any a b c d ul uh i hS w
  by_cases k1 : Sp.chk a b = 0
  · by_cases k2 : Sp.chk c d = 0
    · obtain ⟨p0, p1, p2⟩ := Sp.chk_zero.1 k1
      obtain ⟨q0, q1, q2⟩ := Sp.chk_zero.1 k2
      have hb : Sp.both a b c d = 0 := Sp.both_zero.2 ⟨k1, k2⟩
      have hb2 : Sp.both c d a b = 0 := Sp.both_zero.2 ⟨k2, k1⟩
      unfold Sp.addS at hA hB
      unfold Sp.subS at hS
      unfold Sp.widthS at hV hW
      rw [hb, if_neg (by omega)] at hA hS
      rw [hb2, if_neg (by omega), Int.add_comm c a, Int.add_comm d b, hA] at hB
      rw [k1, if_neg (by omega)] at hV
      rw [k2, if_neg (by omega)] at hW
      simp only [Prod.mk.injEq] at hB hV hW
      obtain ⟨rfl, rfl, rfl⟩ := hB
      obtain ⟨rfl, rfl⟩ := hV
      obtain ⟨rfl, rfl⟩ := hW
      obtain ⟨⟨x, j⟩, hX⟩ : ∃ r, Sp.widthS sl sh = r := ⟨_, rfl⟩
      obtain ⟨⟨y, k⟩, hY⟩ : ∃ r, Sp.widthS ul uh = r := ⟨_, rfl⟩
      refine widths_in a b c d (b - a) (d - c) sl sh g ul uh i x j y k w ?_ ?_ (by omega) (by omega) (by omega) (by omega) wa wb ad ad2 su (fun w => iwidth_any sl sh x j hX w) (fun w => iwidth_any ul uh y k hY w)
      · rcases lim_cases (a + c) (b + d) with ⟨e, h1, h2⟩ | ⟨e, _⟩
        · rw [e] at hA
          simp only [Prod.mk.injEq] at hA
          obtain ⟨rfl, rfl, rfl⟩ := hA
          unfold Sp.widthS at hX
          rw [if_neg (by rw [Sp.chk_zero.2 (by omega)]; omega)] at hX
          simp only [Prod.mk.injEq] at hX
          exact Or.inl ⟨rfl, hX.2.symm, by omega⟩
        · rw [e] at hA
          simp only [Prod.mk.injEq] at hA
          exact Or.inr hA.2.2.symm
      · rcases lim_cases (a - d) (b - c) with ⟨e, h1, h2⟩ | ⟨e, _⟩
        · rw [e] at hS
          simp only [Prod.mk.injEq] at hS
          obtain ⟨rfl, rfl, rfl⟩ := hS
          unfold Sp.widthS at hY
          rw [if_neg (by rw [Sp.chk_zero.2 (by omega)]; omega)] at hY
          simp only [Prod.mk.injEq] at hY
          exact Or.inl ⟨rfl, hY.2.symm, by omega⟩
        · rw [e] at hS
          simp only [Prod.mk.injEq] at hS
          exact Or.inr hS.2.2.symm
    · have hb : ¬ Sp.both a b c d = 0 := fun h => k2 (Sp.both_zero.1 h).2
      have hb2 : ¬ Sp.both c d a b = 0 := fun h => k2 (Sp.both_zero.1 h).1
      unfold Sp.addS at hA hB
      unfold Sp.subS at hS
      unfold Sp.widthS at hV hW
      rw [if_pos hb] at hA hS
      rw [if_pos hb2] at hB
      rw [k1, if_neg (by omega)] at hV
      rw [if_pos k2] at hW
      simp only [Prod.mk.injEq] at hA hB hS hV hW
      obtain ⟨rfl, rfl⟩ := hV
      refine widths_outb a b c d _ _ 0 eb sl sh g tl th g2 ul uh i w ?_ ?_ ?_ ?_ wa wb ad ad2 su
      · rw [← hW.2]; simpa using k2
      · rw [← hA.2.2]; simpa using hb
      · rw [← hB.2.2]; simpa using hb2
      · rw [← hS.2.2]; simpa using hb
  · have hb : ¬ Sp.both a b c d = 0 := fun h => k1 (Sp.both_zero.1 h).1
    have hb2 : ¬ Sp.both c d a b = 0 := fun h => k1 (Sp.both_zero.1 h).2
    unfold Sp.addS at hA hB
    unfold Sp.subS at hS
    unfold Sp.widthS at hV
    rw [if_pos hb] at hA hS
    rw [if_pos hb2] at hB
    rw [if_pos k1] at hV
    simp only [Prod.mk.injEq] at hA hB hS hV
    refine widths_outa a b c d _ _ ea eb sl sh g tl th g2 ul uh i w ?_ ?_ ?_ ?_ wa wb ad ad2 su
    · rw [← hV.2]; simpa using k1
    · rw [← hA.2.2]; simpa using hb
    · rw [← hB.2.2]; simpa using hb2
    · rw [← hS.2.2]; simpa using hb
end Go.Proofs.Ytnphibbhcogdkaa
