/-
  IntervalScales: the walk.
-/
import Derived.Test.YtnphibbhcogdkaaIscales
namespace Go.Proofs.Ytnphibbhcogdkaa
open Go.RowKit
set_option linter.unusedVariables false
set_option linter.unusedSimpArgs false

set_option maxRecDepth 100000 in
set_option maxHeartbeats 4000000 in
theorem scales_walk (a b n d sl sh se tl th te : Int) (w : World)
    (sc : ∀ w : World, Calls Try.prog 56 #[.agg #[.int .i64 a, .int .i64 b], .agg #[.int .i64 n, .int .i64 d]] w (Gives (.tuple #[.agg #[.int .i64 sl, .int .i64 sh], .int .i64 se]) w))
    (sc2 : ∀ w : World, Calls Try.prog 57 #[.agg #[.int .i64 a, .int .i64 b], .agg #[.int .i64 n, .int .i64 d]] w (Gives (.tuple #[.agg #[.int .i64 sl, .int .i64 sh], .int .i64 se]) w))
    (ff : ∀ w : World, Calls Try.prog 58 #[.agg #[.int .i64 n, .int .i64 d]] w (Gives (.tuple #[.agg #[.int .i64 tl, .int .i64 th], .int .i64 te]) w))
    (ff2 : ∀ w : World, Calls Try.prog 59 #[.agg #[.int .i64 n, .int .i64 d]] w (Gives (.tuple #[.agg #[.int .i64 tl, .int .i64 th], .int .i64 te]) w)) :
    Calls Try.prog 9 #[.agg #[.int .i64 a, .int .i64 b], .agg #[.int .i64 n, .int .i64 d]] w (Gives (.bool true) w) := by
  go_enter Try.func9, Try.ntmps9
  go_wp2_with fail
  refine (sc _).mono ?_; rintro e u1 ⟨rfl, hb⟩
  have BN : Below w.heap.size w u1 := by repeat' (first | (with_reducible exact Below.refl _ _) | (with_reducible refine Below.alloc ?_ ?_ _) | (with_reducible refine Below.setCell ?_ ?_ _) | (with_reducible refine Below.drew ?_) | (with_reducible refine Below.trans ?_ (Below.mono (by assumption) ?_)) | (simp; done) | (simp; omega) | omega)
  have pabz : w.heap.size < (u1).heap.size := Nat.lt_of_lt_of_le (show w.heap.size < _ from (by first | assumption | (simp; done) | (simp; omega) | (dsimp only; omega) | omega)) hb.size; have pab0 : (u1).cell? ⟨w.heap.size, 0, none⟩ = some (.int .i64 (a)) := (hb.cell (p := ⟨w.heap.size, 0, none⟩) (by first | assumption | (simp; done) | (simp; omega) | (dsimp only; omega) | omega)).trans (by first | assumption | (simp [go_sem]; done) | (simp [go_sem, *]; done)); have pab1 : (u1).cell? ⟨w.heap.size, 1, none⟩ = some (.int .i64 (b)) := (hb.cell (p := ⟨w.heap.size, 1, none⟩) (by first | assumption | (simp; done) | (simp; omega) | (dsimp only; omega) | omega)).trans (by first | assumption | (simp [go_sem]; done) | (simp [go_sem, *]; done))
  have pbbz : w.heap.size + 1 < (u1).heap.size := Nat.lt_of_lt_of_le (show w.heap.size + 1 < _ from (by first | assumption | (simp; done) | (simp; omega) | (dsimp only; omega) | omega)) hb.size; have pbb0 : (u1).cell? ⟨w.heap.size + 1, 0, none⟩ = some (.int .i64 (n)) := (hb.cell (p := ⟨w.heap.size + 1, 0, none⟩) (by first | assumption | (simp; done) | (simp; omega) | (dsimp only; omega) | omega)).trans (by first | assumption | (simp [go_sem]; done) | (simp [go_sem, *]; done)); have pbb1 : (u1).cell? ⟨w.heap.size + 1, 1, none⟩ = some (.int .i64 (d)) := (hb.cell (p := ⟨w.heap.size + 1, 1, none⟩) (by first | assumption | (simp; done) | (simp; omega) | (dsimp only; omega) | omega)).trans (by first | assumption | (simp [go_sem]; done) | (simp [go_sem, *]; done))
  have BH := hid BN
  have hsz := BN.size
  clear BN hb
  go_wp2_with fail
  refine (sc2 _).mono ?_; rintro e u2 ⟨rfl, hb⟩
  have BB := BH.out
  have BN : Below w.heap.size w u2 := by repeat' (first | (with_reducible exact Below.refl _ _) | (with_reducible refine Below.alloc ?_ ?_ _) | (with_reducible refine Below.setCell ?_ ?_ _) | (with_reducible refine Below.drew ?_) | (with_reducible refine Below.trans ?_ (Below.mono (by assumption) ?_)) | (simp; done) | (simp; omega) | omega)
  have paaz : w.heap.size < (u2).heap.size := Nat.lt_of_lt_of_le (show w.heap.size < _ from (by first | assumption | (simp; done) | (simp; omega) | (dsimp only; omega) | omega)) hb.size; have paa0 : (u2).cell? ⟨w.heap.size, 0, none⟩ = some (.int .i64 (a)) := (hb.cell (p := ⟨w.heap.size, 0, none⟩) (by first | assumption | (simp; done) | (simp; omega) | (dsimp only; omega) | omega)).trans (by first | assumption | (simp [go_sem]; done) | (simp [go_sem, *]; done)); have paa1 : (u2).cell? ⟨w.heap.size, 1, none⟩ = some (.int .i64 (b)) := (hb.cell (p := ⟨w.heap.size, 1, none⟩) (by first | assumption | (simp; done) | (simp; omega) | (dsimp only; omega) | omega)).trans (by first | assumption | (simp [go_sem]; done) | (simp [go_sem, *]; done))
  have pbaz : w.heap.size + 1 < (u2).heap.size := Nat.lt_of_lt_of_le (show w.heap.size + 1 < _ from (by first | assumption | (simp; done) | (simp; omega) | (dsimp only; omega) | omega)) hb.size; have pba0 : (u2).cell? ⟨w.heap.size + 1, 0, none⟩ = some (.int .i64 (n)) := (hb.cell (p := ⟨w.heap.size + 1, 0, none⟩) (by first | assumption | (simp; done) | (simp; omega) | (dsimp only; omega) | omega)).trans (by first | assumption | (simp [go_sem]; done) | (simp [go_sem, *]; done)); have pba1 : (u2).cell? ⟨w.heap.size + 1, 1, none⟩ = some (.int .i64 (d)) := (hb.cell (p := ⟨w.heap.size + 1, 1, none⟩) (by first | assumption | (simp; done) | (simp; omega) | (dsimp only; omega) | omega)).trans (by first | assumption | (simp [go_sem]; done) | (simp [go_sem, *]; done))
  have bsaz : u1.heap.size < (u2).heap.size := Nat.lt_of_lt_of_le (show u1.heap.size < _ from (by first | assumption | (simp; done) | (simp; omega) | (dsimp only; omega) | omega)) hb.size; have bsa0 : (u2).cell? ⟨u1.heap.size, 0, none⟩ = some (.int .i64 (sl)) := (hb.cell (p := ⟨u1.heap.size, 0, none⟩) (by first | assumption | (simp; done) | (simp; omega) | (dsimp only; omega) | omega)).trans (by first | assumption | (simp [go_sem]; done) | (simp [go_sem, *]; done)); have bsa1 : (u2).cell? ⟨u1.heap.size, 1, none⟩ = some (.int .i64 (sh)) := (hb.cell (p := ⟨u1.heap.size, 1, none⟩) (by first | assumption | (simp; done) | (simp; omega) | (dsimp only; omega) | omega)).trans (by first | assumption | (simp [go_sem]; done) | (simp [go_sem, *]; done))
  clear BB BH hsz
  clear pabz pab0 pab1 pbbz pbb0 pbb1
  have BH := hid BN
  have hsz := BN.size
  clear BN hb
  clear paaz paa0 paa1
  go_wp2_with fail
  refine (ff _).mono ?_; rintro e u3 ⟨rfl, hb⟩
  have BB := BH.out
  have BN : Below w.heap.size w u3 := by repeat' (first | (with_reducible exact Below.refl _ _) | (with_reducible refine Below.alloc ?_ ?_ _) | (with_reducible refine Below.setCell ?_ ?_ _) | (with_reducible refine Below.drew ?_) | (with_reducible refine Below.trans ?_ (Below.mono (by assumption) ?_)) | (simp; done) | (simp; omega) | omega)
  have pbbz : w.heap.size + 1 < (u3).heap.size := Nat.lt_of_lt_of_le (show w.heap.size + 1 < _ from (by first | assumption | (simp; done) | (simp; omega) | (dsimp only; omega) | omega)) hb.size; have pbb0 : (u3).cell? ⟨w.heap.size + 1, 0, none⟩ = some (.int .i64 (n)) := (hb.cell (p := ⟨w.heap.size + 1, 0, none⟩) (by first | assumption | (simp; done) | (simp; omega) | (dsimp only; omega) | omega)).trans (by first | assumption | (simp [go_sem]; done) | (simp [go_sem, *]; done)); have pbb1 : (u3).cell? ⟨w.heap.size + 1, 1, none⟩ = some (.int .i64 (d)) := (hb.cell (p := ⟨w.heap.size + 1, 1, none⟩) (by first | assumption | (simp; done) | (simp; omega) | (dsimp only; omega) | omega)).trans (by first | assumption | (simp [go_sem]; done) | (simp [go_sem, *]; done))
  have bsbz : u1.heap.size < (u3).heap.size := Nat.lt_of_lt_of_le (show u1.heap.size < _ from (by first | assumption | (simp; done) | (simp; omega) | (dsimp only; omega) | omega)) hb.size; have bsb0 : (u3).cell? ⟨u1.heap.size, 0, none⟩ = some (.int .i64 (sl)) := (hb.cell (p := ⟨u1.heap.size, 0, none⟩) (by first | assumption | (simp; done) | (simp; omega) | (dsimp only; omega) | omega)).trans (by first | assumption | (simp [go_sem]; done) | (simp [go_sem, *]; done)); have bsb1 : (u3).cell? ⟨u1.heap.size, 1, none⟩ = some (.int .i64 (sh)) := (hb.cell (p := ⟨u1.heap.size, 1, none⟩) (by first | assumption | (simp; done) | (simp; omega) | (dsimp only; omega) | omega)).trans (by first | assumption | (simp [go_sem]; done) | (simp [go_sem, *]; done))
  have btbz : u2.heap.size < (u3).heap.size := Nat.lt_of_lt_of_le (show u2.heap.size < _ from (by first | assumption | (simp; done) | (simp; omega) | (dsimp only; omega) | omega)) hb.size; have btb0 : (u3).cell? ⟨u2.heap.size, 0, none⟩ = some (.int .i64 (sl)) := (hb.cell (p := ⟨u2.heap.size, 0, none⟩) (by first | assumption | (simp; done) | (simp; omega) | (dsimp only; omega) | omega)).trans (by first | assumption | (simp [go_sem]; done) | (simp [go_sem, *]; done)); have btb1 : (u3).cell? ⟨u2.heap.size, 1, none⟩ = some (.int .i64 (sh)) := (hb.cell (p := ⟨u2.heap.size, 1, none⟩) (by first | assumption | (simp; done) | (simp; omega) | (dsimp only; omega) | omega)).trans (by first | assumption | (simp [go_sem]; done) | (simp [go_sem, *]; done))
  clear BB BH hsz
  clear pbaz pba0 pba1 bsaz bsa0 bsa1
  have BH := hid BN
  have hsz := BN.size
  clear BN hb
  go_wp2_with fail
  refine (ff2 _).mono ?_; rintro e u4 ⟨rfl, hb⟩
  have BB := BH.out
  have BN : Below w.heap.size w u4 := by repeat' (first | (with_reducible exact Below.refl _ _) | (with_reducible refine Below.alloc ?_ ?_ _) | (with_reducible refine Below.setCell ?_ ?_ _) | (with_reducible refine Below.drew ?_) | (with_reducible refine Below.trans ?_ (Below.mono (by assumption) ?_)) | (simp; done) | (simp; omega) | omega)
  have pbaz : w.heap.size + 1 < (u4).heap.size := Nat.lt_of_lt_of_le (show w.heap.size + 1 < _ from (by first | assumption | (simp; done) | (simp; omega) | (dsimp only; omega) | omega)) hb.size; have pba0 : (u4).cell? ⟨w.heap.size + 1, 0, none⟩ = some (.int .i64 (n)) := (hb.cell (p := ⟨w.heap.size + 1, 0, none⟩) (by first | assumption | (simp; done) | (simp; omega) | (dsimp only; omega) | omega)).trans (by first | assumption | (simp [go_sem]; done) | (simp [go_sem, *]; done)); have pba1 : (u4).cell? ⟨w.heap.size + 1, 1, none⟩ = some (.int .i64 (d)) := (hb.cell (p := ⟨w.heap.size + 1, 1, none⟩) (by first | assumption | (simp; done) | (simp; omega) | (dsimp only; omega) | omega)).trans (by first | assumption | (simp [go_sem]; done) | (simp [go_sem, *]; done))
  have bsaz : u1.heap.size < (u4).heap.size := Nat.lt_of_lt_of_le (show u1.heap.size < _ from (by first | assumption | (simp; done) | (simp; omega) | (dsimp only; omega) | omega)) hb.size; have bsa0 : (u4).cell? ⟨u1.heap.size, 0, none⟩ = some (.int .i64 (sl)) := (hb.cell (p := ⟨u1.heap.size, 0, none⟩) (by first | assumption | (simp; done) | (simp; omega) | (dsimp only; omega) | omega)).trans (by first | assumption | (simp [go_sem]; done) | (simp [go_sem, *]; done)); have bsa1 : (u4).cell? ⟨u1.heap.size, 1, none⟩ = some (.int .i64 (sh)) := (hb.cell (p := ⟨u1.heap.size, 1, none⟩) (by first | assumption | (simp; done) | (simp; omega) | (dsimp only; omega) | omega)).trans (by first | assumption | (simp [go_sem]; done) | (simp [go_sem, *]; done))
  have btaz : u2.heap.size < (u4).heap.size := Nat.lt_of_lt_of_le (show u2.heap.size < _ from (by first | assumption | (simp; done) | (simp; omega) | (dsimp only; omega) | omega)) hb.size; have bta0 : (u4).cell? ⟨u2.heap.size, 0, none⟩ = some (.int .i64 (sl)) := (hb.cell (p := ⟨u2.heap.size, 0, none⟩) (by first | assumption | (simp; done) | (simp; omega) | (dsimp only; omega) | omega)).trans (by first | assumption | (simp [go_sem]; done) | (simp [go_sem, *]; done)); have bta1 : (u4).cell? ⟨u2.heap.size, 1, none⟩ = some (.int .i64 (sh)) := (hb.cell (p := ⟨u2.heap.size, 1, none⟩) (by first | assumption | (simp; done) | (simp; omega) | (dsimp only; omega) | omega)).trans (by first | assumption | (simp [go_sem]; done) | (simp [go_sem, *]; done))
  have buaz : u3.heap.size < (u4).heap.size := Nat.lt_of_lt_of_le (show u3.heap.size < _ from (by first | assumption | (simp; done) | (simp; omega) | (dsimp only; omega) | omega)) hb.size; have bua0 : (u4).cell? ⟨u3.heap.size, 0, none⟩ = some (.int .i64 (tl)) := (hb.cell (p := ⟨u3.heap.size, 0, none⟩) (by first | assumption | (simp; done) | (simp; omega) | (dsimp only; omega) | omega)).trans (by first | assumption | (simp [go_sem]; done) | (simp [go_sem, *]; done)); have bua1 : (u4).cell? ⟨u3.heap.size, 1, none⟩ = some (.int .i64 (th)) := (hb.cell (p := ⟨u3.heap.size, 1, none⟩) (by first | assumption | (simp; done) | (simp; omega) | (dsimp only; omega) | omega)).trans (by first | assumption | (simp [go_sem]; done) | (simp [go_sem, *]; done))
  clear BB BH hsz
  clear pbbz pbb0 pbb1 bsbz bsb0 bsb1 btbz btb0 btb1
  have BH := hid BN
  have hsz := BN.size
  clear BN hb
  clear pbaz pba0 pba1
  go_wp2_with fail
  refine (iawake_any _).mono ?_; rintro e u5 ⟨rfl, hb⟩
  have BB := BH.out
  go_wp2_with fail
  go_ret
  exact Gives.mk rfl (by repeat' (first | (with_reducible exact Below.refl _ _) | (with_reducible refine Below.alloc ?_ ?_ _) | (with_reducible refine Below.setCell ?_ ?_ _) | (with_reducible refine Below.drew ?_) | (with_reducible refine Below.trans ?_ (Below.mono (by assumption) ?_)) | (simp; done) | (simp; omega) | omega))
theorem scales_any (a b n d : Int) (a0 : -9223372036854775808 ≤ a) (a1 : a ≤ 9223372036854775807) (b0 : -9223372036854775808 ≤ b) (b1 : b ≤ 9223372036854775807) (n0 : -9223372036854775808 ≤ n) (n1 : n ≤ 9223372036854775807) (d0 : -9223372036854775808 ≤ d) (d1 : d ≤ 9223372036854775807) (w : World) :
    Calls Try.prog 9 #[.agg #[.int .i64 a, .int .i64 b], .agg #[.int .i64 n, .int .i64 d]] w (Gives (.bool true) w) := by
  obtain ⟨⟨sl, sh, se⟩, hS⟩ : ∃ r, Sp.scaleS a b n d = r := ⟨_, rfl⟩
  obtain ⟨⟨tl, th, te⟩, hF⟩ : ∃ r, Sp.ffS n d = r := ⟨_, rfl⟩
  exact scales_walk a b n d sl sh se tl th te w (fun w => iscale_any a b n d sl sh se n0 n1 d0 d1 hS w) (fun w => rscale_any a b n d sl sh se n0 n1 d0 d1 hS w) (fun w => iff_any n d tl th te n0 n1 d0 d1 hF w) (fun w => rff_any n d tl th te n0 n1 d0 d1 hF w)
end Go.Proofs.Ytnphibbhcogdkaa
