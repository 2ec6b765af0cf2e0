/-
  IntervalSums: the walk.
-/
import Derived.Test.YtnphibbhcogdkaaIawake
import Derived.Test.YtnphibbhcogdkaaIref2
namespace Go.Proofs.Ytnphibbhcogdkaa
open Go.RowKit
set_option linter.unusedVariables false
set_option linter.unusedSimpArgs false

/-- Both checks agree, and the arguments' boxes lie as they lay. -/
def SumsRel (w : World) (a b c d : Int) (v : Value) (wx : World) : Prop :=
  v = .bool false ∧ (w.heap.size < wx.heap.size ∧ wx.cell? ⟨w.heap.size, 0, none⟩ = some (.int .i64 a) ∧ wx.cell? ⟨w.heap.size, 1, none⟩ = some (.int .i64 b)) ∧ (w.heap.size + 1 < wx.heap.size ∧ wx.cell? ⟨w.heap.size + 1, 0, none⟩ = some (.int .i64 c) ∧ wx.cell? ⟨w.heap.size + 1, 1, none⟩ = some (.int .i64 d)) ∧ Below w.heap.size w wx
set_option maxRecDepth 100000 in
set_option maxHeartbeats 4000000 in
theorem sums_walk (a b c d k sl sh se ul uh ue nl nh ne v ve : Int) (w : World)
    (k1 : ∀ w : World, Calls Try.prog 45 #[.agg #[.int .i64 a, .int .i64 b]] w fun e w' => e = .returned (.int .i64 k) ∧ w' = w.alloc (Obj.cells #[.int .i64 a, .int .i64 b] 49))
    (k2 : ∀ w : World, Calls Try.prog 46 #[.agg #[.int .i64 a, .int .i64 b]] w fun e w' => e = .returned (.int .i64 k) ∧ w' = w.alloc (Obj.cells #[.int .i64 a, .int .i64 b] 49))
    (ad : ∀ w : World, Calls Try.prog 47 #[.agg #[.int .i64 a, .int .i64 b], .agg #[.int .i64 c, .int .i64 d]] w (Gives (.tuple #[.agg #[.int .i64 sl, .int .i64 sh], .int .i64 se]) w))
    (ad2 : ∀ w : World, Calls Try.prog 48 #[.agg #[.int .i64 a, .int .i64 b], .agg #[.int .i64 c, .int .i64 d]] w (Gives (.tuple #[.agg #[.int .i64 sl, .int .i64 sh], .int .i64 se]) w))
    (su : ∀ w : World, Calls Try.prog 49 #[.agg #[.int .i64 a, .int .i64 b], .agg #[.int .i64 c, .int .i64 d]] w (Gives (.tuple #[.agg #[.int .i64 ul, .int .i64 uh], .int .i64 ue]) w))
    (su2 : ∀ w : World, Calls Try.prog 50 #[.agg #[.int .i64 a, .int .i64 b], .agg #[.int .i64 c, .int .i64 d]] w (Gives (.tuple #[.agg #[.int .i64 ul, .int .i64 uh], .int .i64 ue]) w))
    (ng : ∀ w : World, Calls Try.prog 51 #[.agg #[.int .i64 a, .int .i64 b]] w (Gives (.tuple #[.agg #[.int .i64 nl, .int .i64 nh], .int .i64 ne]) w))
    (ng2 : ∀ w : World, Calls Try.prog 52 #[.agg #[.int .i64 a, .int .i64 b]] w (Gives (.tuple #[.agg #[.int .i64 nl, .int .i64 nh], .int .i64 ne]) w))
    (wi : ∀ w : World, Calls Try.prog 53 #[.agg #[.int .i64 a, .int .i64 b]] w (Gives (.tuple #[.int .i64 v, .int .i64 ve]) w))
    (wi2 : ∀ w : World, Calls Try.prog 54 #[.agg #[.int .i64 a, .int .i64 b]] w (Gives (.tuple #[.int .i64 v, .int .i64 ve]) w)) :
    Calls Try.prog 8 #[.agg #[.int .i64 a, .int .i64 b], .agg #[.int .i64 c, .int .i64 d]] w (Gives (.bool true) w) := by
  go_enter Try.func8, Try.ntmps8
  go_wp2_with fail
  go_cut [17] (fun v wx => SumsRel w a b c d v wx)
  case first =>
    have K : Hid (∀ W', Below (w.heap.size + 1 + 1) ((w.alloc (Obj.cells #[.int .i64 a, .int .i64 b] 49)).alloc (Obj.cells #[.int .i64 c, .int .i64 d] 49)) W' → (Below (w.heap.size + 1 + 1) ((w.alloc (Obj.cells #[.int .i64 a, .int .i64 b] 49)).alloc (Obj.cells #[.int .i64 c, .int .i64 d] 49)) W' ∧ W'.cell? ⟨w.heap.size, 0, none⟩ = some (.int .i64 a) ∧ W'.cell? ⟨w.heap.size, 1, none⟩ = some (.int .i64 b))) := hid fun W' B =>
      ⟨B, (B.cell (p := ⟨w.heap.size, 0, none⟩) (by simp; omega)).trans (by simp [go_sem]), (B.cell (p := ⟨w.heap.size, 1, none⟩) (by simp; omega)).trans (by simp [go_sem])⟩
    have z2 : w.heap.size < w.heap.size + 1 + 1 := by omega
    have z3 : w.heap.size < w.heap.size + 1 + 1 + 1 := by omega
    have z4 : w.heap.size < w.heap.size + 1 + 1 + 1 + 1 := by omega
    have y3 : w.heap.size + 1 < w.heap.size + 1 + 1 + 1 := by omega
    have y4 : w.heap.size + 1 < w.heap.size + 1 + 1 + 1 + 1 := by omega
    go_region_held3 (fun w' => Below (w.heap.size + 1 + 1) ((w.alloc (Obj.cells #[.int .i64 a, .int .i64 b] 49)).alloc (Obj.cells #[.int .i64 c, .int .i64 d] 49)) w' ∧ w'.cell? ⟨w.heap.size, 0, none⟩ = some (.int .i64 a) ∧ w'.cell? ⟨w.heap.size, 1, none⟩ = some (.int .i64 b)) ((exact K.out _ (by repeat' (first | (with_reducible exact Below.refl _ _) | (with_reducible refine Below.alloc ?_ ?_ _) | (with_reducible refine Below.setCell ?_ ?_ _) | (with_reducible refine Below.drew ?_) | (with_reducible refine Below.trans ?_ (Below.mono (by assumption) ?_)) | (simp; done) | (simp; omega) | omega))))
      (first | (go_at_call 45; refine (k1 _).mono ?_; rintro e w5 ⟨rfl, rfl⟩) | (go_at_call 46; refine (k2 _).mono ?_; rintro e w5 ⟨rfl, rfl⟩))
    all_goals
      go_wp2_with fail
      go_meet
      refine ⟨rfl, ⟨?_, ?_, ?_⟩, ⟨?_, ?_, ?_⟩, by repeat' (first | (with_reducible exact Below.refl _ _) | (with_reducible refine Below.alloc ?_ ?_ _) | (with_reducible refine Below.setCell ?_ ?_ _) | (with_reducible refine Below.drew ?_) | (with_reducible refine Below.trans ?_ (Below.mono (by assumption) ?_)) | (simp; done) | (simp; omega) | omega)⟩
      all_goals first | omega | (simp; done) | (simp; omega) | (simp [go_sem, z2, z3, z4, y3, y4]; done)
  case rest =>
    obtain ⟨rfl, ⟨paaz, paa0, paa1⟩, ⟨pbaz, pba0, pba1⟩, hBw⟩ := hcut
    have BH := hid hBw
    have hsz := hBw.size
    clear hBw k1 k2
    go_wp2_with fail
    refine (ad _).mono ?_; rintro e u1 ⟨rfl, hb⟩
    have BB := BH.out
    have BN : Below w.heap.size w u1 := by repeat' (first | (with_reducible exact Below.refl _ _) | (with_reducible refine Below.alloc ?_ ?_ _) | (with_reducible refine Below.setCell ?_ ?_ _) | (with_reducible refine Below.drew ?_) | (with_reducible refine Below.trans ?_ (Below.mono (by assumption) ?_)) | (simp; done) | (simp; omega) | omega)
    have pabz : w.heap.size < (u1).heap.size := Nat.lt_of_lt_of_le (show w.heap.size < _ from (by first | assumption | (simp; done) | (simp; omega) | (dsimp only; omega) | omega)) hb.size; have pab0 : (u1).cell? ⟨w.heap.size, 0, none⟩ = some (.int .i64 (a)) := (hb.cell (p := ⟨w.heap.size, 0, none⟩) (by first | assumption | (simp; done) | (simp; omega) | (dsimp only; omega) | omega)).trans (by first | assumption | (simp [go_sem]; done) | (simp [go_sem, *]; done)); have pab1 : (u1).cell? ⟨w.heap.size, 1, none⟩ = some (.int .i64 (b)) := (hb.cell (p := ⟨w.heap.size, 1, none⟩) (by first | assumption | (simp; done) | (simp; omega) | (dsimp only; omega) | omega)).trans (by first | assumption | (simp [go_sem]; done) | (simp [go_sem, *]; done))
    have pbbz : w.heap.size + 1 < (u1).heap.size := Nat.lt_of_lt_of_le (show w.heap.size + 1 < _ from (by first | assumption | (simp; done) | (simp; omega) | (dsimp only; omega) | omega)) hb.size; have pbb0 : (u1).cell? ⟨w.heap.size + 1, 0, none⟩ = some (.int .i64 (c)) := (hb.cell (p := ⟨w.heap.size + 1, 0, none⟩) (by first | assumption | (simp; done) | (simp; omega) | (dsimp only; omega) | omega)).trans (by first | assumption | (simp [go_sem]; done) | (simp [go_sem, *]; done)); have pbb1 : (u1).cell? ⟨w.heap.size + 1, 1, none⟩ = some (.int .i64 (d)) := (hb.cell (p := ⟨w.heap.size + 1, 1, none⟩) (by first | assumption | (simp; done) | (simp; omega) | (dsimp only; omega) | omega)).trans (by first | assumption | (simp [go_sem]; done) | (simp [go_sem, *]; done))
    clear BB BH hsz
    clear paaz paa0 paa1 pbaz pba0 pba1
    have BH := hid BN
    have hsz := BN.size
    clear BN hb
    have npat5 : ¬ w.heap.size = u1.heap.size := by omega
    have mpat5 : ¬ u1.heap.size = w.heap.size := by omega
    have npbt5 : ¬ w.heap.size + 1 = u1.heap.size := by omega
    have mpbt5 : ¬ u1.heap.size = w.heap.size + 1 := by omega
    have gt5 : w.heap.size ≤ u1.heap.size := by omega
    go_wp2_with fail
    refine (ad2 _).mono ?_; rintro e u2 ⟨rfl, hb⟩
    have BB := BH.out
    have BN : Below w.heap.size w u2 := by repeat' (first | (with_reducible exact Below.refl _ _) | (with_reducible refine Below.alloc ?_ ?_ _) | (with_reducible refine Below.setCell ?_ ?_ _) | (with_reducible refine Below.drew ?_) | (with_reducible refine Below.trans ?_ (Below.mono (by assumption) ?_)) | (simp; done) | (simp; omega) | omega)
    have paaz : w.heap.size < (u2).heap.size := Nat.lt_of_lt_of_le (show w.heap.size < _ from (by first | assumption | (simp; done) | (simp; omega) | (dsimp only; omega) | omega)) hb.size; have paa0 : (u2).cell? ⟨w.heap.size, 0, none⟩ = some (.int .i64 (a)) := (hb.cell (p := ⟨w.heap.size, 0, none⟩) (by first | assumption | (simp; done) | (simp; omega) | (dsimp only; omega) | omega)).trans (by first | assumption | (simp [go_sem]; done) | (simp [go_sem, *]; done)); have paa1 : (u2).cell? ⟨w.heap.size, 1, none⟩ = some (.int .i64 (b)) := (hb.cell (p := ⟨w.heap.size, 1, none⟩) (by first | assumption | (simp; done) | (simp; omega) | (dsimp only; omega) | omega)).trans (by first | assumption | (simp [go_sem]; done) | (simp [go_sem, *]; done))
    have pbaz : w.heap.size + 1 < (u2).heap.size := Nat.lt_of_lt_of_le (show w.heap.size + 1 < _ from (by first | assumption | (simp; done) | (simp; omega) | (dsimp only; omega) | omega)) hb.size; have pba0 : (u2).cell? ⟨w.heap.size + 1, 0, none⟩ = some (.int .i64 (c)) := (hb.cell (p := ⟨w.heap.size + 1, 0, none⟩) (by first | assumption | (simp; done) | (simp; omega) | (dsimp only; omega) | omega)).trans (by first | assumption | (simp [go_sem]; done) | (simp [go_sem, *]; done)); have pba1 : (u2).cell? ⟨w.heap.size + 1, 1, none⟩ = some (.int .i64 (d)) := (hb.cell (p := ⟨w.heap.size + 1, 1, none⟩) (by first | assumption | (simp; done) | (simp; omega) | (dsimp only; omega) | omega)).trans (by first | assumption | (simp [go_sem]; done) | (simp [go_sem, *]; done))
    have t5az : u1.heap.size < (u2).heap.size := Nat.lt_of_lt_of_le (show u1.heap.size < _ from (by first | assumption | (simp; done) | (simp; omega) | (dsimp only; omega) | omega)) hb.size; have t5a0 : (u2).cell? ⟨u1.heap.size, 0, none⟩ = some (.int .i64 (sl)) := (hb.cell (p := ⟨u1.heap.size, 0, none⟩) (by first | assumption | (simp; done) | (simp; omega) | (dsimp only; omega) | omega)).trans (by first | assumption | (simp [go_sem]; done) | (simp [go_sem, *]; done)); have t5a1 : (u2).cell? ⟨u1.heap.size, 1, none⟩ = some (.int .i64 (sh)) := (hb.cell (p := ⟨u1.heap.size, 1, none⟩) (by first | assumption | (simp; done) | (simp; omega) | (dsimp only; omega) | omega)).trans (by first | assumption | (simp [go_sem]; done) | (simp [go_sem, *]; done)); have t5af : ∀ o, (u2).frozen? ⟨u1.heap.size, o, none⟩ = false := fun o => (hb.frozen (p := ⟨u1.heap.size, o, none⟩) (by first | assumption | (simp; done) | (simp; omega) | (dsimp only; omega) | omega)).trans (by first | (simp [go_sem]; done) | (simp [go_sem, *]; done))
    clear BB BH hsz
    clear pabz pab0 pab1 pbbz pbb0 pbb1
    have BH := hid BN
    have hsz := BN.size
    clear BN hb
    have npat7 : ¬ w.heap.size = u2.heap.size := by omega
    have mpat7 : ¬ u2.heap.size = w.heap.size := by omega
    have npbt7 : ¬ w.heap.size + 1 = u2.heap.size := by omega
    have mpbt7 : ¬ u2.heap.size = w.heap.size + 1 := by omega
    have nt5t7 : ¬ u1.heap.size = u2.heap.size := by omega
    have mt5t7 : ¬ u2.heap.size = u1.heap.size := by omega
    have gt7 : w.heap.size ≤ u2.heap.size := by omega
    go_wp2_with fail
    refine (su _).mono ?_; rintro e u3 ⟨rfl, hb⟩
    have BB := BH.out
    have BN : Below w.heap.size w u3 := by repeat' (first | (with_reducible exact Below.refl _ _) | (with_reducible refine Below.alloc ?_ ?_ _) | (with_reducible refine Below.setCell ?_ ?_ _) | (with_reducible refine Below.drew ?_) | (with_reducible refine Below.trans ?_ (Below.mono (by assumption) ?_)) | (simp; done) | (simp; omega) | omega)
    have pabz : w.heap.size < (u3).heap.size := Nat.lt_of_lt_of_le (show w.heap.size < _ from (by first | assumption | (simp; done) | (simp; omega) | (dsimp only; omega) | omega)) hb.size; have pab0 : (u3).cell? ⟨w.heap.size, 0, none⟩ = some (.int .i64 (a)) := (hb.cell (p := ⟨w.heap.size, 0, none⟩) (by first | assumption | (simp; done) | (simp; omega) | (dsimp only; omega) | omega)).trans (by first | assumption | (simp [go_sem]; done) | (simp [go_sem, *]; done)); have pab1 : (u3).cell? ⟨w.heap.size, 1, none⟩ = some (.int .i64 (b)) := (hb.cell (p := ⟨w.heap.size, 1, none⟩) (by first | assumption | (simp; done) | (simp; omega) | (dsimp only; omega) | omega)).trans (by first | assumption | (simp [go_sem]; done) | (simp [go_sem, *]; done))
    have pbbz : w.heap.size + 1 < (u3).heap.size := Nat.lt_of_lt_of_le (show w.heap.size + 1 < _ from (by first | assumption | (simp; done) | (simp; omega) | (dsimp only; omega) | omega)) hb.size; have pbb0 : (u3).cell? ⟨w.heap.size + 1, 0, none⟩ = some (.int .i64 (c)) := (hb.cell (p := ⟨w.heap.size + 1, 0, none⟩) (by first | assumption | (simp; done) | (simp; omega) | (dsimp only; omega) | omega)).trans (by first | assumption | (simp [go_sem]; done) | (simp [go_sem, *]; done)); have pbb1 : (u3).cell? ⟨w.heap.size + 1, 1, none⟩ = some (.int .i64 (d)) := (hb.cell (p := ⟨w.heap.size + 1, 1, none⟩) (by first | assumption | (simp; done) | (simp; omega) | (dsimp only; omega) | omega)).trans (by first | assumption | (simp [go_sem]; done) | (simp [go_sem, *]; done))
    have t5bz : u1.heap.size < (u3).heap.size := Nat.lt_of_lt_of_le (show u1.heap.size < _ from (by first | assumption | (simp; done) | (simp; omega) | (dsimp only; omega) | omega)) hb.size; have t5b0 : (u3).cell? ⟨u1.heap.size, 0, none⟩ = some (.int .i64 (sl)) := (hb.cell (p := ⟨u1.heap.size, 0, none⟩) (by first | assumption | (simp; done) | (simp; omega) | (dsimp only; omega) | omega)).trans (by first | assumption | (simp [go_sem]; done) | (simp [go_sem, *]; done)); have t5b1 : (u3).cell? ⟨u1.heap.size, 1, none⟩ = some (.int .i64 (sh)) := (hb.cell (p := ⟨u1.heap.size, 1, none⟩) (by first | assumption | (simp; done) | (simp; omega) | (dsimp only; omega) | omega)).trans (by first | assumption | (simp [go_sem]; done) | (simp [go_sem, *]; done)); have t5bf : ∀ o, (u3).frozen? ⟨u1.heap.size, o, none⟩ = false := fun o => (hb.frozen (p := ⟨u1.heap.size, o, none⟩) (by first | assumption | (simp; done) | (simp; omega) | (dsimp only; omega) | omega)).trans (by first | (simp [go_sem]; done) | (simp [go_sem, *]; done))
    have t7bz : u2.heap.size < (u3).heap.size := Nat.lt_of_lt_of_le (show u2.heap.size < _ from (by first | assumption | (simp; done) | (simp; omega) | (dsimp only; omega) | omega)) hb.size; have t7b0 : (u3).cell? ⟨u2.heap.size, 0, none⟩ = some (.int .i64 (sl)) := (hb.cell (p := ⟨u2.heap.size, 0, none⟩) (by first | assumption | (simp; done) | (simp; omega) | (dsimp only; omega) | omega)).trans (by first | assumption | (simp [go_sem]; done) | (simp [go_sem, *]; done)); have t7b1 : (u3).cell? ⟨u2.heap.size, 1, none⟩ = some (.int .i64 (sh)) := (hb.cell (p := ⟨u2.heap.size, 1, none⟩) (by first | assumption | (simp; done) | (simp; omega) | (dsimp only; omega) | omega)).trans (by first | assumption | (simp [go_sem]; done) | (simp [go_sem, *]; done)); have t7bf : ∀ o, (u3).frozen? ⟨u2.heap.size, o, none⟩ = false := fun o => (hb.frozen (p := ⟨u2.heap.size, o, none⟩) (by first | assumption | (simp; done) | (simp; omega) | (dsimp only; omega) | omega)).trans (by first | (simp [go_sem]; done) | (simp [go_sem, *]; done))
    clear BB BH hsz
    clear paaz paa0 paa1 pbaz pba0 pba1 t5az t5a0 t5a1 t5af
    have BH := hid BN
    have hsz := BN.size
    clear BN hb
    go_wp2_with fail
    refine (su2 _).mono ?_; rintro e u4 ⟨rfl, hb⟩
    have BB := BH.out
    have BN : Below w.heap.size w u4 := by repeat' (first | (with_reducible exact Below.refl _ _) | (with_reducible refine Below.alloc ?_ ?_ _) | (with_reducible refine Below.setCell ?_ ?_ _) | (with_reducible refine Below.drew ?_) | (with_reducible refine Below.trans ?_ (Below.mono (by assumption) ?_)) | (simp; done) | (simp; omega) | omega)
    have paaz : w.heap.size < (u4).heap.size := Nat.lt_of_lt_of_le (show w.heap.size < _ from (by first | assumption | (simp; done) | (simp; omega) | (dsimp only; omega) | omega)) hb.size; have paa0 : (u4).cell? ⟨w.heap.size, 0, none⟩ = some (.int .i64 (a)) := (hb.cell (p := ⟨w.heap.size, 0, none⟩) (by first | assumption | (simp; done) | (simp; omega) | (dsimp only; omega) | omega)).trans (by first | assumption | (simp [go_sem]; done) | (simp [go_sem, *]; done)); have paa1 : (u4).cell? ⟨w.heap.size, 1, none⟩ = some (.int .i64 (b)) := (hb.cell (p := ⟨w.heap.size, 1, none⟩) (by first | assumption | (simp; done) | (simp; omega) | (dsimp only; omega) | omega)).trans (by first | assumption | (simp [go_sem]; done) | (simp [go_sem, *]; done))
    have pbaz : w.heap.size + 1 < (u4).heap.size := Nat.lt_of_lt_of_le (show w.heap.size + 1 < _ from (by first | assumption | (simp; done) | (simp; omega) | (dsimp only; omega) | omega)) hb.size; have pba0 : (u4).cell? ⟨w.heap.size + 1, 0, none⟩ = some (.int .i64 (c)) := (hb.cell (p := ⟨w.heap.size + 1, 0, none⟩) (by first | assumption | (simp; done) | (simp; omega) | (dsimp only; omega) | omega)).trans (by first | assumption | (simp [go_sem]; done) | (simp [go_sem, *]; done)); have pba1 : (u4).cell? ⟨w.heap.size + 1, 1, none⟩ = some (.int .i64 (d)) := (hb.cell (p := ⟨w.heap.size + 1, 1, none⟩) (by first | assumption | (simp; done) | (simp; omega) | (dsimp only; omega) | omega)).trans (by first | assumption | (simp [go_sem]; done) | (simp [go_sem, *]; done))
    have t5az : u1.heap.size < (u4).heap.size := Nat.lt_of_lt_of_le (show u1.heap.size < _ from (by first | assumption | (simp; done) | (simp; omega) | (dsimp only; omega) | omega)) hb.size; have t5a0 : (u4).cell? ⟨u1.heap.size, 0, none⟩ = some (.int .i64 (ul)) := (hb.cell (p := ⟨u1.heap.size, 0, none⟩) (by first | assumption | (simp; done) | (simp; omega) | (dsimp only; omega) | omega)).trans (by first | assumption | (simp [go_sem]; done) | (simp [go_sem, *]; done)); have t5a1 : (u4).cell? ⟨u1.heap.size, 1, none⟩ = some (.int .i64 (uh)) := (hb.cell (p := ⟨u1.heap.size, 1, none⟩) (by first | assumption | (simp; done) | (simp; omega) | (dsimp only; omega) | omega)).trans (by first | assumption | (simp [go_sem]; done) | (simp [go_sem, *]; done)); have t5af : ∀ o, (u4).frozen? ⟨u1.heap.size, o, none⟩ = false := fun o => (hb.frozen (p := ⟨u1.heap.size, o, none⟩) (by first | assumption | (simp; done) | (simp; omega) | (dsimp only; omega) | omega)).trans (by first | (simp [go_sem]; done) | (simp [go_sem, *]; done))
    have t7az : u2.heap.size < (u4).heap.size := Nat.lt_of_lt_of_le (show u2.heap.size < _ from (by first | assumption | (simp; done) | (simp; omega) | (dsimp only; omega) | omega)) hb.size; have t7a0 : (u4).cell? ⟨u2.heap.size, 0, none⟩ = some (.int .i64 (sl)) := (hb.cell (p := ⟨u2.heap.size, 0, none⟩) (by first | assumption | (simp; done) | (simp; omega) | (dsimp only; omega) | omega)).trans (by first | assumption | (simp [go_sem]; done) | (simp [go_sem, *]; done)); have t7a1 : (u4).cell? ⟨u2.heap.size, 1, none⟩ = some (.int .i64 (sh)) := (hb.cell (p := ⟨u2.heap.size, 1, none⟩) (by first | assumption | (simp; done) | (simp; omega) | (dsimp only; omega) | omega)).trans (by first | assumption | (simp [go_sem]; done) | (simp [go_sem, *]; done)); have t7af : ∀ o, (u4).frozen? ⟨u2.heap.size, o, none⟩ = false := fun o => (hb.frozen (p := ⟨u2.heap.size, o, none⟩) (by first | assumption | (simp; done) | (simp; omega) | (dsimp only; omega) | omega)).trans (by first | (simp [go_sem]; done) | (simp [go_sem, *]; done))
    clear BB BH hsz
    clear pabz pab0 pab1 pbbz pbb0 pbb1 t5bz t5b0 t5b1 t5bf t7bz t7b0 t7b1 t7bf
    have BH := hid BN
    have hsz := BN.size
    clear BN hb
    clear pbaz pba0 pba1
    go_wp2_with fail
    refine (ng _).mono ?_; rintro e u5 ⟨rfl, hb⟩
    have BB := BH.out
    have BN : Below w.heap.size w u5 := by repeat' (first | (with_reducible exact Below.refl _ _) | (with_reducible refine Below.alloc ?_ ?_ _) | (with_reducible refine Below.setCell ?_ ?_ _) | (with_reducible refine Below.drew ?_) | (with_reducible refine Below.trans ?_ (Below.mono (by assumption) ?_)) | (simp; done) | (simp; omega) | omega)
    have pabz : w.heap.size < (u5).heap.size := Nat.lt_of_lt_of_le (show w.heap.size < _ from (by first | assumption | (simp; done) | (simp; omega) | (dsimp only; omega) | omega)) hb.size; have pab0 : (u5).cell? ⟨w.heap.size, 0, none⟩ = some (.int .i64 (a)) := (hb.cell (p := ⟨w.heap.size, 0, none⟩) (by first | assumption | (simp; done) | (simp; omega) | (dsimp only; omega) | omega)).trans (by first | assumption | (simp [go_sem]; done) | (simp [go_sem, *]; done)); have pab1 : (u5).cell? ⟨w.heap.size, 1, none⟩ = some (.int .i64 (b)) := (hb.cell (p := ⟨w.heap.size, 1, none⟩) (by first | assumption | (simp; done) | (simp; omega) | (dsimp only; omega) | omega)).trans (by first | assumption | (simp [go_sem]; done) | (simp [go_sem, *]; done))
    have t5bz : u1.heap.size < (u5).heap.size := Nat.lt_of_lt_of_le (show u1.heap.size < _ from (by first | assumption | (simp; done) | (simp; omega) | (dsimp only; omega) | omega)) hb.size; have t5b0 : (u5).cell? ⟨u1.heap.size, 0, none⟩ = some (.int .i64 (ul)) := (hb.cell (p := ⟨u1.heap.size, 0, none⟩) (by first | assumption | (simp; done) | (simp; omega) | (dsimp only; omega) | omega)).trans (by first | assumption | (simp [go_sem]; done) | (simp [go_sem, *]; done)); have t5b1 : (u5).cell? ⟨u1.heap.size, 1, none⟩ = some (.int .i64 (uh)) := (hb.cell (p := ⟨u1.heap.size, 1, none⟩) (by first | assumption | (simp; done) | (simp; omega) | (dsimp only; omega) | omega)).trans (by first | assumption | (simp [go_sem]; done) | (simp [go_sem, *]; done)); have t5bf : ∀ o, (u5).frozen? ⟨u1.heap.size, o, none⟩ = false := fun o => (hb.frozen (p := ⟨u1.heap.size, o, none⟩) (by first | assumption | (simp; done) | (simp; omega) | (dsimp only; omega) | omega)).trans (by first | (simp [go_sem]; done) | (simp [go_sem, *]; done))
    have t7bz : u2.heap.size < (u5).heap.size := Nat.lt_of_lt_of_le (show u2.heap.size < _ from (by first | assumption | (simp; done) | (simp; omega) | (dsimp only; omega) | omega)) hb.size; have t7b0 : (u5).cell? ⟨u2.heap.size, 0, none⟩ = some (.int .i64 (ul)) := (hb.cell (p := ⟨u2.heap.size, 0, none⟩) (by first | assumption | (simp; done) | (simp; omega) | (dsimp only; omega) | omega)).trans (by first | assumption | (simp [go_sem]; done) | (simp [go_sem, *]; done)); have t7b1 : (u5).cell? ⟨u2.heap.size, 1, none⟩ = some (.int .i64 (uh)) := (hb.cell (p := ⟨u2.heap.size, 1, none⟩) (by first | assumption | (simp; done) | (simp; omega) | (dsimp only; omega) | omega)).trans (by first | assumption | (simp [go_sem]; done) | (simp [go_sem, *]; done)); have t7bf : ∀ o, (u5).frozen? ⟨u2.heap.size, o, none⟩ = false := fun o => (hb.frozen (p := ⟨u2.heap.size, o, none⟩) (by first | assumption | (simp; done) | (simp; omega) | (dsimp only; omega) | omega)).trans (by first | (simp [go_sem]; done) | (simp [go_sem, *]; done))
    clear BB BH hsz
    clear paaz paa0 paa1 t5az t5a0 t5a1 t5af t7az t7a0 t7a1 t7af
    have BH := hid BN
    have hsz := BN.size
    clear BN hb
    go_wp2_with fail
    refine (ng2 _).mono ?_; rintro e u6 ⟨rfl, hb⟩
    have BB := BH.out
    have BN : Below w.heap.size w u6 := by repeat' (first | (with_reducible exact Below.refl _ _) | (with_reducible refine Below.alloc ?_ ?_ _) | (with_reducible refine Below.setCell ?_ ?_ _) | (with_reducible refine Below.drew ?_) | (with_reducible refine Below.trans ?_ (Below.mono (by assumption) ?_)) | (simp; done) | (simp; omega) | omega)
    have paaz : w.heap.size < (u6).heap.size := Nat.lt_of_lt_of_le (show w.heap.size < _ from (by first | assumption | (simp; done) | (simp; omega) | (dsimp only; omega) | omega)) hb.size; have paa0 : (u6).cell? ⟨w.heap.size, 0, none⟩ = some (.int .i64 (a)) := (hb.cell (p := ⟨w.heap.size, 0, none⟩) (by first | assumption | (simp; done) | (simp; omega) | (dsimp only; omega) | omega)).trans (by first | assumption | (simp [go_sem]; done) | (simp [go_sem, *]; done)); have paa1 : (u6).cell? ⟨w.heap.size, 1, none⟩ = some (.int .i64 (b)) := (hb.cell (p := ⟨w.heap.size, 1, none⟩) (by first | assumption | (simp; done) | (simp; omega) | (dsimp only; omega) | omega)).trans (by first | assumption | (simp [go_sem]; done) | (simp [go_sem, *]; done))
    have t5az : u1.heap.size < (u6).heap.size := Nat.lt_of_lt_of_le (show u1.heap.size < _ from (by first | assumption | (simp; done) | (simp; omega) | (dsimp only; omega) | omega)) hb.size; have t5a0 : (u6).cell? ⟨u1.heap.size, 0, none⟩ = some (.int .i64 (nl)) := (hb.cell (p := ⟨u1.heap.size, 0, none⟩) (by first | assumption | (simp; done) | (simp; omega) | (dsimp only; omega) | omega)).trans (by first | assumption | (simp [go_sem]; done) | (simp [go_sem, *]; done)); have t5a1 : (u6).cell? ⟨u1.heap.size, 1, none⟩ = some (.int .i64 (nh)) := (hb.cell (p := ⟨u1.heap.size, 1, none⟩) (by first | assumption | (simp; done) | (simp; omega) | (dsimp only; omega) | omega)).trans (by first | assumption | (simp [go_sem]; done) | (simp [go_sem, *]; done)); have t5af : ∀ o, (u6).frozen? ⟨u1.heap.size, o, none⟩ = false := fun o => (hb.frozen (p := ⟨u1.heap.size, o, none⟩) (by first | assumption | (simp; done) | (simp; omega) | (dsimp only; omega) | omega)).trans (by first | (simp [go_sem]; done) | (simp [go_sem, *]; done))
    have t7az : u2.heap.size < (u6).heap.size := Nat.lt_of_lt_of_le (show u2.heap.size < _ from (by first | assumption | (simp; done) | (simp; omega) | (dsimp only; omega) | omega)) hb.size; have t7a0 : (u6).cell? ⟨u2.heap.size, 0, none⟩ = some (.int .i64 (ul)) := (hb.cell (p := ⟨u2.heap.size, 0, none⟩) (by first | assumption | (simp; done) | (simp; omega) | (dsimp only; omega) | omega)).trans (by first | assumption | (simp [go_sem]; done) | (simp [go_sem, *]; done)); have t7a1 : (u6).cell? ⟨u2.heap.size, 1, none⟩ = some (.int .i64 (uh)) := (hb.cell (p := ⟨u2.heap.size, 1, none⟩) (by first | assumption | (simp; done) | (simp; omega) | (dsimp only; omega) | omega)).trans (by first | assumption | (simp [go_sem]; done) | (simp [go_sem, *]; done)); have t7af : ∀ o, (u6).frozen? ⟨u2.heap.size, o, none⟩ = false := fun o => (hb.frozen (p := ⟨u2.heap.size, o, none⟩) (by first | assumption | (simp; done) | (simp; omega) | (dsimp only; omega) | omega)).trans (by first | (simp [go_sem]; done) | (simp [go_sem, *]; done))
    clear BB BH hsz
    clear pabz pab0 pab1 t5bz t5b0 t5b1 t5bf t7bz t7b0 t7b1 t7bf
    have BH := hid BN
    have hsz := BN.size
    clear BN hb
    go_wp2_with fail
    refine (wi _).mono ?_; rintro e u7 ⟨rfl, hb⟩
    have BB := BH.out
    have BN : Below w.heap.size w u7 := by repeat' (first | (with_reducible exact Below.refl _ _) | (with_reducible refine Below.alloc ?_ ?_ _) | (with_reducible refine Below.setCell ?_ ?_ _) | (with_reducible refine Below.drew ?_) | (with_reducible refine Below.trans ?_ (Below.mono (by assumption) ?_)) | (simp; done) | (simp; omega) | omega)
    have pabz : w.heap.size < (u7).heap.size := Nat.lt_of_lt_of_le (show w.heap.size < _ from (by first | assumption | (simp; done) | (simp; omega) | (dsimp only; omega) | omega)) hb.size; have pab0 : (u7).cell? ⟨w.heap.size, 0, none⟩ = some (.int .i64 (a)) := (hb.cell (p := ⟨w.heap.size, 0, none⟩) (by first | assumption | (simp; done) | (simp; omega) | (dsimp only; omega) | omega)).trans (by first | assumption | (simp [go_sem]; done) | (simp [go_sem, *]; done)); have pab1 : (u7).cell? ⟨w.heap.size, 1, none⟩ = some (.int .i64 (b)) := (hb.cell (p := ⟨w.heap.size, 1, none⟩) (by first | assumption | (simp; done) | (simp; omega) | (dsimp only; omega) | omega)).trans (by first | assumption | (simp [go_sem]; done) | (simp [go_sem, *]; done))
    have t5bz : u1.heap.size < (u7).heap.size := Nat.lt_of_lt_of_le (show u1.heap.size < _ from (by first | assumption | (simp; done) | (simp; omega) | (dsimp only; omega) | omega)) hb.size; have t5b0 : (u7).cell? ⟨u1.heap.size, 0, none⟩ = some (.int .i64 (nl)) := (hb.cell (p := ⟨u1.heap.size, 0, none⟩) (by first | assumption | (simp; done) | (simp; omega) | (dsimp only; omega) | omega)).trans (by first | assumption | (simp [go_sem]; done) | (simp [go_sem, *]; done)); have t5b1 : (u7).cell? ⟨u1.heap.size, 1, none⟩ = some (.int .i64 (nh)) := (hb.cell (p := ⟨u1.heap.size, 1, none⟩) (by first | assumption | (simp; done) | (simp; omega) | (dsimp only; omega) | omega)).trans (by first | assumption | (simp [go_sem]; done) | (simp [go_sem, *]; done)); have t5bf : ∀ o, (u7).frozen? ⟨u1.heap.size, o, none⟩ = false := fun o => (hb.frozen (p := ⟨u1.heap.size, o, none⟩) (by first | assumption | (simp; done) | (simp; omega) | (dsimp only; omega) | omega)).trans (by first | (simp [go_sem]; done) | (simp [go_sem, *]; done))
    have t7bz : u2.heap.size < (u7).heap.size := Nat.lt_of_lt_of_le (show u2.heap.size < _ from (by first | assumption | (simp; done) | (simp; omega) | (dsimp only; omega) | omega)) hb.size; have t7b0 : (u7).cell? ⟨u2.heap.size, 0, none⟩ = some (.int .i64 (nl)) := (hb.cell (p := ⟨u2.heap.size, 0, none⟩) (by first | assumption | (simp; done) | (simp; omega) | (dsimp only; omega) | omega)).trans (by first | assumption | (simp [go_sem]; done) | (simp [go_sem, *]; done)); have t7b1 : (u7).cell? ⟨u2.heap.size, 1, none⟩ = some (.int .i64 (nh)) := (hb.cell (p := ⟨u2.heap.size, 1, none⟩) (by first | assumption | (simp; done) | (simp; omega) | (dsimp only; omega) | omega)).trans (by first | assumption | (simp [go_sem]; done) | (simp [go_sem, *]; done)); have t7bf : ∀ o, (u7).frozen? ⟨u2.heap.size, o, none⟩ = false := fun o => (hb.frozen (p := ⟨u2.heap.size, o, none⟩) (by first | assumption | (simp; done) | (simp; omega) | (dsimp only; omega) | omega)).trans (by first | (simp [go_sem]; done) | (simp [go_sem, *]; done))
    clear BB BH hsz
    clear paaz paa0 paa1 t5az t5a0 t5a1 t5af t7az t7a0 t7a1 t7af
    have BH := hid BN
    have hsz := BN.size
    clear BN hb
    go_wp2_with fail
    refine (wi2 _).mono ?_; rintro e u8 ⟨rfl, hb⟩
    have BB := BH.out
    have BN : Below w.heap.size w u8 := by repeat' (first | (with_reducible exact Below.refl _ _) | (with_reducible refine Below.alloc ?_ ?_ _) | (with_reducible refine Below.setCell ?_ ?_ _) | (with_reducible refine Below.drew ?_) | (with_reducible refine Below.trans ?_ (Below.mono (by assumption) ?_)) | (simp; done) | (simp; omega) | omega)
    have paaz : w.heap.size < (u8).heap.size := Nat.lt_of_lt_of_le (show w.heap.size < _ from (by first | assumption | (simp; done) | (simp; omega) | (dsimp only; omega) | omega)) hb.size; have paa0 : (u8).cell? ⟨w.heap.size, 0, none⟩ = some (.int .i64 (a)) := (hb.cell (p := ⟨w.heap.size, 0, none⟩) (by first | assumption | (simp; done) | (simp; omega) | (dsimp only; omega) | omega)).trans (by first | assumption | (simp [go_sem]; done) | (simp [go_sem, *]; done)); have paa1 : (u8).cell? ⟨w.heap.size, 1, none⟩ = some (.int .i64 (b)) := (hb.cell (p := ⟨w.heap.size, 1, none⟩) (by first | assumption | (simp; done) | (simp; omega) | (dsimp only; omega) | omega)).trans (by first | assumption | (simp [go_sem]; done) | (simp [go_sem, *]; done))
    have t5az : u1.heap.size < (u8).heap.size := Nat.lt_of_lt_of_le (show u1.heap.size < _ from (by first | assumption | (simp; done) | (simp; omega) | (dsimp only; omega) | omega)) hb.size; have t5a0 : (u8).cell? ⟨u1.heap.size, 0, none⟩ = some (.int .i64 (nl)) := (hb.cell (p := ⟨u1.heap.size, 0, none⟩) (by first | assumption | (simp; done) | (simp; omega) | (dsimp only; omega) | omega)).trans (by first | assumption | (simp [go_sem]; done) | (simp [go_sem, *]; done)); have t5a1 : (u8).cell? ⟨u1.heap.size, 1, none⟩ = some (.int .i64 (nh)) := (hb.cell (p := ⟨u1.heap.size, 1, none⟩) (by first | assumption | (simp; done) | (simp; omega) | (dsimp only; omega) | omega)).trans (by first | assumption | (simp [go_sem]; done) | (simp [go_sem, *]; done)); have t5af : ∀ o, (u8).frozen? ⟨u1.heap.size, o, none⟩ = false := fun o => (hb.frozen (p := ⟨u1.heap.size, o, none⟩) (by first | assumption | (simp; done) | (simp; omega) | (dsimp only; omega) | omega)).trans (by first | (simp [go_sem]; done) | (simp [go_sem, *]; done))
    have t7az : u2.heap.size < (u8).heap.size := Nat.lt_of_lt_of_le (show u2.heap.size < _ from (by first | assumption | (simp; done) | (simp; omega) | (dsimp only; omega) | omega)) hb.size; have t7a0 : (u8).cell? ⟨u2.heap.size, 0, none⟩ = some (.int .i64 (nl)) := (hb.cell (p := ⟨u2.heap.size, 0, none⟩) (by first | assumption | (simp; done) | (simp; omega) | (dsimp only; omega) | omega)).trans (by first | assumption | (simp [go_sem]; done) | (simp [go_sem, *]; done)); have t7a1 : (u8).cell? ⟨u2.heap.size, 1, none⟩ = some (.int .i64 (nh)) := (hb.cell (p := ⟨u2.heap.size, 1, none⟩) (by first | assumption | (simp; done) | (simp; omega) | (dsimp only; omega) | omega)).trans (by first | assumption | (simp [go_sem]; done) | (simp [go_sem, *]; done)); have t7af : ∀ o, (u8).frozen? ⟨u2.heap.size, o, none⟩ = false := fun o => (hb.frozen (p := ⟨u2.heap.size, o, none⟩) (by first | assumption | (simp; done) | (simp; omega) | (dsimp only; omega) | omega)).trans (by first | (simp [go_sem]; done) | (simp [go_sem, *]; done))
    clear BB BH hsz
    clear pabz pab0 pab1 t5bz t5b0 t5b1 t5bf t7bz t7b0 t7b1 t7bf
    have BH := hid BN
    have hsz := BN.size
    clear BN hb
    clear paaz paa0 paa1
    go_wp2_with fail
    refine (iawake_any _).mono ?_; rintro e u9 ⟨rfl, hb⟩
    have BB := BH.out
    have BN : Below w.heap.size w u9 := by repeat' (first | (with_reducible exact Below.refl _ _) | (with_reducible refine Below.alloc ?_ ?_ _) | (with_reducible refine Below.setCell ?_ ?_ _) | (with_reducible refine Below.drew ?_) | (with_reducible refine Below.trans ?_ (Below.mono (by assumption) ?_)) | (simp; done) | (simp; omega) | omega)
    have t5bz : u1.heap.size < (u9).heap.size := Nat.lt_of_lt_of_le (show u1.heap.size < _ from (by first | assumption | (simp; done) | (simp; omega) | (dsimp only; omega) | omega)) hb.size; have t5b0 : (u9).cell? ⟨u1.heap.size, 0, none⟩ = some (.int .i64 (nl)) := (hb.cell (p := ⟨u1.heap.size, 0, none⟩) (by first | assumption | (simp; done) | (simp; omega) | (dsimp only; omega) | omega)).trans (by first | assumption | (simp [go_sem]; done) | (simp [go_sem, *]; done)); have t5b1 : (u9).cell? ⟨u1.heap.size, 1, none⟩ = some (.int .i64 (nh)) := (hb.cell (p := ⟨u1.heap.size, 1, none⟩) (by first | assumption | (simp; done) | (simp; omega) | (dsimp only; omega) | omega)).trans (by first | assumption | (simp [go_sem]; done) | (simp [go_sem, *]; done)); have t5bf : ∀ o, (u9).frozen? ⟨u1.heap.size, o, none⟩ = false := fun o => (hb.frozen (p := ⟨u1.heap.size, o, none⟩) (by first | assumption | (simp; done) | (simp; omega) | (dsimp only; omega) | omega)).trans (by first | (simp [go_sem]; done) | (simp [go_sem, *]; done))
    have t7bz : u2.heap.size < (u9).heap.size := Nat.lt_of_lt_of_le (show u2.heap.size < _ from (by first | assumption | (simp; done) | (simp; omega) | (dsimp only; omega) | omega)) hb.size; have t7b0 : (u9).cell? ⟨u2.heap.size, 0, none⟩ = some (.int .i64 (nl)) := (hb.cell (p := ⟨u2.heap.size, 0, none⟩) (by first | assumption | (simp; done) | (simp; omega) | (dsimp only; omega) | omega)).trans (by first | assumption | (simp [go_sem]; done) | (simp [go_sem, *]; done)); have t7b1 : (u9).cell? ⟨u2.heap.size, 1, none⟩ = some (.int .i64 (nh)) := (hb.cell (p := ⟨u2.heap.size, 1, none⟩) (by first | assumption | (simp; done) | (simp; omega) | (dsimp only; omega) | omega)).trans (by first | assumption | (simp [go_sem]; done) | (simp [go_sem, *]; done)); have t7bf : ∀ o, (u9).frozen? ⟨u2.heap.size, o, none⟩ = false := fun o => (hb.frozen (p := ⟨u2.heap.size, o, none⟩) (by first | assumption | (simp; done) | (simp; omega) | (dsimp only; omega) | omega)).trans (by first | (simp [go_sem]; done) | (simp [go_sem, *]; done))
    clear BB BH hsz
    clear t5az t5a0 t5a1 t5af t7az t7a0 t7a1 t7af
    have BH := hid BN
    have hsz := BN.size
    clear BN hb
    go_wp2_with fail
    go_ret
    have BB := BH.out
    exact Gives.mk rfl (by repeat' (first | (with_reducible exact Below.refl _ _) | (with_reducible refine Below.alloc ?_ ?_ _) | (with_reducible refine Below.setCell ?_ ?_ _) | (with_reducible refine Below.drew ?_) | (with_reducible refine Below.trans ?_ (Below.mono (by assumption) ?_)) | (simp; done) | (simp; omega) | omega))
theorem sums_any (a b c d : Int) (a0 : -9223372036854775808 ≤ a) (a1 : a ≤ 9223372036854775807) (b0 : -9223372036854775808 ≤ b) (b1 : b ≤ 9223372036854775807) (c0 : -9223372036854775808 ≤ c) (c1 : c ≤ 9223372036854775807) (d0 : -9223372036854775808 ≤ d) (d1 : d ≤ 9223372036854775807) (w : World) :
    Calls Try.prog 8 #[.agg #[.int .i64 a, .int .i64 b], .agg #[.int .i64 c, .int .i64 d]] w (Gives (.bool true) w) := by
  obtain ⟨⟨sl, sh, se⟩, hA⟩ : ∃ r, Sp.addS a b c d = r := ⟨_, rfl⟩
  obtain ⟨⟨ul, uh, ue⟩, hS⟩ : ∃ r, Sp.subS a b c d = r := ⟨_, rfl⟩
  obtain ⟨⟨nl, nh, ne⟩, hN⟩ : ∃ r, Sp.negS a b = r := ⟨_, rfl⟩
  obtain ⟨⟨v, ve⟩, hV⟩ : ∃ r, Sp.widthS a b = r := ⟨_, rfl⟩
  exact sums_walk a b c d (Sp.chk a b) sl sh se ul uh ue nl nh ne v ve w (fun w => icheck_any a b w) (fun w => rcheck_any a b w)
    (fun w => iadd_any a b c d sl sh se hA w) (fun w => radd_any a b c d sl sh se hA w) (fun w => isub_any a b c d ul uh ue hS w) (fun w => rsub_any a b c d ul uh ue hS w)
    (fun w => ineg_any a b nl nh ne hN w) (fun w => rneg_any a b nl nh ne hN w) (fun w => iwidth_any a b v ve hV w) (fun w => rwidth_any a b v ve hV w)
end Go.Proofs.Ytnphibbhcogdkaa
