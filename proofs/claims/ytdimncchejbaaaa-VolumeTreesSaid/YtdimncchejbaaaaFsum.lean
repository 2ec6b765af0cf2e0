/-
  The functions of package fraction, each by a contract: sum.
-/
import Derived.Test.YtdimncchejbaaaaFlim
import Derived.Test.YtdimncchejbaaaaFcode
import Derived.Test.YtdimncchejbaaaaWquo
import Derived.Test.YtdimncchejbaaaaWcmp
import Derived.Test.YtdimncchejbaaaaWint
import Derived.Deep.DeepCutAuto
import Derived.Deep.RegionHeld3
import Derived.Deep.QuietTactic
import Derived.BigQuiet
namespace Go.Proofs.Ytdimncchejbaaaa
open Go.RowKit
set_option linter.unusedVariables false
set_option linter.unusedSimpArgs false

/-- Behind the numerator: its box, the denominators, the box of the result. -/
def FsRel (w : World) (b d : Int) (nn : Bool) (hn ln : Int) (v : Value) (wx : World) : Prop :=
  ∃ k : Nat, v = .pointer (some ⟨k, 0, none⟩) ∧ w.heap.size + 1 + 1 < k ∧ k < wx.heap.size ∧
    (wx.cell? ⟨k, 0, none⟩ = some (.bool nn) ∧ wx.cell? ⟨k, 1, none⟩ = some (.int .u64 hn) ∧ wx.cell? ⟨k, 2, none⟩ = some (.int .u64 ln) ∧ ∀ o, wx.frozen? ⟨k, o, none⟩ = false) ∧
    wx.cell? ⟨w.heap.size, 1, none⟩ = some (.int .i64 b) ∧ wx.cell? ⟨w.heap.size + 1, 1, none⟩ = some (.int .i64 d) ∧
    (wx.cell? ⟨w.heap.size + 1 + 1, 0, none⟩ = some (.int .i64 0) ∧ wx.cell? ⟨w.heap.size + 1 + 1, 1, none⟩ = some (.int .i64 0) ∧ ∀ o, wx.frozen? ⟨w.heap.size + 1 + 1, o, none⟩ = false) ∧
    Below w.heap.size w wx
set_option maxRecDepth 100000 in
set_option maxHeartbeats 8000000 in
theorem fsum_walk (a b c d G b' d' R d2 : Int) (nx : Bool) (hx lx : Int) (ny : Bool) (hy ly : Int) (nn : Bool) (hn ln : Int) (nQ : Bool) (hQ lQ r0 : Int) (nd : Bool) (hd ld : Int) (x y e : Int) (w : World)
    (gg : (G == 0) = false) (gne : ¬ G = 0) (rne : ¬ R = 0) (gw : IntKind.i64.wrap G = G) (rr : (R == 0) = false) (G0 : 1 ≤ G) (R0 : 1 ≤ R)
    (ed : d.tdiv G = d') (edw : IntKind.i64.wrap d' = d') (eb : b.tdiv G = b') (ebw : IntKind.i64.wrap b' = b') (er : d.tdiv R = d2) (erw : IntKind.i64.wrap d2 = d2)
    (mg : ∀ w : World, Calls Try.prog 75 #[.int .i64 b] w fun e w' => e = .returned (.int .u64 b) ∧ w' = w) (mg2 : ∀ w : World, Calls Try.prog 75 #[.int .i64 d] w fun e w' => e = .returned (.int .u64 d) ∧ w' = w)
    (dv : ∀ w : World, Calls Try.prog 74 #[.int .u64 b, .int .u64 d] w (Quiet (.int .u64 G) w))
    (m1 : ∀ w : World, Calls Try.prog 95 #[.int .i64 a, .int .i64 d'] w fun e w' => e = .returned (.agg #[.bool nx, .int .u64 hx, .int .u64 lx]) ∧ w' = (w.alloc (Obj.cells #[.bool nx, .int .u64 hx, .int .u64 lx] 114)).alloc (Obj.cells #[.bool nx, .int .u64 hx, .int .u64 lx] 114))
    (m2 : ∀ w : World, Calls Try.prog 95 #[.int .i64 c, .int .i64 b'] w fun e w' => e = .returned (.agg #[.bool ny, .int .u64 hy, .int .u64 ly]) ∧ w' = (w.alloc (Obj.cells #[.bool ny, .int .u64 hy, .int .u64 ly] 114)).alloc (Obj.cells #[.bool ny, .int .u64 hy, .int .u64 ly] 114))
    (ad : ∀ w : World, Calls Try.prog 103 #[.agg #[.bool nx, .int .u64 hx, .int .u64 lx], .agg #[.bool ny, .int .u64 hy, .int .u64 ly]] w (Gives (.tuple #[.agg #[.bool nn, .int .u64 hn, .int .u64 ln], .int .i64 0]) w))
    (gc : ∀ w : World, Calls Try.prog 104 #[.agg #[.bool nn, .int .u64 hn, .int .u64 ln], .int .i64 G] w (Gives (.tuple #[.int .i64 R, .int .i64 0]) w))
    (df : ∀ w : World, Calls Try.prog 105 #[.agg #[.bool nn, .int .u64 hn, .int .u64 ln], .int .i64 R] w (Gives (.tuple #[.agg #[.bool nQ, .int .u64 hQ, .int .u64 lQ], .int .i64 r0, .int .i64 0]) w))
    (m3 : ∀ w : World, Calls Try.prog 95 #[.int .i64 b', .int .i64 d2] w fun e w' => e = .returned (.agg #[.bool nd, .int .u64 hd, .int .u64 ld]) ∧ w' = (w.alloc (Obj.cells #[.bool nd, .int .u64 hd, .int .u64 ld] 114)).alloc (Obj.cells #[.bool nd, .int .u64 hd, .int .u64 ld] 114))
    (li : ∀ w : World, Calls Try.prog 94 #[.agg #[.bool nQ, .int .u64 hQ, .int .u64 lQ], .agg #[.bool nd, .int .u64 hd, .int .u64 ld]] w (Gives (.tuple #[.agg #[.int .i64 x, .int .i64 y], .int .i64 e]) w)) :
    Calls Try.prog 97 #[.agg #[.int .i64 a, .int .i64 b], .agg #[.int .i64 c, .int .i64 d]] w (Gives (.tuple #[.agg #[.int .i64 x, .int .i64 y], .int .i64 e]) w) := by
  go_enter Try.func97, Try.ntmps97
  go_wp2_with fail
  go_quiet ((first | (go_at_call 75; (with_reducible exact Calls.quiet_of_same (mg _))) | (go_at_call 75; (with_reducible exact Calls.quiet_of_same (mg2 _))) | (go_at_call 74; (with_reducible exact Calls.quiet_of (dv _)))))
  go_wp2_with fail
  go_cut [7] (fun v wx => FsRel w b d nn hn ln v wx)
  case first =>
    have K : Hid (∀ W', Below (w.heap.size + 1 + 1 + 1) (((w.alloc (Obj.cells #[.int .i64 a, .int .i64 b] 56)).alloc (Obj.cells #[.int .i64 c, .int .i64 d] 56)).alloc (Obj.cells #[.int .i64 0, .int .i64 0] 56)) W' → (Below (w.heap.size + 1 + 1 + 1) (((w.alloc (Obj.cells #[.int .i64 a, .int .i64 b] 56)).alloc (Obj.cells #[.int .i64 c, .int .i64 d] 56)).alloc (Obj.cells #[.int .i64 0, .int .i64 0] 56)) W' ∧ W'.cell? ⟨w.heap.size, 0, none⟩ = some (.int .i64 a) ∧ W'.cell? ⟨w.heap.size, 1, none⟩ = some (.int .i64 b) ∧ W'.cell? ⟨w.heap.size + 1, 0, none⟩ = some (.int .i64 c) ∧ W'.cell? ⟨w.heap.size + 1, 1, none⟩ = some (.int .i64 d))) := hid fun W' B =>
      ⟨B, (B.cell (p := ⟨w.heap.size, 0, none⟩) (by first | assumption | (simp; done) | (simp; omega) | (dsimp only; omega) | omega)).trans (by simp [go_sem]), (B.cell (p := ⟨w.heap.size, 1, none⟩) (by first | assumption | (simp; done) | (simp; omega) | (dsimp only; omega) | omega)).trans (by simp [go_sem]), (B.cell (p := ⟨w.heap.size + 1, 0, none⟩) (by first | assumption | (simp; done) | (simp; omega) | (dsimp only; omega) | omega)).trans (by simp [go_sem]), (B.cell (p := ⟨w.heap.size + 1, 1, none⟩) (by first | assumption | (simp; done) | (simp; omega) | (dsimp only; omega) | omega)).trans (by simp [go_sem])⟩
    go_region_held3 (fun w' => Below (w.heap.size + 1 + 1 + 1) (((w.alloc (Obj.cells #[.int .i64 a, .int .i64 b] 56)).alloc (Obj.cells #[.int .i64 c, .int .i64 d] 56)).alloc (Obj.cells #[.int .i64 0, .int .i64 0] 56)) w' ∧ w'.cell? ⟨w.heap.size, 0, none⟩ = some (.int .i64 a) ∧ w'.cell? ⟨w.heap.size, 1, none⟩ = some (.int .i64 b) ∧ w'.cell? ⟨w.heap.size + 1, 0, none⟩ = some (.int .i64 c) ∧ w'.cell? ⟨w.heap.size + 1, 1, none⟩ = some (.int .i64 d)) ((exact K.out _ (by repeat' (first | (with_reducible exact Below.refl _ _) | (with_reducible refine Below.alloc ?_ ?_ _) | (with_reducible refine Below.setCell ?_ ?_ _) | (with_reducible refine Below.drew ?_) | (with_reducible refine below_dn ?_ _) | (with_reducible refine Below.trans ?_ (Below.mono (by assumption) ?_)) | (simp; done) | (simp; omega) | omega))))
      (first | (go_at_call 95; (with_reducible refine (m1 _).mono ?_); rintro e w5 ⟨rfl, rfl⟩) | (go_at_call 95; (with_reducible refine (m2 _).mono ?_); rintro e w5 ⟨rfl, rfl⟩) | (go_at_call 103; refine (ad _).mono ?_; rintro e w5 ⟨rfl, hb2⟩; have hb : Below (w.heap.size + 1 + 1 + 1) (((w.alloc (Obj.cells #[.int .i64 a, .int .i64 b] 56)).alloc (Obj.cells #[.int .i64 c, .int .i64 d] 56)).alloc (Obj.cells #[.int .i64 0, .int .i64 0] 56)) w5 := (by repeat' (first | (with_reducible exact Below.refl _ _) | (with_reducible refine Below.alloc ?_ ?_ _) | (with_reducible refine Below.setCell ?_ ?_ _) | (with_reducible refine Below.drew ?_) | (with_reducible refine below_dn ?_ _) | (with_reducible refine Below.trans ?_ (Below.mono (by assumption) ?_)) | (simp; done) | (simp; omega) | omega)); have hz2 : w.heap.size + 1 + 1 + 1 ≤ w5.heap.size := (by simpa using hb.size); have hz3 := hb2.size; (try simp at hz3); have xz : w.heap.size + 1 + 1 < (w5).heap.size := Nat.lt_of_lt_of_le (show w.heap.size + 1 + 1 < _ from (by first | assumption | (simp; done) | (simp; omega) | (dsimp only; omega) | omega)) hb.size; have x0 : (w5).cell? ⟨w.heap.size + 1 + 1, 0, none⟩ = some (.int .i64 (0)) := (hb.cell (p := ⟨w.heap.size + 1 + 1, 0, none⟩) (by first | assumption | (simp; done) | (simp; omega) | (dsimp only; omega) | omega)).trans (by first | assumption | (simp [go_sem]; done) | (simp [go_sem, *]; done)); have x1 : (w5).cell? ⟨w.heap.size + 1 + 1, 1, none⟩ = some (.int .i64 (0)) := (hb.cell (p := ⟨w.heap.size + 1 + 1, 1, none⟩) (by first | assumption | (simp; done) | (simp; omega) | (dsimp only; omega) | omega)).trans (by first | assumption | (simp [go_sem]; done) | (simp [go_sem, *]; done)); have xf : ∀ o, (w5).frozen? ⟨w.heap.size + 1 + 1, o, none⟩ = false := fun o => (hb.frozen (p := ⟨w.heap.size + 1 + 1, o, none⟩) (by first | assumption | (simp; done) | (simp; omega) | (dsimp only; omega) | omega)).trans (by first | (simp [go_sem]; done) | (simp [go_sem, *]; done)); have xne : ¬ w.heap.size + 1 + 1 = w5.heap.size := (by omega); obtain ⟨hc2, hf2⟩ := fbcell hb2))
    all_goals
      go_wp2_with fail
      go_meet
      refine ⟨_, rfl, ?_, ?_, ⟨?_, ?_, ?_, ?_⟩, ?_, ?_, ⟨?_, ?_, ?_⟩, by repeat' (first | (with_reducible exact Below.refl _ _) | (with_reducible refine Below.alloc ?_ ?_ _) | (with_reducible refine Below.setCell ?_ ?_ _) | (with_reducible refine Below.drew ?_) | (with_reducible refine below_dn ?_ _) | (with_reducible refine Below.trans ?_ (Below.mono (by assumption) ?_)) | (simp; done) | (simp; omega) | omega)⟩
      all_goals first | omega | (simp; done) | (simp; omega) | (simp [go_sem]; done) | (simp [go_sem, hc2]; done) | (intro o; simp only [World.frozen?_setCell]; rw [hf2 _ _ (by first | (simp; done) | (simp; omega))]; simp [go_sem]; done) | (simp [go_sem, *]; done)
  case rest =>
    obtain ⟨k, rfl, hk1, hk2, ⟨k0, k1, k2, kf⟩, pb, qd, ⟨x0, x1, xf⟩, hB⟩ := hcut
    have BH := hid hB
    have hsz := hB.size
    have n1k : ¬ k = w.heap.size := by omega
    have n2k : ¬ w.heap.size = k := by omega
    have n3k : ¬ k = w.heap.size + 1 := by omega
    have n4k : ¬ w.heap.size + 1 = k := by omega
    have n5k : ¬ k = w.heap.size + 1 + 1 := by omega
    have n6k : ¬ w.heap.size + 1 + 1 = k := by omega
    have gk : w.heap.size ≤ k := by omega
    clear hB
    go_wp2_with fail
    refine (gc _).mono ?_; rintro _ u1 ⟨rfl, hb⟩
    have kz : k < (u1).heap.size := Nat.lt_of_lt_of_le (show k < _ from (by first | assumption | (simp; done) | (simp; omega) | (dsimp only; omega) | omega)) hb.size; have k0 : (u1).cell? ⟨k, 0, none⟩ = some (.bool nn) := (hb.cell (p := ⟨k, 0, none⟩) (by first | assumption | (simp; done) | (simp; omega) | (dsimp only; omega) | omega)).trans (by first | assumption | (simp [go_sem]; done)); have k1 : (u1).cell? ⟨k, 1, none⟩ = some (.int .u64 hn) := (hb.cell (p := ⟨k, 1, none⟩) (by first | assumption | (simp; done) | (simp; omega) | (dsimp only; omega) | omega)).trans (by first | assumption | (simp [go_sem]; done)); have k2 : (u1).cell? ⟨k, 2, none⟩ = some (.int .u64 ln) := (hb.cell (p := ⟨k, 2, none⟩) (by first | assumption | (simp; done) | (simp; omega) | (dsimp only; omega) | omega)).trans (by first | assumption | (simp [go_sem]; done)); have kf : ∀ o, (u1).frozen? ⟨k, o, none⟩ = false := fun o => (hb.frozen (p := ⟨k, o, none⟩) (by first | assumption | (simp; done) | (simp; omega) | (dsimp only; omega) | omega)).trans (by first | (simp [go_sem]; done) | (simp [*]; done))
    have xz : w.heap.size + 1 + 1 < (u1).heap.size := Nat.lt_of_lt_of_le (show w.heap.size + 1 + 1 < _ from (by first | assumption | (simp; done) | (simp; omega) | (dsimp only; omega) | omega)) hb.size; have x0 : (u1).cell? ⟨w.heap.size + 1 + 1, 0, none⟩ = some (.int .i64 (0)) := (hb.cell (p := ⟨w.heap.size + 1 + 1, 0, none⟩) (by first | assumption | (simp; done) | (simp; omega) | (dsimp only; omega) | omega)).trans (by first | assumption | (simp [go_sem]; done) | (simp [go_sem, *]; done)); have x1 : (u1).cell? ⟨w.heap.size + 1 + 1, 1, none⟩ = some (.int .i64 (0)) := (hb.cell (p := ⟨w.heap.size + 1 + 1, 1, none⟩) (by first | assumption | (simp; done) | (simp; omega) | (dsimp only; omega) | omega)).trans (by first | assumption | (simp [go_sem]; done) | (simp [go_sem, *]; done)); have xf : ∀ o, (u1).frozen? ⟨w.heap.size + 1 + 1, o, none⟩ = false := fun o => (hb.frozen (p := ⟨w.heap.size + 1 + 1, o, none⟩) (by first | assumption | (simp; done) | (simp; omega) | (dsimp only; omega) | omega)).trans (by first | (simp [go_sem]; done) | (simp [go_sem, *]; done))
    have pz : w.heap.size < u1.heap.size := Nat.lt_of_lt_of_le (show w.heap.size < _ from (by first | assumption | (simp; done) | (simp; omega) | (dsimp only; omega) | omega)) hb.size
    have qz : w.heap.size + 1 < u1.heap.size := Nat.lt_of_lt_of_le (show w.heap.size + 1 < _ from (by first | assumption | (simp; done) | (simp; omega) | (dsimp only; omega) | omega)) hb.size
    have pb : u1.cell? ⟨w.heap.size, 1, none⟩ = some (.int .i64 b) := (hb.cell (p := ⟨w.heap.size, 1, none⟩) (by first | assumption | (simp; done) | (simp; omega) | (dsimp only; omega) | omega)).trans (by first | assumption | (simp [go_sem]; done) | (simp [go_sem, *]; done))
    have qd : u1.cell? ⟨w.heap.size + 1, 1, none⟩ = some (.int .i64 d) := (hb.cell (p := ⟨w.heap.size + 1, 1, none⟩) (by first | assumption | (simp; done) | (simp; omega) | (dsimp only; omega) | omega)).trans (by first | assumption | (simp [go_sem]; done) | (simp [go_sem, *]; done))
    have BB := BH.out
    have BN : Below w.heap.size w u1 := by repeat' (first | (with_reducible exact Below.refl _ _) | (with_reducible refine Below.alloc ?_ ?_ _) | (with_reducible refine Below.setCell ?_ ?_ _) | (with_reducible refine Below.drew ?_) | (with_reducible refine Below.trans ?_ (Below.mono (by assumption) ?_)) | (simp; done) | (simp; omega) | omega)
    clear BB hb BH
    have BH := hid BN
    have hsz1 := BN.size
    clear BN
    go_upto_region 4 with fail
    go_cut [7] (fun v wx => FsRel w b d nQ hQ lQ v wx)
    case first =>
      go_wp2_with fail
      refine (df _).mono ?_; rintro _ u2 ⟨rfl, hb⟩
      have mz : k < (u2).heap.size := Nat.lt_of_lt_of_le (show k < _ from (by first | assumption | (simp; done) | (simp; omega) | (dsimp only; omega) | omega)) hb.size; have m0 : (u2).cell? ⟨k, 0, none⟩ = some (.bool nn) := (hb.cell (p := ⟨k, 0, none⟩) (by first | assumption | (simp; done) | (simp; omega) | (dsimp only; omega) | omega)).trans (by first | assumption | (simp [go_sem]; done)); have m1 : (u2).cell? ⟨k, 1, none⟩ = some (.int .u64 hn) := (hb.cell (p := ⟨k, 1, none⟩) (by first | assumption | (simp; done) | (simp; omega) | (dsimp only; omega) | omega)).trans (by first | assumption | (simp [go_sem]; done)); have m2 : (u2).cell? ⟨k, 2, none⟩ = some (.int .u64 ln) := (hb.cell (p := ⟨k, 2, none⟩) (by first | assumption | (simp; done) | (simp; omega) | (dsimp only; omega) | omega)).trans (by first | assumption | (simp [go_sem]; done)); have mf : ∀ o, (u2).frozen? ⟨k, o, none⟩ = false := fun o => (hb.frozen (p := ⟨k, o, none⟩) (by first | assumption | (simp; done) | (simp; omega) | (dsimp only; omega) | omega)).trans (by first | (simp [go_sem]; done) | (simp [*]; done))
      have xz : w.heap.size + 1 + 1 < (u2).heap.size := Nat.lt_of_lt_of_le (show w.heap.size + 1 + 1 < _ from (by first | assumption | (simp; done) | (simp; omega) | (dsimp only; omega) | omega)) hb.size; have x0 : (u2).cell? ⟨w.heap.size + 1 + 1, 0, none⟩ = some (.int .i64 (0)) := (hb.cell (p := ⟨w.heap.size + 1 + 1, 0, none⟩) (by first | assumption | (simp; done) | (simp; omega) | (dsimp only; omega) | omega)).trans (by first | assumption | (simp [go_sem]; done) | (simp [go_sem, *]; done)); have x1 : (u2).cell? ⟨w.heap.size + 1 + 1, 1, none⟩ = some (.int .i64 (0)) := (hb.cell (p := ⟨w.heap.size + 1 + 1, 1, none⟩) (by first | assumption | (simp; done) | (simp; omega) | (dsimp only; omega) | omega)).trans (by first | assumption | (simp [go_sem]; done) | (simp [go_sem, *]; done)); have xf : ∀ o, (u2).frozen? ⟨w.heap.size + 1 + 1, o, none⟩ = false := fun o => (hb.frozen (p := ⟨w.heap.size + 1 + 1, o, none⟩) (by first | assumption | (simp; done) | (simp; omega) | (dsimp only; omega) | omega)).trans (by first | (simp [go_sem]; done) | (simp [go_sem, *]; done))
      have pb2 : u2.cell? ⟨w.heap.size, 1, none⟩ = some (.int .i64 b) := (hb.cell (p := ⟨w.heap.size, 1, none⟩) (by first | assumption | (simp; done) | (simp; omega) | (dsimp only; omega) | omega)).trans (by first | assumption | (simp [go_sem]; done) | (simp [go_sem, *]; done))
      have qd2 : u2.cell? ⟨w.heap.size + 1, 1, none⟩ = some (.int .i64 d) := (hb.cell (p := ⟨w.heap.size + 1, 1, none⟩) (by first | assumption | (simp; done) | (simp; omega) | (dsimp only; omega) | omega)).trans (by first | assumption | (simp [go_sem]; done) | (simp [go_sem, *]; done))
      have BB := BH.out
      have BN : Below w.heap.size w u2 := by repeat' (first | (with_reducible exact Below.refl _ _) | (with_reducible refine Below.alloc ?_ ?_ _) | (with_reducible refine Below.setCell ?_ ?_ _) | (with_reducible refine Below.drew ?_) | (with_reducible refine Below.trans ?_ (Below.mono (by assumption) ?_)) | (simp; done) | (simp; omega) | omega)
      clear BB hb
      go_wp2_with fail
      go_meet
      refine ⟨k, rfl, by omega, ?_, ⟨?_, ?_, ?_, ?_⟩, ?_, ?_, ⟨?_, ?_, ?_⟩, by repeat' (first | (with_reducible exact Below.refl _ _) | (with_reducible refine Below.alloc ?_ ?_ _) | (with_reducible refine Below.setCell ?_ ?_ _) | (with_reducible refine Below.drew ?_) | (with_reducible refine Below.trans ?_ (Below.mono (by assumption) ?_)) | (simp; done) | (simp; omega) | omega)⟩
      all_goals first | omega | (simp; done) | (simp; omega) | (simp [go_sem]; done) | (simp [go_sem, *]; done)
    case rest =>
      clear n1k n2k n3k n4k n5k n6k gk BH hsz hsz1 k0 k1 k2 kf kz pb qd pz qz x0 x1 xf xz hk1 hk2
      obtain ⟨k, rfl, hk1, hk2, ⟨k0, k1, k2, kf⟩, pb, qd, ⟨x0, x1, xf⟩, hB⟩ := hcut
      have BH := hid hB
      have hsz := hB.size
      have m1k : ¬ k = w.heap.size := by omega
      have m2k : ¬ w.heap.size = k := by omega
      have m3k : ¬ k = w.heap.size + 1 := by omega
      have m4k : ¬ w.heap.size + 1 = k := by omega
      have m5k : ¬ k = w.heap.size + 1 + 1 := by omega
      have m6k : ¬ w.heap.size + 1 + 1 = k := by omega
      have gk : w.heap.size ≤ k := by omega
      clear hB
      have pz : w.heap.size < wc.heap.size := by omega
      have qz : w.heap.size + 1 < wc.heap.size := by omega
      have xz : w.heap.size + 1 + 1 < wc.heap.size := by omega
      go_wp2_with fail
      go_region_with (first | (go_at_call 95; (with_reducible refine (m3 _).mono ?_); rintro e w5 ⟨rfl, rfl⟩) | (go_at_call 94; refine (li _).mono ?_; rintro e w6 ⟨rfl, hb⟩; have yz : w.heap.size + 1 + 1 < (w6).heap.size := Nat.lt_of_lt_of_le (show w.heap.size + 1 + 1 < _ from (by first | assumption | (simp; done) | (simp; omega) | (dsimp only; omega) | omega)) hb.size; have y0 : (w6).cell? ⟨w.heap.size + 1 + 1, 0, none⟩ = some (.int .i64 (0)) := (hb.cell (p := ⟨w.heap.size + 1 + 1, 0, none⟩) (by first | assumption | (simp; done) | (simp; omega) | (dsimp only; omega) | omega)).trans (by first | assumption | (simp [go_sem]; done) | (simp [go_sem, *]; done)); have y1 : (w6).cell? ⟨w.heap.size + 1 + 1, 1, none⟩ = some (.int .i64 (0)) := (hb.cell (p := ⟨w.heap.size + 1 + 1, 1, none⟩) (by first | assumption | (simp; done) | (simp; omega) | (dsimp only; omega) | omega)).trans (by first | assumption | (simp [go_sem]; done) | (simp [go_sem, *]; done)); have yf : ∀ o, (w6).frozen? ⟨w.heap.size + 1 + 1, o, none⟩ = false := fun o => (hb.frozen (p := ⟨w.heap.size + 1 + 1, o, none⟩) (by first | assumption | (simp; done) | (simp; omega) | (dsimp only; omega) | omega)).trans (by first | (simp [go_sem]; done) | (simp [go_sem, *]; done))))
      all_goals
        go_wp2
        have BB := BH.out
        refine bodyPost_ret (v := .tuple #[.agg #[.int .i64 x, .int .i64 y], .int .i64 e]) (by simp [results, Try.results97, go_sem, y0, y1]) rfl ?_
        exact Gives.mk rfl (by repeat' (first | (with_reducible exact Below.refl _ _) | (with_reducible refine Below.alloc ?_ ?_ _) | (with_reducible refine Below.setCell ?_ ?_ _) | (with_reducible refine Below.drew ?_) | (with_reducible refine Below.trans ?_ (Below.mono (by assumption) ?_)) | (simp; done) | (simp; omega) | omega))
end Go.Proofs.Ytdimncchejbaaaa
