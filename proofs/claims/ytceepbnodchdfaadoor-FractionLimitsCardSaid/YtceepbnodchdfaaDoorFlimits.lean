/-
  FractionLimits: the walk.
-/
import Derived.Test.YtceepbnodchdfaaDoorFawake
namespace Go.Proofs.YtceepbnodchdfaaDoor
open Go.RowKit
set_option linter.unusedVariables false
set_option linter.unusedSimpArgs false

namespace Sp
theorem two_mul : ∀ k : Nat, k < 49 → mulF (2 ^ k) 1 2 1 = (2 ^ k * 2, 1, 0) := by decide +kernel
theorem two_end : mulF (2 ^ 49) 1 2 1 = (0, 0, 8) := by decide +kernel
theorem two_le : ∀ k : Nat, k < 49 → (1 : Int) ≤ 2 ^ k ∧ (2 : Int) ^ k ≤ 281474976710656 := by decide +kernel
theorem two_le2 : ∀ k : Nat, k < 50 → (1 : Int) ≤ 2 ^ k ∧ (2 : Int) ^ k ≤ 562949953421312 := by decide +kernel
theorem three_mul : ∀ a : Nat, a < 50 → ∀ j : Nat, j < 31 → mulF (2 ^ a) (3 ^ j) 1 3 = (2 ^ a, 3 ^ j * 3, 0) := by decide +kernel
theorem three_end : ∀ a : Nat, a < 50 → mulF (2 ^ a) (3 ^ 31) 1 3 = (0, 0, 8) := by decide +kernel
theorem three_le : ∀ j : Nat, j < 31 → (1 : Int) ≤ 3 ^ j ∧ (3 : Int) ^ j ≤ 205891132094649 := by decide +kernel
theorem three_le2 : ∀ j : Nat, j < 32 → (1 : Int) ≤ 3 ^ j ∧ (3 : Int) ^ j ≤ 617673396283947 := by decide +kernel
end Sp
def LSt1 (k : Nat) (X Y E M : Int) (F : Bool) : Prop := (k ≤ 49 ∧ X = 2 ^ k ∧ Y = 1 ∧ E = 0 ∧ M = 2 ^ k ∧ F = true) ∨ (50 ≤ k ∧ E = 8 ∧ F = false)
def LSt2 (a j : Nat) (X Y E D : Int) (F : Bool) : Prop := (a ≤ 49 ∧ j ≤ 31 ∧ X = 2 ^ a ∧ Y = 3 ^ j ∧ E = 0 ∧ D = 3 ^ j ∧ F = true) ∨ (E = 8 ∧ F = false)
def LBoxF (wx : World) (k : Nat) (x y : Int) : Prop := k < wx.heap.size ∧ wx.cell? ⟨k, 0, none⟩ = some (.int .i64 x) ∧ wx.cell? ⟨k, 1, none⟩ = some (.int .i64 y) ∧ ∀ o, wx.frozen? ⟨k, o, none⟩ = false
def LRel1 (w : World) (g a : Nat) (v8 v9 v11 v22 : Value) (wr : World) : Prop :=
  ∃ (k : Nat) (X Y E M : Int) (F : Bool), k ≤ a ∧ v8 = .int .i64 E ∧ v9 = .int .i64 M ∧ v11 = .bool F ∧ v22 = .int .i64 k ∧ LSt1 k X Y E M F ∧ LBoxF wr g X Y ∧ Below w.heap.size w wr
def LRel2 (w : World) (g a b : Nat) (v8 v10 v11 v42 : Value) (wr : World) : Prop :=
  ∃ (j : Nat) (X Y E D : Int) (F : Bool), j ≤ b ∧ v8 = .int .i64 E ∧ v10 = .int .i64 D ∧ v11 = .bool F ∧ v42 = .int .i64 j ∧ LSt2 a j X Y E D F ∧ LBoxF wr g X Y ∧ Below w.heap.size w wr
set_option maxRecDepth 100000 in
set_option maxHeartbeats 8000000 in
theorem flimits_walk (s t : Int) (a b : Nat) (ha : a < 60) (hb0 : b < 40) (es : s % 60 = (a : Int)) (et : t % 40 = (b : Int)) (s0 : 0 ≤ s) (s1 : s ≤ 255) (t0 : 0 ≤ t) (t1 : t ≤ 255) (w : World)
    (aw : Calls Tryd.prog 11 #[] w (Gives (.bool true) w)) :
    Calls Tryd.prog 10 #[.int .u8 s, .int .u8 t] w (Gives (.bool true) w) := by
  go_enter Tryd.func10, Tryd.ntmps10
  go_wp2_with fail
  refine aw.mono ?_; rintro _ u1 ⟨rfl, hb⟩
  have BN : Below w.heap.size w u1 := by repeat' (first | (with_reducible exact Below.refl _ _) | (with_reducible refine Below.alloc ?_ ?_ _) | (with_reducible refine Below.setCell ?_ ?_ _) | (with_reducible refine Below.drew ?_) | (with_reducible refine Below.trans ?_ (Below.mono (by assumption) ?_)) | (simp; done) | (simp; omega) | omega)
  have BH := hid BN
  have hsz := BN.size
  clear BN hb
  go_wp2_with fail
  simp only [es, et]
  clear es et
  go_loopw [8, 9, 11, 22] (fun v8 v9 v11 v22 wr => LRel1 w u1.heap.size a v8 v9 v11 v22 wr) (fun _ _ _ v _ => a - (intOf v).toNat)
  case atStart =>
    have BB := BH.out
    exact ⟨0, 1, 1, 0, 1, true, Nat.zero_le _, rfl, rfl, rfl, rfl, Or.inl ⟨by omega, rfl, rfl, rfl, rfl, rfl⟩, ⟨by simp, by simp [go_sem], by simp [go_sem], fun o => by simp [go_sem]⟩, by repeat' (first | (with_reducible exact Below.refl _ _) | (with_reducible refine Below.alloc ?_ ?_ _) | (with_reducible refine Below.setCell ?_ ?_ _) | (with_reducible refine Below.drew ?_) | (with_reducible refine Below.trans ?_ (Below.mono (by assumption) ?_)) | (simp; done) | (simp; omega) | omega)⟩
  case round =>
    obtain ⟨k, X, Y, E, M, F, hk, rfl, rfl, rfl, rfl, hst, ⟨gz, g0, g1, gf⟩, hB⟩ := hrel
    have BR := hid hB
    have hszr := hB.size
    have hle : w.heap.size ≤ u1.heap.size := hsz
    clear hB BH
    by_cases hlt : k < a
    · rcases hst with ⟨k49, hX, hY, hE, hM, hF⟩ | ⟨k50, hE, hF⟩
      · subst hY
        subst hE
        subst hF
        rw [← hM] at hX
        subst hX
        by_cases h49 : k < 49
        · have mu := Sp.two_mul k h49
          have bd := Sp.two_le k h49
          have e2 : (2 : Int) ^ (k + 1) = 2 ^ k * 2 := Int.pow_succ 2 k
          rw [← hM] at mu bd e2
          have HP := hid e2
          have bd1 := bd.1
          have bd2 := bd.2
          have m := fun w => fmul_any X 1 2 1 (X * 2) 1 0 (by omega) (by omega) (by omega) (by omega) (by omega) (by omega) (by omega) (by omega) mu w
          have dl : decide (X ≤ 500000000000000) = true := by simp; omega
          have HM := hid hM
          clear mu bd e2 hM
          go_wp2_with fail
          refine (m _).mono ?_; rintro _ w5 ⟨rfl, hb⟩
          have dz : u1.heap.size < (w5).heap.size := Nat.lt_of_lt_of_le (show u1.heap.size < _ from (by first | assumption | (simp; done) | (simp; omega) | (dsimp only; omega) | omega)) hb.size; have d0 : (w5).cell? ⟨u1.heap.size, 0, none⟩ = some (.int .i64 (X)) := (hb.cell (p := ⟨u1.heap.size, 0, none⟩) (by first | assumption | (simp; done) | (simp; omega) | (dsimp only; omega) | omega)).trans (by first | assumption | (simp [go_sem]; done) | (simp [go_sem, *]; done)); have d1 : (w5).cell? ⟨u1.heap.size, 1, none⟩ = some (.int .i64 (1)) := (hb.cell (p := ⟨u1.heap.size, 1, none⟩) (by first | assumption | (simp; done) | (simp; omega) | (dsimp only; omega) | omega)).trans (by first | assumption | (simp [go_sem]; done) | (simp [go_sem, *]; done)); have df : ∀ o, (w5).frozen? ⟨u1.heap.size, o, none⟩ = false := fun o => (hb.frozen (p := ⟨u1.heap.size, o, none⟩) (by first | assumption | (simp; done) | (simp; omega) | (dsimp only; omega) | omega)).trans (by first | (simp [go_sem]; done) | (simp [go_sem, *]; done))
          have BB := BR.out
          have BN : Below w.heap.size w w5 := by repeat' (first | (with_reducible exact Below.refl _ _) | (with_reducible refine Below.alloc ?_ ?_ _) | (with_reducible refine Below.setCell ?_ ?_ _) | (with_reducible refine Below.drew ?_) | (with_reducible refine Below.trans ?_ (Below.mono (by assumption) ?_)) | (simp; done) | (simp; omega) | omega)
          clear BB hb gz g0 g1 gf
          have BF := hid BN
          have hs5 := BN.size
          clear BN
          go_wp2
          go_roundw
          case rel =>
            have BB := BF.out
            exact ⟨k + 1, X * 2, 1, 0, X * 2, true, by omega, rfl, rfl, rfl, by go_num, Or.inl ⟨by omega, HP.out.symm, rfl, rfl, HP.out.symm, rfl⟩, ⟨(by first | assumption | (simp; done) | (simp; omega) | (dsimp only; omega) | omega), (by first | assumption | (simp [go_sem]; done) | (simp [go_sem, *]; done)), (by first | assumption | (simp [go_sem]; done) | (simp [go_sem, *]; done)), fun o => by first | (simp [go_sem]; done) | (simp [go_sem, *]; done)⟩, by repeat' (first | (with_reducible exact Below.refl _ _) | (with_reducible refine Below.alloc ?_ ?_ _) | (with_reducible refine Below.setCell ?_ ?_ _) | (with_reducible refine Below.drew ?_) | (with_reducible refine Below.trans ?_ (Below.mono (by assumption) ?_)) | (simp; done) | (simp; omega) | omega)⟩
          case measure => simp [intOf]; omega
        · have e49 : k = 49 := by omega
          subst e49
          have eX : X = 562949953421312 := by rw [hM]; decide
          subst eX
          clear hM
          have m := fun w => fmul_any 562949953421312 1 2 1 0 0 8 (by omega) (by omega) (by omega) (by omega) (by omega) (by omega) (by omega) (by omega) Sp.two_end w
          go_wp2_with fail
          refine (m _).mono ?_; rintro _ w5 ⟨rfl, hb⟩
          have dz : u1.heap.size < (w5).heap.size := Nat.lt_of_lt_of_le (show u1.heap.size < _ from (by first | assumption | (simp; done) | (simp; omega) | (dsimp only; omega) | omega)) hb.size; have d0 : (w5).cell? ⟨u1.heap.size, 0, none⟩ = some (.int .i64 (562949953421312)) := (hb.cell (p := ⟨u1.heap.size, 0, none⟩) (by first | assumption | (simp; done) | (simp; omega) | (dsimp only; omega) | omega)).trans (by first | assumption | (simp [go_sem]; done) | (simp [go_sem, *]; done)); have d1 : (w5).cell? ⟨u1.heap.size, 1, none⟩ = some (.int .i64 (1)) := (hb.cell (p := ⟨u1.heap.size, 1, none⟩) (by first | assumption | (simp; done) | (simp; omega) | (dsimp only; omega) | omega)).trans (by first | assumption | (simp [go_sem]; done) | (simp [go_sem, *]; done)); have df : ∀ o, (w5).frozen? ⟨u1.heap.size, o, none⟩ = false := fun o => (hb.frozen (p := ⟨u1.heap.size, o, none⟩) (by first | assumption | (simp; done) | (simp; omega) | (dsimp only; omega) | omega)).trans (by first | (simp [go_sem]; done) | (simp [go_sem, *]; done))
          have BB := BR.out
          have BN : Below w.heap.size w w5 := by repeat' (first | (with_reducible exact Below.refl _ _) | (with_reducible refine Below.alloc ?_ ?_ _) | (with_reducible refine Below.setCell ?_ ?_ _) | (with_reducible refine Below.drew ?_) | (with_reducible refine Below.trans ?_ (Below.mono (by assumption) ?_)) | (simp; done) | (simp; omega) | omega)
          clear BB hb gz g0 g1 gf
          have BF := hid BN
          have hs5 := BN.size
          clear BN
          go_wp2
          go_roundw
          case rel =>
            have BB := BF.out
            exact ⟨50, 0, 0, 8, _, false, by omega, rfl, rfl, rfl, by go_num, Or.inr ⟨by omega, rfl, rfl⟩, ⟨(by first | assumption | (simp; done) | (simp; omega) | (dsimp only; omega) | omega), (by first | assumption | (simp [go_sem]; done) | (simp [go_sem, *]; done)), (by first | assumption | (simp [go_sem]; done) | (simp [go_sem, *]; done)), fun o => by first | (simp [go_sem]; done) | (simp [go_sem, *]; done)⟩, by repeat' (first | (with_reducible exact Below.refl _ _) | (with_reducible refine Below.alloc ?_ ?_ _) | (with_reducible refine Below.setCell ?_ ?_ _) | (with_reducible refine Below.drew ?_) | (with_reducible refine Below.trans ?_ (Below.mono (by assumption) ?_)) | (simp; done) | (simp; omega) | omega)⟩
          case measure => simp [intOf]; omega
      · subst hE
        subst hF
        go_wp2
        go_roundw
        case rel =>
          have BB := BR.out
          exact ⟨k + 1, X, Y, 8, M, false, by omega, rfl, rfl, rfl, by go_num, Or.inr ⟨by omega, rfl, rfl⟩, ⟨(by first | assumption | (simp; done) | (simp; omega) | (dsimp only; omega) | omega), (by first | assumption | (simp [go_sem]; done) | (simp [go_sem, *]; done)), (by first | assumption | (simp [go_sem]; done) | (simp [go_sem, *]; done)), fun o => by first | (simp [go_sem]; done) | (simp [go_sem, *]; done)⟩, by repeat' (first | (with_reducible exact Below.refl _ _) | (with_reducible refine Below.alloc ?_ ?_ _) | (with_reducible refine Below.setCell ?_ ?_ _) | (with_reducible refine Below.drew ?_) | (with_reducible refine Below.trans ?_ (Below.mono (by assumption) ?_)) | (simp; done) | (simp; omega) | omega)⟩
        case measure => simp [intOf]; omega
    · have e' : k = a := by omega
      subst e'
      obtain ⟨wo, rfl⟩ : ∃ wo : World, wo = wr := ⟨_, rfl⟩
      have hs2 : LSt2 k 0 X Y E 1 F ∧ (k ≤ 49 → M = 2 ^ k) := by
        rcases hst with ⟨k49, hX, hY, hE, hM, hF⟩ | ⟨k50, hE, hF⟩
        · exact ⟨Or.inl ⟨k49, by omega, hX, hY, hE, rfl, hF⟩, fun _ => hM⟩
        · exact ⟨Or.inr ⟨hE, hF⟩, fun h => by omega⟩
      have H2 := hid hs2
      clear hs2 hst
      go_wp2_with fail
      go_loopw [8, 10, 11, 42] (fun v8 v10 v11 v42 wr => LRel2 w u1.heap.size k b v8 v10 v11 v42 wr) (fun _ _ _ v _ => b - (intOf v).toNat)
      case atStart =>
        have BB := BR.out
        exact ⟨0, X, Y, E, 1, F, Nat.zero_le _, rfl, rfl, rfl, rfl, H2.out.1, ⟨gz, g0, g1, gf⟩, by repeat' (first | (with_reducible exact Below.refl _ _) | (with_reducible refine Below.alloc ?_ ?_ _) | (with_reducible refine Below.setCell ?_ ?_ _) | (with_reducible refine Below.drew ?_) | (with_reducible refine Below.trans ?_ (Below.mono (by assumption) ?_)) | (simp; done) | (simp; omega) | omega)⟩
      case round =>
        clear gz g0 g1 gf
        obtain ⟨j, X2, Y2, E2, D, F2, hj, rfl, rfl, rfl, rfl, hst, ⟨gz, g0, g1, gf⟩, hB⟩ := hrel
        have BR2 := hid hB
        have hszr2 := hB.size
        clear hB
        by_cases hlt2 : j < b
        · rcases hst with ⟨k49, j31, hX, hY, hE, hD, hF⟩ | ⟨hE, hF⟩
          · subst hE
            subst hF
            rw [← hD] at hY
            subst hY
            have bx := Sp.two_le2 k (by omega)
            rw [← hX] at bx
            have bx1 := bx.1
            have bx2 := bx.2
            by_cases h31 : j < 31
            · have mu := Sp.three_mul k (by omega) j h31
              have bd := Sp.three_le j h31
              have e2 : (3 : Int) ^ (j + 1) = 3 ^ j * 3 := Int.pow_succ 3 j
              rw [← hD] at mu bd e2
              rw [← hX] at mu
              have HP := hid e2
              have bd1 := bd.1
              have bd2 := bd.2
              have m := fun w => fmul_any X2 Y2 1 3 X2 (Y2 * 3) 0 (by omega) (by omega) (by omega) (by omega) (by omega) (by omega) (by omega) (by omega) mu w
              have dl : decide (Y2 ≤ 333333333333333) = true := by simp; omega
              have HX2 := hid hX
              clear mu bd e2 hD hX bx
              go_wp2_with fail
              refine (m _).mono ?_; rintro _ w5 ⟨rfl, hb⟩
              have dz : u1.heap.size < (w5).heap.size := Nat.lt_of_lt_of_le (show u1.heap.size < _ from (by first | assumption | (simp; done) | (simp; omega) | (dsimp only; omega) | omega)) hb.size; have d0 : (w5).cell? ⟨u1.heap.size, 0, none⟩ = some (.int .i64 (X2)) := (hb.cell (p := ⟨u1.heap.size, 0, none⟩) (by first | assumption | (simp; done) | (simp; omega) | (dsimp only; omega) | omega)).trans (by first | assumption | (simp [go_sem]; done) | (simp [go_sem, *]; done)); have d1 : (w5).cell? ⟨u1.heap.size, 1, none⟩ = some (.int .i64 (Y2)) := (hb.cell (p := ⟨u1.heap.size, 1, none⟩) (by first | assumption | (simp; done) | (simp; omega) | (dsimp only; omega) | omega)).trans (by first | assumption | (simp [go_sem]; done) | (simp [go_sem, *]; done)); have df : ∀ o, (w5).frozen? ⟨u1.heap.size, o, none⟩ = false := fun o => (hb.frozen (p := ⟨u1.heap.size, o, none⟩) (by first | assumption | (simp; done) | (simp; omega) | (dsimp only; omega) | omega)).trans (by first | (simp [go_sem]; done) | (simp [go_sem, *]; done))
              have BB := BR2.out
              have BN : Below w.heap.size w w5 := by repeat' (first | (with_reducible exact Below.refl _ _) | (with_reducible refine Below.alloc ?_ ?_ _) | (with_reducible refine Below.setCell ?_ ?_ _) | (with_reducible refine Below.drew ?_) | (with_reducible refine Below.trans ?_ (Below.mono (by assumption) ?_)) | (simp; done) | (simp; omega) | omega)
              clear BB hb gz g0 g1 gf
              have BF := hid BN
              have hs5 := BN.size
              clear BN
              go_wp2
              go_roundw
              case rel =>
                have BB := BF.out
                exact ⟨j + 1, X2, Y2 * 3, 0, Y2 * 3, true, by omega, rfl, rfl, rfl, by go_num, Or.inl ⟨k49, by omega, HX2.out, HP.out.symm, rfl, HP.out.symm, rfl⟩, ⟨(by first | assumption | (simp; done) | (simp; omega) | (dsimp only; omega) | omega), (by first | assumption | (simp [go_sem]; done) | (simp [go_sem, *]; done)), (by first | assumption | (simp [go_sem]; done) | (simp [go_sem, *]; done)), fun o => by first | (simp [go_sem]; done) | (simp [go_sem, *]; done)⟩, by repeat' (first | (with_reducible exact Below.refl _ _) | (with_reducible refine Below.alloc ?_ ?_ _) | (with_reducible refine Below.setCell ?_ ?_ _) | (with_reducible refine Below.drew ?_) | (with_reducible refine Below.trans ?_ (Below.mono (by assumption) ?_)) | (simp; done) | (simp; omega) | omega)⟩
              case measure => simp [intOf]; omega
            · have e31 : j = 31 := by omega
              subst e31
              have eY : Y2 = 617673396283947 := by rw [hD]; decide
              have mu := Sp.three_end k (by omega)
              have e3 : (3 : Int) ^ 31 = 617673396283947 := by decide
              rw [e3, ← hX] at mu
              subst eY
              have m := fun w => fmul_any X2 617673396283947 1 3 0 0 8 (by omega) (by omega) (by omega) (by omega) (by omega) (by omega) (by omega) (by omega) mu w
              clear mu hD hX bx e3
              go_wp2_with fail
              refine (m _).mono ?_; rintro _ w5 ⟨rfl, hb⟩
              have dz : u1.heap.size < (w5).heap.size := Nat.lt_of_lt_of_le (show u1.heap.size < _ from (by first | assumption | (simp; done) | (simp; omega) | (dsimp only; omega) | omega)) hb.size; have d0 : (w5).cell? ⟨u1.heap.size, 0, none⟩ = some (.int .i64 (X2)) := (hb.cell (p := ⟨u1.heap.size, 0, none⟩) (by first | assumption | (simp; done) | (simp; omega) | (dsimp only; omega) | omega)).trans (by first | assumption | (simp [go_sem]; done) | (simp [go_sem, *]; done)); have d1 : (w5).cell? ⟨u1.heap.size, 1, none⟩ = some (.int .i64 (617673396283947)) := (hb.cell (p := ⟨u1.heap.size, 1, none⟩) (by first | assumption | (simp; done) | (simp; omega) | (dsimp only; omega) | omega)).trans (by first | assumption | (simp [go_sem]; done) | (simp [go_sem, *]; done)); have df : ∀ o, (w5).frozen? ⟨u1.heap.size, o, none⟩ = false := fun o => (hb.frozen (p := ⟨u1.heap.size, o, none⟩) (by first | assumption | (simp; done) | (simp; omega) | (dsimp only; omega) | omega)).trans (by first | (simp [go_sem]; done) | (simp [go_sem, *]; done))
              have BB := BR2.out
              have BN : Below w.heap.size w w5 := by repeat' (first | (with_reducible exact Below.refl _ _) | (with_reducible refine Below.alloc ?_ ?_ _) | (with_reducible refine Below.setCell ?_ ?_ _) | (with_reducible refine Below.drew ?_) | (with_reducible refine Below.trans ?_ (Below.mono (by assumption) ?_)) | (simp; done) | (simp; omega) | omega)
              clear BB hb gz g0 g1 gf
              have BF := hid BN
              have hs5 := BN.size
              clear BN
              go_wp2
              go_roundw
              case rel =>
                have BB := BF.out
                exact ⟨32, 0, 0, 8, _, false, by omega, rfl, rfl, rfl, by go_num, Or.inr ⟨rfl, rfl⟩, ⟨(by first | assumption | (simp; done) | (simp; omega) | (dsimp only; omega) | omega), (by first | assumption | (simp [go_sem]; done) | (simp [go_sem, *]; done)), (by first | assumption | (simp [go_sem]; done) | (simp [go_sem, *]; done)), fun o => by first | (simp [go_sem]; done) | (simp [go_sem, *]; done)⟩, by repeat' (first | (with_reducible exact Below.refl _ _) | (with_reducible refine Below.alloc ?_ ?_ _) | (with_reducible refine Below.setCell ?_ ?_ _) | (with_reducible refine Below.drew ?_) | (with_reducible refine Below.trans ?_ (Below.mono (by assumption) ?_)) | (simp; done) | (simp; omega) | omega)⟩
              case measure => simp [intOf]; omega
          · subst hE
            subst hF
            go_wp2
            go_roundw
            case rel =>
              have BB := BR2.out
              exact ⟨j + 1, X2, Y2, 8, D, false, by omega, rfl, rfl, rfl, by go_num, Or.inr ⟨rfl, rfl⟩, ⟨gz, g0, g1, gf⟩, by repeat' (first | (with_reducible exact Below.refl _ _) | (with_reducible refine Below.alloc ?_ ?_ _) | (with_reducible refine Below.setCell ?_ ?_ _) | (with_reducible refine Below.drew ?_) | (with_reducible refine Below.trans ?_ (Below.mono (by assumption) ?_)) | (simp; done) | (simp; omega) | omega)⟩
            case measure => simp [intOf]; omega
        · have e2 : j = b := by omega
          subst e2
          rcases hst with ⟨k49, j31, hX, hY, hE, hD, hF⟩ | ⟨hE, hF⟩
          · subst hE
            subst hF
            have eM := H2.out.2 k49
            rw [← hX] at eM
            rw [← hD] at hY
            subst hY
            subst eM
            clear hX hD
            go_wp2_with fail
            refine (fis_true _ _ _).mono ?_; rintro _ w6 ⟨rfl, hb6⟩
            go_wp2
            go_ret
            have BB := BR2.out
            exact Gives.mk rfl (by repeat' (first | (with_reducible exact Below.refl _ _) | (with_reducible refine Below.alloc ?_ ?_ _) | (with_reducible refine Below.setCell ?_ ?_ _) | (with_reducible refine Below.drew ?_) | (with_reducible refine Below.trans ?_ (Below.mono (by assumption) ?_)) | (simp; done) | (simp; omega) | omega))
          · subst hE
            subst hF
            go_wp2
            go_ret
            have BB := BR2.out
            exact Gives.mk rfl (by repeat' (first | (with_reducible exact Below.refl _ _) | (with_reducible refine Below.alloc ?_ ?_ _) | (with_reducible refine Below.setCell ?_ ?_ _) | (with_reducible refine Below.drew ?_) | (with_reducible refine Below.trans ?_ (Below.mono (by assumption) ?_)) | (simp; done) | (simp; omega) | omega))
theorem flimits_as (s t : Int) (s0 : 0 ≤ s) (s1 : s ≤ 255) (t0 : 0 ≤ t) (t1 : t ≤ 255) (w : World) (ht : Lib.TabIs Tryd.prog w "internal/strconv.uint64pow10" .u64 Lib.pow10Tab) :
    Calls Tryd.prog 10 #[.int .u8 s, .int .u8 t] w (Gives (.bool true) w) :=
  flimits_walk s t (s % 60).toNat (t % 40).toNat (by omega) (by omega) (by omega) (by omega) s0 s1 t0 t1 w (fawake_any w ht)
end Go.Proofs.YtceepbnodchdfaaDoor
