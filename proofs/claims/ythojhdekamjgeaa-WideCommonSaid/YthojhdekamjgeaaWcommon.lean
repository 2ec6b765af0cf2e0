/-
  WideCommon: the walk.
-/
import Derived.Test.YthojhdekamjgeaaWring
namespace Go.Proofs.Ythojhdekamjgeaa
open Go.RowKit
set_option linter.unusedVariables false

set_option maxRecDepth 100000 in
set_option maxHeartbeats 2000000 in
theorem common_zero (a b : Int) (nx : Bool) (hx lx : Int) (w : World)
    (mab : ∀ w : World, Calls Try.prog 27 #[.int .i64 a, .int .i64 b] w fun e w' => e = .returned (.agg #[.bool nx, .int .u64 hx, .int .u64 lx]) ∧ w' = (w.alloc (Obj.cells #[.bool nx, .int .u64 hx, .int .u64 lx] 24)).alloc (Obj.cells #[.bool nx, .int .u64 hx, .int .u64 lx] 24))
    (dv : ∀ w : World, Calls Try.prog 33 #[.agg #[.bool nx, .int .u64 hx, .int .u64 lx], .int .i64 0] w (Gives (.tuple #[.agg #[.bool false, .int .u64 0, .int .u64 0], .int .i64 0, .int .i64 18]) w)) :
    Calls Try.prog 9 #[.int .i64 a, .int .i64 b, .int .i64 0] w (Gives (.bool true) w) := by
  go_enter Try.func9, Try.ntmps9
  go_wp2_with fail
  refine (mab _).mono ?_; rintro e w' ⟨rfl, rfl⟩
  go_wp2_with fail
  refine (dv _).mono ?_; rintro e w1 ⟨rfl, hb⟩
  have B1 : Below w.heap.size w w1 := by repeat' (first | (with_reducible exact Below.refl _ _) | (with_reducible refine Below.alloc ?_ ?_ _) | (with_reducible refine Below.setCell ?_ ?_ _) | (with_reducible refine Below.drew ?_) | (with_reducible refine Below.trans ?_ (Below.mono (by assumption) ?_)) | (simp; done) | (simp; omega) | omega)
  have hsz := B1.size
  clear hb
  go_wp2_with fail
  refine (awake_any _).mono ?_; rintro e w2 ⟨rfl, hb2⟩
  go_wp2_with fail
  go_ret
  exact Gives.mk rfl (by repeat' (first | (with_reducible exact Below.refl _ _) | (with_reducible refine Below.alloc ?_ ?_ _) | (with_reducible refine Below.setCell ?_ ?_ _) | (with_reducible refine Below.drew ?_) | (with_reducible refine Below.trans ?_ (Below.mono (by assumption) ?_)) | (simp; done) | (simp; omega) | omega))

/-- A box that holds an integer, no error, and an older box beside it. -/
def BackRel2 (w : World) (n : Bool) (h l : Int) (b : Nat) (n' : Bool) (h' l' : Int) (v v' : Value) (wx : World) : Prop :=
  BackRel w n h l v v' wx ∧ (b < wx.heap.size ∧ wx.cell? ⟨b, 0, none⟩ = some (.bool n') ∧ wx.cell? ⟨b, 1, none⟩ = some (.int .u64 h') ∧ wx.cell? ⟨b, 2, none⟩ = some (.int .u64 l'))
set_option maxRecDepth 100000 in
set_option maxHeartbeats 4000000 in
theorem common_walk (a b d : Int) (gd : (d == 0) = false) (nx : Bool) (hx lx : Int) (nq : Bool) (hq lq r : Int) (np : Bool) (hp lp f : Int) (nr : Bool) (hr lr : Int) (ns : Bool) (hs ls : Int) (c h : Int) (ny : Bool) (hy ly : Int) (w : World)
    (hf : (f = 0 ∧ ns = nx ∧ hs = hx ∧ ls = lx) ∨ f = 8) (hr0 : r = 0 ∨ ((r == 0) = false ∧ decide (r < 0) = decide (d < 0))) (hc : (h = 0 ∧ 1 ≤ c ∧ d.tmod c = 0) ∨ h = 8)
    (mab : ∀ w : World, Calls Try.prog 27 #[.int .i64 a, .int .i64 b] w fun e w' => e = .returned (.agg #[.bool nx, .int .u64 hx, .int .u64 lx]) ∧ w' = (w.alloc (Obj.cells #[.bool nx, .int .u64 hx, .int .u64 lx] 24)).alloc (Obj.cells #[.bool nx, .int .u64 hx, .int .u64 lx] 24))
    (dv : ∀ w : World, Calls Try.prog 33 #[.agg #[.bool nx, .int .u64 hx, .int .u64 lx], .int .i64 d] w (Gives (.tuple #[.agg #[.bool nq, .int .u64 hq, .int .u64 lq], .int .i64 r, .int .i64 0]) w))
    (tm : ∀ w : World, Calls Try.prog 25 #[.agg #[.bool nq, .int .u64 hq, .int .u64 lq], .int .i64 d] w (Gives (.tuple #[.agg #[.bool np, .int .u64 hp, .int .u64 lp], .int .i64 f]) w))
    (or : ∀ w : World, Calls Try.prog 14 #[.int .i64 r] w fun e w' => e = .returned (.agg #[.bool nr, .int .u64 hr, .int .u64 lr]) ∧ w' = (w.alloc (Obj.cells #[.bool nr, .int .u64 hr, .int .u64 lr] 24)).alloc (Obj.cells #[.bool nr, .int .u64 hr, .int .u64 lr] 24))
    (ad : ∀ w : World, Calls Try.prog 19 #[.agg #[.bool np, .int .u64 hp, .int .u64 lp], .agg #[.bool nr, .int .u64 hr, .int .u64 lr]] w (Gives (.tuple #[.agg #[.bool ns, .int .u64 hs, .int .u64 ls], .int .i64 0]) w))
    (gc : ∀ w : World, Calls Try.prog 35 #[.agg #[.bool nx, .int .u64 hx, .int .u64 lx], .int .i64 d] w (Gives (.tuple #[.int .i64 c, .int .i64 h]) w))
    (dc : 1 ≤ c → ∀ w : World, Calls Try.prog 33 #[.agg #[.bool nx, .int .u64 hx, .int .u64 lx], .int .i64 c] w (Gives (.tuple #[.agg #[.bool ny, .int .u64 hy, .int .u64 ly], .int .i64 0, .int .i64 0]) w)) :
    Calls Try.prog 9 #[.int .i64 a, .int .i64 b, .int .i64 d] w (Gives (.bool true) w) := by
  have HF := hid hf
  have HR := hid hr0
  have HC := hid hc
  have DC := hid dc
  clear hf hr0 hc dc
  go_enter Try.func9, Try.ntmps9
  go_wp2_with fail
  refine (mab _).mono ?_; rintro e w' ⟨rfl, rfl⟩
  go_wp2_with fail
  refine (dv _).mono ?_; rintro e w1 ⟨rfl, hb⟩
  have xz : w.heap.size + 1 + 1 < (w1).heap.size := Nat.lt_of_lt_of_le (show w.heap.size + 1 + 1 < _ from (by first | assumption | (simp; done) | (simp; omega) | (dsimp only; omega) | omega)) hb.size; have x0 : (w1).cell? ⟨w.heap.size + 1 + 1, 0, none⟩ = some (.bool nx) := (hb.cell (p := ⟨w.heap.size + 1 + 1, 0, none⟩) (by first | assumption | (simp; done) | (simp; omega) | (dsimp only; omega) | omega)).trans (by first | assumption | (simp [go_sem]; done) | (simp [go_sem, *]; done)); have x1 : (w1).cell? ⟨w.heap.size + 1 + 1, 1, none⟩ = some (.int .u64 hx) := (hb.cell (p := ⟨w.heap.size + 1 + 1, 1, none⟩) (by first | assumption | (simp; done) | (simp; omega) | (dsimp only; omega) | omega)).trans (by first | assumption | (simp [go_sem]; done) | (simp [go_sem, *]; done)); have x2 : (w1).cell? ⟨w.heap.size + 1 + 1, 2, none⟩ = some (.int .u64 lx) := (hb.cell (p := ⟨w.heap.size + 1 + 1, 2, none⟩) (by first | assumption | (simp; done) | (simp; omega) | (dsimp only; omega) | omega)).trans (by first | assumption | (simp [go_sem]; done) | (simp [go_sem, *]; done))
  have X1 := hid (And.intro xz (And.intro x0 (And.intro x1 x2)))
  have B1 : Below w.heap.size w w1 := by repeat' (first | (with_reducible exact Below.refl _ _) | (with_reducible refine Below.alloc ?_ ?_ _) | (with_reducible refine Below.setCell ?_ ?_ _) | (with_reducible refine Below.drew ?_) | (with_reducible refine Below.trans ?_ (Below.mono (by assumption) ?_)) | (simp; done) | (simp; omega) | omega)
  clear hb xz x0 x1 x2
  go_wp2_with fail
  refine (tm _).mono ?_; rintro e w2 ⟨rfl, hb⟩
  have B2 : Below w1.heap.size w1 w2 := by repeat' (first | (with_reducible exact Below.refl _ _) | (with_reducible refine Below.alloc ?_ ?_ _) | (with_reducible refine Below.setCell ?_ ?_ _) | (with_reducible refine Below.drew ?_) | (with_reducible refine Below.trans ?_ (Below.mono (by assumption) ?_)) | (simp; done) | (simp; omega) | omega)
  clear hb
  have X2 := hid (keep3 B2 X1.out)
  have BB : Below w.heap.size w w2 := B1.trans (B2.mono B1.size)
  have BH := hid BB
  have hsz := BB.size
  clear BB B1 B2 X1 mab dv tm
  go_wp2_with fail
  go_cut [16, 17] (fun v v' wx => BackRel2 w ns hs ls (w.heap.size + 1 + 1) nx hx lx v v' wx)
  case first =>
    have K : Hid (∀ W', Below (w2.heap.size + 1) (w2.alloc (Obj.cells #[.bool np, .int .u64 hp, .int .u64 lp] 24)) W' → (Below (w2.heap.size + 1) (w2.alloc (Obj.cells #[.bool np, .int .u64 hp, .int .u64 lp] 24)) W' ∧ W'.cell? ⟨w2.heap.size, 0, none⟩ = some (.bool np) ∧ W'.cell? ⟨w2.heap.size, 1, none⟩ = some (.int .u64 hp) ∧ W'.cell? ⟨w2.heap.size, 2, none⟩ = some (.int .u64 lp))) := hid fun W' B =>
      ⟨B, (B.cell (p := ⟨w2.heap.size, 0, none⟩) (by simp)).trans (by simp [go_sem]), (B.cell (p := ⟨w2.heap.size, 1, none⟩) (by simp)).trans (by simp [go_sem]), (B.cell (p := ⟨w2.heap.size, 2, none⟩) (by simp)).trans (by simp [go_sem])⟩
    have q1 : w2.heap.size + 1 < w2.heap.size + 1 + 1 + 1 + 1 := by omega
    have q2 : w2.heap.size + 1 < w2.heap.size + 1 + 1 + 1 := by omega
    go_region_held3 (fun w' => Below (w2.heap.size + 1) (w2.alloc (Obj.cells #[.bool np, .int .u64 hp, .int .u64 lp] 24)) w' ∧ w'.cell? ⟨w2.heap.size, 0, none⟩ = some (.bool np) ∧ w'.cell? ⟨w2.heap.size, 1, none⟩ = some (.int .u64 hp) ∧ w'.cell? ⟨w2.heap.size, 2, none⟩ = some (.int .u64 lp)) ((exact K.out _ (by repeat' (first | (with_reducible exact Below.refl _ _) | (with_reducible refine Below.alloc ?_ ?_ _) | (with_reducible refine Below.setCell ?_ ?_ _) | (with_reducible refine Below.drew ?_) | (with_reducible refine Below.trans ?_ (Below.mono (by assumption) ?_)) | (simp; done) | (simp; omega) | omega))))
      (first | (go_at_call 14; refine (or _).mono ?_; rintro e w5 ⟨rfl, rfl⟩) | (go_at_call 19; refine (ad _).mono ?_; rintro e w5 ⟨rfl, hb2⟩; have hb : Below (w2.heap.size + 1) (w2.alloc (Obj.cells #[.bool np, .int .u64 hp, .int .u64 lp] 24)) w5 := (by repeat' (first | (with_reducible exact Below.refl _ _) | (with_reducible refine Below.alloc ?_ ?_ _) | (with_reducible refine Below.setCell ?_ ?_ _) | (with_reducible refine Below.drew ?_) | (with_reducible refine Below.trans ?_ (Below.mono (by assumption) ?_)) | (simp; done) | (simp; omega) | omega)); have hz2 : w2.heap.size + 1 ≤ w5.heap.size := (Nat.le_trans (Nat.le_of_eq (World.size_alloc _ _).symm) hb.size); have hz3 := hb2.size; obtain ⟨hc2, hf2⟩ := bcell hb2))
    all_goals
      go_wp2_with fail
      go_meet
      have BB := BH.out
      refine ⟨⟨_, rfl, rfl, ⟨?_, ?_, ?_, ?_⟩, by repeat' (first | (with_reducible exact Below.refl _ _) | (with_reducible refine Below.alloc ?_ ?_ _) | (with_reducible refine Below.setCell ?_ ?_ _) | (with_reducible refine Below.drew ?_) | (with_reducible refine Below.trans ?_ (Below.mono (by assumption) ?_)) | (simp; done) | (simp; omega) | omega)⟩, keep3 (by repeat' (first | (with_reducible exact Below.refl _ _) | (with_reducible refine Below.alloc ?_ ?_ _) | (with_reducible refine Below.setCell ?_ ?_ _) | (with_reducible refine Below.drew ?_) | (with_reducible refine Below.trans ?_ (Below.mono (by assumption) ?_)) | (simp; done) | (simp; omega) | omega)) X2.out⟩
      · first | (simp; done) | (simp at *; omega) | omega
      all_goals first | (simp [go_sem]; done) | (simp [go_sem, hc2, q1, q2]; done) | (simp [go_sem, *]; done)
  case rest =>
    obtain ⟨⟨k, rfl, rfl, ⟨kz, k0, k1, k2⟩, hBw⟩, hX⟩ := hcut
    have XH := hid hX
    obtain ⟨xz, x0, x1, x2⟩ := hX
    have HBW := hid hBw
    have hwsz := hBw.size
    clear hBw BH hsz X2 or ad
    rcases HF.out with ⟨f0, e1, e2, e3⟩ | f8
    · have a1 : (f != 0) = false := by simp [f0]
      have a2 : (f == 0) = true := by simp [f0]
      clear f0
      rcases HR.out with r0 | ⟨r1, r2⟩
      · have b1 : (r != 0) = false := by simp [r0]
        clear r0
        go_wp2_with fail
        refine (gc _).mono ?_; rintro e w6 ⟨rfl, hb6⟩
        obtain ⟨yz, y0, y1, y2⟩ := keep3 hb6 XH.out
        have s6 := hb6.size
        clear x0 x1 x2 xz k0 k1 k2 kz gc
        rcases HC.out with ⟨h0, c1, ct⟩ | h8
        · have g1 : (h != 0) = false := by simp [h0]
          have c2 : decide (c < 1) = false := by simp; omega
          have dc := DC.out c1
          clear h0
          go_wp2_with fail
          refine (dc _).mono ?_; rintro e w7 ⟨rfl, hb7⟩
          have s7 := hb7.size
          go_wp2_with fail
          refine (awake_any _).mono ?_; rintro e w8 ⟨rfl, hb8⟩
          go_wp2_with fail
          go_ret
          have BB := HBW.out
          exact Gives.mk rfl (by repeat' (first | (with_reducible exact Below.refl _ _) | (with_reducible refine Below.alloc ?_ ?_ _) | (with_reducible refine Below.setCell ?_ ?_ _) | (with_reducible refine Below.drew ?_) | (with_reducible refine Below.trans ?_ (Below.mono (by assumption) ?_)) | (simp; done) | (simp; omega) | omega))
        · have g1 : (h != 0) = true := by simp [h8]
          have g2 : (h == 8) = true := by simp [h8]
          clear h8
          go_wp2_with fail
          refine (awake_any _).mono ?_; rintro e w8 ⟨rfl, hb8⟩
          go_wp2_with fail
          go_ret
          have BB := HBW.out
          exact Gives.mk rfl (by repeat' (first | (with_reducible exact Below.refl _ _) | (with_reducible refine Below.alloc ?_ ?_ _) | (with_reducible refine Below.setCell ?_ ?_ _) | (with_reducible refine Below.drew ?_) | (with_reducible refine Below.trans ?_ (Below.mono (by assumption) ?_)) | (simp; done) | (simp; omega) | omega))
      · have b1 : (r != 0) = true := by simp at r1 ⊢; exact r1
        go_wp2_with fail
        refine (gc _).mono ?_; rintro e w6 ⟨rfl, hb6⟩
        obtain ⟨yz, y0, y1, y2⟩ := keep3 hb6 XH.out
        have s6 := hb6.size
        clear x0 x1 x2 xz k0 k1 k2 kz gc
        rcases HC.out with ⟨h0, c1, ct⟩ | h8
        · have g1 : (h != 0) = false := by simp [h0]
          have c2 : decide (c < 1) = false := by simp; omega
          have dc := DC.out c1
          clear h0
          go_wp2_with fail
          refine (dc _).mono ?_; rintro e w7 ⟨rfl, hb7⟩
          have s7 := hb7.size
          go_wp2_with fail
          refine (awake_any _).mono ?_; rintro e w8 ⟨rfl, hb8⟩
          go_wp2_with fail
          go_ret
          have BB := HBW.out
          exact Gives.mk rfl (by repeat' (first | (with_reducible exact Below.refl _ _) | (with_reducible refine Below.alloc ?_ ?_ _) | (with_reducible refine Below.setCell ?_ ?_ _) | (with_reducible refine Below.drew ?_) | (with_reducible refine Below.trans ?_ (Below.mono (by assumption) ?_)) | (simp; done) | (simp; omega) | omega))
        · have g1 : (h != 0) = true := by simp [h8]
          have g2 : (h == 8) = true := by simp [h8]
          clear h8
          go_wp2_with fail
          refine (awake_any _).mono ?_; rintro e w8 ⟨rfl, hb8⟩
          go_wp2_with fail
          go_ret
          have BB := HBW.out
          exact Gives.mk rfl (by repeat' (first | (with_reducible exact Below.refl _ _) | (with_reducible refine Below.alloc ?_ ?_ _) | (with_reducible refine Below.setCell ?_ ?_ _) | (with_reducible refine Below.drew ?_) | (with_reducible refine Below.trans ?_ (Below.mono (by assumption) ?_)) | (simp; done) | (simp; omega) | omega))
    · have a1 : (f != 0) = true := by simp [f8]
      have a2 : (f != 8) = false := by simp [f8]
      have a3 : (f == 0) = false := by simp [f8]
      clear f8
      rcases HR.out with r0 | ⟨r1, r2⟩
      · have b1 : (r != 0) = false := by simp [r0]
        clear r0
        go_wp2_with fail
        refine (gc _).mono ?_; rintro e w6 ⟨rfl, hb6⟩
        obtain ⟨yz, y0, y1, y2⟩ := keep3 hb6 XH.out
        have s6 := hb6.size
        clear x0 x1 x2 xz k0 k1 k2 kz gc
        rcases HC.out with ⟨h0, c1, ct⟩ | h8
        · have g1 : (h != 0) = false := by simp [h0]
          have c2 : decide (c < 1) = false := by simp; omega
          have dc := DC.out c1
          clear h0
          go_wp2_with fail
          refine (dc _).mono ?_; rintro e w7 ⟨rfl, hb7⟩
          have s7 := hb7.size
          go_wp2_with fail
          refine (awake_any _).mono ?_; rintro e w8 ⟨rfl, hb8⟩
          go_wp2_with fail
          go_ret
          have BB := HBW.out
          exact Gives.mk rfl (by repeat' (first | (with_reducible exact Below.refl _ _) | (with_reducible refine Below.alloc ?_ ?_ _) | (with_reducible refine Below.setCell ?_ ?_ _) | (with_reducible refine Below.drew ?_) | (with_reducible refine Below.trans ?_ (Below.mono (by assumption) ?_)) | (simp; done) | (simp; omega) | omega))
        · have g1 : (h != 0) = true := by simp [h8]
          have g2 : (h == 8) = true := by simp [h8]
          clear h8
          go_wp2_with fail
          refine (awake_any _).mono ?_; rintro e w8 ⟨rfl, hb8⟩
          go_wp2_with fail
          go_ret
          have BB := HBW.out
          exact Gives.mk rfl (by repeat' (first | (with_reducible exact Below.refl _ _) | (with_reducible refine Below.alloc ?_ ?_ _) | (with_reducible refine Below.setCell ?_ ?_ _) | (with_reducible refine Below.drew ?_) | (with_reducible refine Below.trans ?_ (Below.mono (by assumption) ?_)) | (simp; done) | (simp; omega) | omega))
      · have b1 : (r != 0) = true := by simp at r1 ⊢; exact r1
        go_wp2_with fail
        refine (gc _).mono ?_; rintro e w6 ⟨rfl, hb6⟩
        obtain ⟨yz, y0, y1, y2⟩ := keep3 hb6 XH.out
        have s6 := hb6.size
        clear x0 x1 x2 xz k0 k1 k2 kz gc
        rcases HC.out with ⟨h0, c1, ct⟩ | h8
        · have g1 : (h != 0) = false := by simp [h0]
          have c2 : decide (c < 1) = false := by simp; omega
          have dc := DC.out c1
          clear h0
          go_wp2_with fail
          refine (dc _).mono ?_; rintro e w7 ⟨rfl, hb7⟩
          have s7 := hb7.size
          go_wp2_with fail
          refine (awake_any _).mono ?_; rintro e w8 ⟨rfl, hb8⟩
          go_wp2_with fail
          go_ret
          have BB := HBW.out
          exact Gives.mk rfl (by repeat' (first | (with_reducible exact Below.refl _ _) | (with_reducible refine Below.alloc ?_ ?_ _) | (with_reducible refine Below.setCell ?_ ?_ _) | (with_reducible refine Below.drew ?_) | (with_reducible refine Below.trans ?_ (Below.mono (by assumption) ?_)) | (simp; done) | (simp; omega) | omega))
        · have g1 : (h != 0) = true := by simp [h8]
          have g2 : (h == 8) = true := by simp [h8]
          clear h8
          go_wp2_with fail
          refine (awake_any _).mono ?_; rintro e w8 ⟨rfl, hb8⟩
          go_wp2_with fail
          go_ret
          have BB := HBW.out
          exact Gives.mk rfl (by repeat' (first | (with_reducible exact Below.refl _ _) | (with_reducible refine Below.alloc ?_ ?_ _) | (with_reducible refine Below.setCell ?_ ?_ _) | (with_reducible refine Below.drew ?_) | (with_reducible refine Below.trans ?_ (Below.mono (by assumption) ?_)) | (simp; done) | (simp; omega) | omega))
end Go.Proofs.Ythojhdekamjgeaa
