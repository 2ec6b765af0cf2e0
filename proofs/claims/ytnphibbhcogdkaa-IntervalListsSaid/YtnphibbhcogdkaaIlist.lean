/-
  Sum of packages interval and couperef03, by contract.
-/
import Derived.Test.YtnphibbhcogdkaaIawake
import Derived.Test.YtnphibbhcogdkaaIref2
namespace Go.Proofs.Ytnphibbhcogdkaa
open Go.RowKit
set_option linter.unusedVariables false
set_option linter.unusedSimpArgs false

namespace Sp
/-- The error of the first interval that has one. -/
def firstE (X Y : Nat → Int) : Nat → Nat → Int
  | _, 0 => 0
  | i, n + 1 => if chk (X i) (Y i) ≠ 0 then chk (X i) (Y i) else firstE X Y (i + 1) n
/-- The sum from left to right. -/
def sumE (X Y : Nat → Int) : Nat → Nat → Int → Int → Int × Int × Int
  | _, 0, t, u => (t, u, 0)
  | i, n + 1, t, u => if t + X i < -1000000000000000 ∨ 1000000000000000 < u + Y i then (0, 0, 8) else sumE X Y (i + 1) n (t + X i) (u + Y i)
def listS (X Y : Nat → Int) (n : Nat) : Int × Int × Int := if firstE X Y 0 n ≠ 0 then (0, 0, firstE X Y 0 n) else sumE X Y 0 n 0 0
theorem firstE_all {X Y : Nat → Int} : ∀ {n i : Nat}, firstE X Y i n = 0 → ∀ j, i ≤ j → j < i + n → chk (X j) (Y j) = 0
  | 0, i, _, j, h1, h2 => by omega
  | n + 1, i, h, j, h1, h2 => by
    unfold firstE at h
    by_cases c : chk (X i) (Y i) = 0
    · rw [if_neg (by omega)] at h
      by_cases e : i = j
      · subst e; exact c
      · exact firstE_all h j (by omega) (by omega)
    · rw [if_pos c] at h; exact absurd h c
theorem firstE_step {X Y : Nat → Int} {k n : Nat} (h : k < n) : firstE X Y k (n - k) = if chk (X k) (Y k) ≠ 0 then chk (X k) (Y k) else firstE X Y (k + 1) (n - (k + 1)) := by
  obtain ⟨m, rfl⟩ : ∃ m, n = k + (m + 1) := ⟨n - k - 1, by omega⟩
  have e1 : k + (m + 1) - k = m + 1 := by omega
  have e2 : k + (m + 1) - (k + 1) = m := by omega
  rw [e1, e2]; rfl
theorem sumE_step {X Y : Nat → Int} {k n : Nat} {t u : Int} (h : k < n) : sumE X Y k (n - k) t u = if t + X k < -1000000000000000 ∨ 1000000000000000 < u + Y k then (0, 0, 8) else sumE X Y (k + 1) (n - (k + 1)) (t + X k) (u + Y k) := by
  obtain ⟨m, rfl⟩ : ∃ m, n = k + (m + 1) := ⟨n - k - 1, by omega⟩
  have e1 : k + (m + 1) - k = m + 1 := by omega
  have e2 : k + (m + 1) - (k + 1) = m := by omega
  rw [e1, e2]; rfl
end Sp
/-- A slice of intervals lies in memory. -/
structure Sl (w : World) (b off len : Nat) (X Y : Nat → Int) : Prop where
  lt : ∀ i, i < len → b < w.heap.size
  c0 : ∀ i, i < len → w.cell? ⟨b, off + i * 2, none⟩ = some (.int .i64 (X i))
  c1 : ∀ i, i < len → w.cell? ⟨b, off + i * 2 + 1, none⟩ = some (.int .i64 (Y i))
theorem Sl.below {w w' : World} {b off len : Nat} {X Y : Nat → Int} (S : Sl w b off len X Y) (h : Below w.heap.size w w') : Sl w' b off len X Y :=
  ⟨fun i hi => Nat.lt_of_lt_of_le (S.lt i hi) h.size, fun i hi => (h.cell (p := ⟨b, off + i * 2, none⟩) (S.lt i hi)).trans (S.c0 i hi), fun i hi => (h.cell (p := ⟨b, off + i * 2 + 1, none⟩) (S.lt i hi)).trans (S.c1 i hi)⟩
def FL (X Y : Nat → Int) (len : Nat) (y : Int) (w : World) (v : Value) (wr : World) : Prop :=
  ∃ k : Nat, k ≤ len ∧ v = .int .i64 k ∧ Sp.firstE X Y k (len - k) = y ∧ Below w.heap.size w wr
set_option maxHeartbeats 1000000 in
theorem ifirst_list (X Y : Nat → Int) (b off len cap : Nat) (hl : len ≤ 2000) (y : Int) (hy : Sp.firstE X Y 0 len = y) (w : World) (S : Sl w b off len X Y) :
    Calls Try.prog 91 #[.slice (some ⟨b, off, none⟩) len cap] w (Gives (.int .i64 y) w) := by
  have HY := hid hy
  have SH := hid S
  clear hy S
  go_enter Try.func91, Try.ntmps91
  go_wp2_with fail
  go_loopw [8] (fun v wr => FL X Y len y w v wr) (fun v _ => len - (intOf v).toNat)
  case atStart => exact ⟨0, Nat.zero_le _, rfl, HY.out, Below.refl _ _⟩
  case round =>
    obtain ⟨k, hk, rfl, hf, hB⟩ := hrel
    have hsz := hB.size
    have HF := hid hf
    have BH := hid hB
    clear hf hB
    by_cases hlt : k < len
    · have hb : b < w.heap.size := SH.out.lt k hlt
      have hbw : b < wr.heap.size := by omega
      have x0 := (BH.out.cell (p := ⟨b, off + k * 2, none⟩) hb).trans (SH.out.c0 k hlt)
      have x1 := (BH.out.cell (p := ⟨b, off + k * 2 + 1, none⟩) hb).trans (SH.out.c1 k hlt)
      have st := hid (Sp.firstE_step (X := X) (Y := Y) hlt)
      obtain ⟨p, hp⟩ : ∃ p, X k = p := ⟨_, rfl⟩
      obtain ⟨q, hq⟩ : ∃ q, Y k = q := ⟨_, rfl⟩
      rw [hp] at x0
      rw [hq] at x1
      obtain ⟨c, hc⟩ : ∃ c, Sp.chk p q = c := ⟨_, rfl⟩
      have ck := fun w => icheck_any p q w
      rw [hc] at ck
      have PH := hid hp
      have QH := hid hq
      have CH := hid hc
      clear hp hq hc
      by_cases c0 : c = 0
      · subst c0
        go_wp2_with (go_at_call 45; refine (ck _).mono ?_; rintro e w' ⟨rfl, rfl⟩)
        go_roundw
        case rel =>
          refine ⟨k + 1, by omega, by go_num, ?_, ?_⟩
          · rw [← HF.out, st.out, PH.out, QH.out, CH.out, if_neg (by omega)]
          · have BB := BH.out
            repeat' (first | (with_reducible exact Below.refl _ _) | (with_reducible refine Below.alloc ?_ ?_ _) | (with_reducible refine Below.setCell ?_ ?_ _) | (with_reducible refine Below.drew ?_) | (with_reducible refine Below.trans ?_ (Below.mono (by assumption) ?_)) | (simp; done) | (simp; omega) | omega)
        case measure => simp [intOf]; omega
      · go_wp2_with (go_at_call 45; refine (ck _).mono ?_; rintro e w' ⟨rfl, rfl⟩)
        go_ret
        have BB := BH.out
        refine Gives.mk (i64_eq ?_) (by repeat' (first | (with_reducible exact Below.refl _ _) | (with_reducible refine Below.alloc ?_ ?_ _) | (with_reducible refine Below.setCell ?_ ?_ _) | (with_reducible refine Below.drew ?_) | (with_reducible refine Below.trans ?_ (Below.mono (by assumption) ?_)) | (simp; done) | (simp; omega) | omega))
        rw [← HF.out, st.out, PH.out, QH.out, CH.out, if_pos c0]
    · have e : k = len := by omega
      subst e
      go_wp2
      go_ret
      have BB := BH.out
      refine Gives.mk (i64_eq ?_) (by repeat' (first | (with_reducible exact Below.refl _ _) | (with_reducible refine Below.alloc ?_ ?_ _) | (with_reducible refine Below.setCell ?_ ?_ _) | (with_reducible refine Below.drew ?_) | (with_reducible refine Below.trans ?_ (Below.mono (by assumption) ?_)) | (simp; done) | (simp; omega) | omega))
      rw [← HF.out, Nat.sub_self]; rfl
def LBox (wx : World) (k : Nat) (x y : Int) : Prop := k < wx.heap.size ∧ wx.cell? ⟨k, 0, none⟩ = some (.int .i64 x) ∧ wx.cell? ⟨k, 1, none⟩ = some (.int .i64 y) ∧ ∀ o, wx.frozen? ⟨k, o, none⟩ = false
def SL (X Y : Nat → Int) (len : Nat) (R : Int × Int × Int) (w : World) (g : Nat) (v : Value) (wr : World) : Prop :=
  ∃ (k : Nat) (t u : Int), k ≤ len ∧ v = .int .i64 k ∧ (t ≤ u ∧ -1000000000000000 ≤ t ∧ u ≤ 1000000000000000) ∧ Sp.sumE X Y k (len - k) t u = R ∧ LBox wr w.heap.size 0 0 ∧ LBox wr g t u ∧ Below w.heap.size w wr
set_option maxHeartbeats 2000000 in
theorem isum_bad (X Y : Nat → Int) (b off len cap : Nat) (hl : len ≤ 2000) (y : Int) (y0 : ¬ y = 0) (hy : Sp.firstE X Y 0 len = y) (w : World) (S : Sl w b off len X Y) :
    Calls Try.prog 68 #[.slice (some ⟨b, off, none⟩) len cap] w (Gives (.tuple #[.agg #[.int .i64 0, .int .i64 0], .int .i64 y]) w) := by
  have HY := hid hy
  have SH := hid S
  clear hy S
  go_enter Try.func68, Try.ntmps68
  go_wp2_with fail
  refine (ifirst_list X Y b off len cap hl y HY.out _ (SH.out.below (by repeat' (first | (with_reducible exact Below.refl _ _) | (with_reducible refine Below.alloc ?_ ?_ _) | (with_reducible refine Below.setCell ?_ ?_ _) | (with_reducible refine Below.drew ?_) | (with_reducible refine Below.trans ?_ (Below.mono (by assumption) ?_)) | (simp; done) | (simp; omega) | omega)))).mono ?_; rintro e w1 ⟨rfl, hb⟩
  have rz : w.heap.size < (w1).heap.size := Nat.lt_of_lt_of_le (show w.heap.size < _ from (by first | assumption | (simp; done) | (simp; omega) | (dsimp only; omega) | omega)) hb.size; have r0 : (w1).cell? ⟨w.heap.size, 0, none⟩ = some (.int .i64 (0)) := (hb.cell (p := ⟨w.heap.size, 0, none⟩) (by first | assumption | (simp; done) | (simp; omega) | (dsimp only; omega) | omega)).trans (by first | assumption | (simp [go_sem]; done) | (simp [go_sem, *]; done)); have r1 : (w1).cell? ⟨w.heap.size, 1, none⟩ = some (.int .i64 (0)) := (hb.cell (p := ⟨w.heap.size, 1, none⟩) (by first | assumption | (simp; done) | (simp; omega) | (dsimp only; omega) | omega)).trans (by first | assumption | (simp [go_sem]; done) | (simp [go_sem, *]; done)); have rf : ∀ o, (w1).frozen? ⟨w.heap.size, o, none⟩ = false := fun o => (hb.frozen (p := ⟨w.heap.size, o, none⟩) (by first | assumption | (simp; done) | (simp; omega) | (dsimp only; omega) | omega)).trans (by first | (simp [go_sem]; done) | (simp [go_sem, *]; done))
  have BN : Below w.heap.size w w1 := by repeat' (first | (with_reducible exact Below.refl _ _) | (with_reducible refine Below.alloc ?_ ?_ _) | (with_reducible refine Below.setCell ?_ ?_ _) | (with_reducible refine Below.drew ?_) | (with_reducible refine Below.trans ?_ (Below.mono (by assumption) ?_)) | (simp; done) | (simp; omega) | omega)
  have BH := hid BN
  have hsz := BN.size
  clear hb BN
  go_wp2
  refine bodyPost_ret (v := .tuple #[.agg #[.int .i64 0, .int .i64 0], .int .i64 y]) (by simp [results, Try.results68, go_sem, r0, r1]) rfl ?_
  have BB := BH.out
  exact Gives.mk rfl (by repeat' (first | (with_reducible exact Below.refl _ _) | (with_reducible refine Below.alloc ?_ ?_ _) | (with_reducible refine Below.setCell ?_ ?_ _) | (with_reducible refine Below.drew ?_) | (with_reducible refine Below.trans ?_ (Below.mono (by assumption) ?_)) | (simp; done) | (simp; omega) | omega))
set_option maxHeartbeats 4000000 in
theorem isum_good (X Y : Nat → Int) (b off len cap : Nat) (hl : len ≤ 2000) (lo hi e : Int) (hy : Sp.firstE X Y 0 len = 0) (hR : Sp.sumE X Y 0 len 0 0 = (lo, hi, e)) (w : World) (S : Sl w b off len X Y) :
    Calls Try.prog 68 #[.slice (some ⟨b, off, none⟩) len cap] w (Gives (.tuple #[.agg #[.int .i64 lo, .int .i64 hi], .int .i64 e]) w) := by
  have HY := hid hy
  have SH := hid S
  have HR := hid hR
  clear hy S hR
  go_enter Try.func68, Try.ntmps68
  go_wp2_with fail
  refine (ifirst_list X Y b off len cap hl 0 HY.out _ (SH.out.below (by repeat' (first | (with_reducible exact Below.refl _ _) | (with_reducible refine Below.alloc ?_ ?_ _) | (with_reducible refine Below.setCell ?_ ?_ _) | (with_reducible refine Below.drew ?_) | (with_reducible refine Below.trans ?_ (Below.mono (by assumption) ?_)) | (simp; done) | (simp; omega) | omega)))).mono ?_; rintro e w1 ⟨rfl, hb⟩
  have rz : w.heap.size < (w1).heap.size := Nat.lt_of_lt_of_le (show w.heap.size < _ from (by first | assumption | (simp; done) | (simp; omega) | (dsimp only; omega) | omega)) hb.size; have r0 : (w1).cell? ⟨w.heap.size, 0, none⟩ = some (.int .i64 (0)) := (hb.cell (p := ⟨w.heap.size, 0, none⟩) (by first | assumption | (simp; done) | (simp; omega) | (dsimp only; omega) | omega)).trans (by first | assumption | (simp [go_sem]; done) | (simp [go_sem, *]; done)); have r1 : (w1).cell? ⟨w.heap.size, 1, none⟩ = some (.int .i64 (0)) := (hb.cell (p := ⟨w.heap.size, 1, none⟩) (by first | assumption | (simp; done) | (simp; omega) | (dsimp only; omega) | omega)).trans (by first | assumption | (simp [go_sem]; done) | (simp [go_sem, *]; done)); have rf : ∀ o, (w1).frozen? ⟨w.heap.size, o, none⟩ = false := fun o => (hb.frozen (p := ⟨w.heap.size, o, none⟩) (by first | assumption | (simp; done) | (simp; omega) | (dsimp only; omega) | omega)).trans (by first | (simp [go_sem]; done) | (simp [go_sem, *]; done))
  have BN : Below w.heap.size w w1 := by repeat' (first | (with_reducible exact Below.refl _ _) | (with_reducible refine Below.alloc ?_ ?_ _) | (with_reducible refine Below.setCell ?_ ?_ _) | (with_reducible refine Below.drew ?_) | (with_reducible refine Below.trans ?_ (Below.mono (by assumption) ?_)) | (simp; done) | (simp; omega) | omega)
  have BH := hid BN
  have hsz := BN.size
  clear hb BN
  go_wp2_with fail
  go_loopw [19] (fun v wr => SL X Y len (lo, hi, e) w w1.heap.size v wr) (fun v _ => len - (intOf v).toNat)
  case atStart =>
    have BB := BH.out
    exact ⟨0, 0, 0, Nat.zero_le _, rfl, ⟨by omega, by omega, by omega⟩, HR.out, ⟨(by first | assumption | (simp; done) | (simp; omega) | (dsimp only; omega) | omega), (by first | assumption | (simp [go_sem]; done) | (simp [go_sem, *]; done)), (by first | assumption | (simp [go_sem]; done) | (simp [go_sem, *]; done)), fun o => by first | (simp [go_sem]; done) | (simp [go_sem, *]; done)⟩, ⟨by simp, by simp [go_sem], by simp [go_sem], fun o => by simp [go_sem]⟩, by repeat' (first | (with_reducible exact Below.refl _ _) | (with_reducible refine Below.alloc ?_ ?_ _) | (with_reducible refine Below.setCell ?_ ?_ _) | (with_reducible refine Below.drew ?_) | (with_reducible refine Below.trans ?_ (Below.mono (by assumption) ?_)) | (simp; done) | (simp; omega) | omega)⟩
  case round =>
    obtain ⟨k, t, u, hk, rfl, ⟨t0, t1, t2⟩, hf, ⟨pz, p0, p1, pf⟩, ⟨gz, g0, g1, gf⟩, hB⟩ := hrel
    have hne : ¬ w.heap.size = w1.heap.size := by omega
    have hne2 : ¬ w1.heap.size = w.heap.size := by omega
    have hle : w.heap.size ≤ w1.heap.size := hsz
    have hszr := hB.size
    have HF := hid hf
    have BR := hid hB
    clear hf hB BH rz r0 r1 rf
    by_cases hlt : k < len
    · have hb : b < w.heap.size := SH.out.lt k hlt
      have hbw : b < wr.heap.size := by omega
      have x0 := (BR.out.cell (p := ⟨b, off + k * 2, none⟩) hb).trans (SH.out.c0 k hlt)
      have x1 := (BR.out.cell (p := ⟨b, off + k * 2 + 1, none⟩) hb).trans (SH.out.c1 k hlt)
      have st := hid (Sp.sumE_step (X := X) (Y := Y) (t := t) (u := u) hlt)
      have hv := Sp.chk_zero.1 (Sp.firstE_all HY.out k (Nat.zero_le _) (by omega))
      obtain ⟨p, hp⟩ : ∃ p, X k = p := ⟨_, rfl⟩
      obtain ⟨q, hq⟩ : ∃ q, Y k = q := ⟨_, rfl⟩
      rw [hp] at x0 hv
      rw [hq] at x1 hv
      have PH := hid hp
      have QH := hid hq
      obtain ⟨v0, v1, v2⟩ := hv
      clear hp hq
      by_cases c : t + p < -1000000000000000 ∨ 1000000000000000 < u + q
      · have sm := fun w => isum_any t u p q 0 0 8 t0 t1 t2 v0 v1 v2 (by unfold Sp.lim; rw [if_pos c]) w
        have C := hid c
        clear c
        go_wp2_with fail
        refine (sm _).mono ?_; rintro e w5 ⟨rfl, hb⟩
        have az : w.heap.size < (w5).heap.size := Nat.lt_of_lt_of_le (show w.heap.size < _ from (by first | assumption | (simp; done) | (simp; omega) | (dsimp only; omega) | omega)) hb.size; have a0 : (w5).cell? ⟨w.heap.size, 0, none⟩ = some (.int .i64 (0)) := (hb.cell (p := ⟨w.heap.size, 0, none⟩) (by first | assumption | (simp; done) | (simp; omega) | (dsimp only; omega) | omega)).trans (by first | assumption | (simp [go_sem]; done) | (simp [go_sem, *]; done)); have a1 : (w5).cell? ⟨w.heap.size, 1, none⟩ = some (.int .i64 (0)) := (hb.cell (p := ⟨w.heap.size, 1, none⟩) (by first | assumption | (simp; done) | (simp; omega) | (dsimp only; omega) | omega)).trans (by first | assumption | (simp [go_sem]; done) | (simp [go_sem, *]; done)); have af : ∀ o, (w5).frozen? ⟨w.heap.size, o, none⟩ = false := fun o => (hb.frozen (p := ⟨w.heap.size, o, none⟩) (by first | assumption | (simp; done) | (simp; omega) | (dsimp only; omega) | omega)).trans (by first | (simp [go_sem]; done) | (simp [go_sem, *]; done))
        have BB := BR.out
        have BN : Below w.heap.size w w5 := by repeat' (first | (with_reducible exact Below.refl _ _) | (with_reducible refine Below.alloc ?_ ?_ _) | (with_reducible refine Below.setCell ?_ ?_ _) | (with_reducible refine Below.drew ?_) | (with_reducible refine Below.trans ?_ (Below.mono (by assumption) ?_)) | (simp; done) | (simp; omega) | omega)
        clear BB hb pz p0 p1 pf gz g0 g1 gf x0 x1
        have BF := hid BN
        have hs5 := BN.size
        clear BN
        go_wp2
        have ee : (lo, hi, e) = (0, 0, 8) := by rw [← HF.out, st.out, PH.out, QH.out, if_pos C.out]
        simp only [Prod.mk.injEq] at ee
        obtain ⟨rfl, rfl, rfl⟩ := ee
        have ez : ¬ w.heap.size = w5.heap.size := by omega
        refine bodyPost_ret (v := .tuple #[.agg #[.int .i64 0, .int .i64 0], .int .i64 8]) (by simp [results, Try.results68, go_sem, a0, a1, az, ez]) rfl ?_
        have BB := BF.out
        exact Gives.mk rfl (by repeat' (first | (with_reducible exact Below.refl _ _) | (with_reducible refine Below.alloc ?_ ?_ _) | (with_reducible refine Below.setCell ?_ ?_ _) | (with_reducible refine Below.drew ?_) | (with_reducible refine Below.trans ?_ (Below.mono (by assumption) ?_)) | (simp; done) | (simp; omega) | omega))
      · have sm := fun w => isum_any t u p q (t + p) (u + q) 0 t0 t1 t2 v0 v1 v2 (by unfold Sp.lim; rw [if_neg c]) w
        have C := hid c
        clear c
        go_wp2_with fail
        refine (sm _).mono ?_; rintro e w5 ⟨rfl, hb⟩
        have az : w.heap.size < (w5).heap.size := Nat.lt_of_lt_of_le (show w.heap.size < _ from (by first | assumption | (simp; done) | (simp; omega) | (dsimp only; omega) | omega)) hb.size; have a0 : (w5).cell? ⟨w.heap.size, 0, none⟩ = some (.int .i64 (0)) := (hb.cell (p := ⟨w.heap.size, 0, none⟩) (by first | assumption | (simp; done) | (simp; omega) | (dsimp only; omega) | omega)).trans (by first | assumption | (simp [go_sem]; done) | (simp [go_sem, *]; done)); have a1 : (w5).cell? ⟨w.heap.size, 1, none⟩ = some (.int .i64 (0)) := (hb.cell (p := ⟨w.heap.size, 1, none⟩) (by first | assumption | (simp; done) | (simp; omega) | (dsimp only; omega) | omega)).trans (by first | assumption | (simp [go_sem]; done) | (simp [go_sem, *]; done)); have af : ∀ o, (w5).frozen? ⟨w.heap.size, o, none⟩ = false := fun o => (hb.frozen (p := ⟨w.heap.size, o, none⟩) (by first | assumption | (simp; done) | (simp; omega) | (dsimp only; omega) | omega)).trans (by first | (simp [go_sem]; done) | (simp [go_sem, *]; done))
        have dz : w1.heap.size < (w5).heap.size := Nat.lt_of_lt_of_le (show w1.heap.size < _ from (by first | assumption | (simp; done) | (simp; omega) | (dsimp only; omega) | omega)) hb.size; have d0 : (w5).cell? ⟨w1.heap.size, 0, none⟩ = some (.int .i64 (t)) := (hb.cell (p := ⟨w1.heap.size, 0, none⟩) (by first | assumption | (simp; done) | (simp; omega) | (dsimp only; omega) | omega)).trans (by first | assumption | (simp [go_sem]; done) | (simp [go_sem, *]; done)); have d1 : (w5).cell? ⟨w1.heap.size, 1, none⟩ = some (.int .i64 (u)) := (hb.cell (p := ⟨w1.heap.size, 1, none⟩) (by first | assumption | (simp; done) | (simp; omega) | (dsimp only; omega) | omega)).trans (by first | assumption | (simp [go_sem]; done) | (simp [go_sem, *]; done)); have df : ∀ o, (w5).frozen? ⟨w1.heap.size, o, none⟩ = false := fun o => (hb.frozen (p := ⟨w1.heap.size, o, none⟩) (by first | assumption | (simp; done) | (simp; omega) | (dsimp only; omega) | omega)).trans (by first | (simp [go_sem]; done) | (simp [go_sem, *]; done))
        have BB := BR.out
        have BN : Below w.heap.size w w5 := by repeat' (first | (with_reducible exact Below.refl _ _) | (with_reducible refine Below.alloc ?_ ?_ _) | (with_reducible refine Below.setCell ?_ ?_ _) | (with_reducible refine Below.drew ?_) | (with_reducible refine Below.trans ?_ (Below.mono (by assumption) ?_)) | (simp; done) | (simp; omega) | omega)
        clear BB hb pz p0 p1 pf gz g0 g1 gf x0 x1
        have BF := hid BN
        have hs5 := BN.size
        clear BN
        go_wp2
        go_roundw
        case rel =>
          have BB := BF.out
          have cc := C.out
          refine ⟨k + 1, t + p, u + q, by omega, by go_num, ⟨by omega, by omega, by omega⟩, ?_, ⟨(by first | assumption | (simp; done) | (simp; omega) | (dsimp only; omega) | omega), (by first | assumption | (simp [go_sem]; done) | (simp [go_sem, *]; done)), (by first | assumption | (simp [go_sem]; done) | (simp [go_sem, *]; done)), fun o => by first | (simp [go_sem]; done) | (simp [go_sem, *]; done)⟩, ⟨(by first | assumption | (simp; done) | (simp; omega) | (dsimp only; omega) | omega), (by first | assumption | (simp [go_sem]; done) | (simp [go_sem, *]; done)), (by first | assumption | (simp [go_sem]; done) | (simp [go_sem, *]; done)), fun o => by first | (simp [go_sem]; done) | (simp [go_sem, *]; done)⟩, by repeat' (first | (with_reducible exact Below.refl _ _) | (with_reducible refine Below.alloc ?_ ?_ _) | (with_reducible refine Below.setCell ?_ ?_ _) | (with_reducible refine Below.drew ?_) | (with_reducible refine Below.trans ?_ (Below.mono (by assumption) ?_)) | (simp; done) | (simp; omega) | omega)⟩
          rw [← HF.out, st.out, PH.out, QH.out, if_neg C.out]
        case measure => simp [intOf]; omega
    · have e' : k = len := by omega
      subst e'
      have ee : (t, u, (0 : Int)) = (lo, hi, e) := by rw [← HF.out, Nat.sub_self]; rfl
      simp only [Prod.mk.injEq] at ee
      obtain ⟨rfl, rfl, rfl⟩ := ee
      go_wp2
      refine bodyPost_ret (v := .tuple #[.agg #[.int .i64 t, .int .i64 u], .int .i64 0]) (by simp [results, Try.results68, go_sem, p0, p1]) rfl ?_
      have BB := BR.out
      exact Gives.mk rfl (by repeat' (first | (with_reducible exact Below.refl _ _) | (with_reducible refine Below.alloc ?_ ?_ _) | (with_reducible refine Below.setCell ?_ ?_ _) | (with_reducible refine Below.drew ?_) | (with_reducible refine Below.trans ?_ (Below.mono (by assumption) ?_)) | (simp; done) | (simp; omega) | omega))
theorem isum_list (X Y : Nat → Int) (b off len cap : Nat) (hl : len ≤ 2000) (lo hi e : Int) (hR : Sp.listS X Y len = (lo, hi, e)) (w : World) (S : Sl w b off len X Y) :
    Calls Try.prog 68 #[.slice (some ⟨b, off, none⟩) len cap] w (Gives (.tuple #[.agg #[.int .i64 lo, .int .i64 hi], .int .i64 e]) w) := by
  unfold Sp.listS at hR
  by_cases c : Sp.firstE X Y 0 len = 0
  · rw [if_neg (by omega)] at hR
    exact isum_good X Y b off len cap hl lo hi e c hR w S
  · rw [if_pos c] at hR
    simp only [Prod.mk.injEq] at hR
    obtain ⟨rfl, rfl, rfl⟩ := hR
    exact isum_bad X Y b off len cap hl _ c rfl w S
def FL2 (X Y : Nat → Int) (len : Nat) (y : Int) (w : World) (v : Value) (wr : World) : Prop :=
  ∃ k : Nat, k ≤ len ∧ v = .int .i64 k ∧ Sp.firstE X Y k (len - k) = y ∧ LBox wr w.heap.size 0 0 ∧ Below w.heap.size w wr
set_option maxHeartbeats 8000000 in
theorem rsum_list (X Y : Nat → Int) (b off len cap : Nat) (hl : len ≤ 2000) (lo hi e : Int) (hR : Sp.listS X Y len = (lo, hi, e)) (w : World) (S : Sl w b off len X Y) :
    Calls Try.prog 69 #[.slice (some ⟨b, off, none⟩) len cap] w (Gives (.tuple #[.agg #[.int .i64 lo, .int .i64 hi], .int .i64 e]) w) := by
  have SH := hid S
  have HR := hid hR
  obtain ⟨y, hy⟩ : ∃ y, Sp.firstE X Y 0 len = y := ⟨_, rfl⟩
  have HY := hid hy
  clear S hR hy
  go_enter Try.func69, Try.ntmps69
  go_wp2_with fail
  go_loopw [13] (fun v wr => FL2 X Y len y w v wr) (fun v _ => len - (intOf v).toNat)
  case atStart => exact ⟨0, Nat.zero_le _, rfl, HY.out, ⟨by simp, by simp [go_sem], by simp [go_sem], fun o => by simp [go_sem]⟩, by repeat' (first | (with_reducible exact Below.refl _ _) | (with_reducible refine Below.alloc ?_ ?_ _) | (with_reducible refine Below.setCell ?_ ?_ _) | (with_reducible refine Below.drew ?_) | (with_reducible refine Below.trans ?_ (Below.mono (by assumption) ?_)) | (simp; done) | (simp; omega) | omega)⟩
  case round =>
    obtain ⟨k, hk, rfl, hf, ⟨rz, r0, r1, rf⟩, hB⟩ := hrel
    have hsz := hB.size
    have HF := hid hf
    have BH := hid hB
    clear hf hB
    by_cases hlt : k < len
    · have hb : b < w.heap.size := SH.out.lt k hlt
      have hbw : b < wr.heap.size := by omega
      have x0 := (BH.out.cell (p := ⟨b, off + k * 2, none⟩) hb).trans (SH.out.c0 k hlt)
      have x1 := (BH.out.cell (p := ⟨b, off + k * 2 + 1, none⟩) hb).trans (SH.out.c1 k hlt)
      have st := hid (Sp.firstE_step (X := X) (Y := Y) hlt)
      obtain ⟨p, hp⟩ : ∃ p, X k = p := ⟨_, rfl⟩
      obtain ⟨q, hq⟩ : ∃ q, Y k = q := ⟨_, rfl⟩
      rw [hp] at x0
      rw [hq] at x1
      obtain ⟨c, hc⟩ : ∃ c, Sp.chk p q = c := ⟨_, rfl⟩
      have ck := fun w => rcheck_any p q w
      rw [hc] at ck
      have PH := hid hp
      have QH := hid hq
      have CH := hid hc
      clear hp hq hc
      have l1 : w.heap.size < wr.heap.size + 1 := by omega
      have l2 : w.heap.size < wr.heap.size + 1 + 1 := by omega
      by_cases c0 : c = 0
      · subst c0
        go_wp2_with (go_at_call 46; refine (ck _).mono ?_; rintro e w' ⟨rfl, rfl⟩)
        go_roundw
        case rel =>
          have BB := BH.out
          refine ⟨k + 1, by omega, by go_num, ?_, ⟨(by first | assumption | (simp; done) | (simp; omega) | (dsimp only; omega) | omega), (by first | assumption | (simp [go_sem]; done) | (simp [go_sem, *]; done)), (by first | assumption | (simp [go_sem]; done) | (simp [go_sem, *]; done)), (fun o => by first | (simp [go_sem]; done) | (simp [go_sem, *]; done))⟩, by repeat' (first | (with_reducible exact Below.refl _ _) | (with_reducible refine Below.alloc ?_ ?_ _) | (with_reducible refine Below.setCell ?_ ?_ _) | (with_reducible refine Below.drew ?_) | (with_reducible refine Below.trans ?_ (Below.mono (by assumption) ?_)) | (simp; done) | (simp; omega) | omega)⟩
          rw [← HF.out, st.out, PH.out, QH.out, CH.out, if_neg (by omega)]
        case measure => simp [intOf]; omega
      · go_wp2_with (go_at_call 46; refine (ck _).mono ?_; rintro e w' ⟨rfl, rfl⟩)
        have ez : ¬ w.heap.size = wr.heap.size := by omega
        have ez2 : ¬ w.heap.size = wr.heap.size + 1 := by omega
        have ey : y = c := by rw [← HF.out, st.out, PH.out, QH.out, CH.out, if_pos c0]
        have er := HR.out
        unfold Sp.listS at er
        rw [HY.out, ey, if_pos c0] at er
        simp only [Prod.mk.injEq] at er
        obtain ⟨rfl, rfl, rfl⟩ := er
        refine bodyPost_ret (v := .tuple #[.agg #[.int .i64 0, .int .i64 0], .int .i64 c]) (by simp [results, Try.results69, go_sem, r0, r1, rz, ez, ez2, l1, l2]) rfl ?_
        have BB := BH.out
        exact Gives.mk rfl (by repeat' (first | (with_reducible exact Below.refl _ _) | (with_reducible refine Below.alloc ?_ ?_ _) | (with_reducible refine Below.setCell ?_ ?_ _) | (with_reducible refine Below.drew ?_) | (with_reducible refine Below.trans ?_ (Below.mono (by assumption) ?_)) | (simp; done) | (simp; omega) | omega))
    · have e' : k = len := by omega
      subst e'
      have y0 : y = 0 := by rw [← HF.out, Nat.sub_self]; rfl
      subst y0
      have er := HR.out
      unfold Sp.listS at er
      rw [HY.out, if_neg (by omega)] at er
      have ER := hid er
      clear er HR HF
      obtain ⟨wo, rfl⟩ : ∃ wo : World, wo = wr := ⟨_, rfl⟩
      have BO := BH
      clear BH
      have hso := hsz
      clear hsz
      go_wp2_with fail
      go_loopw [27] (fun v wr => SL X Y k (lo, hi, e) w wo.heap.size v wr) (fun v _ => k - (intOf v).toNat)
      case atStart =>
        have BB := BO.out
        exact ⟨0, 0, 0, Nat.zero_le _, rfl, ⟨by omega, by omega, by omega⟩, ER.out, ⟨(by first | assumption | (simp; done) | (simp; omega) | (dsimp only; omega) | omega), (by first | assumption | (simp [go_sem]; done) | (simp [go_sem, *]; done)), (by first | assumption | (simp [go_sem]; done) | (simp [go_sem, *]; done)), (fun o => by first | (simp [go_sem]; done) | (simp [go_sem, *]; done))⟩, ⟨by simp, by simp [go_sem], by simp [go_sem], fun o => by simp [go_sem]⟩, by repeat' (first | (with_reducible exact Below.refl _ _) | (with_reducible refine Below.alloc ?_ ?_ _) | (with_reducible refine Below.setCell ?_ ?_ _) | (with_reducible refine Below.drew ?_) | (with_reducible refine Below.trans ?_ (Below.mono (by assumption) ?_)) | (simp; done) | (simp; omega) | omega)⟩
      case round =>
        obtain ⟨j, t, u, hj, rfl, ⟨t0, t1, t2⟩, hf, ⟨pz, p0, p1, pf⟩, ⟨gz, g0, g1, gf⟩, hB⟩ := hrel
        have hne : ¬ w.heap.size = wo.heap.size := by omega
        have hne2 : ¬ wo.heap.size = w.heap.size := by omega
        have hle : w.heap.size ≤ wo.heap.size := hso
        have hszr := hB.size
        have HF := hid hf
        have BR := hid hB
        clear hf hB rz r0 r1 rf
        by_cases hlt : j < k
        · have hb : b < w.heap.size := SH.out.lt j hlt
          have hbw : b < wr.heap.size := by omega
          have x0 := (BR.out.cell (p := ⟨b, off + j * 2, none⟩) hb).trans (SH.out.c0 j hlt)
          have x1 := (BR.out.cell (p := ⟨b, off + j * 2 + 1, none⟩) hb).trans (SH.out.c1 j hlt)
          have st := hid (Sp.sumE_step (X := X) (Y := Y) (t := t) (u := u) hlt)
          have hv := Sp.chk_zero.1 (Sp.firstE_all HY.out j (Nat.zero_le _) (by omega))
          obtain ⟨p, hp⟩ : ∃ p, X j = p := ⟨_, rfl⟩
          obtain ⟨q, hq⟩ : ∃ q, Y j = q := ⟨_, rfl⟩
          rw [hp] at x0 hv
          rw [hq] at x1 hv
          have PH := hid hp
          have QH := hid hq
          have bo : Sp.both t u p q = 0 := Sp.both_zero.2 ⟨Sp.chk_zero.2 ⟨t0, t1, t2⟩, Sp.chk_zero.2 hv⟩
          obtain ⟨v0, v1, v2⟩ := hv
          clear hp hq
          by_cases c : t + p < -1000000000000000 ∨ 1000000000000000 < u + q
          · have sm := fun w => radd_any t u p q 0 0 8 (by unfold Sp.addS Sp.lim; rw [if_neg (by omega), if_pos c]) w
            have C := hid c
            clear c bo
            go_wp2_with fail
            refine (sm _).mono ?_; rintro e w5 ⟨rfl, hb⟩
            have az : w.heap.size < (w5).heap.size := Nat.lt_of_lt_of_le (show w.heap.size < _ from (by first | assumption | (simp; done) | (simp; omega) | (dsimp only; omega) | omega)) hb.size; have a0 : (w5).cell? ⟨w.heap.size, 0, none⟩ = some (.int .i64 (0)) := (hb.cell (p := ⟨w.heap.size, 0, none⟩) (by first | assumption | (simp; done) | (simp; omega) | (dsimp only; omega) | omega)).trans (by first | assumption | (simp [go_sem]; done) | (simp [go_sem, *]; done)); have a1 : (w5).cell? ⟨w.heap.size, 1, none⟩ = some (.int .i64 (0)) := (hb.cell (p := ⟨w.heap.size, 1, none⟩) (by first | assumption | (simp; done) | (simp; omega) | (dsimp only; omega) | omega)).trans (by first | assumption | (simp [go_sem]; done) | (simp [go_sem, *]; done)); have af : ∀ o, (w5).frozen? ⟨w.heap.size, o, none⟩ = false := fun o => (hb.frozen (p := ⟨w.heap.size, o, none⟩) (by first | assumption | (simp; done) | (simp; omega) | (dsimp only; omega) | omega)).trans (by first | (simp [go_sem]; done) | (simp [go_sem, *]; done))
            have dz : wo.heap.size < (w5).heap.size := Nat.lt_of_lt_of_le (show wo.heap.size < _ from (by first | assumption | (simp; done) | (simp; omega) | (dsimp only; omega) | omega)) hb.size; have d0 : (w5).cell? ⟨wo.heap.size, 0, none⟩ = some (.int .i64 (t)) := (hb.cell (p := ⟨wo.heap.size, 0, none⟩) (by first | assumption | (simp; done) | (simp; omega) | (dsimp only; omega) | omega)).trans (by first | assumption | (simp [go_sem]; done) | (simp [go_sem, *]; done)); have d1 : (w5).cell? ⟨wo.heap.size, 1, none⟩ = some (.int .i64 (u)) := (hb.cell (p := ⟨wo.heap.size, 1, none⟩) (by first | assumption | (simp; done) | (simp; omega) | (dsimp only; omega) | omega)).trans (by first | assumption | (simp [go_sem]; done) | (simp [go_sem, *]; done)); have df : ∀ o, (w5).frozen? ⟨wo.heap.size, o, none⟩ = false := fun o => (hb.frozen (p := ⟨wo.heap.size, o, none⟩) (by first | assumption | (simp; done) | (simp; omega) | (dsimp only; omega) | omega)).trans (by first | (simp [go_sem]; done) | (simp [go_sem, *]; done))
            have BB := BR.out
            have BN : Below w.heap.size w w5 := by repeat' (first | (with_reducible exact Below.refl _ _) | (with_reducible refine Below.alloc ?_ ?_ _) | (with_reducible refine Below.setCell ?_ ?_ _) | (with_reducible refine Below.drew ?_) | (with_reducible refine Below.trans ?_ (Below.mono (by assumption) ?_)) | (simp; done) | (simp; omega) | omega)
            clear BB hb pz p0 p1 pf gz g0 g1 gf x0 x1
            have BF := hid BN
            have hs5 := BN.size
            clear BN
            go_wp2
            have ee : (lo, hi, e) = (0, 0, 8) := by rw [← HF.out, st.out, PH.out, QH.out, if_pos C.out]
            simp only [Prod.mk.injEq] at ee
            obtain ⟨rfl, rfl, rfl⟩ := ee
            have ez : ¬ w.heap.size = w5.heap.size := by omega
            refine bodyPost_ret (v := .tuple #[.agg #[.int .i64 0, .int .i64 0], .int .i64 8]) (by simp [results, Try.results69, go_sem, a0, a1, az, ez, hne, hne2]) rfl ?_
            have BB := BF.out
            exact Gives.mk rfl (by repeat' (first | (with_reducible exact Below.refl _ _) | (with_reducible refine Below.alloc ?_ ?_ _) | (with_reducible refine Below.setCell ?_ ?_ _) | (with_reducible refine Below.drew ?_) | (with_reducible refine Below.trans ?_ (Below.mono (by assumption) ?_)) | (simp; done) | (simp; omega) | omega))
          · have sm := fun w => radd_any t u p q (t + p) (u + q) 0 (by unfold Sp.addS Sp.lim; rw [if_neg (by omega), if_neg c]) w
            have C := hid c
            clear c bo
            go_wp2_with fail
            refine (sm _).mono ?_; rintro e w5 ⟨rfl, hb⟩
            have az : w.heap.size < (w5).heap.size := Nat.lt_of_lt_of_le (show w.heap.size < _ from (by first | assumption | (simp; done) | (simp; omega) | (dsimp only; omega) | omega)) hb.size; have a0 : (w5).cell? ⟨w.heap.size, 0, none⟩ = some (.int .i64 (0)) := (hb.cell (p := ⟨w.heap.size, 0, none⟩) (by first | assumption | (simp; done) | (simp; omega) | (dsimp only; omega) | omega)).trans (by first | assumption | (simp [go_sem]; done) | (simp [go_sem, *]; done)); have a1 : (w5).cell? ⟨w.heap.size, 1, none⟩ = some (.int .i64 (0)) := (hb.cell (p := ⟨w.heap.size, 1, none⟩) (by first | assumption | (simp; done) | (simp; omega) | (dsimp only; omega) | omega)).trans (by first | assumption | (simp [go_sem]; done) | (simp [go_sem, *]; done)); have af : ∀ o, (w5).frozen? ⟨w.heap.size, o, none⟩ = false := fun o => (hb.frozen (p := ⟨w.heap.size, o, none⟩) (by first | assumption | (simp; done) | (simp; omega) | (dsimp only; omega) | omega)).trans (by first | (simp [go_sem]; done) | (simp [go_sem, *]; done))
            have dz : wo.heap.size < (w5).heap.size := Nat.lt_of_lt_of_le (show wo.heap.size < _ from (by first | assumption | (simp; done) | (simp; omega) | (dsimp only; omega) | omega)) hb.size; have d0 : (w5).cell? ⟨wo.heap.size, 0, none⟩ = some (.int .i64 (t)) := (hb.cell (p := ⟨wo.heap.size, 0, none⟩) (by first | assumption | (simp; done) | (simp; omega) | (dsimp only; omega) | omega)).trans (by first | assumption | (simp [go_sem]; done) | (simp [go_sem, *]; done)); have d1 : (w5).cell? ⟨wo.heap.size, 1, none⟩ = some (.int .i64 (u)) := (hb.cell (p := ⟨wo.heap.size, 1, none⟩) (by first | assumption | (simp; done) | (simp; omega) | (dsimp only; omega) | omega)).trans (by first | assumption | (simp [go_sem]; done) | (simp [go_sem, *]; done)); have df : ∀ o, (w5).frozen? ⟨wo.heap.size, o, none⟩ = false := fun o => (hb.frozen (p := ⟨wo.heap.size, o, none⟩) (by first | assumption | (simp; done) | (simp; omega) | (dsimp only; omega) | omega)).trans (by first | (simp [go_sem]; done) | (simp [go_sem, *]; done))
            have BB := BR.out
            have BN : Below w.heap.size w w5 := by repeat' (first | (with_reducible exact Below.refl _ _) | (with_reducible refine Below.alloc ?_ ?_ _) | (with_reducible refine Below.setCell ?_ ?_ _) | (with_reducible refine Below.drew ?_) | (with_reducible refine Below.trans ?_ (Below.mono (by assumption) ?_)) | (simp; done) | (simp; omega) | omega)
            clear BB hb pz p0 p1 pf gz g0 g1 gf x0 x1
            have BF := hid BN
            have hs5 := BN.size
            clear BN
            go_wp2
            go_roundw
            case rel =>
              have BB := BF.out
              have cc := C.out
              refine ⟨j + 1, t + p, u + q, by omega, by go_num, ⟨by omega, by omega, by omega⟩, ?_, ⟨(by first | assumption | (simp; done) | (simp; omega) | (dsimp only; omega) | omega), (by first | assumption | (simp [go_sem]; done) | (simp [go_sem, *]; done)), (by first | assumption | (simp [go_sem]; done) | (simp [go_sem, *]; done)), (fun o => by first | (simp [go_sem]; done) | (simp [go_sem, *]; done))⟩, ⟨(by first | assumption | (simp; done) | (simp; omega) | (dsimp only; omega) | omega), (by first | assumption | (simp [go_sem]; done) | (simp [go_sem, *]; done)), (by first | assumption | (simp [go_sem]; done) | (simp [go_sem, *]; done)), (fun o => by first | (simp [go_sem]; done) | (simp [go_sem, *]; done))⟩, by repeat' (first | (with_reducible exact Below.refl _ _) | (with_reducible refine Below.alloc ?_ ?_ _) | (with_reducible refine Below.setCell ?_ ?_ _) | (with_reducible refine Below.drew ?_) | (with_reducible refine Below.trans ?_ (Below.mono (by assumption) ?_)) | (simp; done) | (simp; omega) | omega)⟩
              rw [← HF.out, st.out, PH.out, QH.out, if_neg C.out]
            case measure => simp [intOf]; omega
        · have e' : j = k := by omega
          subst e'
          have ee : (t, u, (0 : Int)) = (lo, hi, e) := by rw [← HF.out, Nat.sub_self]; rfl
          simp only [Prod.mk.injEq] at ee
          obtain ⟨rfl, rfl, rfl⟩ := ee
          go_wp2
          refine bodyPost_ret (v := .tuple #[.agg #[.int .i64 t, .int .i64 u], .int .i64 0]) (by simp [results, Try.results69, go_sem, p0, p1]) rfl ?_
          have BB := BR.out
          exact Gives.mk rfl (by repeat' (first | (with_reducible exact Below.refl _ _) | (with_reducible refine Below.alloc ?_ ?_ _) | (with_reducible refine Below.setCell ?_ ?_ _) | (with_reducible refine Below.drew ?_) | (with_reducible refine Below.trans ?_ (Below.mono (by assumption) ?_)) | (simp; done) | (simp; omega) | omega))
end Go.Proofs.Ytnphibbhcogdkaa
