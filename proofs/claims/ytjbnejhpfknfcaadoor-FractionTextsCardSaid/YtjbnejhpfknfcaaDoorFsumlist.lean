/-
  The functions of package fraction, each by a contract: Sum of a list.
-/
import Derived.Test.YtjbnejhpfknfcaaDoorFops
namespace Go.Proofs.YtjbnejhpfknfcaaDoor
open Go.RowKit
set_option linter.unusedVariables false
set_option linter.unusedSimpArgs false

namespace Sp
/-- The sum from left to right. -/
def sumLF (X Y : Nat → Int) : Nat → Nat → Int → Int → Int × Int × Int
  | _, 0, t, u => (t, u, 0)
  | i, n + 1, t, u => if (sumF t u (X i) (Y i)).2.2 ≠ 0 then (0, 0, (sumF t u (X i) (Y i)).2.2) else sumLF X Y (i + 1) n (sumF t u (X i) (Y i)).1 (sumF t u (X i) (Y i)).2.1
/-- Every sum on the way is a valid fraction. -/
def okF (X Y : Nat → Int) : Nat → Nat → Int → Int → Bool
  | _, 0, _, _ => true
  | i, n + 1, t, u => decide (fchk t u = 0) && (decide ((sumF t u (X i) (Y i)).2.2 ≠ 0) || okF X Y (i + 1) n (sumF t u (X i) (Y i)).1 (sumF t u (X i) (Y i)).2.1)
theorem sumLF_step {X Y : Nat → Int} {k n : Nat} {t u : Int} (h : k < n) : sumLF X Y k (n - k) t u = if (sumF t u (X k) (Y k)).2.2 ≠ 0 then (0, 0, (sumF t u (X k) (Y k)).2.2) else sumLF X Y (k + 1) (n - (k + 1)) (sumF t u (X k) (Y k)).1 (sumF t u (X k) (Y k)).2.1 := by
  obtain ⟨m, rfl⟩ : ∃ m, n = k + (m + 1) := ⟨n - k - 1, by omega⟩
  have e1 : k + (m + 1) - k = m + 1 := by omega
  have e2 : k + (m + 1) - (k + 1) = m := by omega
  rw [e1, e2]; rfl
theorem okF_step {X Y : Nat → Int} {k n : Nat} {t u : Int} (h : k < n) (o : okF X Y k (n - k) t u = true) : fchk t u = 0 ∧ ((sumF t u (X k) (Y k)).2.2 = 0 → okF X Y (k + 1) (n - (k + 1)) (sumF t u (X k) (Y k)).1 (sumF t u (X k) (Y k)).2.1 = true) := by
  obtain ⟨m, rfl⟩ : ∃ m, n = k + (m + 1) := ⟨n - k - 1, by omega⟩
  have e1 : k + (m + 1) - k = m + 1 := by omega
  have e2 : k + (m + 1) - (k + 1) = m := by omega
  rw [e1] at o
  rw [e2]
  unfold okF at o
  simp only [Bool.and_eq_true, decide_eq_true_eq, Bool.or_eq_true, ne_eq, decide_not, Bool.not_eq_true', decide_eq_false_iff_not] at o
  exact ⟨o.1, fun h0 => o.2.resolve_left (fun hn => hn h0)⟩
theorem firstF_all {X Y : Nat → Int} : ∀ {n i : Nat}, firstF X Y i n = 0 → ∀ j, i ≤ j → j < i + n → fchk (X j) (Y j) = 0
  | 0, i, _, j, h1, h2 => by omega
  | n + 1, i, h, j, h1, h2 => by
    unfold firstF at h
    by_cases c : fchk (X i) (Y i) = 0
    · rw [if_neg (by omega)] at h
      by_cases e : i = j
      · subst e; exact c
      · exact firstF_all h j (by omega) (by omega)
    · rw [if_pos c] at h; exact absurd h c
end Sp
theorem FSl.below {w w' : World} {b off len : Nat} {X Y : Nat → Int} (S : FSl w b off len X Y) (h : Below w.heap.size w w') : FSl w' b off len X Y :=
  ⟨fun i hi => Nat.lt_of_lt_of_le (S.lt i hi) h.size, fun i hi => (h.cell (p := ⟨b, off + i * 2, none⟩) (S.lt i hi)).trans (S.c0 i hi), fun i hi => (h.cell (p := ⟨b, off + i * 2 + 1, none⟩) (S.lt i hi)).trans (S.c1 i hi), S.fit⟩
def FBox (wx : World) (k : Nat) (x y : Int) : Prop := k < wx.heap.size ∧ wx.cell? ⟨k, 0, none⟩ = some (.int .i64 x) ∧ wx.cell? ⟨k, 1, none⟩ = some (.int .i64 y) ∧ ∀ o, wx.frozen? ⟨k, o, none⟩ = false
def FSLR (X Y : Nat → Int) (len : Nat) (R : Int × Int × Int) (w : World) (g : Nat) (v : Value) (wr : World) : Prop :=
  ∃ (k : Nat) (t u : Int), k ≤ len ∧ v = .int .i64 k ∧ Sp.okF X Y k (len - k) t u = true ∧ Sp.sumLF X Y k (len - k) t u = R ∧ FBox wr w.heap.size 0 0 ∧ FBox wr g t u ∧ Below w.heap.size w wr
set_option maxHeartbeats 4000000 in
theorem fsum_good (X Y : Nat → Int) (b off len cap : Nat) (hl : len ≤ 2000) (lo hi e : Int) (hy : Sp.firstF X Y 0 len = 0) (hO : Sp.okF X Y 0 len 0 1 = true) (hR : Sp.sumLF X Y 0 len 0 1 = (lo, hi, e)) (w : World) (S : FSl w b off len X Y) :
    Calls Tryd.prog 41 #[.slice (some ⟨b, off, none⟩) len cap] w (Gives (.tuple #[.agg #[.int .i64 lo, .int .i64 hi], .int .i64 e]) w) := by
  have HY := hid hy
  have SH := hid S
  have HR := hid hR
  have HO := hid hO
  clear hy S hR hO
  go_enter Tryd.func41, Tryd.ntmps41
  go_wp2_with fail
  refine (ffirst_list X Y b off len cap hl 0 HY.out _ (SH.out.below (by repeat' (first | (with_reducible exact Below.refl _ _) | (with_reducible refine Below.alloc ?_ ?_ _) | (with_reducible refine Below.setCell ?_ ?_ _) | (with_reducible refine Below.drew ?_) | (with_reducible refine Below.trans ?_ (Below.mono (by assumption) ?_)) | (simp; done) | (simp; omega) | omega)))).mono ?_; rintro _ w1 ⟨rfl, hb⟩
  have rz : w.heap.size < (w1).heap.size := Nat.lt_of_lt_of_le (show w.heap.size < _ from (by first | assumption | (simp; done) | (simp; omega) | (dsimp only; omega) | omega)) hb.size; have r0 : (w1).cell? ⟨w.heap.size, 0, none⟩ = some (.int .i64 (0)) := (hb.cell (p := ⟨w.heap.size, 0, none⟩) (by first | assumption | (simp; done) | (simp; omega) | (dsimp only; omega) | omega)).trans (by first | assumption | (simp [go_sem]; done) | (simp [go_sem, *]; done)); have r1 : (w1).cell? ⟨w.heap.size, 1, none⟩ = some (.int .i64 (0)) := (hb.cell (p := ⟨w.heap.size, 1, none⟩) (by first | assumption | (simp; done) | (simp; omega) | (dsimp only; omega) | omega)).trans (by first | assumption | (simp [go_sem]; done) | (simp [go_sem, *]; done)); have rf : ∀ o, (w1).frozen? ⟨w.heap.size, o, none⟩ = false := fun o => (hb.frozen (p := ⟨w.heap.size, o, none⟩) (by first | assumption | (simp; done) | (simp; omega) | (dsimp only; omega) | omega)).trans (by first | (simp [go_sem]; done) | (simp [go_sem, *]; done))
  have BN : Below w.heap.size w w1 := by repeat' (first | (with_reducible exact Below.refl _ _) | (with_reducible refine Below.alloc ?_ ?_ _) | (with_reducible refine Below.setCell ?_ ?_ _) | (with_reducible refine Below.drew ?_) | (with_reducible refine Below.trans ?_ (Below.mono (by assumption) ?_)) | (simp; done) | (simp; omega) | omega)
  have BH := hid BN
  have hsz := BN.size
  clear hb BN
  go_wp2_with fail
  go_loopw [19] (fun v wr => FSLR X Y len (lo, hi, e) w w1.heap.size v wr) (fun v _ => len - (intOf v).toNat)
  case atStart =>
    have BB := BH.out
    exact ⟨0, 0, 1, Nat.zero_le _, rfl, HO.out, HR.out, ⟨(by first | assumption | (simp; done) | (simp; omega) | (dsimp only; omega) | omega), (by first | assumption | (simp [go_sem]; done) | (simp [go_sem, *]; done)), (by first | assumption | (simp [go_sem]; done) | (simp [go_sem, *]; done)), fun o => by first | (simp [go_sem]; done) | (simp [go_sem, *]; done)⟩, ⟨by simp, by simp [go_sem], by simp [go_sem], fun o => by simp [go_sem]⟩, by repeat' (first | (with_reducible exact Below.refl _ _) | (with_reducible refine Below.alloc ?_ ?_ _) | (with_reducible refine Below.setCell ?_ ?_ _) | (with_reducible refine Below.drew ?_) | (with_reducible refine Below.trans ?_ (Below.mono (by assumption) ?_)) | (simp; done) | (simp; omega) | omega)⟩
  case round =>
    obtain ⟨k, t, u, hk, rfl, hok, hf, ⟨pz, p0, p1, pf⟩, ⟨gz, g0, g1, gf⟩, hB⟩ := hrel
    have hne : ¬ w.heap.size = w1.heap.size := by omega
    have hne2 : ¬ w1.heap.size = w.heap.size := by omega
    have hle : w.heap.size ≤ w1.heap.size := hsz
    have hszr := hB.size
    have HF := hid hf
    have OK := hid hok
    have BR := hid hB
    clear hf hok hB BH rz r0 r1 rf
    by_cases hlt : k < len
    · have hb : b < w.heap.size := SH.out.lt k hlt
      have hbw : b < wr.heap.size := by omega
      have x0 := (BR.out.cell (p := ⟨b, off + k * 2, none⟩) hb).trans (SH.out.c0 k hlt)
      have x1 := (BR.out.cell (p := ⟨b, off + k * 2 + 1, none⟩) hb).trans (SH.out.c1 k hlt)
      have st := hid (Sp.sumLF_step (X := X) (Y := Y) (t := t) (u := u) hlt)
      have hv := Sp.firstF_all HY.out k (Nat.zero_le _) (by omega)
      obtain ⟨v0, nx⟩ := Sp.okF_step hlt OK.out
      obtain ⟨⟨x, y, ee⟩, hs⟩ : ∃ r, Sp.sumF t u (X k) (Y k) = r := ⟨_, rfl⟩
      rw [hs] at nx
      have NX := hid nx
      have HS := hid hs
      obtain ⟨p, hp⟩ : ∃ p, X k = p := ⟨_, rfl⟩
      obtain ⟨q, hq⟩ : ∃ q, Y k = q := ⟨_, rfl⟩
      rw [hp, hq] at hs hv
      rw [hp] at x0
      rw [hq] at x1
      have sm := fun w => fsum_any t u p q v0 hv x y ee hs w
      clear hp hq hs nx v0 hv
      by_cases c : ee = 0
      · subst c
        go_wp2_with fail
        refine (sm _).mono ?_; rintro _ w5 ⟨rfl, hb⟩
        have az : w.heap.size < (w5).heap.size := Nat.lt_of_lt_of_le (show w.heap.size < _ from (by first | assumption | (simp; done) | (simp; omega) | (dsimp only; omega) | omega)) hb.size; have a0 : (w5).cell? ⟨w.heap.size, 0, none⟩ = some (.int .i64 (0)) := (hb.cell (p := ⟨w.heap.size, 0, none⟩) (by first | assumption | (simp; done) | (simp; omega) | (dsimp only; omega) | omega)).trans (by first | assumption | (simp [go_sem]; done) | (simp [go_sem, *]; done)); have a1 : (w5).cell? ⟨w.heap.size, 1, none⟩ = some (.int .i64 (0)) := (hb.cell (p := ⟨w.heap.size, 1, none⟩) (by first | assumption | (simp; done) | (simp; omega) | (dsimp only; omega) | omega)).trans (by first | assumption | (simp [go_sem]; done) | (simp [go_sem, *]; done)); have af : ∀ o, (w5).frozen? ⟨w.heap.size, o, none⟩ = false := fun o => (hb.frozen (p := ⟨w.heap.size, o, none⟩) (by first | assumption | (simp; done) | (simp; omega) | (dsimp only; omega) | omega)).trans (by first | (simp [go_sem]; done) | (simp [go_sem, *]; done))
        have dz : w1.heap.size < (w5).heap.size := Nat.lt_of_lt_of_le (show w1.heap.size < _ from (by first | assumption | (simp; done) | (simp; omega) | (dsimp only; omega) | omega)) hb.size; have d0 : (w5).cell? ⟨w1.heap.size, 0, none⟩ = some (.int .i64 (t)) := (hb.cell (p := ⟨w1.heap.size, 0, none⟩) (by first | assumption | (simp; done) | (simp; omega) | (dsimp only; omega) | omega)).trans (by first | assumption | (simp [go_sem]; done) | (simp [go_sem, *]; done)); have d1 : (w5).cell? ⟨w1.heap.size, 1, none⟩ = some (.int .i64 (u)) := (hb.cell (p := ⟨w1.heap.size, 1, none⟩) (by first | assumption | (simp; done) | (simp; omega) | (dsimp only; omega) | omega)).trans (by first | assumption | (simp [go_sem]; done) | (simp [go_sem, *]; done)); have df : ∀ o, (w5).frozen? ⟨w1.heap.size, o, none⟩ = false := fun o => (hb.frozen (p := ⟨w1.heap.size, o, none⟩) (by first | assumption | (simp; done) | (simp; omega) | (dsimp only; omega) | omega)).trans (by first | (simp [go_sem]; done) | (simp [go_sem, *]; done))
        have BB := BR.out
        have BN : Below w.heap.size w w5 := by repeat' (first | (with_reducible exact Below.refl _ _) | (with_reducible refine Below.alloc ?_ ?_ _) | (with_reducible refine Below.setCell ?_ ?_ _) | (with_reducible refine Below.drew ?_) | (with_reducible refine Below.trans ?_ (Below.mono (by assumption) ?_)) | (simp; done) | (simp; omega) | omega)
        clear BB hb pz p0 p1 pf gz g0 g1 gf x0 x1
        have BF := hid BN
        have hs5 := BN.size
        clear BN
        go_wp2
        go_roundw
        case rel =>
          have BB := BF.out
          refine ⟨k + 1, x, y, by omega, by go_num, (by first | exact NX.out rfl | exact NX.out trivial), ?_, ⟨(by first | assumption | (simp; done) | (simp; omega) | (dsimp only; omega) | omega), (by first | assumption | (simp [go_sem]; done) | (simp [go_sem, *]; done)), (by first | assumption | (simp [go_sem]; done) | (simp [go_sem, *]; done)), fun o => by first | (simp [go_sem]; done) | (simp [go_sem, *]; done)⟩, ⟨(by first | assumption | (simp; done) | (simp; omega) | (dsimp only; omega) | omega), (by first | assumption | (simp [go_sem]; done) | (simp [go_sem, *]; done)), (by first | assumption | (simp [go_sem]; done) | (simp [go_sem, *]; done)), fun o => by first | (simp [go_sem]; done) | (simp [go_sem, *]; done)⟩, by repeat' (first | (with_reducible exact Below.refl _ _) | (with_reducible refine Below.alloc ?_ ?_ _) | (with_reducible refine Below.setCell ?_ ?_ _) | (with_reducible refine Below.drew ?_) | (with_reducible refine Below.trans ?_ (Below.mono (by assumption) ?_)) | (simp; done) | (simp; omega) | omega)⟩
          rw [← HF.out, st.out, HS.out, if_neg (by simp)]
        case measure => simp [intOf]; omega
      · go_wp2_with fail
        refine (sm _).mono ?_; rintro _ w5 ⟨rfl, hb⟩
        have az : w.heap.size < (w5).heap.size := Nat.lt_of_lt_of_le (show w.heap.size < _ from (by first | assumption | (simp; done) | (simp; omega) | (dsimp only; omega) | omega)) hb.size; have a0 : (w5).cell? ⟨w.heap.size, 0, none⟩ = some (.int .i64 (0)) := (hb.cell (p := ⟨w.heap.size, 0, none⟩) (by first | assumption | (simp; done) | (simp; omega) | (dsimp only; omega) | omega)).trans (by first | assumption | (simp [go_sem]; done) | (simp [go_sem, *]; done)); have a1 : (w5).cell? ⟨w.heap.size, 1, none⟩ = some (.int .i64 (0)) := (hb.cell (p := ⟨w.heap.size, 1, none⟩) (by first | assumption | (simp; done) | (simp; omega) | (dsimp only; omega) | omega)).trans (by first | assumption | (simp [go_sem]; done) | (simp [go_sem, *]; done)); have af : ∀ o, (w5).frozen? ⟨w.heap.size, o, none⟩ = false := fun o => (hb.frozen (p := ⟨w.heap.size, o, none⟩) (by first | assumption | (simp; done) | (simp; omega) | (dsimp only; omega) | omega)).trans (by first | (simp [go_sem]; done) | (simp [go_sem, *]; done))
        have BB := BR.out
        have BN : Below w.heap.size w w5 := by repeat' (first | (with_reducible exact Below.refl _ _) | (with_reducible refine Below.alloc ?_ ?_ _) | (with_reducible refine Below.setCell ?_ ?_ _) | (with_reducible refine Below.drew ?_) | (with_reducible refine Below.trans ?_ (Below.mono (by assumption) ?_)) | (simp; done) | (simp; omega) | omega)
        clear BB hb pz p0 p1 pf gz g0 g1 gf x0 x1
        have BF := hid BN
        have hs5 := BN.size
        clear BN
        go_wp2
        have e1 : (lo, hi, e) = (0, 0, ee) := by rw [← HF.out, st.out, HS.out, if_pos c]
        simp only [Prod.mk.injEq] at e1
        obtain ⟨rfl, rfl, rfl⟩ := e1
        have ez : ¬ w.heap.size = w5.heap.size := by omega
        refine bodyPost_ret (v := .tuple #[.agg #[.int .i64 0, .int .i64 0], .int .i64 e]) (by simp [results, Tryd.results41, go_sem, a0, a1, az, ez]) rfl ?_
        have BB := BF.out
        exact Gives.mk rfl (by repeat' (first | (with_reducible exact Below.refl _ _) | (with_reducible refine Below.alloc ?_ ?_ _) | (with_reducible refine Below.setCell ?_ ?_ _) | (with_reducible refine Below.drew ?_) | (with_reducible refine Below.trans ?_ (Below.mono (by assumption) ?_)) | (simp; done) | (simp; omega) | omega))
    · have e' : k = len := by omega
      subst e'
      have ee : (t, u, (0 : Int)) = (lo, hi, e) := by rw [← HF.out, Nat.sub_self]; rfl
      simp only [Prod.mk.injEq] at ee
      obtain ⟨rfl, rfl, rfl⟩ := ee
      go_wp2
      refine bodyPost_ret (v := .tuple #[.agg #[.int .i64 t, .int .i64 u], .int .i64 0]) (by simp [results, Tryd.results41, go_sem, p0, p1]) rfl ?_
      have BB := BR.out
      exact Gives.mk rfl (by repeat' (first | (with_reducible exact Below.refl _ _) | (with_reducible refine Below.alloc ?_ ?_ _) | (with_reducible refine Below.setCell ?_ ?_ _) | (with_reducible refine Below.drew ?_) | (with_reducible refine Below.trans ?_ (Below.mono (by assumption) ?_)) | (simp; done) | (simp; omega) | omega))
/-- The chapter's example. -/
theorem fsum_three (k : Nat) (w : World) (hk : k < w.heap.size) (c0 : w.cell? ⟨k, 0, none⟩ = some (.int .i64 (-3))) (c1 : w.cell? ⟨k, 1, none⟩ = some (.int .i64 2)) (c2 : w.cell? ⟨k, 2, none⟩ = some (.int .i64 4)) (c3 : w.cell? ⟨k, 3, none⟩ = some (.int .i64 15)) (c4 : w.cell? ⟨k, 4, none⟩ = some (.int .i64 4)) (c5 : w.cell? ⟨k, 5, none⟩ = some (.int .i64 15)) :
    Calls Tryd.prog 41 #[.slice (some ⟨k, 0, none⟩) 3 3] w (Gives (.tuple #[.agg #[.int .i64 (-29), .int .i64 30], .int .i64 0]) w) := by
  refine fsum_good (fun i => if i = 0 then -3 else 4) (fun i => if i = 0 then 2 else 15) k 0 3 3 (by omega) (-29) 30 0 (by decide) (by decide) (by decide) w ⟨fun i _ => hk, fun i hi => ?_, fun i hi => ?_, fun i hi => ?_⟩
  all_goals
    have hc : i = 0 ∨ i = 1 ∨ i = 2 := by omega
    rcases hc with rfl | rfl | rfl
    all_goals first | exact c0 | exact c1 | exact c2 | exact c3 | exact c4 | exact c5 | (simp; done)
end Go.Proofs.YtjbnejhpfknfcaaDoor
