/-
  Sum of both packages over a list of fractions, for every list; and the walk of FractionSums.
-/
import Derived.Test.YtalpfpeejhbimaaDoorFradd2
import Derived.Test.YtalpfpeejhbimaaDoorFsumlist
import Derived.Test.YtalpfpeejhbimaaDoorFnews
namespace Go.Proofs.YtalpfpeejhbimaaDoor
open Go.RowKit
set_option linter.unusedVariables false
set_option linter.unusedSimpArgs false

namespace Sp
theorem sumF_err {a b c d x y e : Int} (h : sumF a b c d = (x, y, e)) (he : ¬ e = 0) : x = 0 ∧ y = 0 := by
  unfold sumF limF at h
  split at h
  · simp only [Prod.mk.injEq] at h; exact ⟨h.1.symm, h.2.1.symm⟩
  · simp only [Prod.mk.injEq] at h; exact absurd h.2.2.symm he
theorem sumF_valid {a b c d x y : Int} (h1 : fchk a b = 0) (h2 : fchk c d = 0) (h : sumF a b c d = (x, y, 0)) : fchk x y = 0 := by
  obtain ⟨p, q, e, q0, g, _, _, _⟩ := sumF_core h1 h2
  rw [e] at h
  unfold limF at h
  split at h
  · simp at h
  · simp only [Prod.mk.injEq, and_true] at h
    obtain ⟨rfl, rfl⟩ := h
    exact valid_mk q0 g (by omega) (by omega)
theorem okF_all {X Y : Nat → Int} : ∀ {n i : Nat} {t u : Int}, fchk t u = 0 → (∀ j, i ≤ j → j < i + n → fchk (X j) (Y j) = 0) → okF X Y i n t u = true
  | 0, _, _, _, _, _ => rfl
  | n + 1, i, t, u, h, hall => by
    unfold okF
    have hx := hall i (Nat.le_refl _) (by omega)
    obtain ⟨⟨x, y, e⟩, hs⟩ : ∃ r, sumF t u (X i) (Y i) = r := ⟨_, rfl⟩
    rw [hs, h]
    by_cases c : e = 0
    · subst c
      have k := okF_all (X := X) (Y := Y) (n := n) (i := i + 1) (sumF_valid h hx hs) (fun j h1 h2 => hall j (by omega) (by omega))
      simp only [k]
      simp
    · simp [c]
end Sp
set_option maxHeartbeats 1000000 in
theorem fsum_bad (X Y : Nat → Int) (b off len cap : Nat) (hl : len ≤ 2000) (y : Int) (y0 : ¬ y = 0) (hy : Sp.firstF X Y 0 len = y) (w : World) (S : FSl w b off len X Y) :
    Calls Tryd.prog 41 #[.slice (some ⟨b, off, none⟩) len cap] w (Gives (.tuple #[.agg #[.int .i64 0, .int .i64 0], .int .i64 y]) w) := by
  have HY := hid hy
  have SH := hid S
  have g : (y == 0) = false := by simp; exact y0
  clear hy S
  go_enter Tryd.func41, Tryd.ntmps41
  go_wp2_with fail
  refine (ffirst_list X Y b off len cap hl y HY.out _ (SH.out.below (by repeat' (first | (with_reducible exact Below.refl _ _) | (with_reducible refine Below.alloc ?_ ?_ _) | (with_reducible refine Below.setCell ?_ ?_ _) | (with_reducible refine Below.drew ?_) | (with_reducible refine Below.trans ?_ (Below.mono (by assumption) ?_)) | (simp; done) | (simp; omega) | omega)))).mono ?_; rintro _ w1 ⟨rfl, hb⟩
  have rz : w.heap.size < (w1).heap.size := Nat.lt_of_lt_of_le (show w.heap.size < _ from (by first | assumption | (simp; done) | (simp; omega) | (dsimp only; omega) | omega)) hb.size; have r0 : (w1).cell? ⟨w.heap.size, 0, none⟩ = some (.int .i64 (0)) := (hb.cell (p := ⟨w.heap.size, 0, none⟩) (by first | assumption | (simp; done) | (simp; omega) | (dsimp only; omega) | omega)).trans (by first | assumption | (simp [go_sem]; done) | (simp [go_sem, *]; done)); have r1 : (w1).cell? ⟨w.heap.size, 1, none⟩ = some (.int .i64 (0)) := (hb.cell (p := ⟨w.heap.size, 1, none⟩) (by first | assumption | (simp; done) | (simp; omega) | (dsimp only; omega) | omega)).trans (by first | assumption | (simp [go_sem]; done) | (simp [go_sem, *]; done)); have rf : ∀ o, (w1).frozen? ⟨w.heap.size, o, none⟩ = false := fun o => (hb.frozen (p := ⟨w.heap.size, o, none⟩) (by first | assumption | (simp; done) | (simp; omega) | (dsimp only; omega) | omega)).trans (by first | (simp [go_sem]; done) | (simp [go_sem, *]; done))
  have ez : ¬ w.heap.size = w1.heap.size := by omega
  go_wp2_with fail
  refine bodyPost_ret (v := .tuple #[.agg #[.int .i64 0, .int .i64 0], .int .i64 y]) (by simp [results, Tryd.results41, go_sem, r0, r1, rz, ez]) rfl ?_
  exact Gives.mk rfl (by repeat' (first | (with_reducible exact Below.refl _ _) | (with_reducible refine Below.alloc ?_ ?_ _) | (with_reducible refine Below.setCell ?_ ?_ _) | (with_reducible refine Below.drew ?_) | (with_reducible refine Below.trans ?_ (Below.mono (by assumption) ?_)) | (simp; done) | (simp; omega) | omega))
theorem fsum_nil (p : Option Addr) (cap : Nat) (w : World) : Calls Tryd.prog 41 #[.slice p 0 cap] w (Gives (.tuple #[.agg #[.int .i64 0, .int .i64 1], .int .i64 0]) w) := by
  have fe : ∀ w : World, Calls Tryd.prog 50 #[.slice p 0 cap] w (Gives (.int .i64 0) w) := fun w => by
    go_enter Tryd.func50, Tryd.ntmps50
    go_wp2
    all_goals
      refine wp_loop_rounds 1 ?_
      rw [rounds_succ]
      go_wp2
      go_ret
      exact Gives.mk rfl (by repeat' (first | (with_reducible exact Below.refl _ _) | (with_reducible refine Below.alloc ?_ ?_ _) | (with_reducible refine Below.setCell ?_ ?_ _) | (with_reducible refine Below.drew ?_) | (with_reducible refine Below.trans ?_ (Below.mono (by assumption) ?_)) | (simp; done) | (simp; omega) | omega))
  go_enter Tryd.func41, Tryd.ntmps41
  go_wp2_with fail
  refine (fe _).mono ?_; rintro _ w1 ⟨rfl, hb⟩
  have rz : w.heap.size < (w1).heap.size := Nat.lt_of_lt_of_le (show w.heap.size < _ from (by first | assumption | (simp; done) | (simp; omega) | (dsimp only; omega) | omega)) hb.size; have r0 : (w1).cell? ⟨w.heap.size, 0, none⟩ = some (.int .i64 (0)) := (hb.cell (p := ⟨w.heap.size, 0, none⟩) (by first | assumption | (simp; done) | (simp; omega) | (dsimp only; omega) | omega)).trans (by first | assumption | (simp [go_sem]; done) | (simp [go_sem, *]; done)); have r1 : (w1).cell? ⟨w.heap.size, 1, none⟩ = some (.int .i64 (0)) := (hb.cell (p := ⟨w.heap.size, 1, none⟩) (by first | assumption | (simp; done) | (simp; omega) | (dsimp only; omega) | omega)).trans (by first | assumption | (simp [go_sem]; done) | (simp [go_sem, *]; done)); have rf : ∀ o, (w1).frozen? ⟨w.heap.size, o, none⟩ = false := fun o => (hb.frozen (p := ⟨w.heap.size, o, none⟩) (by first | assumption | (simp; done) | (simp; omega) | (dsimp only; omega) | omega)).trans (by first | (simp [go_sem]; done) | (simp [go_sem, *]; done))
  have ez : ¬ w.heap.size = w1.heap.size := by omega
  go_wp2_with fail
  all_goals
    refine wp_loop_rounds 1 ?_
    rw [rounds_succ]
    go_wp2
    refine bodyPost_ret (v := .tuple #[.agg #[.int .i64 0, .int .i64 1], .int .i64 0]) (by simp [results, Tryd.results41, go_sem, r0, r1, rz, ez]) rfl ?_
    exact Gives.mk rfl (by repeat' (first | (with_reducible exact Below.refl _ _) | (with_reducible refine Below.alloc ?_ ?_ _) | (with_reducible refine Below.setCell ?_ ?_ _) | (with_reducible refine Below.drew ?_) | (with_reducible refine Below.trans ?_ (Below.mono (by assumption) ?_)) | (simp; done) | (simp; omega) | omega))
theorem rint_zero (w : World) : Calls Tryd.prog 15 #[.int .i64 0] w (Gives (.tuple #[.agg #[.int .i64 0, .int .i64 1], .int .i64 0]) w) :=
  rint_any 0 (by omega) (by omega) 0 1 0 (by rfl) w
theorem rfsum_nil (p : Option Addr) (cap : Nat) (w : World) : Calls Tryd.prog 42 #[.slice p 0 cap] w (Gives (.tuple #[.agg #[.int .i64 0, .int .i64 1], .int .i64 0]) w) := by
  go_enter Tryd.func42, Tryd.ntmps42
  go_wp2
  refine wp_loop_rounds 1 ?_
  rw [rounds_succ]
  go_wp2_with fail
  refine (rint_zero _).mono ?_; rintro _ w1 ⟨rfl, hb⟩
  have rz : w.heap.size < (w1).heap.size := Nat.lt_of_lt_of_le (show w.heap.size < _ from (by first | assumption | (simp; done) | (simp; omega) | (dsimp only; omega) | omega)) hb.size; have r0 : (w1).cell? ⟨w.heap.size, 0, none⟩ = some (.int .i64 (0)) := (hb.cell (p := ⟨w.heap.size, 0, none⟩) (by first | assumption | (simp; done) | (simp; omega) | (dsimp only; omega) | omega)).trans (by first | assumption | (simp [go_sem]; done) | (simp [go_sem, *]; done)); have r1 : (w1).cell? ⟨w.heap.size, 1, none⟩ = some (.int .i64 (0)) := (hb.cell (p := ⟨w.heap.size, 1, none⟩) (by first | assumption | (simp; done) | (simp; omega) | (dsimp only; omega) | omega)).trans (by first | assumption | (simp [go_sem]; done) | (simp [go_sem, *]; done)); have rf : ∀ o, (w1).frozen? ⟨w.heap.size, o, none⟩ = false := fun o => (hb.frozen (p := ⟨w.heap.size, o, none⟩) (by first | assumption | (simp; done) | (simp; omega) | (dsimp only; omega) | omega)).trans (by first | (simp [go_sem]; done) | (simp [go_sem, *]; done))
  have ez : ¬ w.heap.size = w1.heap.size := by omega
  go_wp2_with fail
  refine wp_loop_rounds 1 ?_
  rw [rounds_succ]
  go_wp2
  refine bodyPost_ret (v := .tuple #[.agg #[.int .i64 0, .int .i64 1], .int .i64 0]) (by simp [results, Tryd.results42, go_sem, r0, r1, rz, ez]) rfl ?_
  exact Gives.mk rfl (by repeat' (first | (with_reducible exact Below.refl _ _) | (with_reducible refine Below.alloc ?_ ?_ _) | (with_reducible refine Below.setCell ?_ ?_ _) | (with_reducible refine Below.drew ?_) | (with_reducible refine Below.trans ?_ (Below.mono (by assumption) ?_)) | (simp; done) | (simp; omega) | omega))
def RFL1 (X Y : Nat → Int) (len : Nat) (y : Int) (w : World) (v : Value) (wr : World) : Prop :=
  ∃ k : Nat, k ≤ len ∧ v = .int .i64 k ∧ Sp.firstF X Y k (len - k) = y ∧ FBox wr w.heap.size 0 0 ∧ Below w.heap.size w wr
def RFL2 (X Y : Nat → Int) (len : Nat) (R : Int × Int × Int) (w : World) (g : Nat) (ve vi : Value) (wr : World) : Prop :=
  ∃ (k : Nat) (t u c : Int), k ≤ len ∧ vi = .int .i64 k ∧ ve = .int .i64 c ∧ (c = 0 → Sp.okF X Y k (len - k) t u = true ∧ Sp.sumLF X Y k (len - k) t u = R) ∧ (¬ c = 0 → (t, u, c) = R) ∧ FBox wr w.heap.size 0 0 ∧ FBox wr g t u ∧ Below w.heap.size w wr
set_option maxHeartbeats 4000000 in
theorem rfsum_any (X Y : Nat → Int) (b off len cap : Nat) (hl : len ≤ 2000) (y lo hi e : Int) (hy : Sp.firstF X Y 0 len = y) (hb0 : ¬ y = 0 → (lo, hi, e) = (0, 0, y)) (hg0 : y = 0 → Sp.sumLF X Y 0 len 0 1 = (lo, hi, e)) (w : World) (S : FSl w b off len X Y) :
    Calls Tryd.prog 42 #[.slice (some ⟨b, off, none⟩) len cap] w (Gives (.tuple #[.agg #[.int .i64 lo, .int .i64 hi], .int .i64 e]) w) := by
  have HY := hid hy
  have SH := hid S
  have HB := hid hb0
  have HG := hid hg0
  clear hy S hb0 hg0
  go_enter Tryd.func42, Tryd.ntmps42
  go_wp2_with fail
  go_loopw [4] (fun v wr => RFL1 X Y len y w v wr) (fun v _ => len - (intOf v).toNat)
  case atStart => exact ⟨0, Nat.zero_le _, rfl, HY.out, ⟨by simp, by simp [go_sem], by simp [go_sem], fun o => by simp [go_sem]⟩, by repeat' (first | (with_reducible exact Below.refl _ _) | (with_reducible refine Below.alloc ?_ ?_ _) | (with_reducible refine Below.setCell ?_ ?_ _) | (with_reducible refine Below.drew ?_) | (with_reducible refine Below.trans ?_ (Below.mono (by assumption) ?_)) | (simp; done) | (simp; omega) | omega)⟩
  case round =>
    obtain ⟨k, hk, rfl, hf, ⟨rz, r0, r1, rf⟩, hB⟩ := hrel
    have hsz := hB.size
    have HF := hid hf
    have BH := hid hB
    clear hf hB
    by_cases hlt : k < len
    · have hb : b < w.heap.size := SH.out.lt k hlt
      have hbw : b < wr.heap.size := by omega
      have x0 := (BH.out.cell (p := ⟨b, off + k * 2, none⟩) hb).trans (SH.out.c0 k hlt)
      have x1 := (BH.out.cell (p := ⟨b, off + k * 2 + 1, none⟩) hb).trans (SH.out.c1 k hlt)
      have st := hid (Sp.firstF_step (X := X) (Y := Y) hlt)
      obtain ⟨p, hp⟩ : ∃ p, X k = p := ⟨_, rfl⟩
      obtain ⟨q, hq⟩ : ∃ q, Y k = q := ⟨_, rfl⟩
      rw [hp] at x0
      rw [hq] at x1
      obtain ⟨c, hc⟩ : ∃ c, Sp.fchk p q = c := ⟨_, rfl⟩
      have ft := SH.out.fit k hlt
      rw [hp, hq] at ft
      have ck := fun w => rfcheck_any p q ft.1 ft.2.1 ft.2.2.1 ft.2.2.2 w
      rw [hc] at ck
      have PH := hid hp
      have QH := hid hq
      have CH := hid hc
      clear hp hq hc ft
      by_cases c0 : c = 0
      · subst c0
        go_wp2_with fail
        refine (ck _).mono ?_; rintro _ w5 ⟨rfl, hb⟩
        have az : w.heap.size < (w5).heap.size := Nat.lt_of_lt_of_le (show w.heap.size < _ from (by first | assumption | (simp; done) | (simp; omega) | (dsimp only; omega) | omega)) hb.size; have a0 : (w5).cell? ⟨w.heap.size, 0, none⟩ = some (.int .i64 (0)) := (hb.cell (p := ⟨w.heap.size, 0, none⟩) (by first | assumption | (simp; done) | (simp; omega) | (dsimp only; omega) | omega)).trans (by first | assumption | (simp [go_sem]; done) | (simp [go_sem, *]; done)); have a1 : (w5).cell? ⟨w.heap.size, 1, none⟩ = some (.int .i64 (0)) := (hb.cell (p := ⟨w.heap.size, 1, none⟩) (by first | assumption | (simp; done) | (simp; omega) | (dsimp only; omega) | omega)).trans (by first | assumption | (simp [go_sem]; done) | (simp [go_sem, *]; done)); have af : ∀ o, (w5).frozen? ⟨w.heap.size, o, none⟩ = false := fun o => (hb.frozen (p := ⟨w.heap.size, o, none⟩) (by first | assumption | (simp; done) | (simp; omega) | (dsimp only; omega) | omega)).trans (by first | (simp [go_sem]; done) | (simp [go_sem, *]; done))
        have BB := BH.out
        have BN : Below w.heap.size w w5 := by repeat' (first | (with_reducible exact Below.refl _ _) | (with_reducible refine Below.alloc ?_ ?_ _) | (with_reducible refine Below.setCell ?_ ?_ _) | (with_reducible refine Below.drew ?_) | (with_reducible refine Below.trans ?_ (Below.mono (by assumption) ?_)) | (simp; done) | (simp; omega) | omega)
        clear BB hb rz r0 r1 rf x0 x1
        have BF := hid BN
        have hs5 := BN.size
        clear BN
        go_wp2
        go_roundw
        case rel =>
          have BB := BF.out
          refine ⟨k + 1, by omega, by go_num, ?_, ⟨(by first | assumption | (simp; done) | (simp; omega) | (dsimp only; omega) | omega), (by first | assumption | (simp [go_sem]; done) | (simp [go_sem, *]; done)), (by first | assumption | (simp [go_sem]; done) | (simp [go_sem, *]; done)), fun o => by first | (simp [go_sem]; done) | (simp [go_sem, *]; done)⟩, by repeat' (first | (with_reducible exact Below.refl _ _) | (with_reducible refine Below.alloc ?_ ?_ _) | (with_reducible refine Below.setCell ?_ ?_ _) | (with_reducible refine Below.drew ?_) | (with_reducible refine Below.trans ?_ (Below.mono (by assumption) ?_)) | (simp; done) | (simp; omega) | omega)⟩
          rw [← HF.out, st.out, PH.out, QH.out, CH.out, if_neg (by omega)]
        case measure => simp [intOf]; omega
      · have g : (c == 0) = false := by simp; exact c0
        go_wp2_with fail
        refine (ck _).mono ?_; rintro _ w5 ⟨rfl, hb⟩
        have az : w.heap.size < (w5).heap.size := Nat.lt_of_lt_of_le (show w.heap.size < _ from (by first | assumption | (simp; done) | (simp; omega) | (dsimp only; omega) | omega)) hb.size; have a0 : (w5).cell? ⟨w.heap.size, 0, none⟩ = some (.int .i64 (0)) := (hb.cell (p := ⟨w.heap.size, 0, none⟩) (by first | assumption | (simp; done) | (simp; omega) | (dsimp only; omega) | omega)).trans (by first | assumption | (simp [go_sem]; done) | (simp [go_sem, *]; done)); have a1 : (w5).cell? ⟨w.heap.size, 1, none⟩ = some (.int .i64 (0)) := (hb.cell (p := ⟨w.heap.size, 1, none⟩) (by first | assumption | (simp; done) | (simp; omega) | (dsimp only; omega) | omega)).trans (by first | assumption | (simp [go_sem]; done) | (simp [go_sem, *]; done)); have af : ∀ o, (w5).frozen? ⟨w.heap.size, o, none⟩ = false := fun o => (hb.frozen (p := ⟨w.heap.size, o, none⟩) (by first | assumption | (simp; done) | (simp; omega) | (dsimp only; omega) | omega)).trans (by first | (simp [go_sem]; done) | (simp [go_sem, *]; done))
        have BB := BH.out
        have BN : Below w.heap.size w w5 := by repeat' (first | (with_reducible exact Below.refl _ _) | (with_reducible refine Below.alloc ?_ ?_ _) | (with_reducible refine Below.setCell ?_ ?_ _) | (with_reducible refine Below.drew ?_) | (with_reducible refine Below.trans ?_ (Below.mono (by assumption) ?_)) | (simp; done) | (simp; omega) | omega)
        clear BB hb rz r0 r1 rf x0 x1
        have BF := hid BN
        have hs5 := BN.size
        clear BN
        go_wp2
        have ey : y = c := by rw [← HF.out, st.out, PH.out, QH.out, CH.out, if_pos c0]
        have er := HB.out (by rw [ey]; exact c0)
        rw [ey] at er
        simp only [Prod.mk.injEq] at er
        obtain ⟨rfl, rfl, rfl⟩ := er
        have ez : ¬ w.heap.size = w5.heap.size := by omega
        refine bodyPost_ret (v := .tuple #[.agg #[.int .i64 0, .int .i64 0], .int .i64 e]) (by simp [results, Tryd.results42, go_sem, a0, a1, az, ez]) rfl ?_
        have BB := BF.out
        exact Gives.mk rfl (by repeat' (first | (with_reducible exact Below.refl _ _) | (with_reducible refine Below.alloc ?_ ?_ _) | (with_reducible refine Below.setCell ?_ ?_ _) | (with_reducible refine Below.drew ?_) | (with_reducible refine Below.trans ?_ (Below.mono (by assumption) ?_)) | (simp; done) | (simp; omega) | omega))
    · have e' : k = len := by omega
      subst e'
      have y0 : y = 0 := by rw [← HF.out, Nat.sub_self]; rfl
      have ER := hid (HG.out y0)
      have hO : Sp.okF X Y 0 k 0 1 = true := Sp.okF_all (by decide) (Sp.firstF_all (by rw [HY.out]; exact y0))
      have OK := hid hO
      clear hO HF HB HG
      subst y0
      go_wp2_with fail
      refine (rint_zero _).mono ?_; rintro _ u1 ⟨rfl, hb⟩
      have sz : w.heap.size < (u1).heap.size := Nat.lt_of_lt_of_le (show w.heap.size < _ from (by first | assumption | (simp; done) | (simp; omega) | (dsimp only; omega) | omega)) hb.size; have s0 : (u1).cell? ⟨w.heap.size, 0, none⟩ = some (.int .i64 (0)) := (hb.cell (p := ⟨w.heap.size, 0, none⟩) (by first | assumption | (simp; done) | (simp; omega) | (dsimp only; omega) | omega)).trans (by first | assumption | (simp [go_sem]; done) | (simp [go_sem, *]; done)); have s1 : (u1).cell? ⟨w.heap.size, 1, none⟩ = some (.int .i64 (0)) := (hb.cell (p := ⟨w.heap.size, 1, none⟩) (by first | assumption | (simp; done) | (simp; omega) | (dsimp only; omega) | omega)).trans (by first | assumption | (simp [go_sem]; done) | (simp [go_sem, *]; done)); have sf : ∀ o, (u1).frozen? ⟨w.heap.size, o, none⟩ = false := fun o => (hb.frozen (p := ⟨w.heap.size, o, none⟩) (by first | assumption | (simp; done) | (simp; omega) | (dsimp only; omega) | omega)).trans (by first | (simp [go_sem]; done) | (simp [go_sem, *]; done))
      have BB := BH.out
      have BN : Below w.heap.size w u1 := by repeat' (first | (with_reducible exact Below.refl _ _) | (with_reducible refine Below.alloc ?_ ?_ _) | (with_reducible refine Below.setCell ?_ ?_ _) | (with_reducible refine Below.drew ?_) | (with_reducible refine Below.trans ?_ (Below.mono (by assumption) ?_)) | (simp; done) | (simp; omega) | omega)
      clear BB hb rz r0 r1 rf BH hsz
      have BO := hid BN
      have hso := BN.size
      clear BN
      go_wp2_with fail
      go_loopw [7, 8] (fun ve vi wr => RFL2 X Y k (lo, hi, e) w u1.heap.size ve vi wr) (fun _ vi _ => k - (intOf vi).toNat)
      case atStart =>
        have BB := BO.out
        exact ⟨0, 0, 1, 0, Nat.zero_le _, rfl, rfl, fun _ => ⟨OK.out, ER.out⟩, fun h => absurd rfl h, ⟨(by first | assumption | (simp; done) | (simp; omega) | (dsimp only; omega) | omega), (by first | assumption | (simp [go_sem]; done) | (simp [go_sem, *]; done)), (by first | assumption | (simp [go_sem]; done) | (simp [go_sem, *]; done)), (fun o => by first | (simp [go_sem]; done) | (simp [go_sem, *]; done))⟩, ⟨by simp, by simp [go_sem], by simp [go_sem], fun o => by simp [go_sem]⟩, by repeat' (first | (with_reducible exact Below.refl _ _) | (with_reducible refine Below.alloc ?_ ?_ _) | (with_reducible refine Below.setCell ?_ ?_ _) | (with_reducible refine Below.drew ?_) | (with_reducible refine Below.trans ?_ (Below.mono (by assumption) ?_)) | (simp; done) | (simp; omega) | omega)⟩
      case round =>
        obtain ⟨j, t, u, c, hj, rfl, rfl, h0, h1, ⟨pz, p0, p1, pf⟩, ⟨gz, g0, g1, gf⟩, hB⟩ := hrel
        have hne : ¬ w.heap.size = u1.heap.size := by omega
        have hne2 : ¬ u1.heap.size = w.heap.size := by omega
        have hle : w.heap.size ≤ u1.heap.size := hso
        have hszr := hB.size
        have H0 := hid h0
        have H1 := hid h1
        have BR := hid hB
        clear h0 h1 hB BO sz s0 s1 sf ER OK
        by_cases hlt : j < k
        · by_cases c0 : c = 0
          · subst c0
            obtain ⟨hok, hf⟩ := H0.out rfl
            have HF := hid hf
            have hb : b < w.heap.size := SH.out.lt j hlt
            have hbw : b < wr.heap.size := by omega
            have x0 := (BR.out.cell (p := ⟨b, off + j * 2, none⟩) hb).trans (SH.out.c0 j hlt)
            have x1 := (BR.out.cell (p := ⟨b, off + j * 2 + 1, none⟩) hb).trans (SH.out.c1 j hlt)
            have st := hid (Sp.sumLF_step (X := X) (Y := Y) (t := t) (u := u) hlt)
            have hv := Sp.firstF_all HY.out j (Nat.zero_le _) (by omega)
            obtain ⟨v0, nx⟩ := Sp.okF_step hlt hok
            obtain ⟨⟨x, y', ee⟩, hs⟩ : ∃ r, Sp.sumF t u (X j) (Y j) = r := ⟨_, rfl⟩
            rw [hs] at nx
            have NX := hid nx
            have HS := hid hs
            obtain ⟨p, hp⟩ : ∃ p, X j = p := ⟨_, rfl⟩
            obtain ⟨q, hq⟩ : ∃ q, Y j = q := ⟨_, rfl⟩
            rw [hp, hq] at hs hv
            rw [hp] at x0
            rw [hq] at x1
            have sm := fun w => radd_valid t u p q x y' ee v0 hv hs w
            clear hp hq hs nx v0 hv hok hf H0 H1
            go_wp2_with fail
            go_region_with (first | (go_at_call 20; refine (sm _).mono ?_; rintro _ w5 ⟨rfl, hb2⟩; have hb : Below wr.heap.size wr w5 := (by repeat' (first | (with_reducible exact Below.refl _ _) | (with_reducible refine Below.alloc ?_ ?_ _) | (with_reducible refine Below.setCell ?_ ?_ _) | (with_reducible refine Below.drew ?_) | (with_reducible refine below_dn ?_ _) | (with_reducible refine Below.trans ?_ (Below.mono (by assumption) ?_)) | (simp; done) | (simp; omega) | omega)); have hz2 : wr.heap.size ≤ w5.heap.size := hb.size; clear hb2; have az : w.heap.size < (w5).heap.size := Nat.lt_of_lt_of_le (show w.heap.size < _ from (by first | assumption | (simp; done) | (simp; omega) | (dsimp only; omega) | omega)) hb.size; have a0 : (w5).cell? ⟨w.heap.size, 0, none⟩ = some (.int .i64 (0)) := (hb.cell (p := ⟨w.heap.size, 0, none⟩) (by first | assumption | (simp; done) | (simp; omega) | (dsimp only; omega) | omega)).trans (by first | assumption | (simp [go_sem]; done) | (simp [go_sem, *]; done)); have a1 : (w5).cell? ⟨w.heap.size, 1, none⟩ = some (.int .i64 (0)) := (hb.cell (p := ⟨w.heap.size, 1, none⟩) (by first | assumption | (simp; done) | (simp; omega) | (dsimp only; omega) | omega)).trans (by first | assumption | (simp [go_sem]; done) | (simp [go_sem, *]; done)); have af : ∀ o, (w5).frozen? ⟨w.heap.size, o, none⟩ = false := fun o => (hb.frozen (p := ⟨w.heap.size, o, none⟩) (by first | assumption | (simp; done) | (simp; omega) | (dsimp only; omega) | omega)).trans (by first | (simp [go_sem]; done) | (simp [go_sem, *]; done)); have dz : u1.heap.size < (w5).heap.size := Nat.lt_of_lt_of_le (show u1.heap.size < _ from (by first | assumption | (simp; done) | (simp; omega) | (dsimp only; omega) | omega)) hb.size; have d0 : (w5).cell? ⟨u1.heap.size, 0, none⟩ = some (.int .i64 (t)) := (hb.cell (p := ⟨u1.heap.size, 0, none⟩) (by first | assumption | (simp; done) | (simp; omega) | (dsimp only; omega) | omega)).trans (by first | assumption | (simp [go_sem]; done) | (simp [go_sem, *]; done)); have d1 : (w5).cell? ⟨u1.heap.size, 1, none⟩ = some (.int .i64 (u)) := (hb.cell (p := ⟨u1.heap.size, 1, none⟩) (by first | assumption | (simp; done) | (simp; omega) | (dsimp only; omega) | omega)).trans (by first | assumption | (simp [go_sem]; done) | (simp [go_sem, *]; done)); have df : ∀ o, (w5).frozen? ⟨u1.heap.size, o, none⟩ = false := fun o => (hb.frozen (p := ⟨u1.heap.size, o, none⟩) (by first | assumption | (simp; done) | (simp; omega) | (dsimp only; omega) | omega)).trans (by first | (simp [go_sem]; done) | (simp [go_sem, *]; done))))
            all_goals
              have BN : Below w.heap.size w w5 := BR.out.trans (hb.mono (by omega))
              clear hb pz p0 p1 pf gz g0 g1 gf x0 x1
              have BF := hid BN
              have hs5 := BN.size
              clear BN
              go_wp2
              go_roundw
              case rel =>
                have BB := BF.out
                refine ⟨j + 1, x, y', ee, by omega, by go_num, rfl, fun h => ⟨NX.out h, ?_⟩, fun h => ?_, ⟨(by first | assumption | (simp; done) | (simp; omega) | (dsimp only; omega) | omega), (by first | assumption | (simp [go_sem]; done) | (simp [go_sem, *]; done)), (by first | assumption | (simp [go_sem]; done) | (simp [go_sem, *]; done)), fun o => by first | (simp [go_sem]; done) | (simp [go_sem, *]; done)⟩, ⟨(by first | assumption | (simp; done) | (simp; omega) | (dsimp only; omega) | omega), (by first | assumption | (simp [go_sem]; done) | (simp [go_sem, *]; done)), (by first | assumption | (simp [go_sem]; done) | (simp [go_sem, *]; done)), fun o => by first | (simp [go_sem]; done) | (simp [go_sem, *]; done)⟩, by repeat' (first | (with_reducible exact Below.refl _ _) | (with_reducible refine Below.alloc ?_ ?_ _) | (with_reducible refine Below.setCell ?_ ?_ _) | (with_reducible refine Below.drew ?_) | (with_reducible refine Below.trans ?_ (Below.mono (by assumption) ?_)) | (simp; done) | (simp; omega) | omega)⟩
                · rw [← HF.out, st.out, HS.out, if_neg (by simp; exact h)]
                · obtain ⟨rfl, rfl⟩ := Sp.sumF_err HS.out h
                  rw [← HF.out, st.out, HS.out, if_pos h]
              case measure => simp [intOf]; omega
          · have g : (c == 0) = false := by simp; exact c0
            have ee := H1.out c0
            simp only [Prod.mk.injEq] at ee
            obtain ⟨rfl, rfl, rfl⟩ := ee
            go_wp2_with fail
            refine bodyPost_ret (v := .tuple #[.agg #[.int .i64 t, .int .i64 u], .int .i64 c]) (by simp [results, Tryd.results42, go_sem, p0, p1, g0, g1]) rfl ?_
            have BB := BR.out
            exact Gives.mk rfl (by repeat' (first | (with_reducible exact Below.refl _ _) | (with_reducible refine Below.alloc ?_ ?_ _) | (with_reducible refine Below.setCell ?_ ?_ _) | (with_reducible refine Below.drew ?_) | (with_reducible refine Below.trans ?_ (Below.mono (by assumption) ?_)) | (simp; done) | (simp; omega) | omega))
        · have e' : j = k := by omega
          subst e'
          have ee : (t, u, c) = (lo, hi, e) := by
            by_cases c0 : c = 0
            · subst c0
              rw [← (H0.out rfl).2, Nat.sub_self]; rfl
            · exact H1.out c0
          simp only [Prod.mk.injEq] at ee
          obtain ⟨rfl, rfl, rfl⟩ := ee
          go_wp2_with fail
          refine bodyPost_ret (v := .tuple #[.agg #[.int .i64 t, .int .i64 u], .int .i64 c]) (by simp [results, Tryd.results42, go_sem, p0, p1, g0, g1]) rfl ?_
          have BB := BR.out
          exact Gives.mk rfl (by repeat' (first | (with_reducible exact Below.refl _ _) | (with_reducible refine Below.alloc ?_ ?_ _) | (with_reducible refine Below.setCell ?_ ?_ _) | (with_reducible refine Below.drew ?_) | (with_reducible refine Below.trans ?_ (Below.mono (by assumption) ?_)) | (simp; done) | (simp; omega) | omega))
set_option maxHeartbeats 2000000 in
theorem fsums_long (p : Option Addr) (len cap : Nat) (w : World) (hl : 30 < len) (hm : len ≤ 9223372036854775807)
    (aw : ∀ W, Below w.heap.size w W → Calls Tryd.prog 11 #[] W (Gives (.bool true) W)) :
    Calls Tryd.prog 7 #[.slice p len cap] w (Gives (.bool true) w) := by
  have AW := hid aw
  clear aw
  go_enter Tryd.func7, Tryd.ntmps7
  go_wp2_with fail
  refine (AW.out _ (by repeat' (first | (with_reducible exact Below.refl _ _) | (with_reducible refine Below.alloc ?_ ?_ _) | (with_reducible refine Below.setCell ?_ ?_ _) | (with_reducible refine Below.drew ?_) | (with_reducible refine Below.trans ?_ (Below.mono (by assumption) ?_)) | (simp; done) | (simp; omega) | omega))).mono ?_; rintro _ u1 ⟨rfl, hb⟩
  have BN : Below w.heap.size w u1 := by repeat' (first | (with_reducible exact Below.refl _ _) | (with_reducible refine Below.alloc ?_ ?_ _) | (with_reducible refine Below.setCell ?_ ?_ _) | (with_reducible refine Below.drew ?_) | (with_reducible refine Below.trans ?_ (Below.mono (by assumption) ?_)) | (simp; done) | (simp; omega) | omega)
  have BH := hid BN
  have hsz := BN.size
  clear hb BN
  go_wp2_with fail
  have BB := BH.out
  refine (AW.out _ (by repeat' (first | (with_reducible exact Below.refl _ _) | (with_reducible refine Below.alloc ?_ ?_ _) | (with_reducible refine Below.setCell ?_ ?_ _) | (with_reducible refine Below.drew ?_) | (with_reducible refine Below.trans ?_ (Below.mono (by assumption) ?_)) | (simp; done) | (simp; omega) | omega))).mono ?_; rintro _ u2 ⟨rfl, hb⟩
  go_wp2_with fail
  go_ret
  exact Gives.mk rfl (by repeat' (first | (with_reducible exact Below.refl _ _) | (with_reducible refine Below.alloc ?_ ?_ _) | (with_reducible refine Below.setCell ?_ ?_ _) | (with_reducible refine Below.drew ?_) | (with_reducible refine Below.trans ?_ (Below.mono (by assumption) ?_)) | (simp; done) | (simp; omega) | omega))
set_option maxHeartbeats 2000000 in
theorem fsums_short (p : Option Addr) (len cap : Nat) (lo hi e : Int) (w : World) (hl : len ≤ 30)
    (aw : ∀ W, Below w.heap.size w W → Calls Tryd.prog 11 #[] W (Gives (.bool true) W))
    (su : ∀ W : World, Below w.heap.size w W → Calls Tryd.prog 41 #[.slice p len cap] W (Gives (.tuple #[.agg #[.int .i64 lo, .int .i64 hi], .int .i64 e]) W))
    (su2 : ∀ W : World, Below w.heap.size w W → Calls Tryd.prog 42 #[.slice p len cap] W (Gives (.tuple #[.agg #[.int .i64 lo, .int .i64 hi], .int .i64 e]) W)) :
    Calls Tryd.prog 7 #[.slice p len cap] w (Gives (.bool true) w) := by
  have AW := hid aw
  have S1 := hid su
  have S2 := hid su2
  have sm := fun w => rsame_true lo hi w
  clear su su2 aw
  go_enter Tryd.func7, Tryd.ntmps7
  go_wp2_with fail
  refine (AW.out _ (by repeat' (first | (with_reducible exact Below.refl _ _) | (with_reducible refine Below.alloc ?_ ?_ _) | (with_reducible refine Below.setCell ?_ ?_ _) | (with_reducible refine Below.drew ?_) | (with_reducible refine Below.trans ?_ (Below.mono (by assumption) ?_)) | (simp; done) | (simp; omega) | omega))).mono ?_; rintro _ u0 ⟨rfl, hb⟩
  have BN : Below w.heap.size w u0 := by repeat' (first | (with_reducible exact Below.refl _ _) | (with_reducible refine Below.alloc ?_ ?_ _) | (with_reducible refine Below.setCell ?_ ?_ _) | (with_reducible refine Below.drew ?_) | (with_reducible refine Below.trans ?_ (Below.mono (by assumption) ?_)) | (simp; done) | (simp; omega) | omega)
  have BH := hid BN
  have hsz := BN.size
  clear hb BN
  go_wp2_with fail
  have BB := BH.out
  refine (S1.out _ (by repeat' (first | (with_reducible exact Below.refl _ _) | (with_reducible refine Below.alloc ?_ ?_ _) | (with_reducible refine Below.setCell ?_ ?_ _) | (with_reducible refine Below.drew ?_) | (with_reducible refine Below.trans ?_ (Below.mono (by assumption) ?_)) | (simp; done) | (simp; omega) | omega))).mono ?_; rintro _ u1 ⟨rfl, hb⟩
  have BN : Below w.heap.size w u1 := by repeat' (first | (with_reducible exact Below.refl _ _) | (with_reducible refine Below.alloc ?_ ?_ _) | (with_reducible refine Below.setCell ?_ ?_ _) | (with_reducible refine Below.drew ?_) | (with_reducible refine Below.trans ?_ (Below.mono (by assumption) ?_)) | (simp; done) | (simp; omega) | omega)
  clear BB BH hsz
  have BH := hid BN
  have hsz := BN.size
  clear hb BN
  go_wp2_with fail
  have BB := BH.out
  refine (S2.out _ (by repeat' (first | (with_reducible exact Below.refl _ _) | (with_reducible refine Below.alloc ?_ ?_ _) | (with_reducible refine Below.setCell ?_ ?_ _) | (with_reducible refine Below.drew ?_) | (with_reducible refine Below.trans ?_ (Below.mono (by assumption) ?_)) | (simp; done) | (simp; omega) | omega))).mono ?_; rintro _ u2 ⟨rfl, hb⟩
  have xz : u1.heap.size < (u2).heap.size := Nat.lt_of_lt_of_le (show u1.heap.size < _ from (by first | assumption | (simp; done) | (simp; omega) | (dsimp only; omega) | omega)) hb.size; have x0 : (u2).cell? ⟨u1.heap.size, 0, none⟩ = some (.int .i64 (lo)) := (hb.cell (p := ⟨u1.heap.size, 0, none⟩) (by first | assumption | (simp; done) | (simp; omega) | (dsimp only; omega) | omega)).trans (by first | assumption | (simp [go_sem]; done) | (simp [go_sem, *]; done)); have x1 : (u2).cell? ⟨u1.heap.size, 1, none⟩ = some (.int .i64 (hi)) := (hb.cell (p := ⟨u1.heap.size, 1, none⟩) (by first | assumption | (simp; done) | (simp; omega) | (dsimp only; omega) | omega)).trans (by first | assumption | (simp [go_sem]; done) | (simp [go_sem, *]; done))
  have BN : Below w.heap.size w u2 := by repeat' (first | (with_reducible exact Below.refl _ _) | (with_reducible refine Below.alloc ?_ ?_ _) | (with_reducible refine Below.setCell ?_ ?_ _) | (with_reducible refine Below.drew ?_) | (with_reducible refine Below.trans ?_ (Below.mono (by assumption) ?_)) | (simp; done) | (simp; omega) | omega)
  clear BB BH hsz
  have BH := hid BN
  have hsz := BN.size
  clear hb BN
  go_wp2_with (go_at_call 16; (with_reducible refine (sm _).mono ?_); rintro _ u3 ⟨rfl, hb⟩)
  have BB := BH.out
  go_ret
  exact Gives.mk rfl (by repeat' (first | (with_reducible exact Below.refl _ _) | (with_reducible refine Below.alloc ?_ ?_ _) | (with_reducible refine Below.setCell ?_ ?_ _) | (with_reducible refine Below.drew ?_) | (with_reducible refine Below.trans ?_ (Below.mono (by assumption) ?_)) | (simp; done) | (simp; omega) | omega))
theorem fsums_nil (p : Option Addr) (cap : Nat) (w : World) (aw : ∀ W, Below w.heap.size w W → Calls Tryd.prog 11 #[] W (Gives (.bool true) W)) :
    Calls Tryd.prog 7 #[.slice p 0 cap] w (Gives (.bool true) w) :=
  fsums_short p 0 cap 0 1 0 w (by omega) aw (fun W _ => fsum_nil p cap W) (fun W _ => rfsum_nil p cap W)
theorem fsums_some (X Y : Nat → Int) (b off len cap : Nat) (hm : len ≤ 9223372036854775807) (w : World) (S : FSl w b off len X Y)
    (aw : ∀ W, Below w.heap.size w W → Calls Tryd.prog 11 #[] W (Gives (.bool true) W)) :
    Calls Tryd.prog 7 #[.slice (some ⟨b, off, none⟩) len cap] w (Gives (.bool true) w) := by
  by_cases hl : len ≤ 30
  · obtain ⟨y, hy⟩ : ∃ y, Sp.firstF X Y 0 len = y := ⟨_, rfl⟩
    by_cases y0 : y = 0
    · obtain ⟨⟨lo, hi, e⟩, hR⟩ : ∃ r, Sp.sumLF X Y 0 len 0 1 = r := ⟨_, rfl⟩
      subst y0
      have hO : Sp.okF X Y 0 len 0 1 = true := Sp.okF_all (by decide) (Sp.firstF_all hy)
      exact fsums_short _ len cap lo hi e w hl aw (fun W hW => fsum_good X Y b off len cap (by omega) lo hi e hy hO hR W (S.below hW)) (fun W hW => rfsum_any X Y b off len cap (by omega) 0 lo hi e hy (fun h => absurd rfl h) (fun _ => hR) W (S.below hW))
    · exact fsums_short _ len cap 0 0 y w hl aw (fun W hW => fsum_bad X Y b off len cap (by omega) y y0 hy W (S.below hW)) (fun W hW => rfsum_any X Y b off len cap (by omega) y 0 0 y hy (fun _ => rfl) (fun h => absurd h y0) W (S.below hW))
  · exact fsums_long _ len cap w (by omega) hm aw
end Go.Proofs.YtalpfpeejhbimaaDoor
