/-
  The exported functions of package couperef01, each by a contract: Add, Sub, Neg; and wide.Neg.
-/
import Derived.Test.YthfnblifefnfmaaWrefadd2
namespace Go.Proofs.Ythfnblifefnfmaa
open Go.RowKit
set_option linter.unusedVariables false
set_option linter.unusedSimpArgs false

theorem rwadd_any (n1 n2 : Bool) (h1 l1 h2 l2 : Int) (a0 : 0 ≤ h1) (a1 : h1 < 9223372036854775808) (a2 : 0 ≤ l1) (a3 : l1 < 18446744073709551616) (b0 : 0 ≤ h2) (b1 : h2 < 9223372036854775808) (b2 : 0 ≤ l2) (b3 : l2 < 18446744073709551616) (n : Bool) (h l e : Int)
    (hv : Wd.lim (Wd.sv n1 (h1 * 18446744073709551616 + l1) + Wd.sv n2 (h2 * 18446744073709551616 + l2)) = (⟨n, h, l⟩, e)) (w : World) :
    Calls Try.prog 52 #[.agg #[.bool n1, .int .u64 h1, .int .u64 l1], .agg #[.bool n2, .int .u64 h2, .int .u64 l2]] w (Gives (.tuple #[.agg #[.bool n, .int .u64 h, .int .u64 l], .int .i64 e]) w) := by
  obtain ⟨m1, hm1⟩ : ∃ m, h1 * 18446744073709551616 + l1 = m := ⟨_, rfl⟩
  obtain ⟨m2, hm2⟩ : ∃ m, h2 * 18446744073709551616 + l2 = m := ⟨_, rfl⟩
  rw [hm1, hm2] at hv
  by_cases g : n1 = n2
  · subst g
    obtain ⟨H, hH⟩ : ∃ H, (m1 + m2) / 18446744073709551616 = H := ⟨_, rfl⟩
    obtain ⟨L, hL⟩ : ∃ L, (m1 + m2) % 18446744073709551616 = L := ⟨_, rfl⟩
    have ht : H * 18446744073709551616 + L = m1 + m2 := by omega
    have mk := Wd.mk'_eq n1 H L (by omega) (by omega) (by omega)
    obtain ⟨s, hs⟩ : ∃ s, Wd.mk' n1 H L = ⟨s, H, L⟩ := ⟨_, rfl⟩
    have e1 : Wd.sv n1 m1 + Wd.sv n1 m2 = Wd.sv n1 (m1 + m2) := by unfold Wd.sv; split <;> omega
    rw [e1] at hv
    have e2 : (if 9223372036854775808 ≤ H then (Wd.zero, (8 : Int)) else (⟨s, H, L⟩, 0)) = (⟨n, h, l⟩, e) := by
      rw [← hv]
      unfold Wd.lim
      by_cases c : 9223372036854775808 ≤ H
      · rw [if_pos c, if_neg (by unfold Wd.sv; split <;> omega)]
      · rw [if_neg c, if_pos (by unfold Wd.sv; split <;> omega), ← hs, mk, ht]
    exact rwadd_same n1 n1 h1 l1 h2 l2 _ _ _ _ s H L n h l e w (by simp)
      (fun w => plus_any n1 n1 h1 l1 h2 l2 H L (by omega) (by omega) a2 a3 (by omega) (by omega) b2 b3 (by omega) (by omega) (by omega) (by omega) (by omega) w)
      (fun w => rmade_any n1 H L (by omega) (by omega) (by omega) (by omega) s hs w) (fun w => rlimited_any s H L n h l e e2 w)
  · have gb : (n1 == n2) = false := by simpa using g
    have od := fun w => order_any n1 n2 h1 l1 h2 l2 a2 a3 b2 b3 w
    rw [hm1, hm2] at od
    by_cases c : m2 ≤ m1
    · obtain ⟨H, hH⟩ : ∃ H, (m1 - m2) / 18446744073709551616 = H := ⟨_, rfl⟩
      obtain ⟨L, hL⟩ : ∃ L, (m1 - m2) % 18446744073709551616 = L := ⟨_, rfl⟩
      have ht : H * 18446744073709551616 + L = m1 - m2 := by omega
      have mk := Wd.mk'_eq n1 H L (by omega) (by omega) (by omega)
      obtain ⟨s, hs⟩ : ∃ s, Wd.mk' n1 H L = ⟨s, H, L⟩ := ⟨_, rfl⟩
      have e1 : Wd.sv n1 m1 + Wd.sv n2 m2 = Wd.sv n1 (m1 - m2) := by
        cases n1 <;> cases n2 <;> simp [Wd.sv] at g ⊢ <;> omega
      rw [e1] at hv
      unfold Wd.lim at hv
      rw [if_pos (by unfold Wd.sv; split <;> omega), ← ht, ← mk, hs] at hv
      simp only [Prod.mk.injEq, Wd.mk.injEq] at hv
      obtain ⟨⟨rfl, rfl, rfl⟩, rfl⟩ := hv
      exact rwadd_ge n1 n2 h1 l1 h2 l2 _ _ _ _ (Wd.cmpI m1 m2) s H L w gb (by unfold Wd.cmpI; rw [if_neg (by omega)]; split <;> omega) od
        (fun w => minus_any n1 n2 h1 l1 h2 l2 H L (by omega) (by omega) a2 a3 (by omega) (by omega) b2 b3 (by omega) (by omega) (by omega) (by omega) w)
        (fun w => rmade_any n1 H L (by omega) (by omega) (by omega) (by omega) s hs w)
    · obtain ⟨H, hH⟩ : ∃ H, (m2 - m1) / 18446744073709551616 = H := ⟨_, rfl⟩
      obtain ⟨L, hL⟩ : ∃ L, (m2 - m1) % 18446744073709551616 = L := ⟨_, rfl⟩
      have ht : H * 18446744073709551616 + L = m2 - m1 := by omega
      have mk := Wd.mk'_eq n2 H L (by omega) (by omega) (by omega)
      obtain ⟨s, hs⟩ : ∃ s, Wd.mk' n2 H L = ⟨s, H, L⟩ := ⟨_, rfl⟩
      have e1 : Wd.sv n1 m1 + Wd.sv n2 m2 = Wd.sv n2 (m2 - m1) := by
        cases n1 <;> cases n2 <;> simp [Wd.sv] at g ⊢ <;> omega
      rw [e1] at hv
      unfold Wd.lim at hv
      rw [if_pos (by unfold Wd.sv; split <;> omega), ← ht, ← mk, hs] at hv
      simp only [Prod.mk.injEq, Wd.mk.injEq] at hv
      obtain ⟨⟨rfl, rfl, rfl⟩, rfl⟩ := hv
      exact rwadd_lt n1 n2 h1 l1 h2 l2 _ _ _ _ (Wd.cmpI m1 m2) s H L w gb (by unfold Wd.cmpI; rw [if_pos (by omega)]; omega) od
        (fun w => minus_any n2 n1 h2 l2 h1 l1 H L (by omega) (by omega) b2 b3 (by omega) (by omega) a2 a3 (by omega) (by omega) (by omega) (by omega) w)
        (fun w => rmade_any n2 H L (by omega) (by omega) (by omega) (by omega) s hs w)
theorem rturned_any (n : Bool) (h l : Int) (h0 : 0 ≤ h) (h1 : h < 18446744073709551616) (l0 : 0 ≤ l) (l1 : l < 18446744073709551616) (m : Bool) (hm : Wd.mk' (!n) h l = ⟨m, h, l⟩) (w : World) :
    Calls Try.prog 55 #[.agg #[.bool n, .int .u64 h, .int .u64 l]] w (Gives (.agg #[.bool m, .int .u64 h, .int .u64 l]) w) :=
  rturned_walk n h l _ _ _ _ m w (fun w => parts_any h l h0 h1 l0 l1 w) (fun w => rmade_any (!n) h l h0 h1 l0 l1 m hm w)
theorem rwAdd_any (n1 n2 : Bool) (h1 l1 h2 l2 : Int) (f1 : Wd.Fits ⟨n1, h1, l1⟩) (f2 : Wd.Fits ⟨n2, h2, l2⟩) (n : Bool) (h l e : Int)
    (hv : Wd.addS ⟨n1, h1, l1⟩ ⟨n2, h2, l2⟩ = (⟨n, h, l⟩, e)) (w : World) :
    Calls Try.prog 32 #[.agg #[.bool n1, .int .u64 h1, .int .u64 l1], .agg #[.bool n2, .int .u64 h2, .int .u64 l2]] w (Gives (.tuple #[.agg #[.bool n, .int .u64 h, .int .u64 l], .int .i64 e]) w) := by
  obtain ⟨⟨a0, a1⟩, ⟨a2, a3⟩⟩ := f1
  obtain ⟨⟨b0, b1⟩, ⟨b2, b3⟩⟩ := f2
  obtain ⟨c, hc⟩ : ∃ c, Wd.chk ⟨n1, h1, l1⟩ = c := ⟨_, rfl⟩
  obtain ⟨d, hd⟩ : ∃ d, (if c ≠ 0 then c else Wd.chk ⟨n2, h2, l2⟩) = d := ⟨_, rfl⟩
  have bo := fun w => rwboth_any n1 n2 h1 l1 h2 l2 c d a0 a2 b0 b2 hc hd w
  by_cases d0 : d = 0
  · subst d0
    have hc0 : c = 0 := by
      by_cases c0 : c = 0
      · exact c0
      · rw [if_pos c0] at hd; exact hd
    subst hc0
    simp only [ne_eq, not_true_eq_false, if_false] at hd
    have hs : Wd.lim (Wd.sv n1 (h1 * 18446744073709551616 + l1) + Wd.sv n2 (h2 * 18446744073709551616 + l2)) = (⟨n, h, l⟩, e) := by
      rw [← hv]; unfold Wd.addS; rw [hc, hd]; rfl
    have sm := fun w => rwadd_any n1 n2 h1 l1 h2 l2 a0 (chk_of hc) a2 a3 b0 (chk_of hd) b2 b3 n h l e hs w
    clear hc hd hs hv
    go_enter Try.func32, Try.ntmps32
    go_wp2_with (first | (go_at_call 50; refine (bo _).mono ?_; rintro e w1 ⟨rfl, hb⟩; have pz : w.heap.size < (w1).heap.size := Nat.lt_of_lt_of_le (show w.heap.size < _ from (by first | assumption | (simp; done) | (simp; omega) | (dsimp only; omega) | omega)) hb.size; have p0 : (w1).cell? ⟨w.heap.size, 0, none⟩ = some (.bool n1) := (hb.cell (p := ⟨w.heap.size, 0, none⟩) (by first | assumption | (simp; done) | (simp; omega) | (dsimp only; omega) | omega)).trans (by first | assumption | (simp [go_sem]; done)); have p1 : (w1).cell? ⟨w.heap.size, 1, none⟩ = some (.int .u64 h1) := (hb.cell (p := ⟨w.heap.size, 1, none⟩) (by first | assumption | (simp; done) | (simp; omega) | (dsimp only; omega) | omega)).trans (by first | assumption | (simp [go_sem]; done)); have p2 : (w1).cell? ⟨w.heap.size, 2, none⟩ = some (.int .u64 l1) := (hb.cell (p := ⟨w.heap.size, 2, none⟩) (by first | assumption | (simp; done) | (simp; omega) | (dsimp only; omega) | omega)).trans (by first | assumption | (simp [go_sem]; done)); have pf : ∀ o, (w1).frozen? ⟨w.heap.size, o, none⟩ = false := fun o => (hb.frozen (p := ⟨w.heap.size, o, none⟩) (by first | assumption | (simp; done) | (simp; omega) | (dsimp only; omega) | omega)).trans (by first | (simp [go_sem]; done) | (simp [*]; done)); have qz : w.heap.size + 1 < (w1).heap.size := Nat.lt_of_lt_of_le (show w.heap.size + 1 < _ from (by first | assumption | (simp; done) | (simp; omega) | (dsimp only; omega) | omega)) hb.size; have q0 : (w1).cell? ⟨w.heap.size + 1, 0, none⟩ = some (.bool n2) := (hb.cell (p := ⟨w.heap.size + 1, 0, none⟩) (by first | assumption | (simp; done) | (simp; omega) | (dsimp only; omega) | omega)).trans (by first | assumption | (simp [go_sem]; done)); have q1 : (w1).cell? ⟨w.heap.size + 1, 1, none⟩ = some (.int .u64 h2) := (hb.cell (p := ⟨w.heap.size + 1, 1, none⟩) (by first | assumption | (simp; done) | (simp; omega) | (dsimp only; omega) | omega)).trans (by first | assumption | (simp [go_sem]; done)); have q2 : (w1).cell? ⟨w.heap.size + 1, 2, none⟩ = some (.int .u64 l2) := (hb.cell (p := ⟨w.heap.size + 1, 2, none⟩) (by first | assumption | (simp; done) | (simp; omega) | (dsimp only; omega) | omega)).trans (by first | assumption | (simp [go_sem]; done)); have qf : ∀ o, (w1).frozen? ⟨w.heap.size + 1, o, none⟩ = false := fun o => (hb.frozen (p := ⟨w.heap.size + 1, o, none⟩) (by first | assumption | (simp; done) | (simp; omega) | (dsimp only; omega) | omega)).trans (by first | (simp [go_sem]; done) | (simp [*]; done)); have rz : w.heap.size + 1 + 1 < (w1).heap.size := Nat.lt_of_lt_of_le (show w.heap.size + 1 + 1 < _ from (by first | assumption | (simp; done) | (simp; omega) | (dsimp only; omega) | omega)) hb.size; have r0 : (w1).cell? ⟨w.heap.size + 1 + 1, 0, none⟩ = some (.bool false) := (hb.cell (p := ⟨w.heap.size + 1 + 1, 0, none⟩) (by first | assumption | (simp; done) | (simp; omega) | (dsimp only; omega) | omega)).trans (by first | assumption | (simp [go_sem]; done)); have r1 : (w1).cell? ⟨w.heap.size + 1 + 1, 1, none⟩ = some (.int .u64 0) := (hb.cell (p := ⟨w.heap.size + 1 + 1, 1, none⟩) (by first | assumption | (simp; done) | (simp; omega) | (dsimp only; omega) | omega)).trans (by first | assumption | (simp [go_sem]; done)); have r2 : (w1).cell? ⟨w.heap.size + 1 + 1, 2, none⟩ = some (.int .u64 0) := (hb.cell (p := ⟨w.heap.size + 1 + 1, 2, none⟩) (by first | assumption | (simp; done) | (simp; omega) | (dsimp only; omega) | omega)).trans (by first | assumption | (simp [go_sem]; done)); have rf : ∀ o, (w1).frozen? ⟨w.heap.size + 1 + 1, o, none⟩ = false := fun o => (hb.frozen (p := ⟨w.heap.size + 1 + 1, o, none⟩) (by first | assumption | (simp; done) | (simp; omega) | (dsimp only; omega) | omega)).trans (by first | (simp [go_sem]; done) | (simp [*]; done))) | (go_at_call 52; refine (sm _).mono ?_; rintro e w2 ⟨rfl, hb⟩; have xz : w.heap.size + 1 + 1 < (w2).heap.size := Nat.lt_of_lt_of_le (show w.heap.size + 1 + 1 < _ from (by first | assumption | (simp; done) | (simp; omega) | (dsimp only; omega) | omega)) hb.size; have x0 : (w2).cell? ⟨w.heap.size + 1 + 1, 0, none⟩ = some (.bool false) := (hb.cell (p := ⟨w.heap.size + 1 + 1, 0, none⟩) (by first | assumption | (simp; done) | (simp; omega) | (dsimp only; omega) | omega)).trans (by first | assumption | (simp [go_sem]; done)); have x1 : (w2).cell? ⟨w.heap.size + 1 + 1, 1, none⟩ = some (.int .u64 0) := (hb.cell (p := ⟨w.heap.size + 1 + 1, 1, none⟩) (by first | assumption | (simp; done) | (simp; omega) | (dsimp only; omega) | omega)).trans (by first | assumption | (simp [go_sem]; done)); have x2 : (w2).cell? ⟨w.heap.size + 1 + 1, 2, none⟩ = some (.int .u64 0) := (hb.cell (p := ⟨w.heap.size + 1 + 1, 2, none⟩) (by first | assumption | (simp; done) | (simp; omega) | (dsimp only; omega) | omega)).trans (by first | assumption | (simp [go_sem]; done)); have xf : ∀ o, (w2).frozen? ⟨w.heap.size + 1 + 1, o, none⟩ = false := fun o => (hb.frozen (p := ⟨w.heap.size + 1 + 1, o, none⟩) (by first | assumption | (simp; done) | (simp; omega) | (dsimp only; omega) | omega)).trans (by first | (simp [go_sem]; done) | (simp [*]; done))))
    refine bodyPost_ret (v := .tuple #[.agg #[.bool n, .int .u64 h, .int .u64 l], .int .i64 e]) (by simp [results, Try.results32, go_sem, x0, x1, x2]) rfl ?_
    exact Gives.mk rfl (by repeat' (first | (with_reducible exact Below.refl _ _) | (with_reducible refine Below.alloc ?_ ?_ _) | (with_reducible refine Below.setCell ?_ ?_ _) | (with_reducible refine Below.drew ?_) | (with_reducible refine Below.trans ?_ (Below.mono (by assumption) ?_)) | (simp; done) | (simp; omega) | omega))
  · have hx : Wd.addS ⟨n1, h1, l1⟩ ⟨n2, h2, l2⟩ = (Wd.zero, d) := by
      unfold Wd.addS
      by_cases c0 : c = 0
      · subst c0
        simp only [ne_eq, not_true_eq_false, if_false] at hd
        rw [hc, hd, if_neg (by omega), if_pos d0]
      · rw [if_pos c0] at hd
        rw [hc, if_pos c0, hd]
    rw [hx] at hv
    obtain ⟨hz, rfl⟩ := Prod.mk.inj hv
    obtain ⟨rfl, rfl, rfl⟩ := Wd.mk.inj hz
    clear hc hd hx hv hz
    go_enter Try.func32, Try.ntmps32
    go_wp2_with (go_at_call 50; refine (bo _).mono ?_; rintro e w1 ⟨rfl, hb⟩; have pz : w.heap.size < (w1).heap.size := Nat.lt_of_lt_of_le (show w.heap.size < _ from (by first | assumption | (simp; done) | (simp; omega) | (dsimp only; omega) | omega)) hb.size; have p0 : (w1).cell? ⟨w.heap.size, 0, none⟩ = some (.bool n1) := (hb.cell (p := ⟨w.heap.size, 0, none⟩) (by first | assumption | (simp; done) | (simp; omega) | (dsimp only; omega) | omega)).trans (by first | assumption | (simp [go_sem]; done)); have p1 : (w1).cell? ⟨w.heap.size, 1, none⟩ = some (.int .u64 h1) := (hb.cell (p := ⟨w.heap.size, 1, none⟩) (by first | assumption | (simp; done) | (simp; omega) | (dsimp only; omega) | omega)).trans (by first | assumption | (simp [go_sem]; done)); have p2 : (w1).cell? ⟨w.heap.size, 2, none⟩ = some (.int .u64 l1) := (hb.cell (p := ⟨w.heap.size, 2, none⟩) (by first | assumption | (simp; done) | (simp; omega) | (dsimp only; omega) | omega)).trans (by first | assumption | (simp [go_sem]; done)); have pf : ∀ o, (w1).frozen? ⟨w.heap.size, o, none⟩ = false := fun o => (hb.frozen (p := ⟨w.heap.size, o, none⟩) (by first | assumption | (simp; done) | (simp; omega) | (dsimp only; omega) | omega)).trans (by first | (simp [go_sem]; done) | (simp [*]; done)); have qz : w.heap.size + 1 < (w1).heap.size := Nat.lt_of_lt_of_le (show w.heap.size + 1 < _ from (by first | assumption | (simp; done) | (simp; omega) | (dsimp only; omega) | omega)) hb.size; have q0 : (w1).cell? ⟨w.heap.size + 1, 0, none⟩ = some (.bool n2) := (hb.cell (p := ⟨w.heap.size + 1, 0, none⟩) (by first | assumption | (simp; done) | (simp; omega) | (dsimp only; omega) | omega)).trans (by first | assumption | (simp [go_sem]; done)); have q1 : (w1).cell? ⟨w.heap.size + 1, 1, none⟩ = some (.int .u64 h2) := (hb.cell (p := ⟨w.heap.size + 1, 1, none⟩) (by first | assumption | (simp; done) | (simp; omega) | (dsimp only; omega) | omega)).trans (by first | assumption | (simp [go_sem]; done)); have q2 : (w1).cell? ⟨w.heap.size + 1, 2, none⟩ = some (.int .u64 l2) := (hb.cell (p := ⟨w.heap.size + 1, 2, none⟩) (by first | assumption | (simp; done) | (simp; omega) | (dsimp only; omega) | omega)).trans (by first | assumption | (simp [go_sem]; done)); have qf : ∀ o, (w1).frozen? ⟨w.heap.size + 1, o, none⟩ = false := fun o => (hb.frozen (p := ⟨w.heap.size + 1, o, none⟩) (by first | assumption | (simp; done) | (simp; omega) | (dsimp only; omega) | omega)).trans (by first | (simp [go_sem]; done) | (simp [*]; done)); have rz : w.heap.size + 1 + 1 < (w1).heap.size := Nat.lt_of_lt_of_le (show w.heap.size + 1 + 1 < _ from (by first | assumption | (simp; done) | (simp; omega) | (dsimp only; omega) | omega)) hb.size; have r0 : (w1).cell? ⟨w.heap.size + 1 + 1, 0, none⟩ = some (.bool false) := (hb.cell (p := ⟨w.heap.size + 1 + 1, 0, none⟩) (by first | assumption | (simp; done) | (simp; omega) | (dsimp only; omega) | omega)).trans (by first | assumption | (simp [go_sem]; done)); have r1 : (w1).cell? ⟨w.heap.size + 1 + 1, 1, none⟩ = some (.int .u64 0) := (hb.cell (p := ⟨w.heap.size + 1 + 1, 1, none⟩) (by first | assumption | (simp; done) | (simp; omega) | (dsimp only; omega) | omega)).trans (by first | assumption | (simp [go_sem]; done)); have r2 : (w1).cell? ⟨w.heap.size + 1 + 1, 2, none⟩ = some (.int .u64 0) := (hb.cell (p := ⟨w.heap.size + 1 + 1, 2, none⟩) (by first | assumption | (simp; done) | (simp; omega) | (dsimp only; omega) | omega)).trans (by first | assumption | (simp [go_sem]; done)); have rf : ∀ o, (w1).frozen? ⟨w.heap.size + 1 + 1, o, none⟩ = false := fun o => (hb.frozen (p := ⟨w.heap.size + 1 + 1, o, none⟩) (by first | assumption | (simp; done) | (simp; omega) | (dsimp only; omega) | omega)).trans (by first | (simp [go_sem]; done) | (simp [*]; done)))
    refine bodyPost_ret (v := .tuple #[.agg #[.bool false, .int .u64 0, .int .u64 0], .int .i64 d]) (by simp [results, Try.results32, go_sem, r0, r1, r2]) rfl ?_
    exact Gives.mk rfl (by repeat' (first | (with_reducible exact Below.refl _ _) | (with_reducible refine Below.alloc ?_ ?_ _) | (with_reducible refine Below.setCell ?_ ?_ _) | (with_reducible refine Below.drew ?_) | (with_reducible refine Below.trans ?_ (Below.mono (by assumption) ?_)) | (simp; done) | (simp; omega) | omega))
set_option maxHeartbeats 2000000 in
theorem rwSub_any (n1 n2 : Bool) (h1 l1 h2 l2 : Int) (f1 : Wd.Fits ⟨n1, h1, l1⟩) (f2 : Wd.Fits ⟨n2, h2, l2⟩) (n : Bool) (h l e : Int)
    (hv : Wd.subS ⟨n1, h1, l1⟩ ⟨n2, h2, l2⟩ = (⟨n, h, l⟩, e)) (w : World) :
    Calls Try.prog 34 #[.agg #[.bool n1, .int .u64 h1, .int .u64 l1], .agg #[.bool n2, .int .u64 h2, .int .u64 l2]] w (Gives (.tuple #[.agg #[.bool n, .int .u64 h, .int .u64 l], .int .i64 e]) w) := by
  obtain ⟨⟨a0, a1⟩, ⟨a2, a3⟩⟩ := f1
  obtain ⟨⟨b0, b1⟩, ⟨b2, b3⟩⟩ := f2
  obtain ⟨c, hc⟩ : ∃ c, Wd.chk ⟨n1, h1, l1⟩ = c := ⟨_, rfl⟩
  obtain ⟨d, hd⟩ : ∃ d, (if c ≠ 0 then c else Wd.chk ⟨n2, h2, l2⟩) = d := ⟨_, rfl⟩
  have bo := fun w => rwboth_any n1 n2 h1 l1 h2 l2 c d a0 a2 b0 b2 hc hd w
  by_cases d0 : d = 0
  · subst d0
    have hc0 : c = 0 := by
      by_cases c0 : c = 0
      · exact c0
      · rw [if_pos c0] at hd; exact hd
    subst hc0
    simp only [ne_eq, not_true_eq_false, if_false] at hd
    have ho := Wd.mk'_eq (!n2) h2 l2 b0 b2 b3
    obtain ⟨m, hm⟩ : ∃ m, (Wd.mk' (!n2) h2 l2) = ⟨m, h2, l2⟩ := ⟨_, rfl⟩
    have hs : Wd.lim (Wd.sv n1 (h1 * 18446744073709551616 + l1) + Wd.sv m (h2 * 18446744073709551616 + l2)) = (⟨n, h, l⟩, e) := by
      have hm2 : Wd.sv m (h2 * 18446744073709551616 + l2) = - Wd.sv n2 (h2 * 18446744073709551616 + l2) := by
        have := Wd.toInt_ofInt (Wd.sv (!n2) (h2 * 18446744073709551616 + l2))
        rw [← ho, hm] at this
        unfold Wd.toInt Wd.mag at this
        rw [this]; unfold Wd.sv; cases n2 <;> simp
      rw [← hv, hm2]; unfold Wd.subS; rw [hc, hd]; rfl
    have sm := fun w => rwadd_any n1 m h1 l1 h2 l2 a0 (chk_of hc) a2 a3 b0 (chk_of hd) b2 b3 n h l e hs w
    have op := fun w => rturned_any n2 h2 l2 b0 b1 b2 b3 m hm w
    clear hc hd hs hv ho hm
    go_enter Try.func34, Try.ntmps34
    go_wp2_with (go_at_call 50; refine (bo _).mono ?_; rintro e w1 ⟨rfl, hb⟩; have pz : w.heap.size < (w1).heap.size := Nat.lt_of_lt_of_le (show w.heap.size < _ from (by first | assumption | (simp; done) | (simp; omega) | (dsimp only; omega) | omega)) hb.size; have p0 : (w1).cell? ⟨w.heap.size, 0, none⟩ = some (.bool n1) := (hb.cell (p := ⟨w.heap.size, 0, none⟩) (by first | assumption | (simp; done) | (simp; omega) | (dsimp only; omega) | omega)).trans (by first | assumption | (simp [go_sem]; done)); have p1 : (w1).cell? ⟨w.heap.size, 1, none⟩ = some (.int .u64 h1) := (hb.cell (p := ⟨w.heap.size, 1, none⟩) (by first | assumption | (simp; done) | (simp; omega) | (dsimp only; omega) | omega)).trans (by first | assumption | (simp [go_sem]; done)); have p2 : (w1).cell? ⟨w.heap.size, 2, none⟩ = some (.int .u64 l1) := (hb.cell (p := ⟨w.heap.size, 2, none⟩) (by first | assumption | (simp; done) | (simp; omega) | (dsimp only; omega) | omega)).trans (by first | assumption | (simp [go_sem]; done)); have pf : ∀ o, (w1).frozen? ⟨w.heap.size, o, none⟩ = false := fun o => (hb.frozen (p := ⟨w.heap.size, o, none⟩) (by first | assumption | (simp; done) | (simp; omega) | (dsimp only; omega) | omega)).trans (by first | (simp [go_sem]; done) | (simp [*]; done)); have qz : w.heap.size + 1 < (w1).heap.size := Nat.lt_of_lt_of_le (show w.heap.size + 1 < _ from (by first | assumption | (simp; done) | (simp; omega) | (dsimp only; omega) | omega)) hb.size; have q0 : (w1).cell? ⟨w.heap.size + 1, 0, none⟩ = some (.bool n2) := (hb.cell (p := ⟨w.heap.size + 1, 0, none⟩) (by first | assumption | (simp; done) | (simp; omega) | (dsimp only; omega) | omega)).trans (by first | assumption | (simp [go_sem]; done)); have q1 : (w1).cell? ⟨w.heap.size + 1, 1, none⟩ = some (.int .u64 h2) := (hb.cell (p := ⟨w.heap.size + 1, 1, none⟩) (by first | assumption | (simp; done) | (simp; omega) | (dsimp only; omega) | omega)).trans (by first | assumption | (simp [go_sem]; done)); have q2 : (w1).cell? ⟨w.heap.size + 1, 2, none⟩ = some (.int .u64 l2) := (hb.cell (p := ⟨w.heap.size + 1, 2, none⟩) (by first | assumption | (simp; done) | (simp; omega) | (dsimp only; omega) | omega)).trans (by first | assumption | (simp [go_sem]; done)); have qf : ∀ o, (w1).frozen? ⟨w.heap.size + 1, o, none⟩ = false := fun o => (hb.frozen (p := ⟨w.heap.size + 1, o, none⟩) (by first | assumption | (simp; done) | (simp; omega) | (dsimp only; omega) | omega)).trans (by first | (simp [go_sem]; done) | (simp [*]; done)); have rz : w.heap.size + 1 + 1 < (w1).heap.size := Nat.lt_of_lt_of_le (show w.heap.size + 1 + 1 < _ from (by first | assumption | (simp; done) | (simp; omega) | (dsimp only; omega) | omega)) hb.size; have r0 : (w1).cell? ⟨w.heap.size + 1 + 1, 0, none⟩ = some (.bool false) := (hb.cell (p := ⟨w.heap.size + 1 + 1, 0, none⟩) (by first | assumption | (simp; done) | (simp; omega) | (dsimp only; omega) | omega)).trans (by first | assumption | (simp [go_sem]; done)); have r1 : (w1).cell? ⟨w.heap.size + 1 + 1, 1, none⟩ = some (.int .u64 0) := (hb.cell (p := ⟨w.heap.size + 1 + 1, 1, none⟩) (by first | assumption | (simp; done) | (simp; omega) | (dsimp only; omega) | omega)).trans (by first | assumption | (simp [go_sem]; done)); have r2 : (w1).cell? ⟨w.heap.size + 1 + 1, 2, none⟩ = some (.int .u64 0) := (hb.cell (p := ⟨w.heap.size + 1 + 1, 2, none⟩) (by first | assumption | (simp; done) | (simp; omega) | (dsimp only; omega) | omega)).trans (by first | assumption | (simp [go_sem]; done)); have rf : ∀ o, (w1).frozen? ⟨w.heap.size + 1 + 1, o, none⟩ = false := fun o => (hb.frozen (p := ⟨w.heap.size + 1 + 1, o, none⟩) (by first | assumption | (simp; done) | (simp; omega) | (dsimp only; omega) | omega)).trans (by first | (simp [go_sem]; done) | (simp [*]; done)))
    have K : Hid (∀ W', Below (w.heap.size + 1 + 1) w1 W' → (Below (w.heap.size + 1 + 1) w1 W' ∧ W'.cell? ⟨w.heap.size, 0, none⟩ = some (.bool n1) ∧ W'.cell? ⟨w.heap.size, 1, none⟩ = some (.int .u64 h1) ∧ W'.cell? ⟨w.heap.size, 2, none⟩ = some (.int .u64 l1) ∧ W'.cell? ⟨w.heap.size + 1, 0, none⟩ = some (.bool n2) ∧ W'.cell? ⟨w.heap.size + 1, 1, none⟩ = some (.int .u64 h2) ∧ W'.cell? ⟨w.heap.size + 1, 2, none⟩ = some (.int .u64 l2))) := hid fun W' B =>
      ⟨B, (B.cell (p := ⟨w.heap.size, 0, none⟩) (by simp; omega)).trans p0, (B.cell (p := ⟨w.heap.size, 1, none⟩) (by simp; omega)).trans p1, (B.cell (p := ⟨w.heap.size, 2, none⟩) (by simp; omega)).trans p2, (B.cell (p := ⟨w.heap.size + 1, 0, none⟩) (by simp)).trans q0, (B.cell (p := ⟨w.heap.size + 1, 1, none⟩) (by simp)).trans q1, (B.cell (p := ⟨w.heap.size + 1, 2, none⟩) (by simp)).trans q2⟩
    clear bo a0 a1 a2 a3 b0 b1 b2 b3 pf qf p0 p1 p2 q0 q1 q2
    go_region_held3 (fun w' => Below (w.heap.size + 1 + 1) w1 w' ∧ w'.cell? ⟨w.heap.size, 0, none⟩ = some (.bool n1) ∧ w'.cell? ⟨w.heap.size, 1, none⟩ = some (.int .u64 h1) ∧ w'.cell? ⟨w.heap.size, 2, none⟩ = some (.int .u64 l1) ∧ w'.cell? ⟨w.heap.size + 1, 0, none⟩ = some (.bool n2) ∧ w'.cell? ⟨w.heap.size + 1, 1, none⟩ = some (.int .u64 h2) ∧ w'.cell? ⟨w.heap.size + 1, 2, none⟩ = some (.int .u64 l2)) ((exact K.out _ (by repeat' (first | (with_reducible exact Below.refl _ _) | (with_reducible refine Below.alloc ?_ ?_ _) | (with_reducible refine Below.setCell ?_ ?_ _) | (with_reducible refine Below.drew ?_) | (with_reducible refine Below.trans ?_ (Below.mono (by assumption) ?_)) | (simp; done) | (simp; omega) | omega))))
      (first | (go_at_call 55; refine (op _).mono ?_; rintro e w2 ⟨rfl, hx⟩; have hbA : Below w1.heap.size w1 w2 := (by repeat' (first | (with_reducible exact Below.refl _ _) | (with_reducible refine Below.alloc ?_ ?_ _) | (with_reducible refine Below.setCell ?_ ?_ _) | (with_reducible refine Below.drew ?_) | (with_reducible refine Below.trans ?_ (Below.mono (by assumption) ?_)) | (simp; done) | (simp; omega) | omega)); clear hx; have hzA : w1.heap.size ≤ w2.heap.size := hbA.size) | (go_at_call 52; refine (sm _).mono ?_; rintro e w3 ⟨rfl, hx⟩; have hb : Below w1.heap.size w1 w3 := (by repeat' (first | (with_reducible exact Below.refl _ _) | (with_reducible refine Below.alloc ?_ ?_ _) | (with_reducible refine Below.setCell ?_ ?_ _) | (with_reducible refine Below.drew ?_) | (with_reducible refine Below.trans ?_ (Below.mono (by assumption) ?_)) | (simp; done) | (simp; omega) | omega)); have xz : w.heap.size + 1 + 1 < (w3).heap.size := Nat.lt_of_lt_of_le (show w.heap.size + 1 + 1 < _ from (by first | assumption | (simp; done) | (simp; omega) | (dsimp only; omega) | omega)) hb.size; have x0 : (w3).cell? ⟨w.heap.size + 1 + 1, 0, none⟩ = some (.bool false) := (hb.cell (p := ⟨w.heap.size + 1 + 1, 0, none⟩) (by first | assumption | (simp; done) | (simp; omega) | (dsimp only; omega) | omega)).trans (by first | assumption | (simp [go_sem]; done)); have x1 : (w3).cell? ⟨w.heap.size + 1 + 1, 1, none⟩ = some (.int .u64 0) := (hb.cell (p := ⟨w.heap.size + 1 + 1, 1, none⟩) (by first | assumption | (simp; done) | (simp; omega) | (dsimp only; omega) | omega)).trans (by first | assumption | (simp [go_sem]; done)); have x2 : (w3).cell? ⟨w.heap.size + 1 + 1, 2, none⟩ = some (.int .u64 0) := (hb.cell (p := ⟨w.heap.size + 1 + 1, 2, none⟩) (by first | assumption | (simp; done) | (simp; omega) | (dsimp only; omega) | omega)).trans (by first | assumption | (simp [go_sem]; done)); have xf : ∀ o, (w3).frozen? ⟨w.heap.size + 1 + 1, o, none⟩ = false := fun o => (hb.frozen (p := ⟨w.heap.size + 1 + 1, o, none⟩) (by first | assumption | (simp; done) | (simp; omega) | (dsimp only; omega) | omega)).trans (by first | (simp [go_sem]; done) | (simp [*]; done)); clear hx))
    all_goals
      go_wp2
      refine bodyPost_ret (v := .tuple #[.agg #[.bool n, .int .u64 h, .int .u64 l], .int .i64 e]) (by simp [results, Try.results34, go_sem, x0, x1, x2]) rfl ?_
      exact Gives.mk rfl (by repeat' (first | (with_reducible exact Below.refl _ _) | (with_reducible refine Below.alloc ?_ ?_ _) | (with_reducible refine Below.setCell ?_ ?_ _) | (with_reducible refine Below.drew ?_) | (with_reducible refine Below.trans ?_ (Below.mono (by assumption) ?_)) | (simp; done) | (simp; omega) | omega))
  · have hx : Wd.subS ⟨n1, h1, l1⟩ ⟨n2, h2, l2⟩ = (Wd.zero, d) := by
      unfold Wd.subS
      by_cases c0 : c = 0
      · subst c0
        simp only [ne_eq, not_true_eq_false, if_false] at hd
        rw [hc, hd, if_neg (by omega), if_pos d0]
      · rw [if_pos c0] at hd
        rw [hc, if_pos c0, hd]
    rw [hx] at hv
    obtain ⟨hz, rfl⟩ := Prod.mk.inj hv
    obtain ⟨rfl, rfl, rfl⟩ := Wd.mk.inj hz
    clear hc hd hx hv hz
    go_enter Try.func34, Try.ntmps34
    go_wp2_with (go_at_call 50; refine (bo _).mono ?_; rintro e w1 ⟨rfl, hb⟩; have pz : w.heap.size < (w1).heap.size := Nat.lt_of_lt_of_le (show w.heap.size < _ from (by first | assumption | (simp; done) | (simp; omega) | (dsimp only; omega) | omega)) hb.size; have p0 : (w1).cell? ⟨w.heap.size, 0, none⟩ = some (.bool n1) := (hb.cell (p := ⟨w.heap.size, 0, none⟩) (by first | assumption | (simp; done) | (simp; omega) | (dsimp only; omega) | omega)).trans (by first | assumption | (simp [go_sem]; done)); have p1 : (w1).cell? ⟨w.heap.size, 1, none⟩ = some (.int .u64 h1) := (hb.cell (p := ⟨w.heap.size, 1, none⟩) (by first | assumption | (simp; done) | (simp; omega) | (dsimp only; omega) | omega)).trans (by first | assumption | (simp [go_sem]; done)); have p2 : (w1).cell? ⟨w.heap.size, 2, none⟩ = some (.int .u64 l1) := (hb.cell (p := ⟨w.heap.size, 2, none⟩) (by first | assumption | (simp; done) | (simp; omega) | (dsimp only; omega) | omega)).trans (by first | assumption | (simp [go_sem]; done)); have pf : ∀ o, (w1).frozen? ⟨w.heap.size, o, none⟩ = false := fun o => (hb.frozen (p := ⟨w.heap.size, o, none⟩) (by first | assumption | (simp; done) | (simp; omega) | (dsimp only; omega) | omega)).trans (by first | (simp [go_sem]; done) | (simp [*]; done)); have qz : w.heap.size + 1 < (w1).heap.size := Nat.lt_of_lt_of_le (show w.heap.size + 1 < _ from (by first | assumption | (simp; done) | (simp; omega) | (dsimp only; omega) | omega)) hb.size; have q0 : (w1).cell? ⟨w.heap.size + 1, 0, none⟩ = some (.bool n2) := (hb.cell (p := ⟨w.heap.size + 1, 0, none⟩) (by first | assumption | (simp; done) | (simp; omega) | (dsimp only; omega) | omega)).trans (by first | assumption | (simp [go_sem]; done)); have q1 : (w1).cell? ⟨w.heap.size + 1, 1, none⟩ = some (.int .u64 h2) := (hb.cell (p := ⟨w.heap.size + 1, 1, none⟩) (by first | assumption | (simp; done) | (simp; omega) | (dsimp only; omega) | omega)).trans (by first | assumption | (simp [go_sem]; done)); have q2 : (w1).cell? ⟨w.heap.size + 1, 2, none⟩ = some (.int .u64 l2) := (hb.cell (p := ⟨w.heap.size + 1, 2, none⟩) (by first | assumption | (simp; done) | (simp; omega) | (dsimp only; omega) | omega)).trans (by first | assumption | (simp [go_sem]; done)); have qf : ∀ o, (w1).frozen? ⟨w.heap.size + 1, o, none⟩ = false := fun o => (hb.frozen (p := ⟨w.heap.size + 1, o, none⟩) (by first | assumption | (simp; done) | (simp; omega) | (dsimp only; omega) | omega)).trans (by first | (simp [go_sem]; done) | (simp [*]; done)); have rz : w.heap.size + 1 + 1 < (w1).heap.size := Nat.lt_of_lt_of_le (show w.heap.size + 1 + 1 < _ from (by first | assumption | (simp; done) | (simp; omega) | (dsimp only; omega) | omega)) hb.size; have r0 : (w1).cell? ⟨w.heap.size + 1 + 1, 0, none⟩ = some (.bool false) := (hb.cell (p := ⟨w.heap.size + 1 + 1, 0, none⟩) (by first | assumption | (simp; done) | (simp; omega) | (dsimp only; omega) | omega)).trans (by first | assumption | (simp [go_sem]; done)); have r1 : (w1).cell? ⟨w.heap.size + 1 + 1, 1, none⟩ = some (.int .u64 0) := (hb.cell (p := ⟨w.heap.size + 1 + 1, 1, none⟩) (by first | assumption | (simp; done) | (simp; omega) | (dsimp only; omega) | omega)).trans (by first | assumption | (simp [go_sem]; done)); have r2 : (w1).cell? ⟨w.heap.size + 1 + 1, 2, none⟩ = some (.int .u64 0) := (hb.cell (p := ⟨w.heap.size + 1 + 1, 2, none⟩) (by first | assumption | (simp; done) | (simp; omega) | (dsimp only; omega) | omega)).trans (by first | assumption | (simp [go_sem]; done)); have rf : ∀ o, (w1).frozen? ⟨w.heap.size + 1 + 1, o, none⟩ = false := fun o => (hb.frozen (p := ⟨w.heap.size + 1 + 1, o, none⟩) (by first | assumption | (simp; done) | (simp; omega) | (dsimp only; omega) | omega)).trans (by first | (simp [go_sem]; done) | (simp [*]; done)))
    refine bodyPost_ret (v := .tuple #[.agg #[.bool false, .int .u64 0, .int .u64 0], .int .i64 d]) (by simp [results, Try.results34, go_sem, r0, r1, r2]) rfl ?_
    exact Gives.mk rfl (by repeat' (first | (with_reducible exact Below.refl _ _) | (with_reducible refine Below.alloc ?_ ?_ _) | (with_reducible refine Below.setCell ?_ ?_ _) | (with_reducible refine Below.drew ?_) | (with_reducible refine Below.trans ?_ (Below.mono (by assumption) ?_)) | (simp; done) | (simp; omega) | omega))
theorem negS_cases (n1 : Bool) (h1 l1 : Int) (f1 : Wd.Fits ⟨n1, h1, l1⟩) (n : Bool) (h l e : Int) (hv : Wd.negS ⟨n1, h1, l1⟩ = (⟨n, h, l⟩, e)) :
    (Wd.chk ⟨n1, h1, l1⟩ = 0 ∧ e = 0 ∧ h = h1 ∧ l = l1 ∧ Wd.mk' (!n1) h1 l1 = ⟨n, h1, l1⟩) ∨ (¬ Wd.chk ⟨n1, h1, l1⟩ = 0 ∧ e = Wd.chk ⟨n1, h1, l1⟩ ∧ n = false ∧ h = 0 ∧ l = 0) := by
  obtain ⟨⟨a0, a1⟩, ⟨a2, a3⟩⟩ := f1
  unfold Wd.negS at hv
  by_cases c : Wd.chk ⟨n1, h1, l1⟩ = 0
  · rw [if_neg (by omega)] at hv
    have mk := Wd.mk'_eq (!n1) h1 l1 a0 a2 a3
    have e1 : -(Wd.toInt ⟨n1, h1, l1⟩) = Wd.sv (!n1) (h1 * 18446744073709551616 + l1) := by
      unfold Wd.toInt Wd.mag Wd.sv; cases n1 <;> simp
    rw [e1, ← mk] at hv
    simp only [Prod.mk.injEq] at hv
    obtain ⟨hw, rfl⟩ := hv
    have h2 : h = h1 ∧ l = l1 := by
      unfold Wd.mk' at hw
      simp only [Wd.mk.injEq] at hw
      exact ⟨hw.2.1.symm, hw.2.2.symm⟩
    obtain ⟨rfl, rfl⟩ := h2
    exact Or.inl ⟨c, rfl, rfl, rfl, hw⟩
  · rw [if_pos c] at hv
    simp only [Prod.mk.injEq, Wd.zero, Wd.mk.injEq] at hv
    exact Or.inr ⟨c, hv.2.symm, hv.1.1.symm, hv.1.2.1.symm, hv.1.2.2.symm⟩
theorem neg_any (n1 : Bool) (h1 l1 : Int) (f1 : Wd.Fits ⟨n1, h1, l1⟩) (n : Bool) (h l e : Int) (hv : Wd.negS ⟨n1, h1, l1⟩ = (⟨n, h, l⟩, e)) (w : World) :
    Calls Try.prog 35 #[.agg #[.bool n1, .int .u64 h1, .int .u64 l1]] w (Gives (.tuple #[.agg #[.bool n, .int .u64 h, .int .u64 l], .int .i64 e]) w) := by
  have ck := fun w => check_any n1 h1 l1 w
  have cs := negS_cases n1 h1 l1 f1 n h l e hv
  obtain ⟨⟨a0, a1⟩, ⟨a2, a3⟩⟩ := f1
  rcases cs with ⟨c, rfl, rfl, rfl, hm⟩ | ⟨c, rfl, rfl, rfl, rfl⟩
  · rw [c] at ck
    have op := fun w => opposite_any n1 h l a0 a1 a2 a3 n hm w
    clear hv c hm
    go_enter Try.func35, Try.ntmps35
    go_wp2_with (first | (go_at_call 10; refine (ck _).mono ?_; rintro e w' ⟨rfl, rfl⟩) | (go_at_call 54; refine (op _).mono ?_; rintro e w2 ⟨rfl, rfl⟩))
    go_returns
    exact Gives.mk rfl (by repeat' (first | (with_reducible exact Below.refl _ _) | (with_reducible refine Below.alloc ?_ ?_ _) | (with_reducible refine Below.setCell ?_ ?_ _) | (with_reducible refine Below.drew ?_) | (with_reducible refine Below.trans ?_ (Below.mono (by assumption) ?_)) | (simp; done) | (simp; omega) | omega))
  · obtain ⟨k, hk⟩ : ∃ k, Wd.chk ⟨n1, h1, l1⟩ = k := ⟨_, rfl⟩
    rw [hk] at ck c ⊢
    clear hv hk
    go_enter Try.func35, Try.ntmps35
    go_wp2_with (go_at_call 10; refine (ck _).mono ?_; rintro e w' ⟨rfl, rfl⟩)
    go_returns
    exact Gives.mk rfl (by repeat' (first | (with_reducible exact Below.refl _ _) | (with_reducible refine Below.alloc ?_ ?_ _) | (with_reducible refine Below.setCell ?_ ?_ _) | (with_reducible refine Below.drew ?_) | (with_reducible refine Below.trans ?_ (Below.mono (by assumption) ?_)) | (simp; done) | (simp; omega) | omega))
theorem rneg01_any (n1 : Bool) (h1 l1 : Int) (f1 : Wd.Fits ⟨n1, h1, l1⟩) (n : Bool) (h l e : Int) (hv : Wd.negS ⟨n1, h1, l1⟩ = (⟨n, h, l⟩, e)) (w : World) :
    Calls Try.prog 36 #[.agg #[.bool n1, .int .u64 h1, .int .u64 l1]] w (Gives (.tuple #[.agg #[.bool n, .int .u64 h, .int .u64 l], .int .i64 e]) w) := by
  have cs := negS_cases n1 h1 l1 f1 n h l e hv
  obtain ⟨⟨a0, a1⟩, ⟨a2, a3⟩⟩ := f1
  have ck := fun w => refCheck_any n1 h1 l1 w a0 a2
  rcases cs with ⟨c, rfl, rfl, rfl, hm⟩ | ⟨c, rfl, rfl, rfl, rfl⟩
  · rw [c] at ck
    have op := fun w => rturned_any n1 h l a0 a1 a2 a3 n hm w
    clear hv c hm
    go_enter Try.func36, Try.ntmps36
    go_wp2_with (go_at_call 11; refine (ck _).mono ?_; rintro e w' ⟨rfl, rfl⟩)
    refine (op _).mono ?_; rintro e w2 ⟨rfl, hb⟩
    have xz : w.heap.size + 1 < (w2).heap.size := Nat.lt_of_lt_of_le (show w.heap.size + 1 < _ from (by first | assumption | (simp; done) | (simp; omega) | (dsimp only; omega) | omega)) hb.size; have x0 : (w2).cell? ⟨w.heap.size + 1, 0, none⟩ = some (.bool false) := (hb.cell (p := ⟨w.heap.size + 1, 0, none⟩) (by first | assumption | (simp; done) | (simp; omega) | (dsimp only; omega) | omega)).trans (by first | assumption | (simp [go_sem]; done)); have x1 : (w2).cell? ⟨w.heap.size + 1, 1, none⟩ = some (.int .u64 0) := (hb.cell (p := ⟨w.heap.size + 1, 1, none⟩) (by first | assumption | (simp; done) | (simp; omega) | (dsimp only; omega) | omega)).trans (by first | assumption | (simp [go_sem]; done)); have x2 : (w2).cell? ⟨w.heap.size + 1, 2, none⟩ = some (.int .u64 0) := (hb.cell (p := ⟨w.heap.size + 1, 2, none⟩) (by first | assumption | (simp; done) | (simp; omega) | (dsimp only; omega) | omega)).trans (by first | assumption | (simp [go_sem]; done)); have xf : ∀ o, (w2).frozen? ⟨w.heap.size + 1, o, none⟩ = false := fun o => (hb.frozen (p := ⟨w.heap.size + 1, o, none⟩) (by first | assumption | (simp; done) | (simp; omega) | (dsimp only; omega) | omega)).trans (by first | (simp [go_sem]; done) | (simp [*]; done))
    go_wp2
    refine bodyPost_ret (v := .tuple #[.agg #[.bool n, .int .u64 h, .int .u64 l], .int .i64 0]) (by simp [results, Try.results36, go_sem, x0, x1, x2]) rfl ?_
    exact Gives.mk rfl (by repeat' (first | (with_reducible exact Below.refl _ _) | (with_reducible refine Below.alloc ?_ ?_ _) | (with_reducible refine Below.setCell ?_ ?_ _) | (with_reducible refine Below.drew ?_) | (with_reducible refine Below.trans ?_ (Below.mono (by assumption) ?_)) | (simp; done) | (simp; omega) | omega))
  · obtain ⟨k, hk⟩ : ∃ k, Wd.chk ⟨n1, h1, l1⟩ = k := ⟨_, rfl⟩
    rw [hk] at ck c ⊢
    clear hv hk
    go_enter Try.func36, Try.ntmps36
    go_wp2_with (go_at_call 11; refine (ck _).mono ?_; rintro e w' ⟨rfl, rfl⟩)
    go_returns
    exact Gives.mk rfl (by repeat' (first | (with_reducible exact Below.refl _ _) | (with_reducible refine Below.alloc ?_ ?_ _) | (with_reducible refine Below.setCell ?_ ?_ _) | (with_reducible refine Below.drew ?_) | (with_reducible refine Below.trans ?_ (Below.mono (by assumption) ?_)) | (simp; done) | (simp; omega) | omega))
end Go.Proofs.Ythfnblifefnfmaa
