/-
  Layer 7: lengths: sort.Search over the closure of Length, Root of the reference, by contract.
-/
import Derived.Test.YtfdnmlggemonhaaGc
import Derived.IntWalk
namespace Go.Proofs.Ytfdnmlggemonhaa
open Go.RowKit
set_option linter.unusedVariables false
set_option linter.unusedSimpArgs false

theorem sq_w {x : Int} (h0 : 0 ≤ x) (h1 : x ≤ 2000000000) : 0 ≤ x * x ∧ x * x ≤ 4000000000000000000 := ⟨Int.mul_nonneg h0 h0, Int.mul_le_mul h1 h1 h0 (by omega)⟩
theorem lclos_any (d x : Int) (g : Nat) (x0 : 0 ≤ x) (x1 : x < 200000) (w : World) (hg : w.cell? ⟨g, 0, none⟩ = some (.int .i64 d)) :
    Calls Try.prog 45 #[.int .i64 x, .pointer (some ⟨g, 0, none⟩)] w fun e w' => e = .returned (.bool (decide (d < (x + 1) * (x + 1)))) ∧ w = w' := by
  have b := sq_w (x := x + 1) (by omega) (by omega)
  obtain ⟨y, hy⟩ : ∃ y, x + 1 = y := ⟨_, rfl⟩
  rw [hy] at b ⊢
  obtain ⟨z, hz⟩ : ∃ z, y * y = z := ⟨_, rfl⟩
  rw [hz] at b ⊢
  have e1 : wrap64 (x + 1) = y := by rw [hy]; exact w64 _ (by omega)
  have e2 : wrap64 (y * y) = z := by rw [hz]; exact w64 _ (by omega)
  clear b x0 x1 hy hz
  go_enter Try.func45, Try.ntmps45
  go_wp2_with fail
  go_ret
  exact ⟨by simp [e1, e2], rfl⟩
def SeaRel (lo : Int) (w : World) (t u : Value) (wr : World) : Prop := ∃ i j : Int, t = .int .i64 i ∧ u = .int .i64 j ∧ 0 ≤ i ∧ i ≤ lo ∧ lo ≤ j ∧ j ≤ 200000 ∧ w = wr
set_option maxRecDepth 100000 in
set_option maxHeartbeats 1000000 in
theorem search_any (d lo : Int) (g : Nat) (hr : Sp.IsRoot d lo) (hd : d ≤ 20000000000) (w : World) (hg : w.cell? ⟨g, 0, none⟩ = some (.int .i64 d)) :
    Calls Try.prog 44 #[.int .i64 200000, .func (.func 45) #[] #[.pointer (some ⟨g, 0, none⟩)]] w fun e w' => e = .returned (.int .i64 lo) ∧ w = w' := by
  have hb := Sp.root_b hr hd
  have HR := hid hr
  have HG := hid hg
  have cl := fun (x : Int) (x0 : 0 ≤ x) (x1 : x < 200000) => lclos_any d x g x0 x1 w hg
  have CL := hid cl
  clear hr hd hg cl
  go_enter Try.func44, Try.ntmps44
  go_wp2_with fail
  go_loopw [5, 6] (fun t u wr => SeaRel lo w t u wr) (fun t u _ => (intOf u - intOf t).toNat)
  case atStart => exact ⟨0, 200000, rfl, rfl, by omega, hb.1, by omega, by omega, rfl⟩
  case round =>
    obtain ⟨i, j, rfl, rfl, i0, i1, j0, j1, rfl⟩ := hrel
    by_cases hlt : i < j
    · obtain ⟨h, eh⟩ : ∃ h, (i + j) / 2 = h := ⟨_, rfl⟩
      have h0 : i ≤ h := by omega
      have h1 : h < j := by omega
      have rl := Sp.root_lt HR.out (show 0 ≤ h by omega)
      have k := CL.out h (by omega) (by omega)
      by_cases c : lo ≤ h
      · rw [decide_eq_true (rl.2 c)] at k
        clear rl
        go_wp2_with fail
        refine k.mono ?_
        rintro _ uq ⟨rfl, rfl⟩
        go_wp2_with fail
        go_roundw
        case rel => exact ⟨i, h, rfl, rfl, i0, i1, c, by omega, rfl⟩
        case measure => simp [intOf]; omega
      · rw [decide_eq_false (fun x => c (rl.1 x))] at k
        clear rl
        go_wp2_with fail
        refine k.mono ?_
        rintro _ uq ⟨rfl, rfl⟩
        go_wp2_with fail
        go_roundw
        case rel => exact ⟨h + 1, j, by go_num, rfl, by omega, by omega, j0, j1, rfl⟩
        case measure => simp [intOf]; omega
    · have e : i = lo := by omega
      subst e
      go_wp2_with fail
      go_ret
      exact ⟨rfl, rfl⟩
def RootRel (lo : Int) (w : World) (t u : Value) (wr : World) : Prop := ∃ i j : Int, t = .int .i64 i ∧ u = .int .i64 j ∧ 0 ≤ i ∧ i ≤ lo ∧ lo < j ∧ j ≤ 2000000000 ∧ w.alloc (Obj.cells #[.int .i64 0, .int .i64 0] 30) = wr
set_option maxRecDepth 100000 in
set_option maxHeartbeats 2000000 in
theorem rroot_any (d lo : Int) (hr : Sp.IsRoot d lo) (hd : d ≤ 20000000000) (w : World) :
    Calls Try.prog 35 #[.int .i64 d] w (Gives (.agg #[.int .i64 lo, .int .i64 (Sp.hiS d lo)]) w) := by
  have hb := Sp.root_b hr hd
  have HR := hid hr
  obtain ⟨hi, hhi⟩ : ∃ x, Sp.hiS d lo = x := ⟨_, rfl⟩
  rw [hhi]
  have HH := hid hhi
  clear hr hd hhi
  go_enter Try.func35, Try.ntmps35
  go_wp2_with fail
  go_loopw [3, 4] (fun t u wr => RootRel lo w t u wr) (fun t u _ => (intOf u - intOf t).toNat)
  case atStart => exact ⟨0, 2000000000, rfl, rfl, by omega, hb.1, by omega, by omega, rfl⟩
  case round =>
    obtain ⟨i, j, rfl, rfl, i0, i1, j0, j1, rfl⟩ := hrel
    by_cases hlt : 1 < j - i
    · obtain ⟨h, eh⟩ : ∃ h, (i + j).tdiv 2 = h := ⟨_, rfl⟩
      have eh2 : (i + j).tdiv 2 = (i + j) / 2 := by rw [Int.tdiv_eq_ediv_of_nonneg (by omega)]
      have h0 : i < h := by omega
      have h1 : h < j := by omega
      have rl := Sp.root_lt HR.out (x := h - 1) (by omega)
      have e1 : h - 1 + 1 = h := by omega
      rw [e1] at rl
      have hz := sq_w (x := h) (by omega) (by omega)
      clear eh2 e1
      obtain ⟨q, eq⟩ : ∃ q, h * h = q := ⟨_, rfl⟩
      rw [eq] at rl hz
      by_cases c : h ≤ lo
      · have c2 : q ≤ d := by
          false_or_by_contra
          rename_i hn
          have := rl.1 (by omega)
          omega
        clear rl
        go_wp2_with fail
        go_roundw
        case rel => exact ⟨h, j, rfl, rfl, by omega, c, j0, j1, rfl⟩
        case measure => simp [intOf]; omega
      · have c2 : d < q := rl.2 (by omega)
        clear rl
        go_wp2_with fail
        go_roundw
        case rel => exact ⟨i, h, rfl, rfl, i0, i1, by omega, by omega, rfl⟩
        case measure => simp [intOf]; omega
    · have e : i = lo := by omega
      subst e
      have hz := sq_w (x := i) (by omega) (by omega)
      have hl := HR.out.2.1
      have hH := HH.out
      unfold Sp.hiS at hH
      obtain ⟨q, eq⟩ : ∃ q, i * i = q := ⟨_, rfl⟩
      rw [eq] at hz hl hH
      by_cases c : q = d
      · rw [if_neg (by omega)] at hH
        subst hH
        clear hl
        go_wp2_with fail
        refine bodyPost_ret (v := .agg #[.int .i64 i, .int .i64 i]) (by simp [results, Try.results35, go_sem]) rfl ?_
        exact Gives.mk rfl (by repeat' (first | (with_reducible exact Below.refl _ _) | (with_reducible refine Below.alloc ?_ ?_ _) | (with_reducible refine Below.setCell ?_ ?_ _) | (with_reducible refine Below.drew ?_) | (with_reducible refine Below.trans ?_ (Below.mono (by assumption) ?_)) | (simp; done) | (simp; omega) | omega))
      · rw [if_pos (by omega)] at hH
        subst hH
        clear hl
        go_wp2_with fail
        refine bodyPost_ret (v := .agg #[.int .i64 i, .int .i64 (i + 1)]) (by simp [results, Try.results35, go_sem]) rfl ?_
        exact Gives.mk rfl (by repeat' (first | (with_reducible exact Below.refl _ _) | (with_reducible refine Below.alloc ?_ ?_ _) | (with_reducible refine Below.setCell ?_ ?_ _) | (with_reducible refine Below.drew ?_) | (with_reducible refine Below.trans ?_ (Below.mono (by assumption) ?_)) | (simp; done) | (simp; omega) | omega))
end Go.Proofs.Ytfdnmlggemonhaa
