/-
  The functions of package wide, each by a contract: sums and comparisons.
-/
import Derived.Test.YtdimncchejbaaaaWcode
import Derived.Shelf.Spec.BitsCarry
namespace Go.Proofs.Ytdimncchejbaaaa
open Go.RowKit
set_option linter.unusedVariables false

theorem add64_run (x y c : Int) (hx : 0 ≤ x) (hy : 0 ≤ y) (hc0 : 0 ≤ c) (hc : c ≤ 1) (w : World) :
    (callFunc 111 #[.int .u64 x, .int .u64 y, .int .u64 c]).run Try.prog w =
      .ok (.value (.tuple #[.int .u64 ((x + y + c) % 18446744073709551616), .int .u64 ((x + y + c) / 18446744073709551616)])) w := by
  rw [run_callFunc_extern Try.func111 (by kernel_rfl) (by kernel_rfl) (by kernel_rfl) (e := add64Entry) (by kernel_rfl), run_add64 x y c hx hy hc0 hc]
  rfl
theorem sub64_run (x y c : Int) (hx : 0 ≤ x) (hy : 0 ≤ y) (hx1 : x < 18446744073709551616) (hy1 : y < 18446744073709551616) (hc0 : 0 ≤ c) (hc : c ≤ 1) (w : World) :
    (callFunc 114 #[.int .u64 x, .int .u64 y, .int .u64 c]).run Try.prog w =
      .ok (.value (.tuple #[.int .u64 ((x - y - c) % 18446744073709551616), .int .u64 (if x < y + c then 1 else 0)])) w := by
  obtain ⟨x, rfl⟩ := Int.eq_ofNat_of_zero_le hx
  obtain ⟨y, rfl⟩ := Int.eq_ofNat_of_zero_le hy
  obtain ⟨c, rfl⟩ := Int.eq_ofNat_of_zero_le hc0
  rw [run_callFunc_extern Try.func114 (by kernel_rfl) (by kernel_rfl) (by kernel_rfl) (e := sub64Entry) (by kernel_rfl), run_sub64 x y c (by omega)]
  have e1 : (((x + 18446744073709551616 - y - c) % 18446744073709551616 : Nat) : Int) = ((x : Int) - y - c) % 18446744073709551616 := by omega
  have e2 : ((if x < y + c then 1 else 0 : Nat) : Int) = (if (x : Int) < y + c then 1 else 0) := by split <;> split <;> omega
  rw [e1, e2]
  rfl
/-- How two magnitudes compare. -/
theorem compareMagnitudes_any (a b : Bool) (h l h' l' : Int) (l0 : 0 ≤ l) (l1 : l < 18446744073709551616) (l0' : 0 ≤ l') (l1' : l' < 18446744073709551616) (w : World) :
    Calls Try.prog 113 #[.agg #[.bool a, .int .u64 h, .int .u64 l], .agg #[.bool b, .int .u64 h', .int .u64 l']] w fun e w' => e = .returned (.int .i64 (Wd.cmpI (h * 18446744073709551616 + l) (h' * 18446744073709551616 + l'))) ∧ w' = (w.alloc (Obj.cells #[.bool a, .int .u64 h, .int .u64 l] 114)).alloc (Obj.cells #[.bool b, .int .u64 h', .int .u64 l'] 114) := by
  go_enter Try.func113, Try.ntmps113
  go_wp2
  all_goals
    go_ret
    refine ⟨ret_i64 ?_, by simp [*]⟩
    (try simp only [beq_iff_eq, beq_eq_false_iff_ne, ne_eq] at *)
    unfold Wd.cmpI
    (repeat' split) <;> omega
theorem sum_any (n1 n2 : Bool) (h1 l1 h2 l2 : Int) (a0 : 0 ≤ h1) (a1 : h1 < 9223372036854775808) (b0 : 0 ≤ l1) (b1 : l1 < 18446744073709551616)
    (c0 : 0 ≤ h2) (c1 : h2 < 9223372036854775808) (d0 : 0 ≤ l2) (d1 : l2 < 18446744073709551616) (n : Bool) (h l e : Int)
    (hv : Wd.lim (Wd.sv n1 (h1 * 18446744073709551616 + l1) + Wd.sv n2 (h2 * 18446744073709551616 + l2)) = (⟨n, h, l⟩, e)) (w : World) :
    Calls Try.prog 109 #[.agg #[.bool n1, .int .u64 h1, .int .u64 l1], .agg #[.bool n2, .int .u64 h2, .int .u64 l2]] w (Gives (.tuple #[.agg #[.bool n, .int .u64 h, .int .u64 l], .int .i64 e]) w) := by
  by_cases hn : n1 = n2
  · subst hn
    obtain ⟨lo, hlo⟩ : ∃ x : Int, (l1 + l2 + 0) % 18446744073709551616 = x := ⟨_, rfl⟩
    obtain ⟨k, hk⟩ : ∃ x : Int, (l1 + l2 + 0) / 18446744073709551616 = x := ⟨_, rfl⟩
    obtain ⟨hi, hhi⟩ : ∃ x : Int, (h1 + h2 + k) % 18446744073709551616 = x := ⟨_, rfl⟩
    have r1 := fun w => add64_run l1 l2 0 b0 d0 (by omega) (by omega) w
    have r2 := fun w => add64_run h1 h2 k a0 c0 (by omega) (by omega) w
    rw [hlo, hk] at r1
    rw [hhi] at r2
    have hl := limited_any n1 hi lo (by omega) (by omega) (by omega) (by omega) n h l e (by
      rw [← hv]; congr 1; unfold Wd.sv; split <;> omega)
    clear hlo hk hhi
    have HV := hid hv
    clear hv
    go_enter Try.func109, Try.ntmps109
    go_wp2_with (go_at_call 112; refine (hl _).mono ?_; rintro e w' ⟨rfl, hb⟩; have x0 : w'.cell? ⟨w.heap.size + 1 + 1, 0, none⟩ = some (.bool false) := (hb.cell (p := ⟨w.heap.size + 1 + 1, 0, none⟩) (by first | assumption | (simp; done) | (simp; omega) | (dsimp only; omega) | omega)).trans (by simp [go_sem]); have x1 : w'.cell? ⟨w.heap.size + 1 + 1, 1, none⟩ = some (.int .u64 0) := (hb.cell (p := ⟨w.heap.size + 1 + 1, 1, none⟩) (by first | assumption | (simp; done) | (simp; omega) | (dsimp only; omega) | omega)).trans (by simp [go_sem]); have x2 : w'.cell? ⟨w.heap.size + 1 + 1, 2, none⟩ = some (.int .u64 0) := (hb.cell (p := ⟨w.heap.size + 1 + 1, 2, none⟩) (by first | assumption | (simp; done) | (simp; omega) | (dsimp only; omega) | omega)).trans (by simp [go_sem]); have xf : ∀ o, w'.frozen? ⟨w.heap.size + 1 + 1, o, none⟩ = false := fun o => (hb.frozen (p := ⟨w.heap.size + 1 + 1, o, none⟩) (by first | assumption | (simp; done) | (simp; omega) | (dsimp only; omega) | omega)).trans (by simp [go_sem]))
    refine bodyPost_ret (v := .tuple #[.agg #[.bool n, .int .u64 h, .int .u64 l], .int .i64 e]) (by simp [results, Try.results109, go_sem, x0, x1, x2]) rfl ?_
    refine Gives.mk rfl ?_
    repeat' (first | (with_reducible exact Below.refl _ _) | (with_reducible refine Below.alloc ?_ ?_ _) | (with_reducible refine Below.setCell ?_ ?_ _) | (with_reducible refine Below.drew ?_) | (with_reducible refine Below.trans ?_ (Below.mono (by assumption) ?_)) | (simp; done) | (simp; omega) | omega)
  · have hn2 : n2 = !n1 := by cases n1 <;> cases n2 <;> simp_all
    subst hn2
    have gn : (n1 == !n1) = false := by cases n1 <;> rfl
    clear hn
    obtain ⟨c, hc⟩ : ∃ x : Int, Wd.cmpI (h1 * 18446744073709551616 + l1) (h2 * 18446744073709551616 + l2) = x := ⟨_, rfl⟩
    have hcm := fun w => compareMagnitudes_any n1 (!n1) h1 l1 h2 l2 b0 b1 d0 d1 w
    rw [hc] at hcm
    by_cases hle : h2 * 18446744073709551616 + l2 ≤ h1 * 18446744073709551616 + l1
    · have hc0 : 0 ≤ c := by rw [← hc]; unfold Wd.cmpI; split <;> (try split) <;> omega
      obtain ⟨lo, hlo⟩ : ∃ x : Int, (l1 - l2 - 0) % 18446744073709551616 = x := ⟨_, rfl⟩
      obtain ⟨k, hk⟩ : ∃ x : Int, (if l1 < l2 + 0 then 1 else 0) = x := ⟨_, rfl⟩
      obtain ⟨hi, hhi⟩ : ∃ x : Int, (h1 - h2 - k) % 18446744073709551616 = x := ⟨_, rfl⟩
      have hk2 : (k = 1 ∧ l1 < l2) ∨ (k = 0 ∧ l2 ≤ l1) := by rw [← hk]; split <;> omega
      have r1 := fun w => sub64_run l1 l2 0 b0 d0 b1 d1 (by omega) (by omega) w
      obtain ⟨k2, hk3⟩ : ∃ x : Int, (if h1 < h2 + k then 1 else 0) = x := ⟨_, rfl⟩
      have r2 := fun w => sub64_run h1 h2 k a0 c0 (by omega) (by omega) (by omega) (by omega) w
      rw [hlo, hk] at r1
      rw [hhi, hk3] at r2
      clear hk3
      have hm : hi * 18446744073709551616 + lo = h1 * 18446744073709551616 + l1 - (h2 * 18446744073709551616 + l2) := by omega
      have hl := limited_any n1 hi lo (by omega) (by omega) (by omega) (by omega) n h l e (by
        rw [← hv, hm]; congr 1; unfold Wd.sv; cases n1 <;> simp <;> omega)
      clear hlo hk hhi hk2 hm hc hle hv
      go_enter Try.func109, Try.ntmps109
      go_wp2_with (first | (go_at_call 113; refine (hcm _).mono ?_; rintro e w' ⟨rfl, rfl⟩) | (go_at_call 112; refine (hl _).mono ?_; rintro e w' ⟨rfl, hb⟩; have x0 : w'.cell? ⟨w.heap.size + 1 + 1, 0, none⟩ = some (.bool false) := (hb.cell (p := ⟨w.heap.size + 1 + 1, 0, none⟩) (by first | assumption | (simp; done) | (simp; omega) | (dsimp only; omega) | omega)).trans (by simp [go_sem]); have x1 : w'.cell? ⟨w.heap.size + 1 + 1, 1, none⟩ = some (.int .u64 0) := (hb.cell (p := ⟨w.heap.size + 1 + 1, 1, none⟩) (by first | assumption | (simp; done) | (simp; omega) | (dsimp only; omega) | omega)).trans (by simp [go_sem]); have x2 : w'.cell? ⟨w.heap.size + 1 + 1, 2, none⟩ = some (.int .u64 0) := (hb.cell (p := ⟨w.heap.size + 1 + 1, 2, none⟩) (by first | assumption | (simp; done) | (simp; omega) | (dsimp only; omega) | omega)).trans (by simp [go_sem]); have xf : ∀ o, w'.frozen? ⟨w.heap.size + 1 + 1, o, none⟩ = false := fun o => (hb.frozen (p := ⟨w.heap.size + 1 + 1, o, none⟩) (by first | assumption | (simp; done) | (simp; omega) | (dsimp only; omega) | omega)).trans (by simp [go_sem])))
      refine bodyPost_ret (v := .tuple #[.agg #[.bool n, .int .u64 h, .int .u64 l], .int .i64 e]) (by simp [results, Try.results109, go_sem, x0, x1, x2]) rfl ?_
      refine Gives.mk rfl ?_
      repeat' (first | (with_reducible exact Below.refl _ _) | (with_reducible refine Below.alloc ?_ ?_ _) | (with_reducible refine Below.setCell ?_ ?_ _) | (with_reducible refine Below.drew ?_) | (with_reducible refine Below.trans ?_ (Below.mono (by assumption) ?_)) | (simp; done) | (simp; omega) | omega)
    · have hc0 : c < 0 := by rw [← hc]; unfold Wd.cmpI; split <;> (try split) <;> omega
      obtain ⟨lo, hlo⟩ : ∃ x : Int, (l2 - l1 - 0) % 18446744073709551616 = x := ⟨_, rfl⟩
      obtain ⟨k, hk⟩ : ∃ x : Int, (if l2 < l1 + 0 then 1 else 0) = x := ⟨_, rfl⟩
      obtain ⟨hi, hhi⟩ : ∃ x : Int, (h2 - h1 - k) % 18446744073709551616 = x := ⟨_, rfl⟩
      have hk2 : (k = 1 ∧ l2 < l1) ∨ (k = 0 ∧ l1 ≤ l2) := by rw [← hk]; split <;> omega
      have r1 := fun w => sub64_run l2 l1 0 d0 b0 d1 b1 (by omega) (by omega) w
      obtain ⟨k2, hk3⟩ : ∃ x : Int, (if h2 < h1 + k then 1 else 0) = x := ⟨_, rfl⟩
      have r2 := fun w => sub64_run h2 h1 k c0 a0 (by omega) (by omega) (by omega) (by omega) w
      rw [hlo, hk] at r1
      rw [hhi, hk3] at r2
      clear hk3
      have hm : hi * 18446744073709551616 + lo = h2 * 18446744073709551616 + l2 - (h1 * 18446744073709551616 + l1) := by omega
      have hl := limited_any (!n1) hi lo (by omega) (by omega) (by omega) (by omega) n h l e (by
        rw [← hv, hm]; congr 1; unfold Wd.sv; cases n1 <;> simp <;> omega)
      clear hlo hk hhi hk2 hm hc hle hv
      go_enter Try.func109, Try.ntmps109
      go_wp2_with (first | (go_at_call 113; refine (hcm _).mono ?_; rintro e w' ⟨rfl, rfl⟩) | (go_at_call 112; refine (hl _).mono ?_; rintro e w' ⟨rfl, hb⟩; have x0 : w'.cell? ⟨w.heap.size + 1 + 1, 0, none⟩ = some (.bool false) := (hb.cell (p := ⟨w.heap.size + 1 + 1, 0, none⟩) (by first | assumption | (simp; done) | (simp; omega) | (dsimp only; omega) | omega)).trans (by simp [go_sem]); have x1 : w'.cell? ⟨w.heap.size + 1 + 1, 1, none⟩ = some (.int .u64 0) := (hb.cell (p := ⟨w.heap.size + 1 + 1, 1, none⟩) (by first | assumption | (simp; done) | (simp; omega) | (dsimp only; omega) | omega)).trans (by simp [go_sem]); have x2 : w'.cell? ⟨w.heap.size + 1 + 1, 2, none⟩ = some (.int .u64 0) := (hb.cell (p := ⟨w.heap.size + 1 + 1, 2, none⟩) (by first | assumption | (simp; done) | (simp; omega) | (dsimp only; omega) | omega)).trans (by simp [go_sem]); have xf : ∀ o, w'.frozen? ⟨w.heap.size + 1 + 1, o, none⟩ = false := fun o => (hb.frozen (p := ⟨w.heap.size + 1 + 1, o, none⟩) (by first | assumption | (simp; done) | (simp; omega) | (dsimp only; omega) | omega)).trans (by simp [go_sem])))
      refine bodyPost_ret (v := .tuple #[.agg #[.bool n, .int .u64 h, .int .u64 l], .int .i64 e]) (by simp [results, Try.results109, go_sem, x0, x1, x2]) rfl ?_
      refine Gives.mk rfl ?_
      repeat' (first | (with_reducible exact Below.refl _ _) | (with_reducible refine Below.alloc ?_ ?_ _) | (with_reducible refine Below.setCell ?_ ?_ _) | (with_reducible refine Below.drew ?_) | (with_reducible refine Below.trans ?_ (Below.mono (by assumption) ?_)) | (simp; done) | (simp; omega) | omega)

end Go.Proofs.Ytdimncchejbaaaa
