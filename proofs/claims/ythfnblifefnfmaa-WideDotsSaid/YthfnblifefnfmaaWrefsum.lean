/-
  The functions of package couperef01, each by a contract: sums and differences of magnitudes.
-/
import Derived.Test.YthfnblifefnfmaaWref
import Derived.Deep.DeepCutAuto
import Derived.Deep.RegionHeld3
import Derived.Deep.QuietTactic
import Derived.BigQuiet
namespace Go.Proofs.Ythfnblifefnfmaa
open Go.RowKit
set_option linter.unusedVariables false
set_option linter.unusedSimpArgs false

/-- A block that holds four parts. -/
def Four (wx : World) (k : Nat) (a b c d : Int) : Prop :=
  k < wx.heap.size ∧ wx.cell? ⟨k, 0, none⟩ = some (.int .u64 a) ∧ wx.cell? ⟨k, 1, none⟩ = some (.int .u64 b) ∧ wx.cell? ⟨k, 2, none⟩ = some (.int .u64 c) ∧ wx.cell? ⟨k, 3, none⟩ = some (.int .u64 d) ∧ ∀ o, wx.frozen? ⟨k, o, none⟩ = false
/-- Two arrays of four parts, and the result's block before them, in a world that turned nothing else. -/
def Arrays (w : World) (a b c d a' b' c' d' : Int) (v v' : Value) (wx : World) : Prop :=
  ∃ i j : Nat, v = .pointer (some ⟨i, 0, none⟩) ∧ v' = .pointer (some ⟨j, 0, none⟩) ∧ i ≠ j ∧ w.heap.size + 1 + 1 < i ∧ w.heap.size + 1 + 1 < j ∧ Four wx i a b c d ∧ Four wx j a' b' c' d' ∧ Four wx (w.heap.size + 1 + 1) 0 0 0 0 ∧ Below w.heap.size w wx

set_option maxHeartbeats 4000000 in
theorem plus_walk (n1 n2 : Bool) (h1 l1 h2 l2 a b c d a' b' c' d' : Int) (w : World)
    (pv : ∀ w : World, Calls Try.prog 40 #[.int .u64 h1, .int .u64 l1] w fun e w' => e = .returned (.agg #[.int .u64 a, .int .u64 b, .int .u64 c, .int .u64 d]) ∧ w' = w.alloc (.cells #[.int .u64 a, .int .u64 b, .int .u64 c, .int .u64 d] 51))
    (pw : ∀ w : World, Calls Try.prog 40 #[.int .u64 h2, .int .u64 l2] w fun e w' => e = .returned (.agg #[.int .u64 a', .int .u64 b', .int .u64 c', .int .u64 d']) ∧ w' = w.alloc (.cells #[.int .u64 a', .int .u64 b', .int .u64 c', .int .u64 d'] 51))
    (a0 : 0 ≤ a) (a1 : a < 4294967296) (b0 : 0 ≤ b) (b1 : b < 4294967296) (c0 : 0 ≤ c) (c1 : c < 4294967296) (d0 : 0 ≤ d) (d1 : d < 4294967296)
    (a0' : 0 ≤ a') (a1' : a' < 4294967296) (b0' : 0 ≤ b') (b1' : b' < 4294967296) (c0' : 0 ≤ c') (c1' : c' < 4294967296) (d0' : 0 ≤ d') (d1' : d' < 4294967296)
    (x0 x1 x2 x3 y0 y1 y2 y3 : Int) (m0 : (a + a') % 4294967296 = x0) (k0 : (a + a') / 4294967296 = y0) (m1 : (b + b' + y0) % 4294967296 = x1) (k1 : (b + b' + y0) / 4294967296 = y1)
    (m2 : (c + c' + y1) % 4294967296 = x2) (k2 : (c + c' + y1) / 4294967296 = y2) (m3 : (d + d' + y2) % 4294967296 = x3) (k3 : (d + d' + y2) / 4294967296 = y3) :
    Calls Try.prog 61 #[.agg #[.bool n1, .int .u64 h1, .int .u64 l1], .agg #[.bool n2, .int .u64 h2, .int .u64 l2]] w (Gives (.agg #[.int .u64 x0, .int .u64 x1, .int .u64 x2, .int .u64 x3]) w) := by
  have v0 : 0 ≤ y0 ∧ y0 ≤ 1 := by omega
  have v1 : 0 ≤ y1 ∧ y1 ≤ 1 := by omega
  have v2 : 0 ≤ y2 ∧ y2 ≤ 1 := by omega
  have z2 : w.heap.size < w.heap.size + 1 + 1 := by omega
  have z3 : w.heap.size < w.heap.size + 1 + 1 + 1 := by omega
  have z4 : w.heap.size < w.heap.size + 1 + 1 + 1 + 1 := by omega
  have z5 : w.heap.size < w.heap.size + 1 + 1 + 1 + 1 + 1 := by omega
  go_enter Try.func61, Try.ntmps61
  go_wp2_with fail
  go_cut [5, 6] (fun v v' wx => Arrays w a b c d a' b' c' d' v v' wx)
  case first =>
    have K : Hid (∀ W', Below (w.heap.size + 1 + 1 + 1) (((w.alloc (Obj.cells #[.bool n1, .int .u64 h1, .int .u64 l1] 24)).alloc (Obj.cells #[.bool n2, .int .u64 h2, .int .u64 l2] 24)).alloc (Obj.cells #[.int .u64 0, .int .u64 0, .int .u64 0, .int .u64 0] 51)) W' → (Below (w.heap.size + 1 + 1 + 1) (((w.alloc (Obj.cells #[.bool n1, .int .u64 h1, .int .u64 l1] 24)).alloc (Obj.cells #[.bool n2, .int .u64 h2, .int .u64 l2] 24)).alloc (Obj.cells #[.int .u64 0, .int .u64 0, .int .u64 0, .int .u64 0] 51)) W' ∧ W'.cell? ⟨w.heap.size, 1, none⟩ = some (.int .u64 h1) ∧ W'.cell? ⟨w.heap.size, 2, none⟩ = some (.int .u64 l1) ∧ W'.cell? ⟨w.heap.size + 1, 1, none⟩ = some (.int .u64 h2) ∧ W'.cell? ⟨w.heap.size + 1, 2, none⟩ = some (.int .u64 l2))) := hid fun W' B =>
      ⟨B, (B.cell (p := ⟨w.heap.size, 1, none⟩) (by first | assumption | (simp; done) | (simp; omega) | (dsimp only; omega) | omega)).trans (by simp [go_sem]), (B.cell (p := ⟨w.heap.size, 2, none⟩) (by first | assumption | (simp; done) | (simp; omega) | (dsimp only; omega) | omega)).trans (by simp [go_sem]), (B.cell (p := ⟨w.heap.size + 1, 1, none⟩) (by first | assumption | (simp; done) | (simp; omega) | (dsimp only; omega) | omega)).trans (by simp [go_sem]), (B.cell (p := ⟨w.heap.size + 1, 2, none⟩) (by first | assumption | (simp; done) | (simp; omega) | (dsimp only; omega) | omega)).trans (by simp [go_sem])⟩
    go_region_held3 (fun w' => Below (w.heap.size + 1 + 1 + 1) (((w.alloc (Obj.cells #[.bool n1, .int .u64 h1, .int .u64 l1] 24)).alloc (Obj.cells #[.bool n2, .int .u64 h2, .int .u64 l2] 24)).alloc (Obj.cells #[.int .u64 0, .int .u64 0, .int .u64 0, .int .u64 0] 51)) w' ∧ w'.cell? ⟨w.heap.size, 1, none⟩ = some (.int .u64 h1) ∧ w'.cell? ⟨w.heap.size, 2, none⟩ = some (.int .u64 l1) ∧ w'.cell? ⟨w.heap.size + 1, 1, none⟩ = some (.int .u64 h2) ∧ w'.cell? ⟨w.heap.size + 1, 2, none⟩ = some (.int .u64 l2)) ((exact K.out _ (by repeat' (first | (with_reducible exact Below.refl _ _) | (with_reducible refine Below.alloc ?_ ?_ _) | (with_reducible refine Below.setCell ?_ ?_ _) | (with_reducible refine Below.drew ?_) | (with_reducible refine Below.trans ?_ (Below.mono (by assumption) ?_)) | (simp; done) | (simp; omega) | omega))))
      (first | (go_at_call 40; (with_reducible refine (pv _).mono ?_); rintro e w5 ⟨rfl, rfl⟩) | (go_at_call 40; (with_reducible refine (pw _).mono ?_); rintro e w5 ⟨rfl, rfl⟩))
    all_goals
      go_wp2_with fail
      go_meet
      refine ⟨_, _, rfl, rfl, ?_, ?_, ?_, ⟨?_, ?_, ?_, ?_, ?_, ?_⟩, ⟨?_, ?_, ?_, ?_, ?_, ?_⟩, ⟨?_, ?_, ?_, ?_, ?_, ?_⟩, by repeat' (first | (with_reducible exact Below.refl _ _) | (with_reducible refine Below.alloc ?_ ?_ _) | (with_reducible refine Below.setCell ?_ ?_ _) | (with_reducible refine Below.drew ?_) | (with_reducible refine Below.trans ?_ (Below.mono (by assumption) ?_)) | (simp; done) | (simp; omega) | omega)⟩
      all_goals first | omega | (simp; done) | (simp; omega) | (simp [go_sem, z2, z3, z4, z5]; done)
  case rest =>
    obtain ⟨i, j, rfl, rfl, hij, hi, hj, Fi, Fj, Fr, hB⟩ := hcut
    obtain ⟨iz, i0, i1, i2, i3, fi⟩ := Fi
    obtain ⟨jz, j0, j1, j2, j3, fj⟩ := Fj
    obtain ⟨rz, r0, r1, r2, r3, fr⟩ := Fr
    have HB := hid hB
    clear hB pv pw
    go_wp2_with fail
    refine wp_loop_rounds 5 ?_
    have u0 := v0.1; have u0' := v0.2; have u1 := v1.1; have u1' := v1.2; have u2 := v2.1; have u2' := v2.2
    clear v0 v1 v2
    rw [rounds_succ]
    go_wp2
    go_quiet (fail)
    go_wp2
    rw [rounds_succ]
    go_wp2
    go_quiet (fail)
    go_wp2
    rw [rounds_succ]
    go_wp2
    go_quiet (fail)
    go_wp2
    rw [rounds_succ]
    go_wp2
    go_quiet (fail)
    go_wp2
    rw [rounds_succ]
    go_wp2
    refine bodyPost_ret (v := .agg #[.int .u64 x0, .int .u64 x1, .int .u64 x2, .int .u64 x3]) (by simp [results, Try.results61, go_sem, r0, r1, r2, r3]) rfl ?_
    have BB := HB.out
    exact Gives.mk rfl (by repeat' (first | (with_reducible exact Below.refl _ _) | (with_reducible assumption) | (with_reducible refine Below.setCell ?_ ?_ _) | (with_reducible refine Below.drew ?_) | (with_reducible refine (Below.trans ?_ ((below_drewN _).mono ?_))) | (simp; done) | (simp; omega) | omega))
end Go.Proofs.Ythfnblifefnfmaa
