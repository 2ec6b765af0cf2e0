/-
  Layer 15: quarter of couperef15, by contract.
-/
import Derived.Test.YtmdaanigkhikfaaTyd
namespace Go.Proofs.Ytmdaanigkhikfaa
open Go.RowKit
set_option linter.unusedVariables false
set_option linter.unusedSimpArgs false
set_option maxRecDepth 100000 in
theorem rquarter_any (A : Option Addr) (cap : Nat) (c r k : Int) (z : List Int) (lo hi : Int) (w : World) (bk : 1 ≤ k ∧ k ≤ 1000) (l0 : 0 ≤ lo ∧ lo ≤ 100000000) (h0 : 0 ≤ hi ∧ hi ≤ 100000000) :
    Calls Try.prog 61 #[.agg #[.int .i64 c, .int .i64 r, .int .i64 k, .slice A z.length cap], .int .i64 lo, .int .i64 hi] w (Gives (.agg #[.int .i64 ((lo * (k * k)).tdiv 4), .int .i64 ((hi * (k * k) + 3).tdiv 4)]) w) := by
  have VB : TrAt ((w.alloc (Obj.cells #[.int .i64 c, .int .i64 r, .int .i64 k, .slice A z.length cap] 24)).alloc (Obj.cells #[.int .i64 0, .int .i64 0] 50)) w.heap.size c r k A z.length cap := (trAt_new w c r k A z.length cap).below (balloc _ _)
  have bU : Below w.heap.size w ((w.alloc (Obj.cells #[.int .i64 c, .int .i64 r, .int .i64 k, .slice A z.length cap] 24)).alloc (Obj.cells #[.int .i64 0, .int .i64 0] 50)) := bthen (balloc _ _) (balloc _ _)
  have r0 : ((w.alloc (Obj.cells #[.int .i64 c, .int .i64 r, .int .i64 k, .slice A z.length cap] 24)).alloc (Obj.cells #[.int .i64 0, .int .i64 0] 50)).cell? ⟨w.heap.size + 1, 0, none⟩ = some (.int .i64 0) := by simp [go_sem]
  have r1 : ((w.alloc (Obj.cells #[.int .i64 c, .int .i64 r, .int .i64 k, .slice A z.length cap] 24)).alloc (Obj.cells #[.int .i64 0, .int .i64 0] 50)).cell? ⟨w.heap.size + 1, 1, none⟩ = some (.int .i64 0) := by simp [go_sem]
  have rf : ∀ o, ((w.alloc (Obj.cells #[.int .i64 c, .int .i64 r, .int .i64 k, .slice A z.length cap] 24)).alloc (Obj.cells #[.int .i64 0, .int .i64 0] 50)).frozen? ⟨w.heap.size + 1, o, none⟩ = false := fun o => by simp [go_sem]
  have rz : w.heap.size + 1 < ((w.alloc (Obj.cells #[.int .i64 c, .int .i64 r, .int .i64 k, .slice A z.length cap] 24)).alloc (Obj.cells #[.int .i64 0, .int .i64 0] 50)).heap.size := by simp
  generalize hU : (w.alloc (Obj.cells #[.int .i64 c, .int .i64 r, .int .i64 k, .slice A z.length cap] 24)).alloc (Obj.cells #[.int .i64 0, .int .i64 0] 50) = U at VB bU r0 r1 rf rz
  have dd := Sp.pmul (a := k) (b := k) (m := 1000) (n := 1000) (by omega) (by omega) (by omega) (by omega) (by omega)
  obtain ⟨D, hD⟩ : ∃ D, k * k = D := ⟨_, rfl⟩
  rw [hD] at dd ⊢
  have p1 := Sp.pmul (a := lo) (b := D) (m := 100000000) (n := 1000000) l0.1 l0.2 dd.1 (by omega) (by omega)
  have p2 := Sp.pmul (a := hi) (b := D) (m := 100000000) (n := 1000000) h0.1 h0.2 dd.1 (by omega) (by omega)
  obtain ⟨P, hP⟩ : ∃ P, lo * D = P := ⟨_, rfl⟩
  obtain ⟨Q, hQ⟩ : ∃ Q, hi * D = Q := ⟨_, rfl⟩
  rw [hP] at p1 ⊢
  rw [hQ] at p2 ⊢
  obtain ⟨X, hX⟩ : ∃ X, P.tdiv 4 = X := ⟨_, rfl⟩
  obtain ⟨Y, hY⟩ : ∃ Y, (Q + 3).tdiv 4 = Y := ⟨_, rfl⟩
  rw [hX, hY]
  have x0 : 0 ≤ X ∧ X ≤ P := by rw [← hX, Int.tdiv_eq_ediv_of_nonneg p1.1]; exact ⟨by omega, by omega⟩
  have y0 : 0 ≤ Y ∧ Y ≤ Q + 3 := by rw [← hY, Int.tdiv_eq_ediv_of_nonneg (by omega)]; exact ⟨by omega, by omega⟩
  have HU := hid hU
  have BU := hid bU
  have c2 := VB.c2
  have cl := VB.lt
  have w1 : wrap64 D = D := pw64 _ (by omega)
  have w2 : wrap64 P = P := pw64 _ (by omega)
  have w3 : wrap64 Q = Q := pw64 _ (by omega)
  have w4 : wrap64 (Q + 3) = Q + 3 := pw64 _ (by omega)
  have w5 : wrap64 X = X := pw64 _ (by omega)
  have w6 : wrap64 Y = Y := pw64 _ (by omega)
  clear hU VB bU dd p1 p2 x0 y0 l0 h0 bk
  go_enter Try.func61, Try.ntmps61
  go_upto_region 1 with fail
  rw [HU.out]
  go_wp2_with fail
  refine bodyPost_ret (v := .agg #[.int .i64 X, .int .i64 Y]) (by simp [results, Try.results61, go_sem, r0, r1, rf, rz]) rfl ?_
  exact Gives.mk rfl (by have hB := BU.out; repeat' (first | (with_reducible exact Below.refl _ _) | (with_reducible refine Below.alloc ?_ ?_ _) | (with_reducible refine Below.setCell ?_ ?_ _) | (with_reducible refine Below.drew ?_) | (with_reducible refine Below.trans ?_ (Below.mono (by assumption) ?_)) | (simp; done) | (simp; omega) | omega))
end Go.Proofs.Ytmdaanigkhikfaa
