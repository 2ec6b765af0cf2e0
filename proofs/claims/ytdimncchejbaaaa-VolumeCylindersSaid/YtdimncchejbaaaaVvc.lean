/-
  Layer 14: enclose and Volume of package volume, by contract.
-/
import Derived.Test.YtdimncchejbaaaaVvb
import Derived.StillTailTactics
namespace Go.Proofs.Ytdimncchejbaaaa
open Go.RowKit
set_option linter.unusedVariables false
set_option linter.unusedSimpArgs false
set_option maxRecDepth 100000 in
theorem venc_any (l h u : Int) (l0 : 0 ≤ l) (l1 : l ≤ 9000000000000) (h0 : 0 ≤ h) (h1 : h ≤ 9000000000000) (u0 : 1 ≤ u) (u1 : u ≤ 10000000000000) (w : World) :
    Calls Try.prog 40 #[.int .i64 l, .int .i64 h, .int .i64 u] w (Gives (.agg #[.int .i64 ((785398 * l).tdiv u), .int .i64 ((785399 * h + u - 1).tdiv u)]) w) := by
  obtain ⟨p, hp⟩ : ∃ p, 785398 * l = p := ⟨_, rfl⟩
  obtain ⟨q, hq⟩ : ∃ q, 785399 * h = q := ⟨_, rfl⟩
  have p0 : 0 ≤ p := by omega
  have p1 : p ≤ 7068582000000000000 := by omega
  have q0 : 0 ≤ q := by omega
  have q1 : q ≤ 7068591000000000000 := by omega
  rw [hp, hq]
  obtain ⟨a, ha⟩ : ∃ a, p.tdiv u = a := ⟨_, rfl⟩
  obtain ⟨b, hb⟩ : ∃ b, (q + u - 1).tdiv u = b := ⟨_, rfl⟩
  have a0 : 0 ≤ a := by rw [← ha]; exact Int.tdiv_nonneg p0 (by omega)
  have a1 : a ≤ p := by rw [← ha, Int.tdiv_eq_ediv_of_nonneg p0]; exact Int.ediv_le_self _ p0
  have b0 : 0 ≤ b := by rw [← hb]; exact Int.tdiv_nonneg (by omega) (by omega)
  have b1 : b ≤ q + u - 1 := by rw [← hb, Int.tdiv_eq_ediv_of_nonneg (by omega)]; exact Int.ediv_le_self _ (by omega)
  have w1 : wrap64 p = p := pw64 _ (by omega)
  have w2 : wrap64 q = q := pw64 _ (by omega)
  have w3 : wrap64 (q + u) = q + u := pw64 _ (by omega)
  have w4 : wrap64 (q + u - 1) = q + u - 1 := pw64 _ (by omega)
  have w5 : wrap64 a = a := pw64 _ (by omega)
  have w6 : wrap64 b = b := pw64 _ (by omega)
  have uz : (u == 0) = false := by simp; omega
  rw [ha, hb]
  go_enter Try.func40, Try.ntmps40
  have x1 : IntKind.i64.wrap p = p := by rw [IntKind.wrap_i64]; omega
  have x2 : IntKind.i64.wrap q = q := by rw [IntKind.wrap_i64]; omega
  have x3 : IntKind.i64.wrap (q + u) = q + u := by rw [IntKind.wrap_i64]; omega
  have x4 : IntKind.i64.wrap (q + u - 1) = q + u - 1 := by rw [IntKind.wrap_i64]; omega
  have x5 : IntKind.i64.wrap a = a := by rw [IntKind.wrap_i64]; omega
  have x6 : IntKind.i64.wrap b = b := by rw [IntKind.wrap_i64]; omega
  go_wp2_with fail
  have un : ¬ u = 0 := by omega
  obtain ⟨U, hU⟩ : ∃ U, w.alloc (.cells #[.int .i64 0, .int .i64 0] 32) = U := ⟨_, rfl⟩
  have BU := hid (show Below w.heap.size w U by rw [← hU]; exact balloc _ _)
  have z0 : U.cell? ⟨w.heap.size, 0, none⟩ = some (.int .i64 0) := by rw [← hU]; simp [go_sem]
  have z1 : U.cell? ⟨w.heap.size, 1, none⟩ = some (.int .i64 0) := by rw [← hU]; simp [go_sem]
  have zf : ∀ o, U.frozen? ⟨w.heap.size, o, none⟩ = false := by intro o; rw [← hU]; simp [go_sem]
  have zz : w.heap.size < U.heap.size := by rw [← hU]; simp
  simp only [hU]
  clear hU
  go_still_tail 12, (by rfl)
  go_wp2_with fail
  refine bodyPost_ret (v := .agg #[.int .i64 a, .int .i64 b]) (by simp [results, Try.results40, go_sem, z0, z1, zf, zz]) rfl ?_
  exact Gives.mk rfl (by have hB := BU.out; repeat' (first | (with_reducible exact Below.refl _ _) | (with_reducible refine Below.alloc ?_ ?_ _) | (with_reducible refine Below.setCell ?_ ?_ _) | (with_reducible refine Below.drew ?_) | (with_reducible refine below_dn ?_ _) | (with_reducible refine Below.trans ?_ (Below.mono (by assumption) ?_)) | (simp; done) | (simp; omega) | omega))
theorem vol_prod {f d x : Int} (f0 : 1 ≤ f) (f1 : f ≤ 1000) (d0 : 1 ≤ d) (d1 : d ≤ 3000) (x0 : 1 ≤ x) (x1 : x ≤ 1000) : (0 ≤ f * d ∧ f * d ≤ 3000000) ∧ (0 ≤ f * d * d ∧ f * d * d ≤ 9000000000) ∧ (0 ≤ f * d * d * x ∧ f * d * d * x ≤ 9000000000000) := by
  have a0 : 0 ≤ f * d := Int.mul_nonneg (by omega) (by omega)
  have a1 : f * d ≤ 1000 * 3000 := Int.mul_le_mul f1 d1 (by omega) (by omega)
  have b0 : 0 ≤ f * d * d := Int.mul_nonneg a0 (by omega)
  have b1 : f * d * d ≤ 3000000 * 3000 := Int.mul_le_mul (by omega) d1 (by omega) (by omega)
  have c0 : 0 ≤ f * d * d * x := Int.mul_nonneg b0 (by omega)
  have c1 : f * d * d * x ≤ 9000000000 * 1000 := Int.mul_le_mul (by omega) x1 (by omega) (by omega)
  exact ⟨⟨a0, by omega⟩, ⟨b0, by omega⟩, ⟨c0, by omega⟩⟩
end Go.Proofs.Ytdimncchejbaaaa
