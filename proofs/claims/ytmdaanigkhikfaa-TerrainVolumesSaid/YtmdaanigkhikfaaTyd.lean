/-
  Layer 15: corners of couperef15, by contract.
-/
import Derived.Test.YtmdaanigkhikfaaTx
import Derived.Test.YtmdaanigkhikfaaQta
import Derived.StillTailTactics
namespace Go.Proofs.Ytmdaanigkhikfaa
open Go.RowKit
set_option linter.unusedVariables false
set_option linter.unusedSimpArgs false
set_option maxRecDepth 100000 in
theorem rcorners_walk (A : Option Addr) (cap : Nat) (c r k : Int) (z : List Int) (col row M : Int) (l u : Nat) (v0 v1 v2 v3 : Int) (w : World) (h1 : row * c = M) (h2 : M + col = (l : Int)) (h3 : (l : Int) + c = (u : Int)) (M0 : 0 ≤ M) (M1 : M ≤ 256) (lu : l < u) (hu : u + 1 < z.length) (u1 : z.length ≤ 256)
    (e0 : z[l]? = some v0) (e1 : z[l + 1]? = some v1) (e2 : z[u + 1]? = some v2) (e3 : z[u]? = some v3) (hT : Ints w A z) :
    Calls Try.prog 60 #[.agg #[.int .i64 c, .int .i64 r, .int .i64 k, .slice A z.length cap], .int .i64 col, .int .i64 row] w (Gives (.agg #[.int .i64 v0, .int .i64 v1, .int .i64 v3, .int .i64 v2]) w) := by
  have VB : TrAt ((w.alloc (Obj.cells #[.int .i64 c, .int .i64 r, .int .i64 k, .slice A z.length cap] 24)).alloc (.cells #[.int .i64 0, .int .i64 0, .int .i64 0, .int .i64 0] 76)) w.heap.size c r k A z.length cap := (trAt_new w c r k A z.length cap).below (balloc _ _)
  have b0 : Below w.heap.size w ((w.alloc (Obj.cells #[.int .i64 c, .int .i64 r, .int .i64 k, .slice A z.length cap] 24)).alloc (.cells #[.int .i64 0, .int .i64 0, .int .i64 0, .int .i64 0] 76)) := bthen (balloc _ _) (balloc _ _)
  have z0 : ((w.alloc (Obj.cells #[.int .i64 c, .int .i64 r, .int .i64 k, .slice A z.length cap] 24)).alloc (.cells #[.int .i64 0, .int .i64 0, .int .i64 0, .int .i64 0] 76)).cell? ⟨w.heap.size + 1, 0, none⟩ = some (.int .i64 0) := by simp [go_sem]
  have z1 : ((w.alloc (Obj.cells #[.int .i64 c, .int .i64 r, .int .i64 k, .slice A z.length cap] 24)).alloc (.cells #[.int .i64 0, .int .i64 0, .int .i64 0, .int .i64 0] 76)).cell? ⟨w.heap.size + 1, 1, none⟩ = some (.int .i64 0) := by simp [go_sem]
  have z2 : ((w.alloc (Obj.cells #[.int .i64 c, .int .i64 r, .int .i64 k, .slice A z.length cap] 24)).alloc (.cells #[.int .i64 0, .int .i64 0, .int .i64 0, .int .i64 0] 76)).cell? ⟨w.heap.size + 1, 2, none⟩ = some (.int .i64 0) := by simp [go_sem]
  have z3 : ((w.alloc (Obj.cells #[.int .i64 c, .int .i64 r, .int .i64 k, .slice A z.length cap] 24)).alloc (.cells #[.int .i64 0, .int .i64 0, .int .i64 0, .int .i64 0] 76)).cell? ⟨w.heap.size + 1, 3, none⟩ = some (.int .i64 0) := by simp [go_sem]
  have zf : ∀ o, ((w.alloc (Obj.cells #[.int .i64 c, .int .i64 r, .int .i64 k, .slice A z.length cap] 24)).alloc (.cells #[.int .i64 0, .int .i64 0, .int .i64 0, .int .i64 0] 76)).frozen? ⟨w.heap.size + 1, o, none⟩ = false := fun o => by simp [go_sem]
  have zz : w.heap.size + 1 < ((w.alloc (Obj.cells #[.int .i64 c, .int .i64 r, .int .i64 k, .slice A z.length cap] 24)).alloc (.cells #[.int .i64 0, .int .i64 0, .int .i64 0, .int .i64 0] 76)).heap.size := by simp
  generalize hU : (w.alloc (Obj.cells #[.int .i64 c, .int .i64 r, .int .i64 k, .slice A z.length cap] 24)).alloc (.cells #[.int .i64 0, .int .i64 0, .int .i64 0, .int .i64 0] 76) = U at VB b0 z0 z1 z2 z3 zf zz
  obtain ⟨b, off, rfl, bl, q⟩ := (hT.below b0) (by omega)
  have g0 : (z[l]'(by omega)) = v0 := by rw [List.getElem?_eq_getElem (by omega)] at e0; simpa using e0
  have g1 : (z[l + 1]'(by omega)) = v1 := by rw [List.getElem?_eq_getElem (by omega)] at e1; simpa using e1
  have g2 : (z[u + 1]'(by omega)) = v2 := by rw [List.getElem?_eq_getElem (by omega)] at e2; simpa using e2
  have g3 : (z[u]'(by omega)) = v3 := by rw [List.getElem?_eq_getElem (by omega)] at e3; simpa using e3
  have q0 := q l (by omega)
  have q1 := q (l + 1) (by omega)
  have q2 := q (u + 1) (by omega)
  have q3 := q u (by omega)
  rw [g0] at q0
  rw [g1] at q1
  rw [g2] at q2
  rw [g3] at q3
  have i0 : (0 : Int) ≤ (l : Int) := by omega
  have i1 : (l : Int) < (z.length : Int) := by omega
  have i2 : (0 : Int) ≤ (l : Int) + 1 := by omega
  have i3 : (l : Int) + 1 < (z.length : Int) := by omega
  have i4 : (0 : Int) ≤ (u : Int) := by omega
  have i5 : (u : Int) < (z.length : Int) := by omega
  have i6 : (0 : Int) ≤ (u : Int) + 1 := by omega
  have i7 : (u : Int) + 1 < (z.length : Int) := by omega
  have c0 := VB.c0
  have c3 := VB.c3
  have cl := VB.lt
  have HU := hid hU
  have HB := hid b0
  have k1 : M ≤ 5000 := by omega
  have k2 : (l : Int) ≤ 5000 := by omega
  have k3 : (u : Int) ≤ 5000 := by omega
  have k4 : (l : Int) + 1 ≤ 5000 := by omega
  have k5 : (u : Int) + 1 ≤ 5000 := by omega
  have w1 : wrap64 M = M := pwk M0 k1
  have w2 : wrap64 (l : Int) = (l : Int) := pwk i0 k2
  have w3 : wrap64 (u : Int) = (u : Int) := pwk i4 k3
  have x1 : IntKind.i64.wrap ((l : Int) + 1) = (l : Int) + 1 := pwi i2 k4
  have x2 : IntKind.i64.wrap ((u : Int) + 1) = (u : Int) + 1 := pwi i6 k5
  have x3 : IntKind.i64.wrap (u : Int) = (u : Int) := pwi i4 k3
  have x4 : IntKind.i64.wrap (l : Int) = (l : Int) := pwi i0 k2
  clear k1 k2 k3 k4 k5
  clear hU VB b0 hT q g0 g1 g2 g3 e0 e1 e2 e3 bl M0 M1 lu hu u1
  go_enter Try.func60, Try.ntmps60
  go_upto_region 1 with fail
  rw [HU.out]
  go_wp2_with fail
  go_still_tail 29, (by rfl)
  go_wp2_with fail
  refine bodyPost_ret (v := .agg #[.int .i64 v0, .int .i64 v1, .int .i64 v3, .int .i64 v2]) (by simp [results, Try.results60, go_sem, z0, z1, z2, z3, zf, zz]) rfl ?_
  exact Gives.mk rfl (by have hB := HB.out; repeat' (first | (with_reducible exact Below.refl _ _) | (with_reducible refine Below.alloc ?_ ?_ _) | (with_reducible refine Below.setCell ?_ ?_ _) | (with_reducible refine Below.drew ?_) | (with_reducible refine below_dn ?_ _) | (with_reducible refine Below.trans ?_ (Below.mono (by assumption) ?_)) | (simp; done) | (simp; omega) | omega))
theorem rcorners_any (A : Option Addr) (cap : Nat) (c r k : Int) (z : List Int) (col row : Int) (w : World) (hc : 2 ≤ c ∧ c ≤ 16) (hr : 2 ≤ r ∧ r ≤ 16) (hl : (z.length : Int) = c * r) (h0 : 0 ≤ col) (h1 : col ≤ c - 2) (h2 : 0 ≤ row) (h3 : row ≤ r - 2) (hT : Ints w A z) :
    Calls Try.prog 60 #[.agg #[.int .i64 c, .int .i64 r, .int .i64 k, .slice A z.length cap], .int .i64 col, .int .i64 row] w (Gives (.agg #[.int .i64 (Sp.hz z (row * c + col)), .int .i64 (Sp.hz z (row * c + col + 1)), .int .i64 (Sp.hz z (row * c + col + c)), .int .i64 (Sp.hz z (row * c + col + c + 1))]) w) := by
  obtain ⟨M, hM⟩ : ∃ M, row * c = M := ⟨_, rfl⟩
  have M0 : 0 ≤ M := by rw [← hM]; exact Int.mul_nonneg h2 (by omega)
  have M2 : M + 2 * c ≤ c * r := by
    have : (row + 2) * c ≤ r * c := Int.mul_le_mul_of_nonneg_right (by omega) (by omega)
    rw [Int.add_mul, hM, Int.mul_comm r c] at this
    exact this
  have P : c * r ≤ 16 * 16 := Int.mul_le_mul hc.2 hr.2 (by omega) (by omega)
  rw [hM]
  obtain ⟨l, hl2⟩ : ∃ l : Nat, M + col = (l : Int) := ⟨(M + col).toNat, by omega⟩
  obtain ⟨u, hu⟩ : ∃ u : Nat, (l : Int) + c = (u : Int) := ⟨((l : Int) + c).toNat, by omega⟩
  rw [hl2, hu]
  have zb : u + 1 < z.length := by omega
  have lu : l < u := by omega
  have g : ∀ j : Nat, j < z.length → z[j]? = some (Sp.hz z (j : Int)) := fun j hj => by
    unfold Sp.hz
    rw [Int.toNat_natCast, List.getElem?_eq_getElem hj]; rfl
  have e1 : ((l : Int) + 1) = ((l + 1 : Nat) : Int) := by push_cast; rfl
  have e2 : ((u : Int) + 1) = ((u + 1 : Nat) : Int) := by push_cast; rfl
  have s1 := g (l + 1) (by omega)
  have s2 := g (u + 1) (by omega)
  rw [← e1] at s1
  rw [← e2] at s2
  exact rcorners_walk A cap c r k z col row M l u _ _ _ _ w hM hl2 hu M0 (by omega) lu zb (by omega) (g l (by omega)) s1 s2 (g u (by omega)) hT
end Go.Proofs.Ytmdaanigkhikfaa
