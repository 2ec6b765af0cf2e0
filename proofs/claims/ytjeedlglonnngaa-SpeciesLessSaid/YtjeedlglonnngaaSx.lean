/-
  Layer 10: Mass and Carbon of package species and of the reference, by contract.
-/
import Derived.Test.YtjeedlglonnngaaSr
import Derived.Test.YtjeedlglonnngaaIscales
import Derived.Test.YtjeedlglonnngaaFnewsaS
import Derived.Deep.RegionWith
import Derived.Deep.DeepCutAuto
namespace Go.Proofs.Ytjeedlglonnngaa
open Go.RowKit
set_option linter.unusedVariables false
set_option linter.unusedSimpArgs false

namespace Sp
def scl (a b n d : Int) : Int × Int × Int := scaleS a b (newS n d).1 (newS n d).2.1
def massS (l : List Sc) (i a b : Int) : Int × Int × Int :=
  if tabS l ≠ 0 then (0, 0, tabS l) else if ¬ (0 ≤ i ∧ i < (l.length : Int)) then (0, 0, 2) else if chk a b ≠ 0 then (0, 0, chk a b) else if a < 0 then (0, 0, 1) else scl a b (denOf l i) 1000
def carbS (l : List Sc) (i a b : Int) : Int × Int × Int :=
  if (massS l i a b).2.2 ≠ 0 then (0, 0, (massS l i a b).2.2) else scl (massS l i a b).1 (massS l i a b).2.1 (carOf l i) 1000000
theorem newS_small {n d : Int} (n0 : 1 ≤ n) (n1 : n ≤ 1000000000000000) (d0 : 1 ≤ d) (d1 : d ≤ 1000000000000000) :
    ∃ g x y : Int, newS n d = (x, y, 0) ∧ 1 ≤ g ∧ n = x * g ∧ d = y * g ∧ 1 ≤ x ∧ x ≤ n ∧ 1 ≤ y ∧ y ≤ d ∧ Int.gcd x y ≤ 1 := by
  obtain ⟨m, rfl⟩ : ∃ m : Nat, n = (m : Int) := ⟨n.toNat, by omega⟩
  obtain ⟨k, rfl⟩ : ∃ k : Nat, d = (k : Int) := ⟨d.toNat, by omega⟩
  have hg : Int.gcd (m : Int) (k : Int) = Nat.gcd m k := by simp
  have g0 : 0 < Nat.gcd m k := Nat.gcd_pos_of_pos_left _ (by omega)
  obtain ⟨x, hx⟩ := Nat.gcd_dvd_left m k
  obtain ⟨y, hy⟩ := Nat.gcd_dvd_right m k
  have hxd : m / Nat.gcd m k = x := by
    have h2 : Nat.gcd m k * x / Nat.gcd m k = x := Nat.mul_div_cancel_left _ g0
    rw [← hx] at h2
    exact h2
  have hyd : k / Nat.gcd m k = y := by
    have h2 : Nat.gcd m k * y / Nat.gcd m k = y := Nat.mul_div_cancel_left _ g0
    rw [← hy] at h2
    exact h2
  have hcop : Nat.gcd x y = 1 := by
    have h := Nat.gcd_mul_left (Nat.gcd m k) x y
    rw [← hx, ← hy] at h
    exact Nat.eq_of_mul_eq_mul_left g0 (by rw [Nat.mul_one]; exact h.symm)
  have x1 : 1 ≤ x := by
    rcases Nat.eq_zero_or_pos x with h | h
    · rw [h, Nat.mul_zero] at hx; omega
    · exact h
  have y1 : 1 ≤ y := by
    rcases Nat.eq_zero_or_pos y with h | h
    · rw [h, Nat.mul_zero] at hy; omega
    · exact h
  have xm : x ≤ m := by rw [← hxd]; exact Nat.div_le_self _ _
  have yk : y ≤ k := by rw [← hyd]; exact Nat.div_le_self _ _
  refine ⟨(Nat.gcd m k : Nat), (x : Nat), (y : Nat), ?_, by omega, by rw [← Int.natCast_mul]; congr 1; rw [Nat.mul_comm]; exact hx, by rw [← Int.natCast_mul]; congr 1; rw [Nat.mul_comm]; exact hy, by omega, by omega, by omega, by omega, by simp [hcop]⟩
  unfold newS
  have e1 : ((m : Int).natAbs : Int) / (Int.gcd (m : Int) (k : Int) : Int) = (x : Int) := by
    rw [hg, Int.natAbs_natCast, ← Int.natCast_ediv, hxd]
  have e2 : ((k : Int).natAbs : Int) / (Int.gcd (m : Int) (k : Int) : Int) = (y : Int) := by
    rw [hg, Int.natAbs_natCast, ← Int.natCast_ediv, hyd]
  rw [e1, e2, if_neg (by omega), if_neg (by omega), if_pos (by rw [decide_eq_decide]; omega)]
end Sp
set_option maxRecDepth 100000 in
set_option maxHeartbeats 1000000 in
theorem scale_any (a b n d lo hi e : Int) (n0 : 1 ≤ n) (n1 : n ≤ 1000000000000000) (d0 : 1 ≤ d) (d1 : d ≤ 1000000000000000) (hv : Sp.scl a b n d = (lo, hi, e)) (w : World) :
    Calls Try.prog 31 #[.agg #[.int .i64 a, .int .i64 b], .int .i64 n, .int .i64 d] w (Gives (.tuple #[.agg #[.int .i64 lo, .int .i64 hi], .int .i64 e]) w) := by
  obtain ⟨g, x, y, hN, -, -, -, x0, x1, y0, y1, -⟩ := Sp.newS_small n0 n1 d0 d1
  have nw := fun w => fnew_any n d (by omega) (by omega) (by omega) (by omega) x y 0 hN w
  unfold Sp.scl at hv
  rw [hN] at hv
  have sc := fun w => iscale_any a b x y lo hi e (by omega) (by omega) (by omega) (by omega) hv w
  clear hN hv n0 n1 d0 d1 x0 x1 y0 y1
  obtain ⟨U, hU⟩ : ∃ U : World, (w.alloc (Obj.cells #[.int .i64 a, .int .i64 b] 30)).alloc (Obj.cells #[.int .i64 0, .int .i64 0] 30) = U := ⟨_, rfl⟩
  have bU : Below w.heap.size w U := by rw [← hU]; exact ((Below.refl _ _).alloc (Nat.le_refl _) _).alloc (by simp) _
  have zU : U.heap.size = w.heap.size + 1 + 1 := by rw [← hU]; simp
  have a0 : U.cell? ⟨w.heap.size, 0, none⟩ = some (.int .i64 a) := by rw [← hU]; simp [go_sem]
  have a1 : U.cell? ⟨w.heap.size, 1, none⟩ = some (.int .i64 b) := by rw [← hU]; simp [go_sem]
  have r0 : U.cell? ⟨w.heap.size + 1, 0, none⟩ = some (.int .i64 0) := by rw [← hU]; simp [go_sem]
  have r1 : U.cell? ⟨w.heap.size + 1, 1, none⟩ = some (.int .i64 0) := by rw [← hU]; simp [go_sem]
  have rf : ∀ o, U.frozen? ⟨w.heap.size + 1, o, none⟩ = false := fun o => by rw [← hU]; simp [go_sem]
  have K : Hid (∀ W', Below U.heap.size U W' → (W'.cell? ⟨w.heap.size, 0, none⟩ = some (.int .i64 a) ∧ W'.cell? ⟨w.heap.size, 1, none⟩ = some (.int .i64 b) ∧ W'.cell? ⟨w.heap.size + 1, 0, none⟩ = some (.int .i64 0) ∧ W'.cell? ⟨w.heap.size + 1, 1, none⟩ = some (.int .i64 0) ∧ ∀ o, W'.frozen? ⟨w.heap.size + 1, o, none⟩ = false)) := hid fun W' B =>
    ⟨(B.cell (p := ⟨w.heap.size, 0, none⟩) (by simp; omega)).trans a0, (B.cell (p := ⟨w.heap.size, 1, none⟩) (by simp; omega)).trans a1, (B.cell (p := ⟨w.heap.size + 1, 0, none⟩) (by simp; omega)).trans r0, (B.cell (p := ⟨w.heap.size + 1, 1, none⟩) (by simp; omega)).trans r1, fun o => (B.frozen (p := ⟨w.heap.size + 1, o, none⟩) (by simp; omega)).trans (rf o)⟩
  have HU := hid hU
  have BU := hid bU
  clear hU bU a0 a1 r0 r1 rf
  go_enter Try.func31, Try.ntmps31
  go_wp2_with fail
  rw [HU.out]
  refine (nw U).mono ?_
  rintro _ w1 ⟨rfl, hb⟩
  obtain ⟨V, hV⟩ : ∃ V : World, w1.alloc (Obj.cells #[.int .i64 x, .int .i64 y] 50) = V := ⟨_, rfl⟩
  have bV : Below w1.heap.size w1 V := by rw [← hV]; exact (Below.refl _ _).alloc (Nat.le_refl _) _
  have zV : V.heap.size = w1.heap.size + 1 := by rw [← hV]; simp
  have f0 : V.cell? ⟨w1.heap.size, 0, none⟩ = some (.int .i64 x) := by rw [← hV]; simp [go_sem]
  have f1 : V.cell? ⟨w1.heap.size, 1, none⟩ = some (.int .i64 y) := by rw [← hV]; simp [go_sem]
  have HV := hid hV
  have B1 := hid (hb.trans (bV.mono hb.size))
  obtain ⟨p0, p1, r0, r1, rf⟩ := K.out V B1.out
  have ne1 : ¬ w1.heap.size = w.heap.size := by have := hb.size; omega
  clear hb bV hV
  go_upto_region 2 with fail
  rw [HV.out]
  go_wp2_with fail
  refine (sc V).mono ?_
  rintro _ w2 ⟨rfl, hb⟩
  have B2 := hid (B1.out.trans (hb.mono B1.out.size))
  clear p0 p1 r0 r1 rf
  obtain ⟨p0, p1, r0, r1, rf⟩ := K.out w2 B2.out
  clear hb
  go_wp2_with fail
  refine bodyPost_ret (v := .tuple #[.agg #[.int .i64 lo, .int .i64 hi], .int .i64 e]) (by simp [results, Try.results31, go_sem, r0, r1, rf]) rfl ?_
  exact Gives.mk rfl (((BU.out.trans (B2.out.mono (by omega))).setCell (Nat.le_succ _) _).setCell (Nat.le_succ _) _)
end Go.Proofs.Ytjeedlglonnngaa
