/-
  FractionLaws and FractionOrders: the fraction of small numbers.
-/
import Derived.Test.YtjbnejhpfknfcaaDoorFrounds
import Derived.Test.YtjbnejhpfknfcaaDoorFrat
namespace Go.Proofs.YtjbnejhpfknfcaaDoor
open Go.RowKit
set_option linter.unusedVariables false
set_option linter.unusedSimpArgs false

theorem small_walk (m e A G x y : Int) (m0 : -32768 ≤ m) (m1 : m ≤ 32767) (e0 : 0 ≤ e) (e1 : e ≤ 255) (hA : max m (-m) = A) (G0 : 1 ≤ G) (gg : (G == 0) = false) (gne : ¬ G = 0) (hx : m.tdiv G = x) (hy : (e + 1).tdiv G = y)
    (xw : IntKind.i64.wrap x = x) (yw : IntKind.i64.wrap y = y)
    (gc : ∀ w : World, Calls Tryd.prog 48 #[.int .i64 A, .int .i64 (e + 1)] w (Quiet (.int .i64 G) w)) (w : World) :
    Calls Tryd.prog 43 #[.int .i16 m, .int .u8 e] w (Gives (.agg #[.int .i64 x, .int .i64 y]) w) := by
  go_enter Tryd.func43, Tryd.ntmps43
  go_wp2_with (go_at_call 48; refine (gc _).mono ?_; rintro _ w1 ⟨rfl, nq, rfl⟩)
  go_region_with (fail)
  all_goals
    go_wp2
    go_returns
    exact Gives.mk rfl (by repeat' (first | (with_reducible exact Below.refl _ _) | (with_reducible refine Below.alloc ?_ ?_ _) | (with_reducible refine Below.setCell ?_ ?_ _) | (with_reducible refine Below.drew ?_) | (with_reducible refine below_dn ?_ _) | (with_reducible refine Below.trans ?_ (Below.mono (by assumption) ?_)) | (simp; done) | (simp; omega) | omega))
theorem small_any (m e : Int) (m0 : -32768 ≤ m) (m1 : m ≤ 32767) (e0 : 0 ≤ e) (e1 : e ≤ 255) : ∃ x y : Int, Sp.fchk x y = 0 ∧ x.natAbs ≤ 32768 ∧ y.natAbs ≤ 256 ∧
    ∀ w : World, Calls Tryd.prog 43 #[.int .i16 m, .int .u8 e] w (Gives (.agg #[.int .i64 x, .int .i64 y]) w) := by
  have gp : 0 < Int.gcd m (e + 1) := Int.gcd_pos_of_ne_zero_right m (by omega)
  have g1 : (Int.gcd m (e + 1) : Int) ∣ m := Int.gcd_dvd_left m (e + 1)
  have g2 : (Int.gcd m (e + 1) : Int) ∣ (e + 1) := Int.gcd_dvd_right m (e + 1)
  have gc := fun w => rgcd_any (max m (-m)) (e + 1) (by omega) (by omega) (by omega) (by omega) _ rfl w
  have eA : Int.gcd (max m (-m)) (e + 1) = Int.gcd m (e + 1) := by
    have : max m (-m) = (m.natAbs : Int) := by omega
    rw [this]
    simp [Int.gcd]
  rw [eA] at gc
  have cop : Int.gcd (m / (Int.gcd m (e + 1) : Int)) ((e + 1) / (Int.gcd m (e + 1) : Int)) = 1 := Int.gcd_ediv_gcd_ediv_gcd gp
  obtain ⟨G, hG⟩ : ∃ G : Int, (Int.gcd m (e + 1) : Int) = G := ⟨_, rfl⟩
  rw [hG] at g1 g2 gc cop
  have G0 : 0 < G := by omega
  obtain ⟨t1, _⟩ := Sp.div_exact_of G0 g1
  obtain ⟨t2, _⟩ := Sp.div_exact_of G0 g2
  have a1 := Sp.div_abs_le G0 g1
  have a2 := Sp.div_abs_le G0 g2
  have y0 : 0 < (e + 1) / G := Int.ediv_pos_of_pos_of_dvd (by omega) (Int.le_of_lt G0) g2
  refine ⟨m / G, (e + 1) / G, Sp.valid_mk y0 cop (by omega) (by omega), by omega, by omega, fun w => ?_⟩
  have w1 : IntKind.i64.wrap (m / G) = m / G := IntWalk.i64_in _ (by omega)
  have w2 : IntKind.i64.wrap ((e + 1) / G) = (e + 1) / G := IntWalk.i64_in _ (by omega)
  exact small_walk m e _ G _ _ m0 m1 e0 e1 rfl (by omega) (by simp; omega) (by omega) t1 t2 w1 w2 gc w
end Go.Proofs.YtjbnejhpfknfcaaDoor
