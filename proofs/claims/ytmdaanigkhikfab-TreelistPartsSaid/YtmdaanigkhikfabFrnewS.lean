/-
  The functions of package couperef02, each by a contract: New, Int, Same; and fraction.Int.
-/
import Derived.Test.YtmdaanigkhikfabIscales
import Derived.Test.YtmdaanigkhikfabFops2
import Derived.Test.YtmdaanigkhikfabFnew
namespace Go.Proofs.Ytmdaanigkhikfab
open Go.RowKit
set_option linter.unusedVariables false
set_option linter.unusedSimpArgs false

/-- The loop of the reference's New, over numbers that are not positive. -/
def GNeg (G : Nat) (w : World) (v v' : Value) (wr : World) : Prop :=
  ∃ (x y : Int) (q : Nat), v = .int .i64 x ∧ v' = .int .i64 y ∧ x ≤ 0 ∧ -9223372036854775808 ≤ x ∧ y ≤ 0 ∧ -9223372036854775808 ≤ y ∧ Int.gcd x y = G ∧ wr = w.drewN q
theorem neg_step {x y : Int} (x0 : x ≤ 0) (y0 : y < 0) : y < x.tmod y ∧ x.tmod y ≤ 0 ∧ Int.gcd y (x.tmod y) = Int.gcd x y := by
  obtain ⟨a, rfl⟩ : ∃ a, x = -a := ⟨-x, by omega⟩
  obtain ⟨b, rfl⟩ : ∃ b, y = -b := ⟨-y, by omega⟩
  have e : (-a).tmod (-b) = -(a % b) := by
    rw [Int.neg_tmod, Int.tmod_neg, Int.tmod_eq_emod_of_nonneg (by omega)]
  have m0 := Int.emod_nonneg a (show b ≠ 0 by omega)
  have m1 := Int.emod_lt_of_pos a (show 0 < b by omega)
  rw [e]
  refine ⟨by omega, by omega, ?_⟩
  rw [Int.neg_gcd, Int.gcd_neg, Int.neg_gcd, Int.gcd_neg]
  exact gcd_step (by omega) (by omega)

set_option maxRecDepth 100000 in
set_option maxHeartbeats 4000000 in
theorem rnew_walk0 (A B g p q X Y e : Int) (G : Nat) (w : World) (a0 : A ≤ 0) (a1 : -9223372036854775808 ≤ A) (b0 : B < 0) (b1 : -9223372036854775808 ≤ B)
    (hg : Int.gcd A B = G) (gg : (G : Int) = g) (g1 : 1 ≤ g) (g2 : g ≤ 9223372036854775808) (P Q : Int) (f1 : A.tdiv g = P) (f2 : B.tdiv g = Q) (e1 : wrap64 (-P) = p) (e2 : wrap64 (-Q) = q) (ga : (-g == 0) = false) (gn : ¬ g = 0) (s : Bool) (hs : decide (A < 0) = s)
    (hc : ((p < 0 ∨ q < 0 ∨ 1000000000000000 < p ∨ 1000000000000000 < q) ∧ X = 0 ∧ Y = 0 ∧ e = 8) ∨ (0 ≤ p ∧ 0 ≤ q ∧ p ≤ 1000000000000000 ∧ q ≤ 1000000000000000 ∧ s = true ∧ X = p ∧ Y = q ∧ e = 0) ∨ (0 ≤ p ∧ 0 ≤ q ∧ p ≤ 1000000000000000 ∧ q ≤ 1000000000000000 ∧ s = !true ∧ X = -p ∧ Y = q ∧ e = 0)) :
    Calls Try.prog 44 #[.int .i64 A, .int .i64 B] w (Gives (.tuple #[.agg #[.int .i64 X, .int .i64 Y], .int .i64 e]) w) := by
  have HG := hid hg
  have GG := hid gg
  have gd : (B == 0) = false := by simp; omega
  have hd : decide (B < 0) = true := by simp; omega
  clear hg gg
  rcases hc with ⟨c, hX, hY, he⟩ | ⟨p0, q0, p1, q1, hss, hX, hY, he⟩ | ⟨p0, q0, p1, q1, hss, hX, hY, he⟩
  · rcases c with c | c | c | c
    all_goals
      subst hX
      subst hY
      subst he
      go_enter Try.func44, Try.ntmps44
      go_wp2_with fail
      go_loopw [8, 9] (fun v v' wr => GNeg G (w.alloc (Obj.cells #[.int .i64 0, .int .i64 0] 35)) v v' wr) (fun _ v _ => (intOf v).natAbs)
      case atStart => exact ⟨A, B, 0, by simp, by simp, by omega, by omega, by omega, by omega, HG.out, rfl⟩
      case round =>
        obtain ⟨x, y, qd, rfl, rfl, x0, x1, y0, y1, hg, rfl⟩ := hrel
        have GH := hid hg
        clear hg
        by_cases hy : y = 0
        · subst hy
          have hx : x = -(G : Int) := by
            have := GH.out
            rw [Int.gcd_zero_right] at this
            omega
          rw [GG.out] at hx
          subst hx
          go_wp2
          go_quiet (fail)
          go_wp2
          all_goals
            refine bodyPost_ret (v := .tuple #[.agg #[.int .i64 0, .int .i64 0], .int .i64 8]) (by simp [results, Try.results44, go_sem, *]) rfl ?_
            exact Gives.mk rfl (by repeat' (first | (with_reducible exact Below.refl _ _) | (with_reducible refine Below.alloc ?_ ?_ _) | (with_reducible refine Below.setCell ?_ ?_ _) | (with_reducible refine Below.drew ?_) | (with_reducible refine below_dn ?_ _) | (with_reducible refine Below.trans ?_ (Below.mono (by assumption) ?_)) | (simp; done) | (simp; omega) | omega))
        · have hy1 : y < 0 := by omega
          have gy : (y == 0) = false := by simp; exact hy
          have gyn : (y != 0) = true := by simp; exact hy
          obtain ⟨z0, z1, zg⟩ := neg_step x0 hy1
          obtain ⟨z, hz⟩ : ∃ z, x.tmod y = z := ⟨_, rfl⟩
          rw [hz] at z0 z1 zg
          have zw : IntKind.i64.wrap z = z := IntWalk.i64_in _ (by omega)
          have ZG := hid zg
          clear zg
          go_wp2
          go_quiet (fail)
          go_wp2
          go_roundw
          case rel => exact ⟨y, z, qd + nq, rfl, rfl, by omega, by omega, by omega, by omega, by rw [ZG.out]; exact GH.out, World.drewN_drewN _ _ _⟩
          case measure => simp [intOf]; omega
  · subst hX
    subst hY
    subst he
    rw [hss] at hs
    clear hss
    go_enter Try.func44, Try.ntmps44
    go_wp2_with fail
    go_loopw [8, 9] (fun v v' wr => GNeg G (w.alloc (Obj.cells #[.int .i64 0, .int .i64 0] 35)) v v' wr) (fun _ v _ => (intOf v).natAbs)
    case atStart => exact ⟨A, B, 0, by simp, by simp, by omega, by omega, by omega, by omega, HG.out, rfl⟩
    case round =>
      obtain ⟨x, y, qd, rfl, rfl, x0, x1, y0, y1, hg, rfl⟩ := hrel
      have GH := hid hg
      clear hg
      by_cases hy : y = 0
      · subst hy
        have hx : x = -(G : Int) := by
          have := GH.out
          rw [Int.gcd_zero_right] at this
          omega
        rw [GG.out] at hx
        subst hx
        go_wp2
        go_quiet (fail)
        go_wp2
        all_goals
          refine bodyPost_ret (v := .tuple #[.agg #[.int .i64 X, .int .i64 Y], .int .i64 0]) (by simp [results, Try.results44, go_sem, *]) rfl ?_
          exact Gives.mk rfl (by repeat' (first | (with_reducible exact Below.refl _ _) | (with_reducible refine Below.alloc ?_ ?_ _) | (with_reducible refine Below.setCell ?_ ?_ _) | (with_reducible refine Below.drew ?_) | (with_reducible refine below_dn ?_ _) | (with_reducible refine Below.trans ?_ (Below.mono (by assumption) ?_)) | (simp; done) | (simp; omega) | omega))
      · have hy1 : y < 0 := by omega
        have gy : (y == 0) = false := by simp; exact hy
        have gyn : (y != 0) = true := by simp; exact hy
        obtain ⟨z0, z1, zg⟩ := neg_step x0 hy1
        obtain ⟨z, hz⟩ : ∃ z, x.tmod y = z := ⟨_, rfl⟩
        rw [hz] at z0 z1 zg
        have zw : IntKind.i64.wrap z = z := IntWalk.i64_in _ (by omega)
        have ZG := hid zg
        clear zg
        go_wp2
        go_quiet (fail)
        go_wp2
        go_roundw
        case rel => exact ⟨y, z, qd + nq, rfl, rfl, by omega, by omega, by omega, by omega, by rw [ZG.out]; exact GH.out, World.drewN_drewN _ _ _⟩
        case measure => simp [intOf]; omega
  · subst hX
    subst hY
    subst he
    rw [hss] at hs
    clear hss
    go_enter Try.func44, Try.ntmps44
    go_wp2_with fail
    go_loopw [8, 9] (fun v v' wr => GNeg G (w.alloc (Obj.cells #[.int .i64 0, .int .i64 0] 35)) v v' wr) (fun _ v _ => (intOf v).natAbs)
    case atStart => exact ⟨A, B, 0, by simp, by simp, by omega, by omega, by omega, by omega, HG.out, rfl⟩
    case round =>
      obtain ⟨x, y, qd, rfl, rfl, x0, x1, y0, y1, hg, rfl⟩ := hrel
      have GH := hid hg
      clear hg
      by_cases hy : y = 0
      · subst hy
        have hx : x = -(G : Int) := by
          have := GH.out
          rw [Int.gcd_zero_right] at this
          omega
        rw [GG.out] at hx
        subst hx
        go_wp2
        go_quiet (fail)
        go_wp2
        all_goals
          refine bodyPost_ret (v := .tuple #[.agg #[.int .i64 (-p), .int .i64 Y], .int .i64 0]) (by simp [results, Try.results44, go_sem, *]) rfl ?_
          exact Gives.mk rfl (by repeat' (first | (with_reducible exact Below.refl _ _) | (with_reducible refine Below.alloc ?_ ?_ _) | (with_reducible refine Below.setCell ?_ ?_ _) | (with_reducible refine Below.drew ?_) | (with_reducible refine below_dn ?_ _) | (with_reducible refine Below.trans ?_ (Below.mono (by assumption) ?_)) | (simp; done) | (simp; omega) | omega))
      · have hy1 : y < 0 := by omega
        have gy : (y == 0) = false := by simp; exact hy
        have gyn : (y != 0) = true := by simp; exact hy
        obtain ⟨z0, z1, zg⟩ := neg_step x0 hy1
        obtain ⟨z, hz⟩ : ∃ z, x.tmod y = z := ⟨_, rfl⟩
        rw [hz] at z0 z1 zg
        have zw : IntKind.i64.wrap z = z := IntWalk.i64_in _ (by omega)
        have ZG := hid zg
        clear zg
        go_wp2
        go_quiet (fail)
        go_wp2
        go_roundw
        case rel => exact ⟨y, z, qd + nq, rfl, rfl, by omega, by omega, by omega, by omega, by rw [ZG.out]; exact GH.out, World.drewN_drewN _ _ _⟩
        case measure => simp [intOf]; omega
set_option maxRecDepth 100000 in
set_option maxHeartbeats 4000000 in
theorem rnew_walk1 (A B g p q X Y e : Int) (G : Nat) (w : World) (a0 : A ≤ 0) (a1 : -9223372036854775808 ≤ A) (b0 : B < 0) (b1 : -9223372036854775808 ≤ B) (b2 : -9223372036854775807 ≤ B)
    (hg : Int.gcd A B = G) (gg : (G : Int) = g) (g1 : 1 ≤ g) (g2 : g ≤ 9223372036854775808) (P Q : Int) (f1 : A.tdiv g = P) (f2 : B.tdiv g = Q) (e1 : wrap64 (-P) = p) (e2 : wrap64 (-Q) = q) (ga : (-g == 0) = false) (gn : ¬ g = 0) (s : Bool) (hs : decide (A < 0) = s)
    (hc : ((p < 0 ∨ q < 0 ∨ 1000000000000000 < p ∨ 1000000000000000 < q) ∧ X = 0 ∧ Y = 0 ∧ e = 8) ∨ (0 ≤ p ∧ 0 ≤ q ∧ p ≤ 1000000000000000 ∧ q ≤ 1000000000000000 ∧ s = false ∧ X = p ∧ Y = q ∧ e = 0) ∨ (0 ≤ p ∧ 0 ≤ q ∧ p ≤ 1000000000000000 ∧ q ≤ 1000000000000000 ∧ s = !false ∧ X = -p ∧ Y = q ∧ e = 0)) :
    Calls Try.prog 44 #[.int .i64 A, .int .i64 (-B)] w (Gives (.tuple #[.agg #[.int .i64 X, .int .i64 Y], .int .i64 e]) w) := by
  have HG := hid hg
  have GG := hid gg
  have gd : ((-B) == 0) = false := by simp; omega
  have hd : decide ((-B) < 0) = false := by simp; omega
  have hd2 : decide (0 < B) = false := by simp; omega
  clear hg gg
  rcases hc with ⟨c, hX, hY, he⟩ | ⟨p0, q0, p1, q1, hss, hX, hY, he⟩ | ⟨p0, q0, p1, q1, hss, hX, hY, he⟩
  · rcases c with c | c | c | c
    all_goals
      subst hX
      subst hY
      subst he
      go_enter Try.func44, Try.ntmps44
      go_wp2_with fail
      go_loopw [8, 9] (fun v v' wr => GNeg G (w.alloc (Obj.cells #[.int .i64 0, .int .i64 0] 35)) v v' wr) (fun _ v _ => (intOf v).natAbs)
      case atStart => exact ⟨A, B, 0, by simp, by simp, by omega, by omega, by omega, by omega, HG.out, rfl⟩
      case round =>
        obtain ⟨x, y, qd, rfl, rfl, x0, x1, y0, y1, hg, rfl⟩ := hrel
        have GH := hid hg
        clear hg
        by_cases hy : y = 0
        · subst hy
          have hx : x = -(G : Int) := by
            have := GH.out
            rw [Int.gcd_zero_right] at this
            omega
          rw [GG.out] at hx
          subst hx
          go_wp2
          go_quiet (fail)
          go_wp2
          all_goals
            refine bodyPost_ret (v := .tuple #[.agg #[.int .i64 0, .int .i64 0], .int .i64 8]) (by simp [results, Try.results44, go_sem, *]) rfl ?_
            exact Gives.mk rfl (by repeat' (first | (with_reducible exact Below.refl _ _) | (with_reducible refine Below.alloc ?_ ?_ _) | (with_reducible refine Below.setCell ?_ ?_ _) | (with_reducible refine Below.drew ?_) | (with_reducible refine below_dn ?_ _) | (with_reducible refine Below.trans ?_ (Below.mono (by assumption) ?_)) | (simp; done) | (simp; omega) | omega))
        · have hy1 : y < 0 := by omega
          have gy : (y == 0) = false := by simp; exact hy
          have gyn : (y != 0) = true := by simp; exact hy
          obtain ⟨z0, z1, zg⟩ := neg_step x0 hy1
          obtain ⟨z, hz⟩ : ∃ z, x.tmod y = z := ⟨_, rfl⟩
          rw [hz] at z0 z1 zg
          have zw : IntKind.i64.wrap z = z := IntWalk.i64_in _ (by omega)
          have ZG := hid zg
          clear zg
          go_wp2
          go_quiet (fail)
          go_wp2
          go_roundw
          case rel => exact ⟨y, z, qd + nq, rfl, rfl, by omega, by omega, by omega, by omega, by rw [ZG.out]; exact GH.out, World.drewN_drewN _ _ _⟩
          case measure => simp [intOf]; omega
  · subst hX
    subst hY
    subst he
    rw [hss] at hs
    clear hss
    go_enter Try.func44, Try.ntmps44
    go_wp2_with fail
    go_loopw [8, 9] (fun v v' wr => GNeg G (w.alloc (Obj.cells #[.int .i64 0, .int .i64 0] 35)) v v' wr) (fun _ v _ => (intOf v).natAbs)
    case atStart => exact ⟨A, B, 0, by simp, by simp, by omega, by omega, by omega, by omega, HG.out, rfl⟩
    case round =>
      obtain ⟨x, y, qd, rfl, rfl, x0, x1, y0, y1, hg, rfl⟩ := hrel
      have GH := hid hg
      clear hg
      by_cases hy : y = 0
      · subst hy
        have hx : x = -(G : Int) := by
          have := GH.out
          rw [Int.gcd_zero_right] at this
          omega
        rw [GG.out] at hx
        subst hx
        go_wp2
        go_quiet (fail)
        go_wp2
        all_goals
          refine bodyPost_ret (v := .tuple #[.agg #[.int .i64 X, .int .i64 Y], .int .i64 0]) (by simp [results, Try.results44, go_sem, *]) rfl ?_
          exact Gives.mk rfl (by repeat' (first | (with_reducible exact Below.refl _ _) | (with_reducible refine Below.alloc ?_ ?_ _) | (with_reducible refine Below.setCell ?_ ?_ _) | (with_reducible refine Below.drew ?_) | (with_reducible refine below_dn ?_ _) | (with_reducible refine Below.trans ?_ (Below.mono (by assumption) ?_)) | (simp; done) | (simp; omega) | omega))
      · have hy1 : y < 0 := by omega
        have gy : (y == 0) = false := by simp; exact hy
        have gyn : (y != 0) = true := by simp; exact hy
        obtain ⟨z0, z1, zg⟩ := neg_step x0 hy1
        obtain ⟨z, hz⟩ : ∃ z, x.tmod y = z := ⟨_, rfl⟩
        rw [hz] at z0 z1 zg
        have zw : IntKind.i64.wrap z = z := IntWalk.i64_in _ (by omega)
        have ZG := hid zg
        clear zg
        go_wp2
        go_quiet (fail)
        go_wp2
        go_roundw
        case rel => exact ⟨y, z, qd + nq, rfl, rfl, by omega, by omega, by omega, by omega, by rw [ZG.out]; exact GH.out, World.drewN_drewN _ _ _⟩
        case measure => simp [intOf]; omega
  · subst hX
    subst hY
    subst he
    rw [hss] at hs
    clear hss
    go_enter Try.func44, Try.ntmps44
    go_wp2_with fail
    go_loopw [8, 9] (fun v v' wr => GNeg G (w.alloc (Obj.cells #[.int .i64 0, .int .i64 0] 35)) v v' wr) (fun _ v _ => (intOf v).natAbs)
    case atStart => exact ⟨A, B, 0, by simp, by simp, by omega, by omega, by omega, by omega, HG.out, rfl⟩
    case round =>
      obtain ⟨x, y, qd, rfl, rfl, x0, x1, y0, y1, hg, rfl⟩ := hrel
      have GH := hid hg
      clear hg
      by_cases hy : y = 0
      · subst hy
        have hx : x = -(G : Int) := by
          have := GH.out
          rw [Int.gcd_zero_right] at this
          omega
        rw [GG.out] at hx
        subst hx
        go_wp2
        go_quiet (fail)
        go_wp2
        all_goals
          refine bodyPost_ret (v := .tuple #[.agg #[.int .i64 (-p), .int .i64 Y], .int .i64 0]) (by simp [results, Try.results44, go_sem, *]) rfl ?_
          exact Gives.mk rfl (by repeat' (first | (with_reducible exact Below.refl _ _) | (with_reducible refine Below.alloc ?_ ?_ _) | (with_reducible refine Below.setCell ?_ ?_ _) | (with_reducible refine Below.drew ?_) | (with_reducible refine below_dn ?_ _) | (with_reducible refine Below.trans ?_ (Below.mono (by assumption) ?_)) | (simp; done) | (simp; omega) | omega))
      · have hy1 : y < 0 := by omega
        have gy : (y == 0) = false := by simp; exact hy
        have gyn : (y != 0) = true := by simp; exact hy
        obtain ⟨z0, z1, zg⟩ := neg_step x0 hy1
        obtain ⟨z, hz⟩ : ∃ z, x.tmod y = z := ⟨_, rfl⟩
        rw [hz] at z0 z1 zg
        have zw : IntKind.i64.wrap z = z := IntWalk.i64_in _ (by omega)
        have ZG := hid zg
        clear zg
        go_wp2
        go_quiet (fail)
        go_wp2
        go_roundw
        case rel => exact ⟨y, z, qd + nq, rfl, rfl, by omega, by omega, by omega, by omega, by rw [ZG.out]; exact GH.out, World.drewN_drewN _ _ _⟩
        case measure => simp [intOf]; omega
set_option maxRecDepth 100000 in
set_option maxHeartbeats 4000000 in
theorem rnew_walk2 (A B g p q X Y e : Int) (G : Nat) (w : World) (a0 : A < 0) (a1 : -9223372036854775808 ≤ A) (b0 : B < 0) (b1 : -9223372036854775808 ≤ B) (a2 : -9223372036854775807 ≤ A)
    (hg : Int.gcd A B = G) (gg : (G : Int) = g) (g1 : 1 ≤ g) (g2 : g ≤ 9223372036854775808) (P Q : Int) (f1 : A.tdiv g = P) (f2 : B.tdiv g = Q) (e1 : wrap64 (-P) = p) (e2 : wrap64 (-Q) = q) (ga : (-g == 0) = false) (gn : ¬ g = 0) (s : Bool) (hs : decide ((-A) < 0) = s)
    (hc : ((p < 0 ∨ q < 0 ∨ 1000000000000000 < p ∨ 1000000000000000 < q) ∧ X = 0 ∧ Y = 0 ∧ e = 8) ∨ (0 ≤ p ∧ 0 ≤ q ∧ p ≤ 1000000000000000 ∧ q ≤ 1000000000000000 ∧ s = true ∧ X = p ∧ Y = q ∧ e = 0) ∨ (0 ≤ p ∧ 0 ≤ q ∧ p ≤ 1000000000000000 ∧ q ≤ 1000000000000000 ∧ s = !true ∧ X = -p ∧ Y = q ∧ e = 0)) :
    Calls Try.prog 44 #[.int .i64 (-A), .int .i64 B] w (Gives (.tuple #[.agg #[.int .i64 X, .int .i64 Y], .int .i64 e]) w) := by
  have HG := hid hg
  have GG := hid gg
  have gd : (B == 0) = false := by simp; omega
  have hd : decide (B < 0) = true := by simp; omega
  have hs2 : decide (0 < A) = false := by simp; omega
  clear hg gg
  rcases hc with ⟨c, hX, hY, he⟩ | ⟨p0, q0, p1, q1, hss, hX, hY, he⟩ | ⟨p0, q0, p1, q1, hss, hX, hY, he⟩
  · rcases c with c | c | c | c
    all_goals
      subst hX
      subst hY
      subst he
      go_enter Try.func44, Try.ntmps44
      go_wp2_with fail
      go_loopw [8, 9] (fun v v' wr => GNeg G (w.alloc (Obj.cells #[.int .i64 0, .int .i64 0] 35)) v v' wr) (fun _ v _ => (intOf v).natAbs)
      case atStart => exact ⟨A, B, 0, by simp, by simp, by omega, by omega, by omega, by omega, HG.out, rfl⟩
      case round =>
        obtain ⟨x, y, qd, rfl, rfl, x0, x1, y0, y1, hg, rfl⟩ := hrel
        have GH := hid hg
        clear hg
        by_cases hy : y = 0
        · subst hy
          have hx : x = -(G : Int) := by
            have := GH.out
            rw [Int.gcd_zero_right] at this
            omega
          rw [GG.out] at hx
          subst hx
          go_wp2
          go_quiet (fail)
          go_wp2
          all_goals
            refine bodyPost_ret (v := .tuple #[.agg #[.int .i64 0, .int .i64 0], .int .i64 8]) (by simp [results, Try.results44, go_sem, *]) rfl ?_
            exact Gives.mk rfl (by repeat' (first | (with_reducible exact Below.refl _ _) | (with_reducible refine Below.alloc ?_ ?_ _) | (with_reducible refine Below.setCell ?_ ?_ _) | (with_reducible refine Below.drew ?_) | (with_reducible refine below_dn ?_ _) | (with_reducible refine Below.trans ?_ (Below.mono (by assumption) ?_)) | (simp; done) | (simp; omega) | omega))
        · have hy1 : y < 0 := by omega
          have gy : (y == 0) = false := by simp; exact hy
          have gyn : (y != 0) = true := by simp; exact hy
          obtain ⟨z0, z1, zg⟩ := neg_step x0 hy1
          obtain ⟨z, hz⟩ : ∃ z, x.tmod y = z := ⟨_, rfl⟩
          rw [hz] at z0 z1 zg
          have zw : IntKind.i64.wrap z = z := IntWalk.i64_in _ (by omega)
          have ZG := hid zg
          clear zg
          go_wp2
          go_quiet (fail)
          go_wp2
          go_roundw
          case rel => exact ⟨y, z, qd + nq, rfl, rfl, by omega, by omega, by omega, by omega, by rw [ZG.out]; exact GH.out, World.drewN_drewN _ _ _⟩
          case measure => simp [intOf]; omega
  · exfalso
    have h3 : decide ((-A) < 0) = false := by simp; omega
    rw [h3, hss] at hs
    simp at hs
  · subst hX
    subst hY
    subst he
    rw [hss] at hs
    clear hss
    go_enter Try.func44, Try.ntmps44
    go_wp2_with fail
    go_loopw [8, 9] (fun v v' wr => GNeg G (w.alloc (Obj.cells #[.int .i64 0, .int .i64 0] 35)) v v' wr) (fun _ v _ => (intOf v).natAbs)
    case atStart => exact ⟨A, B, 0, by simp, by simp, by omega, by omega, by omega, by omega, HG.out, rfl⟩
    case round =>
      obtain ⟨x, y, qd, rfl, rfl, x0, x1, y0, y1, hg, rfl⟩ := hrel
      have GH := hid hg
      clear hg
      by_cases hy : y = 0
      · subst hy
        have hx : x = -(G : Int) := by
          have := GH.out
          rw [Int.gcd_zero_right] at this
          omega
        rw [GG.out] at hx
        subst hx
        go_wp2
        go_quiet (fail)
        go_wp2
        all_goals
          refine bodyPost_ret (v := .tuple #[.agg #[.int .i64 (-p), .int .i64 Y], .int .i64 0]) (by simp [results, Try.results44, go_sem, *]) rfl ?_
          exact Gives.mk rfl (by repeat' (first | (with_reducible exact Below.refl _ _) | (with_reducible refine Below.alloc ?_ ?_ _) | (with_reducible refine Below.setCell ?_ ?_ _) | (with_reducible refine Below.drew ?_) | (with_reducible refine below_dn ?_ _) | (with_reducible refine Below.trans ?_ (Below.mono (by assumption) ?_)) | (simp; done) | (simp; omega) | omega))
      · have hy1 : y < 0 := by omega
        have gy : (y == 0) = false := by simp; exact hy
        have gyn : (y != 0) = true := by simp; exact hy
        obtain ⟨z0, z1, zg⟩ := neg_step x0 hy1
        obtain ⟨z, hz⟩ : ∃ z, x.tmod y = z := ⟨_, rfl⟩
        rw [hz] at z0 z1 zg
        have zw : IntKind.i64.wrap z = z := IntWalk.i64_in _ (by omega)
        have ZG := hid zg
        clear zg
        go_wp2
        go_quiet (fail)
        go_wp2
        go_roundw
        case rel => exact ⟨y, z, qd + nq, rfl, rfl, by omega, by omega, by omega, by omega, by rw [ZG.out]; exact GH.out, World.drewN_drewN _ _ _⟩
        case measure => simp [intOf]; omega
set_option maxRecDepth 100000 in
set_option maxHeartbeats 4000000 in
theorem rnew_walk3 (A B g p q X Y e : Int) (G : Nat) (w : World) (a0 : A < 0) (a1 : -9223372036854775808 ≤ A) (b0 : B < 0) (b1 : -9223372036854775808 ≤ B) (a2 : -9223372036854775807 ≤ A) (b2 : -9223372036854775807 ≤ B)
    (hg : Int.gcd A B = G) (gg : (G : Int) = g) (g1 : 1 ≤ g) (g2 : g ≤ 9223372036854775808) (P Q : Int) (f1 : A.tdiv g = P) (f2 : B.tdiv g = Q) (e1 : wrap64 (-P) = p) (e2 : wrap64 (-Q) = q) (ga : (-g == 0) = false) (gn : ¬ g = 0) (s : Bool) (hs : decide ((-A) < 0) = s)
    (hc : ((p < 0 ∨ q < 0 ∨ 1000000000000000 < p ∨ 1000000000000000 < q) ∧ X = 0 ∧ Y = 0 ∧ e = 8) ∨ (0 ≤ p ∧ 0 ≤ q ∧ p ≤ 1000000000000000 ∧ q ≤ 1000000000000000 ∧ s = false ∧ X = p ∧ Y = q ∧ e = 0) ∨ (0 ≤ p ∧ 0 ≤ q ∧ p ≤ 1000000000000000 ∧ q ≤ 1000000000000000 ∧ s = !false ∧ X = -p ∧ Y = q ∧ e = 0)) :
    Calls Try.prog 44 #[.int .i64 (-A), .int .i64 (-B)] w (Gives (.tuple #[.agg #[.int .i64 X, .int .i64 Y], .int .i64 e]) w) := by
  have HG := hid hg
  have GG := hid gg
  have gd : ((-B) == 0) = false := by simp; omega
  have hd : decide ((-B) < 0) = false := by simp; omega
  have hd2 : decide (0 < B) = false := by simp; omega
  have hs2 : decide (0 < A) = false := by simp; omega
  clear hg gg
  rcases hc with ⟨c, hX, hY, he⟩ | ⟨p0, q0, p1, q1, hss, hX, hY, he⟩ | ⟨p0, q0, p1, q1, hss, hX, hY, he⟩
  · rcases c with c | c | c | c
    all_goals
      subst hX
      subst hY
      subst he
      go_enter Try.func44, Try.ntmps44
      go_wp2_with fail
      go_loopw [8, 9] (fun v v' wr => GNeg G (w.alloc (Obj.cells #[.int .i64 0, .int .i64 0] 35)) v v' wr) (fun _ v _ => (intOf v).natAbs)
      case atStart => exact ⟨A, B, 0, by simp, by simp, by omega, by omega, by omega, by omega, HG.out, rfl⟩
      case round =>
        obtain ⟨x, y, qd, rfl, rfl, x0, x1, y0, y1, hg, rfl⟩ := hrel
        have GH := hid hg
        clear hg
        by_cases hy : y = 0
        · subst hy
          have hx : x = -(G : Int) := by
            have := GH.out
            rw [Int.gcd_zero_right] at this
            omega
          rw [GG.out] at hx
          subst hx
          go_wp2
          go_quiet (fail)
          go_wp2
          all_goals
            refine bodyPost_ret (v := .tuple #[.agg #[.int .i64 0, .int .i64 0], .int .i64 8]) (by simp [results, Try.results44, go_sem, *]) rfl ?_
            exact Gives.mk rfl (by repeat' (first | (with_reducible exact Below.refl _ _) | (with_reducible refine Below.alloc ?_ ?_ _) | (with_reducible refine Below.setCell ?_ ?_ _) | (with_reducible refine Below.drew ?_) | (with_reducible refine below_dn ?_ _) | (with_reducible refine Below.trans ?_ (Below.mono (by assumption) ?_)) | (simp; done) | (simp; omega) | omega))
        · have hy1 : y < 0 := by omega
          have gy : (y == 0) = false := by simp; exact hy
          have gyn : (y != 0) = true := by simp; exact hy
          obtain ⟨z0, z1, zg⟩ := neg_step x0 hy1
          obtain ⟨z, hz⟩ : ∃ z, x.tmod y = z := ⟨_, rfl⟩
          rw [hz] at z0 z1 zg
          have zw : IntKind.i64.wrap z = z := IntWalk.i64_in _ (by omega)
          have ZG := hid zg
          clear zg
          go_wp2
          go_quiet (fail)
          go_wp2
          go_roundw
          case rel => exact ⟨y, z, qd + nq, rfl, rfl, by omega, by omega, by omega, by omega, by rw [ZG.out]; exact GH.out, World.drewN_drewN _ _ _⟩
          case measure => simp [intOf]; omega
  · subst hX
    subst hY
    subst he
    rw [hss] at hs
    clear hss
    go_enter Try.func44, Try.ntmps44
    go_wp2_with fail
    go_loopw [8, 9] (fun v v' wr => GNeg G (w.alloc (Obj.cells #[.int .i64 0, .int .i64 0] 35)) v v' wr) (fun _ v _ => (intOf v).natAbs)
    case atStart => exact ⟨A, B, 0, by simp, by simp, by omega, by omega, by omega, by omega, HG.out, rfl⟩
    case round =>
      obtain ⟨x, y, qd, rfl, rfl, x0, x1, y0, y1, hg, rfl⟩ := hrel
      have GH := hid hg
      clear hg
      by_cases hy : y = 0
      · subst hy
        have hx : x = -(G : Int) := by
          have := GH.out
          rw [Int.gcd_zero_right] at this
          omega
        rw [GG.out] at hx
        subst hx
        go_wp2
        go_quiet (fail)
        go_wp2
        all_goals
          refine bodyPost_ret (v := .tuple #[.agg #[.int .i64 X, .int .i64 Y], .int .i64 0]) (by simp [results, Try.results44, go_sem, *]) rfl ?_
          exact Gives.mk rfl (by repeat' (first | (with_reducible exact Below.refl _ _) | (with_reducible refine Below.alloc ?_ ?_ _) | (with_reducible refine Below.setCell ?_ ?_ _) | (with_reducible refine Below.drew ?_) | (with_reducible refine below_dn ?_ _) | (with_reducible refine Below.trans ?_ (Below.mono (by assumption) ?_)) | (simp; done) | (simp; omega) | omega))
      · have hy1 : y < 0 := by omega
        have gy : (y == 0) = false := by simp; exact hy
        have gyn : (y != 0) = true := by simp; exact hy
        obtain ⟨z0, z1, zg⟩ := neg_step x0 hy1
        obtain ⟨z, hz⟩ : ∃ z, x.tmod y = z := ⟨_, rfl⟩
        rw [hz] at z0 z1 zg
        have zw : IntKind.i64.wrap z = z := IntWalk.i64_in _ (by omega)
        have ZG := hid zg
        clear zg
        go_wp2
        go_quiet (fail)
        go_wp2
        go_roundw
        case rel => exact ⟨y, z, qd + nq, rfl, rfl, by omega, by omega, by omega, by omega, by rw [ZG.out]; exact GH.out, World.drewN_drewN _ _ _⟩
        case measure => simp [intOf]; omega
  · exfalso
    have h3 : decide ((-A) < 0) = false := by simp; omega
    rw [h3, hss] at hs
    simp at hs
end Go.Proofs.Ytmdaanigkhikfab
