/-
  IntervalProducts: the walk where the scaled interval is compared, and its numbers.
-/
import Derived.Test.YtnphibbhcogdkaaIproducts
import Derived.Deep.RegionHeld3
import Derived.IntWalk
namespace Go.Proofs.Ytnphibbhcogdkaa
open Go.RowKit
set_option linter.unusedVariables false
set_option linter.unusedSimpArgs false

set_option maxRecDepth 100000 in
set_option maxHeartbeats 8000000 in
theorem products_in (a b n d x A B C D lo hi l1 q1 l2 q2 : Int) (w : World) (a0 : -1000000000 ≤ a) (b0 : b ≤ 1000000000) (x0 : a ≤ x) (x1 : x ≤ b) (n0 : 0 ≤ n) (n1 : n ≤ 1000000) (d0 : 1 ≤ d) (d1 : d ≤ 1000000000)
    (hA : x * n = A) (hB : (-x) * n = B) (hC : a * n = C) (hD : (-b) * n = D)
    (A0 : -1000000000000000 ≤ A) (A1 : A ≤ 1000000000000000) (B0 : -1000000000000000 ≤ B) (B1 : B ≤ 1000000000000000) (C0 : -1000000000000000 ≤ C) (C1 : C ≤ 1000000000000000) (D0 : -1000000000000000 ≤ D) (D1 : D ≤ 1000000000000000)
    (q10 : -1000000000000000 ≤ q1) (q11 : q1 ≤ 1000000000000000) (q20 : -1000000000000000 ≤ q2) (q21 : q2 ≤ 1000000000000000)
    (e1 : lo = l2) (e2 : hi = -q2)
    (sc : ∀ w : World, Calls Try.prog 56 #[.agg #[.int .i64 a, .int .i64 b], .agg #[.int .i64 n, .int .i64 d]] w (Gives (.tuple #[.agg #[.int .i64 lo, .int .i64 hi], .int .i64 0]) w))
    (cA : ∀ W : World, W.cell? ⟨w.heap.size + 1, 0, none⟩ = some (.int .i64 n) → W.cell? ⟨w.heap.size + 1, 1, none⟩ = some (.int .i64 d) → Calls Try.prog 70 #[.int .i64 A, .pointer (some ⟨w.heap.size + 1, 0, none⟩)] W fun e w' => e = .returned (.int .i64 l1) ∧ w' = W)
    (cB : ∀ W : World, W.cell? ⟨w.heap.size + 1, 0, none⟩ = some (.int .i64 n) → W.cell? ⟨w.heap.size + 1, 1, none⟩ = some (.int .i64 d) → Calls Try.prog 70 #[.int .i64 B, .pointer (some ⟨w.heap.size + 1, 0, none⟩)] W fun e w' => e = .returned (.int .i64 q1) ∧ w' = W)
    (cC : ∀ W : World, W.cell? ⟨w.heap.size + 1, 0, none⟩ = some (.int .i64 n) → W.cell? ⟨w.heap.size + 1, 1, none⟩ = some (.int .i64 d) → Calls Try.prog 70 #[.int .i64 C, .pointer (some ⟨w.heap.size + 1, 0, none⟩)] W fun e w' => e = .returned (.int .i64 l2) ∧ w' = W)
    (cD : ∀ W : World, W.cell? ⟨w.heap.size + 1, 0, none⟩ = some (.int .i64 n) → W.cell? ⟨w.heap.size + 1, 1, none⟩ = some (.int .i64 d) → Calls Try.prog 70 #[.int .i64 D, .pointer (some ⟨w.heap.size + 1, 0, none⟩)] W fun e w' => e = .returned (.int .i64 q2) ∧ w' = W)
    (co1 : ∀ w : World, Calls Try.prog 64 #[.agg #[.int .i64 lo, .int .i64 hi], .int .i64 l1] w (Gives (.bool true) w))
    (co2 : ∀ w : World, Calls Try.prog 64 #[.agg #[.int .i64 lo, .int .i64 hi], .int .i64 (-q1)] w (Gives (.bool true) w)) :
    Calls Try.prog 13 #[.agg #[.int .i64 a, .int .i64 b], .agg #[.int .i64 n, .int .i64 d], .int .i64 x] w (Gives (.bool true) w) := by
  subst e1 e2
  go_enter Try.func13, Try.ntmps13
  go_wp2_with fail
  refine (sc _).mono ?_; rintro e u1 ⟨rfl, hb⟩
  have pz : w.heap.size < (u1).heap.size := Nat.lt_of_lt_of_le (show w.heap.size < _ from (by first | assumption | (simp; done) | (simp; omega) | (dsimp only; omega) | omega)) hb.size; have p0 : (u1).cell? ⟨w.heap.size, 0, none⟩ = some (.int .i64 (a)) := (hb.cell (p := ⟨w.heap.size, 0, none⟩) (by first | assumption | (simp; done) | (simp; omega) | (dsimp only; omega) | omega)).trans (by first | assumption | (simp [go_sem]; done) | (simp [go_sem, *]; done)); have p1 : (u1).cell? ⟨w.heap.size, 1, none⟩ = some (.int .i64 (b)) := (hb.cell (p := ⟨w.heap.size, 1, none⟩) (by first | assumption | (simp; done) | (simp; omega) | (dsimp only; omega) | omega)).trans (by first | assumption | (simp [go_sem]; done) | (simp [go_sem, *]; done))
  have fz : w.heap.size + 1 < (u1).heap.size := Nat.lt_of_lt_of_le (show w.heap.size + 1 < _ from (by first | assumption | (simp; done) | (simp; omega) | (dsimp only; omega) | omega)) hb.size; have f0 : (u1).cell? ⟨w.heap.size + 1, 0, none⟩ = some (.int .i64 (n)) := (hb.cell (p := ⟨w.heap.size + 1, 0, none⟩) (by first | assumption | (simp; done) | (simp; omega) | (dsimp only; omega) | omega)).trans (by first | assumption | (simp [go_sem]; done) | (simp [go_sem, *]; done)); have f1 : (u1).cell? ⟨w.heap.size + 1, 1, none⟩ = some (.int .i64 (d)) := (hb.cell (p := ⟨w.heap.size + 1, 1, none⟩) (by first | assumption | (simp; done) | (simp; omega) | (dsimp only; omega) | omega)).trans (by first | assumption | (simp [go_sem]; done) | (simp [go_sem, *]; done))
  have BN : Below w.heap.size w u1 := by repeat' (first | (with_reducible exact Below.refl _ _) | (with_reducible refine Below.alloc ?_ ?_ _) | (with_reducible refine Below.setCell ?_ ?_ _) | (with_reducible refine Below.drew ?_) | (with_reducible refine Below.trans ?_ (Below.mono (by assumption) ?_)) | (simp; done) | (simp; omega) | omega)
  have hsz := BN.size
  have BH := hid BN
  clear hb BN sc
  go_wp2_with fail
  go_quiet ((first | (go_at_call 70; (with_reducible exact Calls.quiet_of_same (cA _ (by simp [go_sem, *]) (by simp [go_sem, *])))) | (go_at_call 70; (with_reducible exact Calls.quiet_of_same (cB _ (by simp [go_sem, *]) (by simp [go_sem, *]))))))
  go_wp2_with fail
  have K : Hid (∀ W', Below (u1.heap.size + 1) (u1.alloc (Obj.cells #[.int .i64 lo, .int .i64 (-q2)] 49)) W' → (Below (u1.heap.size + 1) (u1.alloc (Obj.cells #[.int .i64 lo, .int .i64 (-q2)] 49)) W' ∧ W'.cell? ⟨w.heap.size, 0, none⟩ = some (.int .i64 a) ∧ W'.cell? ⟨w.heap.size, 1, none⟩ = some (.int .i64 b) ∧ W'.cell? ⟨w.heap.size + 1, 0, none⟩ = some (.int .i64 n) ∧ W'.cell? ⟨w.heap.size + 1, 1, none⟩ = some (.int .i64 d) ∧ W'.cell? ⟨u1.heap.size, 0, none⟩ = some (.int .i64 lo) ∧ W'.cell? ⟨u1.heap.size, 1, none⟩ = some (.int .i64 (-q2)))) := hid fun W' B =>
    ⟨B, (B.cell (p := ⟨w.heap.size, 0, none⟩) (by first | assumption | (simp; done) | (simp; omega) | (dsimp only; omega) | omega)).trans (by first | assumption | (simp [go_sem]; done) | (simp [go_sem, *]; done)), (B.cell (p := ⟨w.heap.size, 1, none⟩) (by first | assumption | (simp; done) | (simp; omega) | (dsimp only; omega) | omega)).trans (by first | assumption | (simp [go_sem]; done) | (simp [go_sem, *]; done)), (B.cell (p := ⟨w.heap.size + 1, 0, none⟩) (by first | assumption | (simp; done) | (simp; omega) | (dsimp only; omega) | omega)).trans (by first | assumption | (simp [go_sem]; done) | (simp [go_sem, *]; done)), (B.cell (p := ⟨w.heap.size + 1, 1, none⟩) (by first | assumption | (simp; done) | (simp; omega) | (dsimp only; omega) | omega)).trans (by first | assumption | (simp [go_sem]; done) | (simp [go_sem, *]; done)), (B.cell (p := ⟨u1.heap.size, 0, none⟩) (by first | assumption | (simp; done) | (simp; omega) | (dsimp only; omega) | omega)).trans (by first | assumption | (simp [go_sem]; done) | (simp [go_sem, *]; done)), (B.cell (p := ⟨u1.heap.size, 1, none⟩) (by first | assumption | (simp; done) | (simp; omega) | (dsimp only; omega) | omega)).trans (by first | assumption | (simp [go_sem]; done) | (simp [go_sem, *]; done))⟩
  clear pz p0 p1 cA cB
  have wC : IntKind.i64.wrap C = C := IntWalk.i64_in _ (by omega)
  have wD : IntKind.i64.wrap D = D := IntWalk.i64_in _ (by omega)
  have wb : IntKind.i64.wrap (-b) = -b := IntWalk.i64_in _ (by omega)
  have wq : IntKind.i64.wrap (-q2) = -q2 := IntWalk.i64_in _ (by omega)
  go_region_held3 (fun w' => Below (u1.heap.size + 1) (u1.alloc (Obj.cells #[.int .i64 lo, .int .i64 (-q2)] 49)) w' ∧ w'.cell? ⟨w.heap.size, 0, none⟩ = some (.int .i64 a) ∧ w'.cell? ⟨w.heap.size, 1, none⟩ = some (.int .i64 b) ∧ w'.cell? ⟨w.heap.size + 1, 0, none⟩ = some (.int .i64 n) ∧ w'.cell? ⟨w.heap.size + 1, 1, none⟩ = some (.int .i64 d) ∧ w'.cell? ⟨u1.heap.size, 0, none⟩ = some (.int .i64 lo) ∧ w'.cell? ⟨u1.heap.size, 1, none⟩ = some (.int .i64 (-q2))) ((exact K.out _ (by repeat' (first | (with_reducible exact Below.refl _ _) | (with_reducible refine Below.alloc ?_ ?_ _) | (with_reducible refine Below.setCell ?_ ?_ _) | (with_reducible refine Below.drew ?_) | (with_reducible refine below_dn ?_ _) | (with_reducible refine Below.trans ?_ (Below.mono (by assumption) ?_)) | (simp; done) | (simp; omega) | omega))))
    (first | (go_at_call 70; (with_reducible refine (cC _ ?_ ?_).mono ?_); (exact (K.out _ (by repeat' (first | (with_reducible exact Below.refl _ _) | (with_reducible refine Below.alloc ?_ ?_ _) | (with_reducible refine Below.setCell ?_ ?_ _) | (with_reducible refine Below.drew ?_) | (with_reducible refine below_dn ?_ _) | (with_reducible refine Below.trans ?_ (Below.mono (by assumption) ?_)) | (simp; done) | (simp; omega) | omega))).2.2.2.1); (exact (K.out _ (by repeat' (first | (with_reducible exact Below.refl _ _) | (with_reducible refine Below.alloc ?_ ?_ _) | (with_reducible refine Below.setCell ?_ ?_ _) | (with_reducible refine Below.drew ?_) | (with_reducible refine below_dn ?_ _) | (with_reducible refine Below.trans ?_ (Below.mono (by assumption) ?_)) | (simp; done) | (simp; omega) | omega))).2.2.2.2.1); rintro e x1 ⟨rfl, rfl⟩) | (go_at_call 70; (with_reducible refine (cD _ ?_ ?_).mono ?_); (exact (K.out _ (by repeat' (first | (with_reducible exact Below.refl _ _) | (with_reducible refine Below.alloc ?_ ?_ _) | (with_reducible refine Below.setCell ?_ ?_ _) | (with_reducible refine Below.drew ?_) | (with_reducible refine below_dn ?_ _) | (with_reducible refine Below.trans ?_ (Below.mono (by assumption) ?_)) | (simp; done) | (simp; omega) | omega))).2.2.2.1); (exact (K.out _ (by repeat' (first | (with_reducible exact Below.refl _ _) | (with_reducible refine Below.alloc ?_ ?_ _) | (with_reducible refine Below.setCell ?_ ?_ _) | (with_reducible refine Below.drew ?_) | (with_reducible refine below_dn ?_ _) | (with_reducible refine Below.trans ?_ (Below.mono (by assumption) ?_)) | (simp; done) | (simp; omega) | omega))).2.2.2.2.1); rintro e x1 ⟨rfl, rfl⟩) | (go_at_call 64; (with_reducible refine (co1 _).mono ?_); rintro e y1 ⟨rfl, hx⟩; have hb1 : Below (u1.heap.size + 1) (u1.alloc (Obj.cells #[.int .i64 lo, .int .i64 (-q2)] 49)) y1 := (by repeat' (first | (with_reducible exact Below.refl _ _) | (with_reducible refine Below.alloc ?_ ?_ _) | (with_reducible refine Below.setCell ?_ ?_ _) | (with_reducible refine Below.drew ?_) | (with_reducible refine below_dn ?_ _) | (with_reducible refine Below.trans ?_ (Below.mono (by assumption) ?_)) | (simp; done) | (simp; omega) | omega)); clear hx; have hz1 : u1.heap.size + 1 ≤ y1.heap.size := (Nat.le_trans (Nat.le_of_eq (World.size_alloc _ _).symm) hb1.size)) | (go_at_call 64; (with_reducible refine (co2 _).mono ?_); rintro e y2 ⟨rfl, hx⟩; have hb2 : Below (u1.heap.size + 1) (u1.alloc (Obj.cells #[.int .i64 lo, .int .i64 (-q2)] 49)) y2 := (by repeat' (first | (with_reducible exact Below.refl _ _) | (with_reducible refine Below.alloc ?_ ?_ _) | (with_reducible refine Below.setCell ?_ ?_ _) | (with_reducible refine Below.drew ?_) | (with_reducible refine below_dn ?_ _) | (with_reducible refine Below.trans ?_ (Below.mono (by assumption) ?_)) | (simp; done) | (simp; omega) | omega)); clear hx; have hz2 : u1.heap.size + 1 ≤ y2.heap.size := (Nat.le_trans (Nat.le_of_eq (World.size_alloc _ _).symm) hb2.size)) | (go_at_call 55; refine (iawake_any _).mono ?_; rintro e y3 ⟨rfl, hx3⟩))
  all_goals
    clear wC wD wb wq
    go_wp2_with fail
    go_ret
    have BB := BH.out
    exact Gives.mk rfl (by repeat' (first | (with_reducible exact Below.refl _ _) | (with_reducible refine Below.alloc ?_ ?_ _) | (with_reducible refine Below.setCell ?_ ?_ _) | (with_reducible refine Below.drew ?_) | (with_reducible refine below_dn ?_ _) | (with_reducible refine Below.trans ?_ (Below.mono (by assumption) ?_)) | (simp; done) | (simp; omega) | omega))
theorem pr_small {x n : Int} (x0 : -1000000000 ≤ x) (x1 : x ≤ 1000000000) (n0 : 0 ≤ n) (n1 : n ≤ 1000000) : -1000000000000000 ≤ x * n ∧ x * n ≤ 1000000000000000 := by
  have h : (x * n).natAbs ≤ 1000000000 * 1000000 := by
    rw [Int.natAbs_mul]
    exact Nat.mul_le_mul (by omega) (by omega)
  omega
theorem pr_div {A d : Int} (A0 : -1000000000000000 ≤ A) (A1 : A ≤ 1000000000000000) (d1 : 1 ≤ d) : -1000000000000000 ≤ A / d ∧ A / d ≤ 1000000000000000 := by
  have := Int.natAbs_ediv_le_natAbs A d
  by_cases h : A = -1000000000000000
  · omega
  · omega
theorem pr_mono {x y n d : Int} (hn : 0 ≤ n) (hd : 0 < d) (h : x ≤ y) : x * n / d ≤ y * n / d := Int.ediv_le_ediv hd (Int.mul_le_mul_of_nonneg_right h hn)
theorem pr_neg (x n : Int) {d : Int} (hd : 0 < d) : x * n / d ≤ -((-x) * n / d) := by
  rw [Int.neg_mul]
  generalize x * n = z
  have h3 := Int.emod_add_mul_ediv z d
  have h6 := Int.emod_add_mul_ediv (-z) d
  have h1 := Int.emod_nonneg z (show d ≠ 0 by omega)
  have h4 := Int.emod_nonneg (-z) (show d ≠ 0 by omega)
  have key : z % d + (-z) % d + d * (z / d + (-z) / d) = 0 := by rw [Int.mul_add]; omega
  by_cases hq : z / d + (-z) / d ≥ 1
  · have : d * 1 ≤ d * (z / d + (-z) / d) := Int.mul_le_mul_of_nonneg_left hq (by omega)
    omega
  · omega
theorem iproducts_any (a b n d x : Int) (a0 : -9223372036854775808 ≤ a) (a1 : a ≤ 9223372036854775807) (b0 : -9223372036854775808 ≤ b) (b1 : b ≤ 9223372036854775807) (n0 : -9223372036854775808 ≤ n) (n1 : n ≤ 9223372036854775807) (d0 : -9223372036854775808 ≤ d) (d1 : d ≤ 9223372036854775807) (x0 : -9223372036854775808 ≤ x) (x1 : x ≤ 9223372036854775807) (w : World) :
    Calls Try.prog 13 #[.agg #[.int .i64 a, .int .i64 b], .agg #[.int .i64 n, .int .i64 d], .int .i64 x] w (Gives (.bool true) w) := by
  by_cases h : a < -1000000000 ∨ 1000000000 < b ∨ x < a ∨ b < x ∨ n < 0 ∨ 1000000 < n ∨ d < 1 ∨ 1000000000 < d
  · exact products_out a b n d x w h
  · obtain ⟨⟨lo, hi, e⟩, hS⟩ : ∃ r, Sp.scaleS a b n d = r := ⟨_, rfl⟩
    have sc := fun w => iscale_any a b n d lo hi e n0 n1 d0 d1 hS w
    have hd : 0 < d := by omega
    have kc : Sp.chk a b = 0 := Sp.chk_zero.2 (by omega)
    have pA := pr_small (show -1000000000 ≤ x by omega) (by omega) (show 0 ≤ n by omega) (by omega)
    have pB := pr_small (show -1000000000 ≤ -x by omega) (by omega) (show 0 ≤ n by omega) (by omega)
    have pC := pr_small (show -1000000000 ≤ a by omega) (by omega) (show 0 ≤ n by omega) (by omega)
    have pD := pr_small (show -1000000000 ≤ -b by omega) (by omega) (show 0 ≤ n by omega) (by omega)
    have dA := pr_div pA.1 pA.2 (show 1 ≤ d by omega)
    have dB := pr_div pB.1 pB.2 (show 1 ≤ d by omega)
    have dC := pr_div pC.1 pC.2 (show 1 ≤ d by omega)
    have dD := pr_div pD.1 pD.2 (show 1 ≤ d by omega)
    unfold Sp.scaleS at hS
    rw [if_neg (by omega)] at hS
    by_cases kf : Sp.fchk n d = 0
    · rw [if_neg (by omega), if_neg (by omega)] at hS
      have fa : Sp.flp a n d = (a * n / d, 0) := by unfold Sp.flp; rw [if_pos dC]
      have fb : Sp.flp (-b) n d = ((-b) * n / d, 0) := by unfold Sp.flp; rw [if_pos dD]
      rw [fa, fb, if_neg (by simp), if_neg (by simp)] at hS
      simp only [Prod.mk.injEq] at hS
      obtain ⟨rfl, rfl, rfl⟩ := hS
      have m1 := pr_mono (show 0 ≤ n by omega) hd (show a ≤ x by omega)
      have m2 := pr_mono (show 0 ≤ n by omega) hd (show -b ≤ -x by omega)
      have m3 := pr_neg x n hd
      have co : ∀ v : Int, a * n / d ≤ v → v ≤ -((-b) * n / d) → ∀ w : World, Calls Try.prog 64 #[.agg #[.int .i64 (a * n / d), .int .i64 (-((-b) * n / d))], .int .i64 v] w (Gives (.bool true) w) := fun v l1 l2 w => by
        have e : Sp.inB (a * n / d) (-((-b) * n / d)) v = true := by
          unfold Sp.inB
          rw [Sp.chk_zero.2 (by omega)]
          simp; omega
        rw [← e]; exact icontains_any _ _ v w
      exact products_in a b n d x (x * n) ((-x) * n) (a * n) ((-b) * n) _ _ (x * n / d) ((-x) * n / d) (a * n / d) ((-b) * n / d) w (by omega) (by omega) (by omega) (by omega) (by omega) (by omega) (by omega) (by omega) rfl rfl rfl rfl
        pA.1 pA.2 pB.1 pB.2 pC.1 pC.2 pD.1 pD.2 dB.1 dB.2 dD.1 dD.2 rfl rfl sc
        (fun W h0 h1 => cl_floor _ n d _ pA.1 pA.2 (by omega) (by omega) W h0 h1) (fun W h0 h1 => cl_floor _ n d _ pB.1 pB.2 (by omega) (by omega) W h0 h1) (fun W h0 h1 => cl_floor _ n d _ pC.1 pC.2 (by omega) (by omega) W h0 h1) (fun W h0 h1 => cl_floor _ n d _ pD.1 pD.2 (by omega) (by omega) W h0 h1)
        (co _ (by omega) (by omega)) (co _ (by omega) (by omega))
    · rw [if_pos (by omega)] at hS
      simp only [Prod.mk.injEq] at hS
      obtain ⟨rfl, rfl, rfl⟩ := hS
      have e3 : Sp.fchk n d = 3 := by
        unfold Sp.fchk at kf ⊢
        rw [if_neg (by omega), if_neg (by omega)] at kf ⊢
        split at kf
        · rw [if_pos (by assumption)]
        · omega
      rw [e3] at sc
      exact products_form a b n d x w (by omega) (by omega) (by omega) (by omega) (by omega) (by omega) (by omega) (by omega) sc
end Go.Proofs.Ytnphibbhcogdkaa
