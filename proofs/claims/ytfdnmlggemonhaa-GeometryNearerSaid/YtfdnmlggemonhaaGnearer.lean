/-
  Layer 7: GeometryNearer: the walk. Written by tools/gen_gnearer.py.
-/
import Derived.Test.YtfdnmlggemonhaaGl
import Derived.Test.YtfdnmlggemonhaaParr
namespace Go.Proofs.Ytfdnmlggemonhaa
open Go.RowKit
set_option linter.unusedVariables false
set_option linter.unusedSimpArgs false

namespace Sp
theorem step_b {dx K m t : Int} (hd : -100000 ≤ dx ∧ dx ≤ 100000) (hk : 0 ≤ K ∧ K ≤ 4) (hm : dx * K = m) (ht : m.tdiv 4 = t) : -400000 ≤ m ∧ m ≤ 400000 ∧ ((0 ≤ t ∧ t ≤ dx) ∨ (dx ≤ t ∧ t ≤ 0)) := by
  rcases Int.le_total 0 dx with h | h
  · have h1 := Int.mul_nonneg h hk.1
    have h2 := Int.mul_le_mul_of_nonneg_left hk.2 h
    rw [hm] at h1 h2
    rw [Int.tdiv_eq_ediv_of_nonneg h1] at ht
    omega
  · have h1 := Int.mul_nonneg (show 0 ≤ -dx by omega) hk.1
    have h2 := Int.mul_le_mul_of_nonneg_left hk.2 (show 0 ≤ -dx by omega)
    rw [Int.neg_mul] at h1 h2
    rw [hm] at h1 h2
    have e : m.tdiv 4 = -((-m).tdiv 4) := by rw [Int.neg_tdiv, Int.neg_neg]
    rw [e, Int.tdiv_eq_ediv_of_nonneg h1] at ht
    omega
theorem nearer_math (p a b : Pt) {r m e e2 : Int} {v v2 : Bool} (r0 : 0 ≤ r) (r1 : r ≤ 255) (m0 : 0 ≤ m) (m1 : m ≤ 255) (h1 : nearsS p a b r = (v, e)) (h2 : nearsS p a b (r + m) = (v2, e2)) :
    (e ≠ 0 ∧ e2 = e) ∨ (e = 0 ∧ e2 = 0 ∧ (v = true → v2 = true) ∧ okP p = true ∧ okP a = true ∧ okP b = true ∧ v = nearS p a b r) := by
  have f1 : farOk r = true := by rw [farOk_iff]; omega
  have f2 : farOk (r + m) = true := by rw [farOk_iff]; omega
  unfold nearsS at h1 h2
  rw [f1] at h1
  rw [f2] at h2
  by_cases c : (okP p && okP a && okP b && true) = true
  · rw [if_pos c] at h1 h2
    simp only [Prod.mk.injEq] at h1 h2
    simp only [Bool.and_eq_true] at c
    refine .inr ⟨h1.2.symm, h2.2.symm, fun hv => ?_, c.1.1.1, c.1.1.2, c.1.2, h1.1.symm⟩
    rw [← h2.1]
    exact near_more r0 (by omega) (h1.1.trans hv)
  · rw [if_neg c] at h1 h2
    simp only [Prod.mk.injEq] at h1 h2
    exact .inl ⟨by omega, by omega⟩
end Sp
def NerRel (V : World) (t : Value) (wr : World) : Prop := ∃ K : Int, t = .int .i64 K ∧ 0 ≤ K ∧ K ≤ 5 ∧ Below V.heap.size V wr
set_option maxRecDepth 100000 in
set_option maxHeartbeats 4000000 in
theorem nearer_as (x0 x1 x2 x3 x4 x5 : Int) (r m : Int) (r0 : 0 ≤ r) (r1 : r ≤ 255) (m0 : 0 ≤ m) (m1 : m ≤ 255) (w : World) :
    Calls Try.prog 9 #[.agg #[.int .i64 x0, .int .i64 x1, .int .i64 x2, .int .i64 x3, .int .i64 x4, .int .i64 x5], .int .u8 r, .int .u8 m] w (Gives (.bool true) w) := by
  obtain ⟨⟨v, e⟩, hc1⟩ : ∃ r_, Sp.nearsS (x0, x1) (x2, x3) (x4, x5) r = r_ := ⟨_, rfl⟩
  have c1 := Near_any (x0, x1) (x2, x3) (x4, x5) r
  rw [hc1] at c1
  dsimp only at c1
  obtain ⟨⟨v2, e2⟩, hc2⟩ : ∃ r_, Sp.nearsS (x0, x1) (x2, x3) (x4, x5) (r + m) = r_ := ⟨_, rfl⟩
  have c2 := Near_any (x0, x1) (x2, x3) (x4, x5) (r + m)
  rw [hc2] at c2
  dsimp only at c2
  have M := Sp.nearer_math (x0, x1) (x2, x3) (x4, x5) r0 r1 m0 m1 hc1 hc2
  clear hc1 hc2
  rcases M with M | M
  · obtain ⟨q1, rfl⟩ := M
    obtain ⟨V, hV⟩ : ∃ V : World, w.alloc (Obj.cells #[.int .i64 x0, .int .i64 x1, .int .i64 x2, .int .i64 x3, .int .i64 x4, .int .i64 x5] 24) = V := ⟨_, rfl⟩
    have bV : Below w.heap.size w V := by rw [← hV]; exact (Below.refl _ _).alloc (Nat.le_refl _) _
    have zV : w.heap.size < V.heap.size := by rw [← hV]; simp
    have K : Hid (∀ W' : World, Below V.heap.size V W' → (W'.cell? ⟨w.heap.size, 0, none⟩ = some (.int .i64 x0) ∧ W'.cell? ⟨w.heap.size, 1, none⟩ = some (.int .i64 x1) ∧ W'.cell? ⟨w.heap.size, 2, none⟩ = some (.int .i64 x2) ∧ W'.cell? ⟨w.heap.size, 3, none⟩ = some (.int .i64 x3) ∧ W'.cell? ⟨w.heap.size, 4, none⟩ = some (.int .i64 x4) ∧ W'.cell? ⟨w.heap.size, 5, none⟩ = some (.int .i64 x5))) := hid fun W' B => ⟨(B.cell (p := ⟨w.heap.size, 0, none⟩) zV).trans (by rw [← hV]; simp [go_sem]), (B.cell (p := ⟨w.heap.size, 1, none⟩) zV).trans (by rw [← hV]; simp [go_sem]), (B.cell (p := ⟨w.heap.size, 2, none⟩) zV).trans (by rw [← hV]; simp [go_sem]), (B.cell (p := ⟨w.heap.size, 3, none⟩) zV).trans (by rw [← hV]; simp [go_sem]), (B.cell (p := ⟨w.heap.size, 4, none⟩) zV).trans (by rw [← hV]; simp [go_sem]), (B.cell (p := ⟨w.heap.size, 5, none⟩) zV).trans (by rw [← hV]; simp [go_sem])⟩
    have HV := hid hV
    have BV := hid bV
    have ZV := hid zV
    clear hV bV zV
    go_enter Try.func9, Try.ntmps9
    go_upto_region 1 with fail
    rw [HV.out]
    obtain ⟨k0, k1, k2, k3, k4, k5⟩ := K.out _ (Below.refl _ _ : Below V.heap.size V V)
    have zl0 : w.heap.size < V.heap.size := Nat.lt_of_lt_of_le (ZV.out) ((Below.refl _ _ : Below V.heap.size V V)).size
    go_wp2_with fail
    refine ((c1 _)).mono ?_
    rintro _ u1 ⟨rfl, hb⟩
    have B1 : Below V.heap.size V u1 := by have hB := (Below.refl _ _ : Below V.heap.size V V); have hz := hB.size; repeat' (first | (with_reducible exact Below.refl _ _) | (with_reducible refine Below.alloc ?_ ?_ _) | (with_reducible refine Below.setCell ?_ ?_ _) | (with_reducible refine Below.drew ?_) | (with_reducible refine Below.trans ?_ (Below.mono (by assumption) ?_)) | (simp; done) | (simp; omega) | omega)
    clear hb
    clear k0 k1 k2 k3 k4 k5 zl0
    have B1 := hid B1
    obtain ⟨k0, k1, k2, k3, k4, k5⟩ := K.out _ B1.out
    have zl0 : w.heap.size < u1.heap.size := Nat.lt_of_lt_of_le (ZV.out) (B1.out).size
    go_wp2_with fail
    refine ((c2 _)).mono ?_
    rintro _ u2 ⟨rfl, hb⟩
    have B2 : Below V.heap.size V u2 := by have hB := B1.out; have hz := hB.size; repeat' (first | (with_reducible exact Below.refl _ _) | (with_reducible refine Below.alloc ?_ ?_ _) | (with_reducible refine Below.setCell ?_ ?_ _) | (with_reducible refine Below.drew ?_) | (with_reducible refine Below.trans ?_ (Below.mono (by assumption) ?_)) | (simp; done) | (simp; omega) | omega)
    clear hb
    clear k0 k1 k2 k3 k4 k5 zl0
    have B2 := hid B2
    obtain ⟨k0, k1, k2, k3, k4, k5⟩ := K.out _ B2.out
    have zl0 : w.heap.size < u2.heap.size := Nat.lt_of_lt_of_le (ZV.out) (B2.out).size
    go_wp2_with (go_at_call 22; refine (gawake_any _).mono ?_; rintro _ wz ⟨rfl, hz⟩)
    all_goals
      go_ret
      exact Gives.mk rfl (BV.out.trans (((B2.out).trans ((by assumption : Below u2.heap.size u2 _).mono (B2.out).size)).mono BV.out.size))
  · obtain ⟨rfl, rfl, hv, ha, hb, hc, hn⟩ := M
    have oa := (Sp.okP_iff _).1 hb
    have ob := (Sp.okP_iff _).1 hc
    dsimp only at oa ob
    have c3 := Dist2_any (x0, x1) (x2, x3)
    have c4 := Dist2_any (x2, x3) (x4, x5)
    unfold Sp.dist2S at c3 c4
    rw [if_pos (by rw [ha, hb]; rfl)] at c3
    rw [if_pos (by rw [hb, hc]; rfl)] at c4
    dsimp only at c3 c4
    have bx := Sp.sq_b ha hb
    have by_ := Sp.sq_b hb hc
    have rx := Sp.rt_is bx.1
    have ry := Sp.rt_is by_.1
    have lx := Sp.root_b rx bx.2
    have ly := Sp.root_b ry by_.2
    have fy := Sp.hi_facts ry
    have c5 := rroot_any _ _ rx bx.2
    have c6 := rroot_any _ _ ry by_.2
    have far : v = true → Sp.rt (Sp.sq (x0, x1) (x2, x3)) ≤ r + Sp.hiS (Sp.sq (x2, x3) (x4, x5)) (Sp.rt (Sp.sq (x2, x3) (x4, x5))) := fun h => Sp.near_root r0 (by omega) (hn ▸ h) rx.2.1 fy.1
    generalize Sp.hiS (Sp.sq (x0, x1) (x2, x3)) (Sp.rt (Sp.sq (x0, x1) (x2, x3))) = hx at c5
    generalize Sp.hiS (Sp.sq (x2, x3) (x4, x5)) (Sp.rt (Sp.sq (x2, x3) (x4, x5))) = hy at c6 fy far
    generalize Sp.rt (Sp.sq (x0, x1) (x2, x3)) = LX at c5 rx lx far
    generalize Sp.rt (Sp.sq (x2, x3) (x4, x5)) = LY at c6 ry ly fy
    obtain ⟨X, hX⟩ : ∃ X, Sp.sq (x0, x1) (x2, x3) = X := ⟨_, rfl⟩
    obtain ⟨Y, hY⟩ : ∃ Y, Sp.sq (x2, x3) (x4, x5) = Y := ⟨_, rfl⟩
    rw [hX] at c3 c5
    rw [hY] at c4 c6
    have hy0 : 0 ≤ hy ∧ hy ≤ 141422 := by omega
    clear rx ry fy bx by_ hX hY
    have on_ := fun (q : Sp.Pt) (h : Sp.onS q (x2, x3) (x4, x5) = true) (hd : Sp.sq (x0, x1) q ≤ r * r) => hn.trans (Sp.near_on h hd)
    obtain ⟨rr, hrr⟩ : ∃ x, r * r = x := ⟨_, rfl⟩
    have rr0 : 0 ≤ rr := by rw [← hrr]; exact Int.mul_nonneg r0 r0
    have rr1 : rr ≤ 65025 := by rw [← hrr]; exact Int.mul_le_mul r1 r1 r0 (by omega)
    rw [hrr] at on_
    have HN := hid on_
    have HA := hid ha
    have HB0 := hid hb
    have HC := hid hc
    have OA := hid oa
    have OB := hid ob
    have FAR := hid far
    have LXB := hid lx
    have HYB := hid hy0
    clear on_ hn ha hb hc oa ob far lx ly hy0
    obtain ⟨dx, hdx⟩ : ∃ x, x4 - x2 = x := ⟨_, rfl⟩
    obtain ⟨dy, hdy⟩ : ∃ x, x5 - x3 = x := ⟨_, rfl⟩
    cases v
    · clear hv
      obtain ⟨V, hV⟩ : ∃ V : World, w.alloc (Obj.cells #[.int .i64 x0, .int .i64 x1, .int .i64 x2, .int .i64 x3, .int .i64 x4, .int .i64 x5] 24) = V := ⟨_, rfl⟩
      have bV : Below w.heap.size w V := by rw [← hV]; exact (Below.refl _ _).alloc (Nat.le_refl _) _
      have zV : w.heap.size < V.heap.size := by rw [← hV]; simp
      have K : Hid (∀ W' : World, Below V.heap.size V W' → (W'.cell? ⟨w.heap.size, 0, none⟩ = some (.int .i64 x0) ∧ W'.cell? ⟨w.heap.size, 1, none⟩ = some (.int .i64 x1) ∧ W'.cell? ⟨w.heap.size, 2, none⟩ = some (.int .i64 x2) ∧ W'.cell? ⟨w.heap.size, 3, none⟩ = some (.int .i64 x3) ∧ W'.cell? ⟨w.heap.size, 4, none⟩ = some (.int .i64 x4) ∧ W'.cell? ⟨w.heap.size, 5, none⟩ = some (.int .i64 x5))) := hid fun W' B => ⟨(B.cell (p := ⟨w.heap.size, 0, none⟩) zV).trans (by rw [← hV]; simp [go_sem]), (B.cell (p := ⟨w.heap.size, 1, none⟩) zV).trans (by rw [← hV]; simp [go_sem]), (B.cell (p := ⟨w.heap.size, 2, none⟩) zV).trans (by rw [← hV]; simp [go_sem]), (B.cell (p := ⟨w.heap.size, 3, none⟩) zV).trans (by rw [← hV]; simp [go_sem]), (B.cell (p := ⟨w.heap.size, 4, none⟩) zV).trans (by rw [← hV]; simp [go_sem]), (B.cell (p := ⟨w.heap.size, 5, none⟩) zV).trans (by rw [← hV]; simp [go_sem])⟩
      have HV := hid hV
      have BV := hid bV
      have ZV := hid zV
      clear hV bV zV
      go_enter Try.func9, Try.ntmps9
      go_upto_region 1 with fail
      rw [HV.out]
      obtain ⟨k0, k1, k2, k3, k4, k5⟩ := K.out _ (Below.refl _ _ : Below V.heap.size V V)
      have zl0 : w.heap.size < V.heap.size := Nat.lt_of_lt_of_le (ZV.out) ((Below.refl _ _ : Below V.heap.size V V)).size
      go_wp2_with fail
      refine ((c1 _)).mono ?_
      rintro _ u1 ⟨rfl, hb⟩
      have B1 : Below V.heap.size V u1 := by have hB := (Below.refl _ _ : Below V.heap.size V V); have hz := hB.size; repeat' (first | (with_reducible exact Below.refl _ _) | (with_reducible refine Below.alloc ?_ ?_ _) | (with_reducible refine Below.setCell ?_ ?_ _) | (with_reducible refine Below.drew ?_) | (with_reducible refine Below.trans ?_ (Below.mono (by assumption) ?_)) | (simp; done) | (simp; omega) | omega)
      clear hb
      clear k0 k1 k2 k3 k4 k5 zl0
      have B1 := hid B1
      obtain ⟨k0, k1, k2, k3, k4, k5⟩ := K.out _ B1.out
      have zl0 : w.heap.size < u1.heap.size := Nat.lt_of_lt_of_le (ZV.out) (B1.out).size
      go_wp2_with fail
      refine ((c2 _)).mono ?_
      rintro _ u2 ⟨rfl, hb⟩
      have B2 : Below V.heap.size V u2 := by have hB := B1.out; have hz := hB.size; repeat' (first | (with_reducible exact Below.refl _ _) | (with_reducible refine Below.alloc ?_ ?_ _) | (with_reducible refine Below.setCell ?_ ?_ _) | (with_reducible refine Below.drew ?_) | (with_reducible refine Below.trans ?_ (Below.mono (by assumption) ?_)) | (simp; done) | (simp; omega) | omega)
      clear hb
      clear k0 k1 k2 k3 k4 k5 zl0
      have B2 := hid B2
      obtain ⟨k0, k1, k2, k3, k4, k5⟩ := K.out _ B2.out
      have zl0 : w.heap.size < u2.heap.size := Nat.lt_of_lt_of_le (ZV.out) (B2.out).size
      have BL := hid (B2.out)
      go_wp2_with fail
      go_loopw [11] (fun t wr => NerRel V t wr) (fun t _ => (5 - intOf t).toNat)
      case atStart => exact ⟨0, rfl, by omega, by omega, BL.out⟩
      case round =>
        obtain ⟨k, rfl, k0_, k5_, hB⟩ := hrel
        clear k0 k1 k2 k3 k4 k5 zl0
        have HB := hid hB
        clear hB
        rcases Classical.em (k ≤ 4) with y9 | y9
        · have oa := OA.out
          have ob := OB.out
          obtain ⟨m1_, e1⟩ : ∃ x, dx * k = x := ⟨_, rfl⟩
          obtain ⟨t1, e2⟩ : ∃ x, m1_.tdiv 4 = x := ⟨_, rfl⟩
          obtain ⟨m2_, e3⟩ : ∃ x, dy * k = x := ⟨_, rfl⟩
          obtain ⟨t2, e4⟩ : ∃ x, m2_.tdiv 4 = x := ⟨_, rfl⟩
          obtain ⟨qx, e5⟩ : ∃ x, x2 + t1 = x := ⟨_, rfl⟩
          obtain ⟨qy, e6⟩ : ∃ x, x3 + t2 = x := ⟨_, rfl⟩
          have s1 := Sp.step_b (dx := dx) (K := k) (by omega) ⟨k0_, y9⟩ e1 e2
          have s2 := Sp.step_b (dx := dy) (K := k) (by omega) ⟨k0_, y9⟩ e3 e4
          have oq : Sp.okP (qx, qy) = true := by rw [Sp.okP_iff]; dsimp only; omega
          have d1 := OnSegment_any (qx, qy) (x2, x3) (x4, x5)
          have d2 := Dist2_any (x0, x1) (qx, qy)
          unfold Sp.onsegS at d1
          unfold Sp.dist2S at d2
          rw [if_pos (by rw [oq, HB0.out, HC.out]; rfl)] at d1
          rw [if_pos (by rw [HA.out, oq]; rfl)] at d2
          dsimp only at d1 d2
          have hq := HN.out (qx, qy)
          have db := Sp.sq_b HA.out oq
          generalize Sp.onS (qx, qy) (x2, x3) (x4, x5) = o at d1 hq
          generalize Sp.sq (x0, x1) (qx, qy) = D at d2 hq db
          have at1 := at_any qx qy
          have bq1 : -400000 ≤ m1_ ∧ m1_ ≤ 400000 := ⟨s1.1, s1.2.1⟩
          have bq2 : -400000 ≤ m2_ ∧ m2_ ≤ 400000 := ⟨s2.1, s2.2.1⟩
          have bt1 : -100000 ≤ t1 ∧ t1 ≤ 100000 := by omega
          have bt2 : -100000 ≤ t2 ∧ t2 ≤ 100000 := by omega
          have bd1 : -100000 ≤ dx ∧ dx ≤ 100000 := by omega
          have bd2 : -100000 ≤ dy ∧ dy ≤ 100000 := by omega
          have bx1 : 0 ≤ qx ∧ qx ≤ 100000 := by omega
          have by1 : 0 ≤ qy ∧ qy ≤ 100000 := by omega
          have bx2 : 0 ≤ x2 ∧ x2 ≤ 100000 := by omega
          have bx3 : 0 ≤ x3 ∧ x3 ≤ 100000 := by omega
          have HQ := hid hq
          clear s1 s2 oq oa ob hq
          obtain ⟨k0, k1, k2, k3, k4, k5⟩ := K.out _ HB.out
          have zl0 : w.heap.size < wr.heap.size := Nat.lt_of_lt_of_le (ZV.out) (HB.out).size
          go_wp2_with fail
          refine ((at1 _)).mono ?_
          rintro _ u3 ⟨rfl, hb⟩
          have B3 : Below V.heap.size V u3 := by have hB := HB.out; have hz := hB.size; repeat' (first | (with_reducible exact Below.refl _ _) | (with_reducible refine Below.alloc ?_ ?_ _) | (with_reducible refine Below.setCell ?_ ?_ _) | (with_reducible refine Below.drew ?_) | (with_reducible refine Below.trans ?_ (Below.mono (by assumption) ?_)) | (simp; done) | (simp; omega) | omega)
          clear hb
          clear k0 k1 k2 k3 k4 k5 zl0
          have B3 := hid B3
          obtain ⟨k0, k1, k2, k3, k4, k5⟩ := K.out _ B3.out
          have zl0 : w.heap.size < u3.heap.size := Nat.lt_of_lt_of_le (ZV.out) (B3.out).size
          go_upto_region 11 with fail
          obtain ⟨U1, hU⟩ : ∃ U : World, u3.alloc (Obj.cells #[.int .i64 (qx), .int .i64 (qy)] 23) = U := ⟨_, rfl⟩
          have bU : Below u3.heap.size u3 U1 := by rw [← hU]; exact (Below.refl _ _).alloc (Nat.le_refl _) _
          have zU1 : u3.heap.size < U1.heap.size := by rw [← hU]; simp
          have nc0 : U1.cell? ⟨u3.heap.size, 0, none⟩ = some (.int .i64 qx) := by rw [← hU]; simp [go_sem]
          have nc1 : U1.cell? ⟨u3.heap.size, 1, none⟩ = some (.int .i64 qy) := by rw [← hU]; simp [go_sem]
          have K1 : Hid (∀ W' : World, Below U1.heap.size U1 W' → (W'.cell? ⟨w.heap.size, 0, none⟩ = some (.int .i64 x0) ∧ W'.cell? ⟨w.heap.size, 1, none⟩ = some (.int .i64 x1) ∧ W'.cell? ⟨w.heap.size, 2, none⟩ = some (.int .i64 x2) ∧ W'.cell? ⟨w.heap.size, 3, none⟩ = some (.int .i64 x3) ∧ W'.cell? ⟨w.heap.size, 4, none⟩ = some (.int .i64 x4) ∧ W'.cell? ⟨w.heap.size, 5, none⟩ = some (.int .i64 x5) ∧ W'.cell? ⟨u3.heap.size, 0, none⟩ = some (.int .i64 qx) ∧ W'.cell? ⟨u3.heap.size, 1, none⟩ = some (.int .i64 qy))) := hid fun W' B => ⟨(B.cell (p := ⟨w.heap.size, 0, none⟩) (Nat.lt_of_lt_of_le zl0 bU.size)).trans ((bU.cell (p := ⟨w.heap.size, 0, none⟩) zl0).trans k0), (B.cell (p := ⟨w.heap.size, 1, none⟩) (Nat.lt_of_lt_of_le zl0 bU.size)).trans ((bU.cell (p := ⟨w.heap.size, 1, none⟩) zl0).trans k1), (B.cell (p := ⟨w.heap.size, 2, none⟩) (Nat.lt_of_lt_of_le zl0 bU.size)).trans ((bU.cell (p := ⟨w.heap.size, 2, none⟩) zl0).trans k2), (B.cell (p := ⟨w.heap.size, 3, none⟩) (Nat.lt_of_lt_of_le zl0 bU.size)).trans ((bU.cell (p := ⟨w.heap.size, 3, none⟩) zl0).trans k3), (B.cell (p := ⟨w.heap.size, 4, none⟩) (Nat.lt_of_lt_of_le zl0 bU.size)).trans ((bU.cell (p := ⟨w.heap.size, 4, none⟩) zl0).trans k4), (B.cell (p := ⟨w.heap.size, 5, none⟩) (Nat.lt_of_lt_of_le zl0 bU.size)).trans ((bU.cell (p := ⟨w.heap.size, 5, none⟩) zl0).trans k5), (B.cell (p := ⟨u3.heap.size, 0, none⟩) zU1).trans nc0, (B.cell (p := ⟨u3.heap.size, 1, none⟩) zU1).trans nc1⟩
          have BU1 := hid bU
          have zb1_0 := hid (Nat.lt_of_lt_of_le zl0 bU.size)
          have zn1 := hid zU1
          have BV := hid (BV.out.trans (((B3.out).trans (bU.mono (B3.out).size)).mono BV.out.size))
          have BI := hid ((B3.out).trans (bU.mono (B3.out).size))
          rw [hU]
          clear K hU bU zU1 nc0 nc1
          clear k0 k1 k2 k3 k4 k5 zl0
          have K := K1
          obtain ⟨k0, k1, k2, k3, k4, k5, k6, k7⟩ := K.out _ (Below.refl _ _ : Below U1.heap.size U1 U1)
          have zl0 : w.heap.size < U1.heap.size := Nat.lt_of_lt_of_le (zb1_0.out) ((Below.refl _ _ : Below U1.heap.size U1 U1)).size
          have zl1 : u3.heap.size < U1.heap.size := Nat.lt_of_lt_of_le (zn1.out) ((Below.refl _ _ : Below U1.heap.size U1 U1)).size
          go_wp2_with fail
          refine ((d1 _)).mono ?_
          rintro _ u4 ⟨rfl, hb⟩
          have B4 : Below U1.heap.size U1 u4 := by have hB := (Below.refl _ _ : Below U1.heap.size U1 U1); have hz := hB.size; repeat' (first | (with_reducible exact Below.refl _ _) | (with_reducible refine Below.alloc ?_ ?_ _) | (with_reducible refine Below.setCell ?_ ?_ _) | (with_reducible refine Below.drew ?_) | (with_reducible refine Below.trans ?_ (Below.mono (by assumption) ?_)) | (simp; done) | (simp; omega) | omega)
          clear hb
          clear k0 k1 k2 k3 k4 k5 k6 k7 zl0 zl1
          have B4 := hid B4
          obtain ⟨k0, k1, k2, k3, k4, k5, k6, k7⟩ := K.out _ B4.out
          have zl0 : w.heap.size < u4.heap.size := Nat.lt_of_lt_of_le (zb1_0.out) (B4.out).size
          have zl1 : u3.heap.size < u4.heap.size := Nat.lt_of_lt_of_le (zn1.out) (B4.out).size
          go_wp2_with fail
          refine ((d2 _)).mono ?_
          rintro _ u5 ⟨rfl, hb⟩
          have B5 : Below U1.heap.size U1 u5 := by have hB := B4.out; have hz := hB.size; repeat' (first | (with_reducible exact Below.refl _ _) | (with_reducible refine Below.alloc ?_ ?_ _) | (with_reducible refine Below.setCell ?_ ?_ _) | (with_reducible refine Below.drew ?_) | (with_reducible refine Below.trans ?_ (Below.mono (by assumption) ?_)) | (simp; done) | (simp; omega) | omega)
          clear hb
          clear k0 k1 k2 k3 k4 k5 k6 k7 zl0 zl1
          have B5 := hid B5
          obtain ⟨k0, k1, k2, k3, k4, k5, k6, k7⟩ := K.out _ B5.out
          have zl0 : w.heap.size < u5.heap.size := Nat.lt_of_lt_of_le (zb1_0.out) (B5.out).size
          have zl1 : u3.heap.size < u5.heap.size := Nat.lt_of_lt_of_le (zn1.out) (B5.out).size
          have B9 := hid (BI.out.trans ((B5.out).mono BI.out.size))
          cases o
          · go_wp2_with fail
            all_goals
              go_roundw
              case rel => exact ⟨k + 1, by go_num, by omega, by omega, B9.out⟩
              case measure => simp [intOf]; omega
          · have y7 : ¬ D ≤ rr := fun h => by have := HQ.out rfl h; cases this
            go_wp2_with fail
            all_goals
              go_roundw
              case rel => exact ⟨k + 1, by go_num, by omega, by omega, B9.out⟩
              case measure => simp [intOf]; omega
        · have lx := LXB.out
          have hy0 := HYB.out
          have fd0 : ∀ W : World, (Instr.field 30 (.agg #[.int .i64 LX, .int .i64 hx]) 0).run Try.prog W = .ok (.int .i64 LX) W := fun _ => by kernel_rfl
          have fd1 : ∀ W : World, (Instr.field 30 (.agg #[.int .i64 LY, .int .i64 hy]) 1).run Try.prog W = .ok (.int .i64 hy) W := fun _ => by kernel_rfl
          obtain ⟨k0, k1, k2, k3, k4, k5⟩ := K.out _ HB.out
          have zl0 : w.heap.size < wr.heap.size := Nat.lt_of_lt_of_le (ZV.out) (HB.out).size
          go_wp2_with fail
          refine ((c3 _)).mono ?_
          rintro _ u3 ⟨rfl, hb⟩
          have B3 : Below V.heap.size V u3 := by have hB := HB.out; have hz := hB.size; repeat' (first | (with_reducible exact Below.refl _ _) | (with_reducible refine Below.alloc ?_ ?_ _) | (with_reducible refine Below.setCell ?_ ?_ _) | (with_reducible refine Below.drew ?_) | (with_reducible refine Below.trans ?_ (Below.mono (by assumption) ?_)) | (simp; done) | (simp; omega) | omega)
          clear hb
          clear k0 k1 k2 k3 k4 k5 zl0
          have B3 := hid B3
          obtain ⟨k0, k1, k2, k3, k4, k5⟩ := K.out _ B3.out
          have zl0 : w.heap.size < u3.heap.size := Nat.lt_of_lt_of_le (ZV.out) (B3.out).size
          go_wp2_with fail
          refine ((c4 _)).mono ?_
          rintro _ u4 ⟨rfl, hb⟩
          have B4 : Below V.heap.size V u4 := by have hB := B3.out; have hz := hB.size; repeat' (first | (with_reducible exact Below.refl _ _) | (with_reducible refine Below.alloc ?_ ?_ _) | (with_reducible refine Below.setCell ?_ ?_ _) | (with_reducible refine Below.drew ?_) | (with_reducible refine Below.trans ?_ (Below.mono (by assumption) ?_)) | (simp; done) | (simp; omega) | omega)
          clear hb
          clear k0 k1 k2 k3 k4 k5 zl0
          have B4 := hid B4
          obtain ⟨k0, k1, k2, k3, k4, k5⟩ := K.out _ B4.out
          have zl0 : w.heap.size < u4.heap.size := Nat.lt_of_lt_of_le (ZV.out) (B4.out).size
          go_wp2_with fail
          refine ((c5 _)).mono ?_
          rintro _ u5 ⟨rfl, hb⟩
          have B5 : Below V.heap.size V u5 := by have hB := B4.out; have hz := hB.size; repeat' (first | (with_reducible exact Below.refl _ _) | (with_reducible refine Below.alloc ?_ ?_ _) | (with_reducible refine Below.setCell ?_ ?_ _) | (with_reducible refine Below.drew ?_) | (with_reducible refine Below.trans ?_ (Below.mono (by assumption) ?_)) | (simp; done) | (simp; omega) | omega)
          clear hb
          clear k0 k1 k2 k3 k4 k5 zl0
          have B5 := hid B5
          obtain ⟨k0, k1, k2, k3, k4, k5⟩ := K.out _ B5.out
          have zl0 : w.heap.size < u5.heap.size := Nat.lt_of_lt_of_le (ZV.out) (B5.out).size
          go_wp2_with fail
          refine ((c6 _)).mono ?_
          rintro _ u6 ⟨rfl, hb⟩
          have B6 : Below V.heap.size V u6 := by have hB := B5.out; have hz := hB.size; repeat' (first | (with_reducible exact Below.refl _ _) | (with_reducible refine Below.alloc ?_ ?_ _) | (with_reducible refine Below.setCell ?_ ?_ _) | (with_reducible refine Below.drew ?_) | (with_reducible refine Below.trans ?_ (Below.mono (by assumption) ?_)) | (simp; done) | (simp; omega) | omega)
          clear hb
          clear k0 k1 k2 k3 k4 k5 zl0
          have B6 := hid B6
          obtain ⟨k0, k1, k2, k3, k4, k5⟩ := K.out _ B6.out
          have zl0 : w.heap.size < u6.heap.size := Nat.lt_of_lt_of_le (ZV.out) (B6.out).size
          go_wp2_with (go_at_call 22; refine (gawake_any _).mono ?_; rintro _ wz ⟨rfl, hz⟩)
          all_goals
            go_ret
            exact Gives.mk rfl (BV.out.trans (((B6.out).trans ((by assumption : Below u6.heap.size u6 _).mono (B6.out).size)).mono BV.out.size))
    · obtain rfl := hv rfl
      obtain ⟨V, hV⟩ : ∃ V : World, w.alloc (Obj.cells #[.int .i64 x0, .int .i64 x1, .int .i64 x2, .int .i64 x3, .int .i64 x4, .int .i64 x5] 24) = V := ⟨_, rfl⟩
      have bV : Below w.heap.size w V := by rw [← hV]; exact (Below.refl _ _).alloc (Nat.le_refl _) _
      have zV : w.heap.size < V.heap.size := by rw [← hV]; simp
      have K : Hid (∀ W' : World, Below V.heap.size V W' → (W'.cell? ⟨w.heap.size, 0, none⟩ = some (.int .i64 x0) ∧ W'.cell? ⟨w.heap.size, 1, none⟩ = some (.int .i64 x1) ∧ W'.cell? ⟨w.heap.size, 2, none⟩ = some (.int .i64 x2) ∧ W'.cell? ⟨w.heap.size, 3, none⟩ = some (.int .i64 x3) ∧ W'.cell? ⟨w.heap.size, 4, none⟩ = some (.int .i64 x4) ∧ W'.cell? ⟨w.heap.size, 5, none⟩ = some (.int .i64 x5))) := hid fun W' B => ⟨(B.cell (p := ⟨w.heap.size, 0, none⟩) zV).trans (by rw [← hV]; simp [go_sem]), (B.cell (p := ⟨w.heap.size, 1, none⟩) zV).trans (by rw [← hV]; simp [go_sem]), (B.cell (p := ⟨w.heap.size, 2, none⟩) zV).trans (by rw [← hV]; simp [go_sem]), (B.cell (p := ⟨w.heap.size, 3, none⟩) zV).trans (by rw [← hV]; simp [go_sem]), (B.cell (p := ⟨w.heap.size, 4, none⟩) zV).trans (by rw [← hV]; simp [go_sem]), (B.cell (p := ⟨w.heap.size, 5, none⟩) zV).trans (by rw [← hV]; simp [go_sem])⟩
      have HV := hid hV
      have BV := hid bV
      have ZV := hid zV
      clear hV bV zV
      go_enter Try.func9, Try.ntmps9
      go_upto_region 1 with fail
      rw [HV.out]
      obtain ⟨k0, k1, k2, k3, k4, k5⟩ := K.out _ (Below.refl _ _ : Below V.heap.size V V)
      have zl0 : w.heap.size < V.heap.size := Nat.lt_of_lt_of_le (ZV.out) ((Below.refl _ _ : Below V.heap.size V V)).size
      go_wp2_with fail
      refine ((c1 _)).mono ?_
      rintro _ u1 ⟨rfl, hb⟩
      have B1 : Below V.heap.size V u1 := by have hB := (Below.refl _ _ : Below V.heap.size V V); have hz := hB.size; repeat' (first | (with_reducible exact Below.refl _ _) | (with_reducible refine Below.alloc ?_ ?_ _) | (with_reducible refine Below.setCell ?_ ?_ _) | (with_reducible refine Below.drew ?_) | (with_reducible refine Below.trans ?_ (Below.mono (by assumption) ?_)) | (simp; done) | (simp; omega) | omega)
      clear hb
      clear k0 k1 k2 k3 k4 k5 zl0
      have B1 := hid B1
      obtain ⟨k0, k1, k2, k3, k4, k5⟩ := K.out _ B1.out
      have zl0 : w.heap.size < u1.heap.size := Nat.lt_of_lt_of_le (ZV.out) (B1.out).size
      go_wp2_with fail
      refine ((c2 _)).mono ?_
      rintro _ u2 ⟨rfl, hb⟩
      have B2 : Below V.heap.size V u2 := by have hB := B1.out; have hz := hB.size; repeat' (first | (with_reducible exact Below.refl _ _) | (with_reducible refine Below.alloc ?_ ?_ _) | (with_reducible refine Below.setCell ?_ ?_ _) | (with_reducible refine Below.drew ?_) | (with_reducible refine Below.trans ?_ (Below.mono (by assumption) ?_)) | (simp; done) | (simp; omega) | omega)
      clear hb
      clear k0 k1 k2 k3 k4 k5 zl0
      have B2 := hid B2
      obtain ⟨k0, k1, k2, k3, k4, k5⟩ := K.out _ B2.out
      have zl0 : w.heap.size < u2.heap.size := Nat.lt_of_lt_of_le (ZV.out) (B2.out).size
      have BL := hid (B2.out)
      go_wp2_with fail
      go_loopw [11] (fun t wr => NerRel V t wr) (fun t _ => (5 - intOf t).toNat)
      case atStart => exact ⟨0, rfl, by omega, by omega, BL.out⟩
      case round =>
        obtain ⟨k, rfl, k0_, k5_, hB⟩ := hrel
        clear k0 k1 k2 k3 k4 k5 zl0
        have HB := hid hB
        clear hB
        rcases Classical.em (k ≤ 4) with y9 | y9
        · have oa := OA.out
          have ob := OB.out
          obtain ⟨m1_, e1⟩ : ∃ x, dx * k = x := ⟨_, rfl⟩
          obtain ⟨t1, e2⟩ : ∃ x, m1_.tdiv 4 = x := ⟨_, rfl⟩
          obtain ⟨m2_, e3⟩ : ∃ x, dy * k = x := ⟨_, rfl⟩
          obtain ⟨t2, e4⟩ : ∃ x, m2_.tdiv 4 = x := ⟨_, rfl⟩
          obtain ⟨qx, e5⟩ : ∃ x, x2 + t1 = x := ⟨_, rfl⟩
          obtain ⟨qy, e6⟩ : ∃ x, x3 + t2 = x := ⟨_, rfl⟩
          have s1 := Sp.step_b (dx := dx) (K := k) (by omega) ⟨k0_, y9⟩ e1 e2
          have s2 := Sp.step_b (dx := dy) (K := k) (by omega) ⟨k0_, y9⟩ e3 e4
          have oq : Sp.okP (qx, qy) = true := by rw [Sp.okP_iff]; dsimp only; omega
          have d1 := OnSegment_any (qx, qy) (x2, x3) (x4, x5)
          have d2 := Dist2_any (x0, x1) (qx, qy)
          unfold Sp.onsegS at d1
          unfold Sp.dist2S at d2
          rw [if_pos (by rw [oq, HB0.out, HC.out]; rfl)] at d1
          rw [if_pos (by rw [HA.out, oq]; rfl)] at d2
          dsimp only at d1 d2
          have hq := HN.out (qx, qy)
          have db := Sp.sq_b HA.out oq
          generalize Sp.onS (qx, qy) (x2, x3) (x4, x5) = o at d1 hq
          generalize Sp.sq (x0, x1) (qx, qy) = D at d2 hq db
          have at1 := at_any qx qy
          have bq1 : -400000 ≤ m1_ ∧ m1_ ≤ 400000 := ⟨s1.1, s1.2.1⟩
          have bq2 : -400000 ≤ m2_ ∧ m2_ ≤ 400000 := ⟨s2.1, s2.2.1⟩
          have bt1 : -100000 ≤ t1 ∧ t1 ≤ 100000 := by omega
          have bt2 : -100000 ≤ t2 ∧ t2 ≤ 100000 := by omega
          have bd1 : -100000 ≤ dx ∧ dx ≤ 100000 := by omega
          have bd2 : -100000 ≤ dy ∧ dy ≤ 100000 := by omega
          have bx1 : 0 ≤ qx ∧ qx ≤ 100000 := by omega
          have by1 : 0 ≤ qy ∧ qy ≤ 100000 := by omega
          have bx2 : 0 ≤ x2 ∧ x2 ≤ 100000 := by omega
          have bx3 : 0 ≤ x3 ∧ x3 ≤ 100000 := by omega
          have HQ := hid hq
          clear s1 s2 oq oa ob hq
          obtain ⟨k0, k1, k2, k3, k4, k5⟩ := K.out _ HB.out
          have zl0 : w.heap.size < wr.heap.size := Nat.lt_of_lt_of_le (ZV.out) (HB.out).size
          go_wp2_with fail
          refine ((at1 _)).mono ?_
          rintro _ u3 ⟨rfl, hb⟩
          have B3 : Below V.heap.size V u3 := by have hB := HB.out; have hz := hB.size; repeat' (first | (with_reducible exact Below.refl _ _) | (with_reducible refine Below.alloc ?_ ?_ _) | (with_reducible refine Below.setCell ?_ ?_ _) | (with_reducible refine Below.drew ?_) | (with_reducible refine Below.trans ?_ (Below.mono (by assumption) ?_)) | (simp; done) | (simp; omega) | omega)
          clear hb
          clear k0 k1 k2 k3 k4 k5 zl0
          have B3 := hid B3
          obtain ⟨k0, k1, k2, k3, k4, k5⟩ := K.out _ B3.out
          have zl0 : w.heap.size < u3.heap.size := Nat.lt_of_lt_of_le (ZV.out) (B3.out).size
          go_upto_region 11 with fail
          obtain ⟨U1, hU⟩ : ∃ U : World, u3.alloc (Obj.cells #[.int .i64 (qx), .int .i64 (qy)] 23) = U := ⟨_, rfl⟩
          have bU : Below u3.heap.size u3 U1 := by rw [← hU]; exact (Below.refl _ _).alloc (Nat.le_refl _) _
          have zU1 : u3.heap.size < U1.heap.size := by rw [← hU]; simp
          have nc0 : U1.cell? ⟨u3.heap.size, 0, none⟩ = some (.int .i64 qx) := by rw [← hU]; simp [go_sem]
          have nc1 : U1.cell? ⟨u3.heap.size, 1, none⟩ = some (.int .i64 qy) := by rw [← hU]; simp [go_sem]
          have K1 : Hid (∀ W' : World, Below U1.heap.size U1 W' → (W'.cell? ⟨w.heap.size, 0, none⟩ = some (.int .i64 x0) ∧ W'.cell? ⟨w.heap.size, 1, none⟩ = some (.int .i64 x1) ∧ W'.cell? ⟨w.heap.size, 2, none⟩ = some (.int .i64 x2) ∧ W'.cell? ⟨w.heap.size, 3, none⟩ = some (.int .i64 x3) ∧ W'.cell? ⟨w.heap.size, 4, none⟩ = some (.int .i64 x4) ∧ W'.cell? ⟨w.heap.size, 5, none⟩ = some (.int .i64 x5) ∧ W'.cell? ⟨u3.heap.size, 0, none⟩ = some (.int .i64 qx) ∧ W'.cell? ⟨u3.heap.size, 1, none⟩ = some (.int .i64 qy))) := hid fun W' B => ⟨(B.cell (p := ⟨w.heap.size, 0, none⟩) (Nat.lt_of_lt_of_le zl0 bU.size)).trans ((bU.cell (p := ⟨w.heap.size, 0, none⟩) zl0).trans k0), (B.cell (p := ⟨w.heap.size, 1, none⟩) (Nat.lt_of_lt_of_le zl0 bU.size)).trans ((bU.cell (p := ⟨w.heap.size, 1, none⟩) zl0).trans k1), (B.cell (p := ⟨w.heap.size, 2, none⟩) (Nat.lt_of_lt_of_le zl0 bU.size)).trans ((bU.cell (p := ⟨w.heap.size, 2, none⟩) zl0).trans k2), (B.cell (p := ⟨w.heap.size, 3, none⟩) (Nat.lt_of_lt_of_le zl0 bU.size)).trans ((bU.cell (p := ⟨w.heap.size, 3, none⟩) zl0).trans k3), (B.cell (p := ⟨w.heap.size, 4, none⟩) (Nat.lt_of_lt_of_le zl0 bU.size)).trans ((bU.cell (p := ⟨w.heap.size, 4, none⟩) zl0).trans k4), (B.cell (p := ⟨w.heap.size, 5, none⟩) (Nat.lt_of_lt_of_le zl0 bU.size)).trans ((bU.cell (p := ⟨w.heap.size, 5, none⟩) zl0).trans k5), (B.cell (p := ⟨u3.heap.size, 0, none⟩) zU1).trans nc0, (B.cell (p := ⟨u3.heap.size, 1, none⟩) zU1).trans nc1⟩
          have BU1 := hid bU
          have zb1_0 := hid (Nat.lt_of_lt_of_le zl0 bU.size)
          have zn1 := hid zU1
          have BV := hid (BV.out.trans (((B3.out).trans (bU.mono (B3.out).size)).mono BV.out.size))
          have BI := hid ((B3.out).trans (bU.mono (B3.out).size))
          rw [hU]
          clear K hU bU zU1 nc0 nc1
          clear k0 k1 k2 k3 k4 k5 zl0
          have K := K1
          obtain ⟨k0, k1, k2, k3, k4, k5, k6, k7⟩ := K.out _ (Below.refl _ _ : Below U1.heap.size U1 U1)
          have zl0 : w.heap.size < U1.heap.size := Nat.lt_of_lt_of_le (zb1_0.out) ((Below.refl _ _ : Below U1.heap.size U1 U1)).size
          have zl1 : u3.heap.size < U1.heap.size := Nat.lt_of_lt_of_le (zn1.out) ((Below.refl _ _ : Below U1.heap.size U1 U1)).size
          go_wp2_with fail
          refine ((d1 _)).mono ?_
          rintro _ u4 ⟨rfl, hb⟩
          have B4 : Below U1.heap.size U1 u4 := by have hB := (Below.refl _ _ : Below U1.heap.size U1 U1); have hz := hB.size; repeat' (first | (with_reducible exact Below.refl _ _) | (with_reducible refine Below.alloc ?_ ?_ _) | (with_reducible refine Below.setCell ?_ ?_ _) | (with_reducible refine Below.drew ?_) | (with_reducible refine Below.trans ?_ (Below.mono (by assumption) ?_)) | (simp; done) | (simp; omega) | omega)
          clear hb
          clear k0 k1 k2 k3 k4 k5 k6 k7 zl0 zl1
          have B4 := hid B4
          obtain ⟨k0, k1, k2, k3, k4, k5, k6, k7⟩ := K.out _ B4.out
          have zl0 : w.heap.size < u4.heap.size := Nat.lt_of_lt_of_le (zb1_0.out) (B4.out).size
          have zl1 : u3.heap.size < u4.heap.size := Nat.lt_of_lt_of_le (zn1.out) (B4.out).size
          go_wp2_with fail
          refine ((d2 _)).mono ?_
          rintro _ u5 ⟨rfl, hb⟩
          have B5 : Below U1.heap.size U1 u5 := by have hB := B4.out; have hz := hB.size; repeat' (first | (with_reducible exact Below.refl _ _) | (with_reducible refine Below.alloc ?_ ?_ _) | (with_reducible refine Below.setCell ?_ ?_ _) | (with_reducible refine Below.drew ?_) | (with_reducible refine Below.trans ?_ (Below.mono (by assumption) ?_)) | (simp; done) | (simp; omega) | omega)
          clear hb
          clear k0 k1 k2 k3 k4 k5 k6 k7 zl0 zl1
          have B5 := hid B5
          obtain ⟨k0, k1, k2, k3, k4, k5, k6, k7⟩ := K.out _ B5.out
          have zl0 : w.heap.size < u5.heap.size := Nat.lt_of_lt_of_le (zb1_0.out) (B5.out).size
          have zl1 : u3.heap.size < u5.heap.size := Nat.lt_of_lt_of_le (zn1.out) (B5.out).size
          have B9 := hid (BI.out.trans ((B5.out).mono BI.out.size))
          go_wp2_with fail
          all_goals
            go_roundw
            case rel => exact ⟨k + 1, by go_num, by omega, by omega, B9.out⟩
            case measure => simp [intOf]; omega
        · have lx := LXB.out
          have hy0 := HYB.out
          have fr := FAR.out (by first | trivial | rfl)
          have fd0 : ∀ W : World, (Instr.field 30 (.agg #[.int .i64 LX, .int .i64 hx]) 0).run Try.prog W = .ok (.int .i64 LX) W := fun _ => by kernel_rfl
          have fd1 : ∀ W : World, (Instr.field 30 (.agg #[.int .i64 LY, .int .i64 hy]) 1).run Try.prog W = .ok (.int .i64 hy) W := fun _ => by kernel_rfl
          obtain ⟨k0, k1, k2, k3, k4, k5⟩ := K.out _ HB.out
          have zl0 : w.heap.size < wr.heap.size := Nat.lt_of_lt_of_le (ZV.out) (HB.out).size
          go_wp2_with fail
          refine ((c3 _)).mono ?_
          rintro _ u3 ⟨rfl, hb⟩
          have B3 : Below V.heap.size V u3 := by have hB := HB.out; have hz := hB.size; repeat' (first | (with_reducible exact Below.refl _ _) | (with_reducible refine Below.alloc ?_ ?_ _) | (with_reducible refine Below.setCell ?_ ?_ _) | (with_reducible refine Below.drew ?_) | (with_reducible refine Below.trans ?_ (Below.mono (by assumption) ?_)) | (simp; done) | (simp; omega) | omega)
          clear hb
          clear k0 k1 k2 k3 k4 k5 zl0
          have B3 := hid B3
          obtain ⟨k0, k1, k2, k3, k4, k5⟩ := K.out _ B3.out
          have zl0 : w.heap.size < u3.heap.size := Nat.lt_of_lt_of_le (ZV.out) (B3.out).size
          go_wp2_with fail
          refine ((c4 _)).mono ?_
          rintro _ u4 ⟨rfl, hb⟩
          have B4 : Below V.heap.size V u4 := by have hB := B3.out; have hz := hB.size; repeat' (first | (with_reducible exact Below.refl _ _) | (with_reducible refine Below.alloc ?_ ?_ _) | (with_reducible refine Below.setCell ?_ ?_ _) | (with_reducible refine Below.drew ?_) | (with_reducible refine Below.trans ?_ (Below.mono (by assumption) ?_)) | (simp; done) | (simp; omega) | omega)
          clear hb
          clear k0 k1 k2 k3 k4 k5 zl0
          have B4 := hid B4
          obtain ⟨k0, k1, k2, k3, k4, k5⟩ := K.out _ B4.out
          have zl0 : w.heap.size < u4.heap.size := Nat.lt_of_lt_of_le (ZV.out) (B4.out).size
          go_wp2_with fail
          refine ((c5 _)).mono ?_
          rintro _ u5 ⟨rfl, hb⟩
          have B5 : Below V.heap.size V u5 := by have hB := B4.out; have hz := hB.size; repeat' (first | (with_reducible exact Below.refl _ _) | (with_reducible refine Below.alloc ?_ ?_ _) | (with_reducible refine Below.setCell ?_ ?_ _) | (with_reducible refine Below.drew ?_) | (with_reducible refine Below.trans ?_ (Below.mono (by assumption) ?_)) | (simp; done) | (simp; omega) | omega)
          clear hb
          clear k0 k1 k2 k3 k4 k5 zl0
          have B5 := hid B5
          obtain ⟨k0, k1, k2, k3, k4, k5⟩ := K.out _ B5.out
          have zl0 : w.heap.size < u5.heap.size := Nat.lt_of_lt_of_le (ZV.out) (B5.out).size
          go_wp2_with fail
          refine ((c6 _)).mono ?_
          rintro _ u6 ⟨rfl, hb⟩
          have B6 : Below V.heap.size V u6 := by have hB := B5.out; have hz := hB.size; repeat' (first | (with_reducible exact Below.refl _ _) | (with_reducible refine Below.alloc ?_ ?_ _) | (with_reducible refine Below.setCell ?_ ?_ _) | (with_reducible refine Below.drew ?_) | (with_reducible refine Below.trans ?_ (Below.mono (by assumption) ?_)) | (simp; done) | (simp; omega) | omega)
          clear hb
          clear k0 k1 k2 k3 k4 k5 zl0
          have B6 := hid B6
          obtain ⟨k0, k1, k2, k3, k4, k5⟩ := K.out _ B6.out
          have zl0 : w.heap.size < u6.heap.size := Nat.lt_of_lt_of_le (ZV.out) (B6.out).size
          go_wp2_with (go_at_call 22; refine (gawake_any _).mono ?_; rintro _ wz ⟨rfl, hz⟩)
          all_goals
            go_ret
            exact Gives.mk rfl (BV.out.trans (((B6.out).trans ((by assumption : Below u6.heap.size u6 _).mono (B6.out).size)).mono BV.out.size))
end Go.Proofs.Ytfdnmlggemonhaa
