/-
  Layer 12: the mathematics of PiecewiseJoins.
-/
import Derived.Test.YtcbecfimikpljaaPg
namespace Go.Proofs.Ytcbecfimikpljaa
open Go.RowKit
set_option linter.unusedVariables false
def flQ (q : Int × Int) : Int := q.1 / q.2
def ceQ (q : Int × Int) : Int := -((-q.1) / q.2)
theorem fl_in {q : Int × Int} (h : Sp.okQ q) : -1000000000000000 ≤ flQ q ∧ flQ q ≤ 1000000000000000 := by
  obtain ⟨q2, h1, h2, h3, -⟩ := Sp.fchk_zero.mp h
  unfold flQ
  exact ⟨(Int.le_ediv_iff_mul_le q2).mpr (by omega), Int.ediv_le_of_le_mul q2 (by omega)⟩
theorem ce_in {q : Int × Int} (h : Sp.okQ q) : -1000000000000000 ≤ ceQ q ∧ ceQ q ≤ 1000000000000000 := by
  have := fl_in (okQ_neg h)
  unfold flQ at this
  unfold ceQ
  simp only at this
  omega
theorem fl_ce {q : Int × Int} (h : Sp.okQ q) : flQ q ≤ ceQ q := by
  have q2 := okQ_pos h
  unfold flQ ceQ
  have h1 : q.1 / q.2 * q.2 ≤ q.1 := Int.ediv_mul_le _ (by omega)
  have h2 : (-q.1) / q.2 * q.2 ≤ -q.1 := Int.ediv_mul_le _ (by omega)
  have h3 : (q.1 / q.2 + (-q.1) / q.2) * q.2 ≤ 0 * q.2 := by rw [Int.add_mul]; omega
  have := Int.le_of_mul_le_mul_right h3 q2
  omega
theorem ran_lo {l : List Sp.Pd} {a b : Int} (h : Sp.valsE l a b = 0) : (∃ x, a ≤ x ∧ x ≤ b ∧ flQ (leastV (Sp.valsL l a b)) = flQ (vQ l x)) ∧ ∀ x, a ≤ x → x ≤ b → flQ (leastV (Sp.valsL l a b)) ≤ flQ (vQ l x) := by
  have sz := vals_sized l a b h
  obtain ⟨m1, m2⟩ := leastV_le sz.2.1 sz.2.2
  refine ⟨?_, fun x h1 h2 => floor_mono m1 (vQ_ok h h1 h2) (m2 _ (vals_mem h1 h2))⟩
  obtain ⟨x, x1, x2, ex⟩ := mem_vals (leastV_mem sz.2.1)
  exact ⟨x, x1, x2, by rw [ex]⟩
theorem ran_hi {l : List Sp.Pd} {a b : Int} (h : Sp.valsE l a b = 0) : (∃ x, a ≤ x ∧ x ≤ b ∧ ceQ (greatV (Sp.valsL l a b)) = ceQ (vQ l x)) ∧ ∀ x, a ≤ x → x ≤ b → ceQ (vQ l x) ≤ ceQ (greatV (Sp.valsL l a b)) := by
  have sz := vals_sized l a b h
  obtain ⟨m1, m2⟩ := greatV_ge sz.2.1 sz.2.2
  refine ⟨?_, fun x h1 h2 => ceil_mono (vQ_ok h h1 h2) m1 (m2 _ (vals_mem h1 h2))⟩
  obtain ⟨x, x1, x2, ex⟩ := mem_vals (greatV_mem sz.2.1)
  exact ⟨x, x1, x2, by rw [ex]⟩
theorem joins_math {l : List Sp.Pd} {a b c lo hi p q r s e f : Int} (ab : a ≤ b) (bc : b ≤ c) (h : RanIs l a c lo hi 0) (h1 : RanIs l a b p q e) (h2 : RanIs l b c r s f) :
    e = 0 ∧ f = 0 ∧ Sp.joinS p q r s = (lo, hi, 0) ∧ Sp.evalS l b = ((vQ l b).1, (vQ l b).2, 0) ∧ Sp.okQ (vQ l b) ∧ Sp.withinB (flQ (vQ l b)) (ceQ (vQ l b)) lo hi = true := by
  have h0 := h.1.symm
  have k1 := vals_part h0 (Int.le_refl a) ab bc
  have k2 := vals_part h0 ab bc (Int.le_refl c)
  have e0 : e = 0 := by rw [h1.1]; exact k1
  have f0 : f = 0 := by rw [h2.1]; exact k2
  obtain ⟨l1, l2⟩ := h.2.2 rfl
  obtain ⟨p1, p2⟩ := h1.2.2 e0
  obtain ⟨r1, r2⟩ := h2.2.2 f0
  have ob := vQ_ok h0 ab bc
  have fb := fl_in ob
  have cb := ce_in ob
  have fc := fl_ce ob
  obtain ⟨⟨x, x1, x2, x3⟩, x4⟩ := ran_lo h0
  obtain ⟨⟨y, y1, y2, y3⟩, y4⟩ := ran_lo k1
  obtain ⟨⟨z, z1, z2, z3⟩, z4⟩ := ran_lo k2
  obtain ⟨⟨t, t1, t2, t3⟩, t4⟩ := ran_hi h0
  obtain ⟨⟨u, u1, u2, u3⟩, u4⟩ := ran_hi k1
  obtain ⟨⟨v, v1, v2, v3⟩, v4⟩ := ran_hi k2
  have L : lo = flQ (leastV (Sp.valsL l a c)) := l1
  have H : hi = ceQ (greatV (Sp.valsL l a c)) := l2
  have P : p = flQ (leastV (Sp.valsL l a b)) := p1
  have Q : q = ceQ (greatV (Sp.valsL l a b)) := p2
  have R : r = flQ (leastV (Sp.valsL l b c)) := r1
  have S : s = ceQ (greatV (Sp.valsL l b c)) := r2
  rw [← L] at x3 x4
  rw [← P] at y3 y4
  rw [← R] at z3 z4
  rw [← H] at t3 t4
  rw [← Q] at u3 u4
  rw [← S] at v3 v4
  have a1 := x4 y y1 (by omega)
  have a2 := x4 z (by omega) z2
  have a3 : p ≤ lo ∨ r ≤ lo := by
    by_cases c1 : x ≤ b
    · left; rw [x3]; exact y4 x x1 c1
    · right; rw [x3]; exact z4 x (by omega) x2
  have b1 := t4 u u1 (by omega)
  have b2 := t4 v (by omega) v2
  have b3 : hi ≤ q ∨ hi ≤ s := by
    by_cases c1 : t ≤ b
    · left; rw [t3]; exact u4 t t1 c1
    · right; rw [t3]; exact v4 t (by omega) t2
  have i1 := y4 b ab (Int.le_refl _)
  have i2 := u4 b ab (Int.le_refl _)
  have i3 := z4 b (Int.le_refl _) bc
  have i4 := v4 b (Int.le_refl _) bc
  have j1 := x4 b ab bc
  have j2 := t4 b ab bc
  have w1 := fl_in (vQ_ok h0 y1 (by omega : y ≤ c))
  have w2 := fl_in (vQ_ok h0 (by omega : a ≤ z) z2)
  have w3 := ce_in (vQ_ok h0 u1 (by omega : u ≤ c))
  have w4 := ce_in (vQ_ok h0 (by omega : a ≤ v) v2)
  have w5 := fl_in (vQ_ok h0 x1 x2)
  have w6 := ce_in (vQ_ok h0 t1 t2)
  have c1 : Sp.chk p q = 0 := Sp.chk_zero.mpr ⟨by omega, by omega, by omega⟩
  have c2 : Sp.chk r s = 0 := Sp.chk_zero.mpr ⟨by omega, by omega, by omega⟩
  have c3 : Sp.chk lo hi = 0 := Sp.chk_zero.mpr ⟨by omega, by omega, by omega⟩
  have c4 : Sp.chk (flQ (vQ l b)) (ceQ (vQ l b)) = 0 := Sp.chk_zero.mpr ⟨fc, fb.1, cb.2⟩
  refine ⟨e0, f0, ?_, eval_of h0 ab bc, ob, ?_⟩
  · unfold Sp.joinS
    rw [if_neg (fun k => k (Sp.both_zero.mpr ⟨c1, c2⟩))]
    have m1 : min p r = lo := by omega
    have m2 : max q s = hi := by omega
    rw [m1, m2]
  · unfold Sp.withinB
    exact decide_eq_true ⟨Sp.both_zero.mpr ⟨c4, c3⟩, j1, j2⟩
end Go.Proofs.Ytcbecfimikpljaa
