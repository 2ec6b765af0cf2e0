/-
  Layer 12: the mathematics of ranges (Pg, Ph as one: tools/merge.py).
-/
import Derived.Test.YtcbecfimikpljaaQb
import Derived.Test.YtcbecfimikpljaaImath
namespace Go.Proofs.Ytcbecfimikpljaa
open Go.RowKit
set_option linter.unusedVariables false
set_option linter.unusedSimpArgs false
/-- At most. -/
def leQ (p q : Int × Int) : Prop := p.1 * q.2 ≤ q.1 * p.2
theorem okQ_pos {q : Int × Int} (h : Sp.okQ q) : 0 < q.2 := (Sp.fchk_zero.mp h).1
theorem leQ_refl (p : Int × Int) : leQ p p := Int.le_refl _
theorem leQ_trans {p q r : Int × Int} (hp : Sp.okQ p) (hq : Sp.okQ q) (hr : Sp.okQ r) (h : leQ p q) (k : leQ q r) : leQ p r := by
  have p2 := okQ_pos hp
  have q2 := okQ_pos hq
  have r2 := okQ_pos hr
  unfold leQ at *
  have h1 := Int.mul_le_mul_of_nonneg_right h (Int.le_of_lt r2)
  have h2 := Int.mul_le_mul_of_nonneg_right k (Int.le_of_lt p2)
  have e1 : p.1 * q.2 * r.2 = p.1 * r.2 * q.2 := by rw [Int.mul_right_comm]
  have e2 : q.1 * p.2 * r.2 = q.1 * r.2 * p.2 := by rw [Int.mul_right_comm]
  have e3 : r.1 * q.2 * p.2 = r.1 * p.2 * q.2 := by rw [Int.mul_right_comm]
  exact Int.le_of_mul_le_mul_right (by omega : p.1 * r.2 * q.2 ≤ r.1 * p.2 * q.2) q2
theorem cmpP_is {p q : Int × Int} (hp : Sp.okQ p) (hq : Sp.okQ q) : cmpP p q = Wd.cmpI (p.1 * q.2) (q.1 * p.2) := by
  unfold cmpP Sp.cmpF
  have b : Sp.bothF p.1 p.2 q.1 q.2 = 0 := Sp.bothF_zero.mpr ⟨hp, hq⟩
  rw [b, if_neg (fun h => h rfl)]
theorem cmpP_lt {p q : Int × Int} (hp : Sp.okQ p) (hq : Sp.okQ q) : cmpP p q < 0 ↔ ¬ leQ q p := by
  rw [cmpP_is hp hq]
  unfold Wd.cmpI leQ
  split
  · constructor <;> intro _ <;> omega
  · split
    · constructor <;> intro _ <;> omega
    · constructor <;> intro _ <;> omega
theorem cmpP_gt {p q : Int × Int} (hp : Sp.okQ p) (hq : Sp.okQ q) : 0 < cmpP p q ↔ ¬ leQ p q := by
  rw [cmpP_is hp hq]
  unfold Wd.cmpI leQ
  split
  · constructor <;> intro _ <;> omega
  · split
    · constructor <;> intro _ <;> omega
    · constructor <;> intro _ <;> omega
theorem leQ_total (p q : Int × Int) : leQ p q ∨ leQ q p := by unfold leQ; omega
theorem leQ_anti {p q : Int × Int} (hp : Sp.okQ p) (hq : Sp.okQ q) (h : leQ p q) (k : leQ q p) : p = q := by
  obtain ⟨p2, p1, -, -⟩ := Sp.valid_of hp
  obtain ⟨q2, q1, -, -⟩ := Sp.valid_of hq
  have e := Sp.lowest p2 q2 p1 q1 (Int.le_antisymm h k)
  exact Prod.ext e.1 e.2
theorem floor_mono {p q : Int × Int} (hp : Sp.okQ p) (hq : Sp.okQ q) (h : leQ p q) : p.1 / p.2 ≤ q.1 / q.2 := by
  have p2 := okQ_pos hp
  have q2 := okQ_pos hq
  unfold leQ at h
  refine (Int.le_ediv_iff_mul_le q2).mpr ?_
  have h1 : p.1 / p.2 * p.2 ≤ p.1 := Int.ediv_mul_le _ (by omega)
  have h2 := Int.mul_le_mul_of_nonneg_right h1 (Int.le_of_lt q2)
  have e1 : p.1 / p.2 * p.2 * q.2 = p.1 / p.2 * q.2 * p.2 := by rw [Int.mul_right_comm]
  exact Int.le_of_mul_le_mul_right (by omega : p.1 / p.2 * q.2 * p.2 ≤ q.1 * p.2) p2
theorem okQ_neg {p : Int × Int} (hp : Sp.okQ p) : Sp.okQ (-p.1, p.2) := Sp.fchk_neg hp
theorem ceil_mono {p q : Int × Int} (hp : Sp.okQ p) (hq : Sp.okQ q) (h : leQ p q) : -((-p.1) / p.2) ≤ -((-q.1) / q.2) := by
  have := floor_mono (okQ_neg hq) (okQ_neg hp) (by unfold leQ at *; simp only [Int.neg_mul]; omega)
  simp only at this
  omega
theorem foldMin_le : ∀ (r : List (Int × Int)) (m : Int × Int), Sp.okQ m → (∀ q ∈ r, Sp.okQ q) → Sp.okQ (foldMin r m) ∧ leQ (foldMin r m) m ∧ ∀ q ∈ r, leQ (foldMin r m) q
  | [], m, hm, _ => ⟨hm, leQ_refl _, fun q hq => by cases hq⟩
  | x :: r, m, hm, hr => by
    have hx := hr x (by simp)
    unfold foldMin
    by_cases c : cmpP x m < 0
    · rw [if_pos c]
      obtain ⟨i1, i2, i3⟩ := foldMin_le r x hx (fun q hq => hr q (by simp [hq]))
      have hxm : leQ x m := by
        rcases leQ_total x m with h | h
        · exact h
        · exact absurd h ((cmpP_lt hx hm).mp c)
      refine ⟨i1, leQ_trans i1 hx hm i2 hxm, fun q hq => ?_⟩
      cases hq with
      | head => exact i2
      | tail _ hq => exact i3 q hq
    · rw [if_neg c]
      obtain ⟨i1, i2, i3⟩ := foldMin_le r m hm (fun q hq => hr q (by simp [hq]))
      have hmx : leQ m x := Classical.not_not.mp (fun h => c ((cmpP_lt hx hm).mpr h))
      refine ⟨i1, i2, fun q hq => ?_⟩
      cases hq with
      | head => exact leQ_trans i1 hm hx i2 hmx
      | tail _ hq => exact i3 q hq
theorem foldMax_ge : ∀ (r : List (Int × Int)) (m : Int × Int), Sp.okQ m → (∀ q ∈ r, Sp.okQ q) → Sp.okQ (foldMax r m) ∧ leQ m (foldMax r m) ∧ ∀ q ∈ r, leQ q (foldMax r m)
  | [], m, hm, _ => ⟨hm, leQ_refl _, fun q hq => by cases hq⟩
  | x :: r, m, hm, hr => by
    have hx := hr x (by simp)
    unfold foldMax
    by_cases c : 0 < cmpP x m
    · rw [if_pos c]
      obtain ⟨i1, i2, i3⟩ := foldMax_ge r x hx (fun q hq => hr q (by simp [hq]))
      have hxm : leQ m x := by
        rcases leQ_total x m with h | h
        · exact absurd h ((cmpP_gt hx hm).mp c)
        · exact h
      refine ⟨i1, leQ_trans hm hx i1 hxm i2, fun q hq => ?_⟩
      cases hq with
      | head => exact i2
      | tail _ hq => exact i3 q hq
    · rw [if_neg c]
      obtain ⟨i1, i2, i3⟩ := foldMax_ge r m hm (fun q hq => hr q (by simp [hq]))
      have hmx : leQ x m := Classical.not_not.mp (fun h => c ((cmpP_gt hx hm).mpr h))
      refine ⟨i1, i2, fun q hq => ?_⟩
      cases hq with
      | head => exact leQ_trans hx hm i1 hmx i2
      | tail _ hq => exact i3 q hq
theorem mem_head {l : List (Int × Int)} {q : Int × Int} (h0 : 0 < l.length) (h : q ∈ l) : q = l[0] ∨ q ∈ l.drop 1 := by
  cases l with
  | nil => simp at h0
  | cons a r => simpa using h
theorem leastV_le {l : List (Int × Int)} (h0 : 0 < l.length) (ok : ∀ q ∈ l, Sp.okQ q) : Sp.okQ (leastV l) ∧ ∀ q ∈ l, leQ (leastV l) q := by
  have e : leastV l = foldMin (l.drop 1) (l[0]) := by unfold leastV; rw [List.getElem?_eq_getElem h0, Option.getD_some]
  obtain ⟨i1, i2, i3⟩ := foldMin_le (l.drop 1) (l[0]) (ok _ (List.getElem_mem h0)) (fun q hq => ok q (List.mem_of_mem_drop hq))
  rw [e]
  refine ⟨i1, fun q hq => ?_⟩
  rcases mem_head h0 hq with rfl | hq
  · exact i2
  · exact i3 q hq
theorem greatV_ge {l : List (Int × Int)} (h0 : 0 < l.length) (ok : ∀ q ∈ l, Sp.okQ q) : Sp.okQ (greatV l) ∧ ∀ q ∈ l, leQ q (greatV l) := by
  have e : greatV l = foldMax (l.drop 1) (l[0]) := by unfold greatV; rw [List.getElem?_eq_getElem h0, Option.getD_some]
  obtain ⟨i1, i2, i3⟩ := foldMax_ge (l.drop 1) (l[0]) (ok _ (List.getElem_mem h0)) (fun q hq => ok q (List.mem_of_mem_drop hq))
  rw [e]
  refine ⟨i1, fun q hq => ?_⟩
  rcases mem_head h0 hq with rfl | hq
  · exact i2
  · exact i3 q hq
/-- A value of a function. -/
def vQ (l : List Sp.Pd) (x : Int) : Int × Int := ((Sp.valL l x).1, (Sp.valL l x).2.1)
theorem mem_vals {l : List Sp.Pd} {a b : Int} {q : Int × Int} (h : q ∈ Sp.valsL l a b) : ∃ x, a ≤ x ∧ x ≤ b ∧ q = vQ l x := by
  unfold Sp.valsL at h
  obtain ⟨i, hi, e⟩ := List.getElem_of_mem h
  rw [Sp.lstV_get] at e
  rw [Sp.lstV_len] at hi
  exact ⟨a + i, by omega, by omega, e.symm⟩
theorem vals_mem {l : List Sp.Pd} {a b x : Int} (h1 : a ≤ x) (h2 : x ≤ b) : vQ l x ∈ Sp.valsL l a b := by
  unfold Sp.valsL
  have hi : (x - a).toNat < (Sp.lstV (Sp.valL l) (b - a + 1).toNat a).length := by rw [Sp.lstV_len]; omega
  have := List.getElem_mem hi
  rw [Sp.lstV_get] at this
  have e : a + ((x - a).toNat : Int) = x := by omega
  rw [e] at this
  exact this
theorem vals_get {l : List Sp.Pd} {a b : Int} (i : Nat) (h : i < (Sp.valsL l a b).length) : (Sp.valsL l a b)[i] = vQ l (a + i) := Sp.lstV_get _ _ _ i h
theorem vals_part {l : List Sp.Pd} {a b c d : Int} (h : Sp.valsE l a b = 0) (h1 : a ≤ c) (h2 : c ≤ d) (h3 : d ≤ b) : Sp.valsE l c d = 0 := by
  obtain ⟨hc, g1, g2, g3, g4⟩ := vals_bound l a b h
  unfold Sp.valsE
  rw [if_neg (fun k => k hc), if_neg (by omega)]
  refine (Sp.fstE_zero _ _ _).mpr fun i hi => ?_
  have := (Sp.fstE_zero _ _ _).mp g4 (c - a + i).toNat (by omega)
  have e : a + ((c - a + i).toNat : Int) = c + i := by omega
  rwa [e] at this
theorem eval_of {l : List Sp.Pd} {a b x : Int} (h : Sp.valsE l a b = 0) (h1 : a ≤ x) (h2 : x ≤ b) : Sp.evalS l x = ((vQ l x).1, (vQ l x).2, 0) := by
  unfold Sp.evalS
  rw [vals_part h h1 (Int.le_refl _) h2, if_neg (fun k => k rfl)]
  rfl
theorem vQ_ok {l : List Sp.Pd} {a b x : Int} (h : Sp.valsE l a b = 0) (h1 : a ≤ x) (h2 : x ≤ b) : Sp.okQ (vQ l x) :=
  (vals_sized l a b h).2.2 _ (vals_mem h1 h2)
/-- Ascending values. -/
theorem asc_of {l : List Sp.Pd} (h : IncIs l true 0) : ∀ (d : Nat) (x : Int), Sp.least l ≤ x → x + d ≤ Sp.great l → leQ (vQ l x) (vQ l (x + d)) := by
  have h0 := h.1.symm
  have up := (h.2.2 rfl).mp rfl
  have ok : ∀ x, Sp.least l ≤ x → x ≤ Sp.great l → Sp.okQ (vQ l x) := fun x a b => vQ_ok h0 a b
  have step : ∀ x, Sp.least l ≤ x → x + 1 ≤ Sp.great l → leQ (vQ l x) (vQ l (x + 1)) := by
    intro x h1 h2
    obtain ⟨k, hk⟩ : ∃ k : Nat, (x - Sp.least l).toNat = k := ⟨_, rfl⟩
    have hl : k + 1 < (Sp.valsL l (Sp.least l) (Sp.great l)).length := by unfold Sp.valsL; rw [Sp.lstV_len]; omega
    have := up k hl (Nat.zero_le _)
    rw [vals_get, vals_get] at this
    have e1 : Sp.least l + ((k + 1 : Nat) : Int) = x + 1 := by omega
    have e2 : Sp.least l + (k : Int) = x := by omega
    rw [e1, e2] at this
    exact Classical.not_not.mp (fun c => this ((cmpP_lt (ok _ (by omega) h2) (ok _ h1 (by omega))).mpr c))
  intro d
  induction d with
  | zero => intro x _ _; rw [show x + ((0 : Nat) : Int) = x by simp]; exact leQ_refl _
  | succ d ih =>
    intro x h1 h2
    have i := ih x h1 (by omega)
    have s := step (x + d) (by omega) (by omega)
    have e : x + ((d + 1 : Nat) : Int) = x + d + 1 := by omega
    rw [e]
    exact leQ_trans (ok _ h1 (by omega)) (ok _ (by omega) (by omega)) (ok _ (by omega) (by omega)) i s
theorem ends_math {l : List Sp.Pd} {a b lo hi : Int} (h : IncIs l true 0) (k : RanIs l a b lo hi 0) :
    Sp.evalS l a = ((vQ l a).1, (vQ l a).2, 0) ∧ Sp.evalS l b = ((vQ l b).1, (vQ l b).2, 0) ∧ Sp.okQ (vQ l a) ∧ Sp.okQ (vQ l b) ∧ lo = (vQ l a).1 / (vQ l a).2 ∧ hi = -((-(vQ l b).1) / (vQ l b).2) := by
  have h0 := k.1.symm
  obtain ⟨hc, g1, g2, g3, g4⟩ := vals_bound l a b h0
  obtain ⟨e1, e2⟩ := k.2.2 rfl
  have sz := vals_sized l a b h0
  obtain ⟨m1, m2⟩ := leastV_le sz.2.1 sz.2.2
  obtain ⟨n1, n2⟩ := greatV_ge sz.2.1 sz.2.2
  have oa := vQ_ok h0 (Int.le_refl a) g2
  have ob := vQ_ok h0 g2 (Int.le_refl b)
  refine ⟨eval_of h0 (Int.le_refl _) g2, eval_of h0 g2 (Int.le_refl _), oa, ob, ?_, ?_⟩
  · rw [e1]
    obtain ⟨x, x1, x2, ex⟩ := mem_vals (leastV_mem sz.2.1)
    have l1 : leQ (vQ l a) (leastV (Sp.valsL l a b)) := by
      rw [ex]
      have := asc_of h (x - a).toNat a g1 (by omega)
      rwa [show a + ((x - a).toNat : Int) = x by omega] at this
    have l2 := m2 _ (vals_mem (l := l) (Int.le_refl a) g2)
    rw [leQ_anti m1 oa l2 l1]
  · rw [e2]
    obtain ⟨x, x1, x2, ex⟩ := mem_vals (greatV_mem sz.2.1)
    have l1 : leQ (greatV (Sp.valsL l a b)) (vQ l b) := by
      rw [ex]
      have := asc_of h (b - x).toNat x (by omega) (by omega)
      rwa [show x + ((b - x).toNat : Int) = b by omega] at this
    have l2 := n2 _ (vals_mem (l := l) g2 (Int.le_refl b))
    rw [leQ_anti n1 ob l1 l2]
def flQ (q : Int × Int) : Int := q.1 / q.2
def ceQ (q : Int × Int) : Int := -((-q.1) / q.2)
theorem fl_in {q : Int × Int} (h : Sp.okQ q) : -1000000000000000 ≤ flQ q ∧ flQ q ≤ 1000000000000000 := by
  obtain ⟨q2, h1, h2, h3, -⟩ := Sp.fchk_zero.mp h
  unfold flQ
  exact ⟨(Int.le_ediv_iff_mul_le q2).mpr (by omega), Int.ediv_le_of_le_mul q2 (by omega)⟩
theorem ce_in {q : Int × Int} (h : Sp.okQ q) : -1000000000000000 ≤ ceQ q ∧ ceQ q ≤ 1000000000000000 := by
  have := fl_in (okQ_neg h)
  unfold flQ at this
  unfold ceQ
  simp only at this
  omega
theorem fl_ce {q : Int × Int} (h : Sp.okQ q) : flQ q ≤ ceQ q := by
  have q2 := okQ_pos h
  unfold flQ ceQ
  have h1 : q.1 / q.2 * q.2 ≤ q.1 := Int.ediv_mul_le _ (by omega)
  have h2 : (-q.1) / q.2 * q.2 ≤ -q.1 := Int.ediv_mul_le _ (by omega)
  have h3 : (q.1 / q.2 + (-q.1) / q.2) * q.2 ≤ 0 * q.2 := by rw [Int.add_mul]; omega
  have := Int.le_of_mul_le_mul_right h3 q2
  omega
theorem ran_lo {l : List Sp.Pd} {a b : Int} (h : Sp.valsE l a b = 0) : (∃ x, a ≤ x ∧ x ≤ b ∧ flQ (leastV (Sp.valsL l a b)) = flQ (vQ l x)) ∧ ∀ x, a ≤ x → x ≤ b → flQ (leastV (Sp.valsL l a b)) ≤ flQ (vQ l x) := by
  have sz := vals_sized l a b h
  obtain ⟨m1, m2⟩ := leastV_le sz.2.1 sz.2.2
  refine ⟨?_, fun x h1 h2 => floor_mono m1 (vQ_ok h h1 h2) (m2 _ (vals_mem h1 h2))⟩
  obtain ⟨x, x1, x2, ex⟩ := mem_vals (leastV_mem sz.2.1)
  exact ⟨x, x1, x2, by rw [ex]⟩
theorem ran_hi {l : List Sp.Pd} {a b : Int} (h : Sp.valsE l a b = 0) : (∃ x, a ≤ x ∧ x ≤ b ∧ ceQ (greatV (Sp.valsL l a b)) = ceQ (vQ l x)) ∧ ∀ x, a ≤ x → x ≤ b → ceQ (vQ l x) ≤ ceQ (greatV (Sp.valsL l a b)) := by
  have sz := vals_sized l a b h
  obtain ⟨m1, m2⟩ := greatV_ge sz.2.1 sz.2.2
  refine ⟨?_, fun x h1 h2 => ceil_mono (vQ_ok h h1 h2) m1 (m2 _ (vals_mem h1 h2))⟩
  obtain ⟨x, x1, x2, ex⟩ := mem_vals (greatV_mem sz.2.1)
  exact ⟨x, x1, x2, by rw [ex]⟩
theorem joins_math {l : List Sp.Pd} {a b c lo hi p q r s e f : Int} (ab : a ≤ b) (bc : b ≤ c) (h : RanIs l a c lo hi 0) (h1 : RanIs l a b p q e) (h2 : RanIs l b c r s f) :
    e = 0 ∧ f = 0 ∧ Sp.joinS p q r s = (lo, hi, 0) ∧ Sp.evalS l b = ((vQ l b).1, (vQ l b).2, 0) ∧ Sp.okQ (vQ l b) ∧ Sp.withinB (flQ (vQ l b)) (ceQ (vQ l b)) lo hi = true := by
  have h0 := h.1.symm
  have k1 := vals_part h0 (Int.le_refl a) ab bc
  have k2 := vals_part h0 ab bc (Int.le_refl c)
  have e0 : e = 0 := by rw [h1.1]; exact k1
  have f0 : f = 0 := by rw [h2.1]; exact k2
  obtain ⟨l1, l2⟩ := h.2.2 rfl
  obtain ⟨p1, p2⟩ := h1.2.2 e0
  obtain ⟨r1, r2⟩ := h2.2.2 f0
  have ob := vQ_ok h0 ab bc
  have fb := fl_in ob
  have cb := ce_in ob
  have fc := fl_ce ob
  obtain ⟨⟨x, x1, x2, x3⟩, x4⟩ := ran_lo h0
  obtain ⟨⟨y, y1, y2, y3⟩, y4⟩ := ran_lo k1
  obtain ⟨⟨z, z1, z2, z3⟩, z4⟩ := ran_lo k2
  obtain ⟨⟨t, t1, t2, t3⟩, t4⟩ := ran_hi h0
  obtain ⟨⟨u, u1, u2, u3⟩, u4⟩ := ran_hi k1
  obtain ⟨⟨v, v1, v2, v3⟩, v4⟩ := ran_hi k2
  have L : lo = flQ (leastV (Sp.valsL l a c)) := l1
  have H : hi = ceQ (greatV (Sp.valsL l a c)) := l2
  have P : p = flQ (leastV (Sp.valsL l a b)) := p1
  have Q : q = ceQ (greatV (Sp.valsL l a b)) := p2
  have R : r = flQ (leastV (Sp.valsL l b c)) := r1
  have S : s = ceQ (greatV (Sp.valsL l b c)) := r2
  rw [← L] at x3 x4
  rw [← P] at y3 y4
  rw [← R] at z3 z4
  rw [← H] at t3 t4
  rw [← Q] at u3 u4
  rw [← S] at v3 v4
  have a1 := x4 y y1 (by omega)
  have a2 := x4 z (by omega) z2
  have a3 : p ≤ lo ∨ r ≤ lo := by
    by_cases c1 : x ≤ b
    · left; rw [x3]; exact y4 x x1 c1
    · right; rw [x3]; exact z4 x (by omega) x2
  have b1 := t4 u u1 (by omega)
  have b2 := t4 v (by omega) v2
  have b3 : hi ≤ q ∨ hi ≤ s := by
    by_cases c1 : t ≤ b
    · left; rw [t3]; exact u4 t t1 c1
    · right; rw [t3]; exact v4 t (by omega) t2
  have i1 := y4 b ab (Int.le_refl _)
  have i2 := u4 b ab (Int.le_refl _)
  have i3 := z4 b (Int.le_refl _) bc
  have i4 := v4 b (Int.le_refl _) bc
  have j1 := x4 b ab bc
  have j2 := t4 b ab bc
  have w1 := fl_in (vQ_ok h0 y1 (by omega : y ≤ c))
  have w2 := fl_in (vQ_ok h0 (by omega : a ≤ z) z2)
  have w3 := ce_in (vQ_ok h0 u1 (by omega : u ≤ c))
  have w4 := ce_in (vQ_ok h0 (by omega : a ≤ v) v2)
  have w5 := fl_in (vQ_ok h0 x1 x2)
  have w6 := ce_in (vQ_ok h0 t1 t2)
  have c1 : Sp.chk p q = 0 := Sp.chk_zero.mpr ⟨by omega, by omega, by omega⟩
  have c2 : Sp.chk r s = 0 := Sp.chk_zero.mpr ⟨by omega, by omega, by omega⟩
  have c3 : Sp.chk lo hi = 0 := Sp.chk_zero.mpr ⟨by omega, by omega, by omega⟩
  have c4 : Sp.chk (flQ (vQ l b)) (ceQ (vQ l b)) = 0 := Sp.chk_zero.mpr ⟨fc, fb.1, cb.2⟩
  refine ⟨e0, f0, ?_, eval_of h0 ab bc, ob, ?_⟩
  · unfold Sp.joinS
    rw [if_neg (fun k => k (Sp.both_zero.mpr ⟨c1, c2⟩))]
    have m1 : min p r = lo := by omega
    have m2 : max q s = hi := by omega
    rw [m1, m2]
  · unfold Sp.withinB
    exact decide_eq_true ⟨Sp.both_zero.mpr ⟨c4, c3⟩, j1, j2⟩
end Go.Proofs.Ytcbecfimikpljaa
