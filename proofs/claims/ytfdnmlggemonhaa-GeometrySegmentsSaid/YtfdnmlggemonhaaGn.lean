/-
  Plain mathematics of layer 7: how two segments meet, what is near, lengths; no Go in sight.
-/
import Derived.Test.YtfdnmlggemonhaaGm
namespace Go.Proofs.Ytfdnmlggemonhaa
set_option linter.unusedVariables false
namespace Sp
theorem sg_neg (n : Int) : sg (-n) = - sg n := by unfold sg; split <;> split <;> (first | omega | (split <;> omega) | skip) <;> (repeat (split <;> try omega))
theorem sg_cases (n : Int) : (n < 0 ∧ sg n = -1) ∨ (n = 0 ∧ sg n = 0) ∨ (0 < n ∧ sg n = 1) := by unfold sg; split <;> (first | omega | (split <;> omega))
theorem crs_rev (c d a : Pt) : crs d c a = - crs c d a := by unfold crs; grind
theorem crs_rot (a b c : Pt) : crs b c a = crs a b c := by unfold crs; grind
theorem crs_flip (a b c : Pt) : crs b a c = - crs a b c := by unfold crs; grind
theorem crs_quad (a b c d : Pt) : crs a b c + crs a c d = crs a b d + crs b c d := by unfold crs; grind
/-- What the list of common ends says. -/
theorem rel_of {l : List Pt} {f : Pt → Bool} {x y z : Int} {v : Int} (h : pk x y z (l.filter f) = v) :
    ((∃ p ∈ l, ∃ q ∈ l, f p = true ∧ f q = true ∧ p ≠ q) ∧ v = z) ∨ ((∃ p ∈ l, f p = true ∧ ∀ q ∈ l, f q = true → q = p) ∧ v = y) ∨ ((∀ p ∈ l, f p = false) ∧ v = x) := by
  unfold pk at h
  split at h
  · rename_i e
    refine .inr (.inr ⟨fun p hp => ?_, h.symm⟩)
    have := List.filter_eq_nil_iff.1 e p hp
    simpa using this
  · rename_i p r e
    have hp : p ∈ l.filter f := by rw [e]; simp
    obtain ⟨p1, p2⟩ := List.mem_filter.1 hp
    by_cases c : r.all (fun q => decide (q = p)) = true
    · rw [if_pos c] at h
      refine .inr (.inl ⟨⟨p, p1, p2, fun q hq fq => ?_⟩, h.symm⟩)
      have : q ∈ l.filter f := List.mem_filter.2 ⟨hq, fq⟩
      rw [e] at this
      rcases List.mem_cons.1 this with rfl | hr
      · rfl
      · simpa using List.all_eq_true.1 c q hr
    · rw [if_neg c] at h
      refine .inl ⟨?_, h.symm⟩
      have : ∃ q ∈ r, q ≠ p := by
        false_or_by_contra
        rename_i hn
        exact c (List.all_eq_true.2 fun q hq => by
          false_or_by_contra
          rename_i h2
          exact hn ⟨q, hq, by simpa using h2⟩)
      obtain ⟨q, hq, hne⟩ := this
      have hq' : q ∈ l.filter f := by rw [e]; simp [hq]
      obtain ⟨q1, q2⟩ := List.mem_filter.1 hq'
      exact ⟨p, p1, q, q1, p2, q2, fun h => hne h.symm⟩
theorem rel_same {l m : List Pt} {f g : Pt → Bool} {x x' y z : Int} (hm : ∀ p, p ∈ l ↔ p ∈ m) (hf : ∀ p, f p = g p) (hx : x = x') :
    pk x y z (l.filter f) = pk x' y z (m.filter g) := by
  obtain rfl : f = g := funext hf
  subst hx
  rcases rel_of (l := l) (f := f) (x := x) (y := y) (z := z) rfl with ⟨⟨p, p1, q, q1, fp, fq, ne⟩, h1⟩ | ⟨⟨p, p1, fp, hp⟩, h1⟩ | ⟨h0, h1⟩ <;>
  rcases rel_of (l := m) (f := f) (x := x) (y := y) (z := z) rfl with ⟨⟨p', p1', q', q1', fp', fq', ne'⟩, h1'⟩ | ⟨⟨p', p1', fp', hp'⟩, h1'⟩ | ⟨h0', h1'⟩ <;> rw [h1, h1']
  · exact absurd ((hp' p ((hm p).1 p1) fp).trans (hp' q ((hm q).1 q1) fq).symm) ne
  · have := h0' p ((hm p).1 p1); simp [fp] at this
  · exact absurd ((hp p' ((hm p').2 p1') fp').trans (hp q' ((hm q').2 q1') fq').symm) ne'
  · have := h0' p ((hm p).1 p1); simp [fp] at this
  · have := h0 p' ((hm p').2 p1'); simp [fp'] at this
  · have := h0 p' ((hm p').2 p1'); simp [fp'] at this
theorem crossing_sym (a b c d : Pt) : crossing a b c d = crossing d c a b := by
  unfold crossing
  rw [crs_rev c d a, crs_rev c d b, sg_neg, sg_neg, Int.neg_mul_neg, Int.mul_comm (sg (crs a b d)), Bool.and_comm]
theorem rel_sym (a b c d : Pt) : relS a b c d = relS d c a b := by
  unfold relS shd
  refine rel_same (fun p => ?_) (fun p => ?_) ?_
  · simp only [List.mem_cons, List.not_mem_nil, or_false]
    constructor <;> (intro h; rcases h with h | h | h | h <;> simp [h])
  · rw [on_swap p d c, Bool.and_comm]
  · rw [crossing_sym]
theorem sg0 : sg 0 = 0 := rfl
/-- Where segments cross, no end of one of them is on the other. -/
theorem cross_none {a b c d : Pt} (h : crossing a b c d = true) : shd a b c d = [] := by
  unfold crossing at h
  simp only [Bool.and_eq_true, decide_eq_true_eq] at h
  obtain ⟨h1, h2⟩ := h
  unfold shd
  rw [List.filter_eq_nil_iff]
  intro p hp
  simp only [List.mem_cons, List.not_mem_nil, or_false] at hp
  intro hh
  simp only [Bool.and_eq_true, onS_iff] at hh
  obtain ⟨⟨e1, _⟩, ⟨e2, _⟩⟩ := hh
  rcases hp with rfl | rfl | rfl | rfl
  · rw [e2, sg0] at h2; omega
  · rw [e2, sg0] at h2; omega
  · rw [e1, sg0] at h1; omega
  · rw [e1, sg0] at h1; omega
theorem rel_ref (a b c d : Pt) : relS a b c d = if crossing a b c d then 2 else pk 0 1 3 (shd a b c d) := by
  unfold relS
  by_cases h : crossing a b c d = true
  · rw [cross_none h, if_pos h, if_pos h]; rfl
  · rw [if_neg h, if_neg h]
theorem rel_b (a b c d : Pt) : 0 ≤ relS a b c d ∧ relS a b c d ≤ 3 := by
  unfold relS pk
  split
  · split <;> omega
  · split <;> omega
/-- Segments that are apart have no common end. -/
theorem apart_none {a b c d : Pt} (h : relS a b c d = 0) : ∀ p, (p = a ∨ p = b ∨ p = c ∨ p = d) → (onS p a b && onS p c d) = false := by
  intro p hp
  rcases rel_of (v := 0) h with ⟨_, h1⟩ | ⟨_, h1⟩ | ⟨h0, _⟩
  · omega
  · omega
  · exact h0 p (by simpa using hp)
theorem apart_a {a b c d : Pt} (h : relS a b c d = 0) : onS a c d = false := by
  have := apart_none h a (by simp); rw [on_left, Bool.true_and] at this; exact this
theorem apart_b {a b c d : Pt} (h : relS a b c d = 0) : onS b c d = false := by
  have := apart_none h b (by simp); rw [on_right, Bool.true_and] at this; exact this
theorem apart_c {a b c d : Pt} (h : relS a b c d = 0) : onS c a b = false := by
  have := apart_none h c (by simp); rw [on_left, Bool.and_true] at this; exact this
theorem apart_d {a b c d : Pt} (h : relS a b c d = 0) : onS d a b = false := by
  have := apart_none h d (by simp); rw [on_right, Bool.and_true] at this; exact this
/-- Between two ends: coordinates of a point whose place is between them on the line. -/
theorem betw_of {u x p L : Int} (hL : 0 < L) (h1 : 0 < p) (h2 : p < L) (e : x * L = u * p) : (0 ≤ x ∧ x ≤ u) ∨ (u ≤ x ∧ x ≤ 0) := by
  rcases Int.lt_trichotomy u 0 with c | c | c
  · right
    constructor
    · false_or_by_contra
      rename_i hn
      have k1 := Int.mul_lt_mul_of_pos_right (show x < u by omega) hL
      have k2 : u * L < u * p := Int.mul_lt_mul_of_neg_left h2 c
      omega
    · false_or_by_contra
      rename_i hn
      have k1 := Int.mul_pos (show 0 < x by omega) hL
      have k2 := Int.mul_neg_of_neg_of_pos c h1
      omega
  · subst c
    rw [Int.zero_mul] at e
    rcases Int.mul_eq_zero.1 e with h | h <;> omega
  · left
    constructor
    · false_or_by_contra
      rename_i hn
      have k1 := Int.mul_neg_of_neg_of_pos (show x < 0 by omega) hL
      have k2 := Int.mul_pos c h1
      omega
    · false_or_by_contra
      rename_i hn
      have k1 := Int.mul_lt_mul_of_pos_right (show u < x by omega) hL
      have k2 := Int.mul_lt_mul_of_pos_left h2 c
      omega
theorem near_zero {p a b : Pt} (h : nearS p a b 0 = true) : onS p a b = true := by
  unfold nearS at h
  simp only [Int.mul_zero, Int.zero_mul] at h
  by_cases c1 : dt a b p ≤ 0
  · rw [if_pos c1] at h
    simp only [decide_eq_true_eq] at h
    obtain rfl := sq_eq0 h
    exact on_left _ _
  · rw [if_neg c1] at h
    by_cases c2 : sq a b ≤ dt a b p
    · rw [if_pos c2] at h
      simp only [decide_eq_true_eq] at h
      obtain rfl := sq_eq0 h
      exact on_right _ _
    · rw [if_neg c2] at h
      simp only [decide_eq_true_eq] at h
      have e0 := sqr_eq0 h
      have e1 : (p.1 - a.1) * sq a b = (b.1 - a.1) * dt a b p + (b.2 - a.2) * (- crs a b p) := by unfold sq dt crs; grind
      have e2 : (p.2 - a.2) * sq a b = (b.2 - a.2) * dt a b p + (b.1 - a.1) * crs a b p := by unfold sq dt crs; grind
      rw [e0] at e1 e2
      simp only [Int.neg_zero, Int.mul_zero, Int.add_zero] at e1 e2
      have k1 := betw_of (by omega) (by omega) (by omega) e1
      have k2 := betw_of (by omega) (by omega) (by omega) e2
      rw [onS_iff, btw_iff, btw_iff]
      exact ⟨e0, by omega, by omega⟩
theorem close_zero (a b c d : Pt) : closeS a b c d 0 = decide (relS a b c d ≠ 0) := by
  unfold closeS
  by_cases h : relS a b c d = 0
  · have n1 : nearS a c d 0 = false := by
      cases e : nearS a c d 0 with
      | false => rfl
      | true => have := near_zero e; rw [apart_a h] at this; cases this
    have n2 : nearS b c d 0 = false := by
      cases e : nearS b c d 0 with
      | false => rfl
      | true => have := near_zero e; rw [apart_b h] at this; cases this
    have n3 : nearS c a b 0 = false := by
      cases e : nearS c a b 0 with
      | false => rfl
      | true => have := near_zero e; rw [apart_c h] at this; cases this
    have n4 : nearS d a b 0 = false := by
      cases e : nearS d a b 0 with
      | false => rfl
      | true => have := near_zero e; rw [apart_d h] at this; cases this
    rw [n1, n2, n3, n4]; simp
  · simp [h]
/-- The dot product of a point on the segment lies between 0 and the segment's own. -/
theorem on_dot {q a b : Pt} (h : onS q a b = true) : 0 ≤ dt a b q ∧ dt a b q ≤ sq a b := by
  rw [onS_iff, btw_iff, btw_iff] at h
  obtain ⟨_, h1, h2⟩ := h
  unfold dt sq
  have m : ∀ u x : Int, ((0 ≤ x ∧ x ≤ u) ∨ (u ≤ x ∧ x ≤ 0)) → 0 ≤ u * x ∧ u * x ≤ u * u := by
    intro u x hh
    rcases hh with ⟨a1, a2⟩ | ⟨a1, a2⟩
    · exact ⟨Int.mul_nonneg (by omega) a1, Int.mul_le_mul_of_nonneg_left a2 (by omega)⟩
    · refine ⟨Int.mul_nonneg_of_nonpos_of_nonpos (by omega) a2, ?_⟩
      have := Int.mul_le_mul_of_nonneg_left (show -x ≤ -u by omega) (show 0 ≤ -u by omega)
      rw [Int.neg_mul_neg, Int.neg_mul_neg] at this
      exact this
  have m1 := m (b.1 - a.1) (q.1 - a.1) (by omega)
  have m2 := m (b.2 - a.2) (q.2 - a.2) (by omega)
  omega
theorem near_on {p q a b : Pt} {r : Int} (h : onS q a b = true) (hd : sq p q ≤ r * r) : nearS p a b r = true := by
  obtain ⟨s0, s1⟩ := on_dot h
  have hc := ((onS_iff q a b).1 h).1
  have L := sq_0 a b
  rw [sq_comm] at hd
  by_cases z : sq a b = 0
  · obtain rfl := sq_eq0 (show sq a b ≤ 0 by omega)
    obtain rfl : q = a := by
      rw [onS_iff, btw_iff, btw_iff] at h
      exact Prod.ext (by omega) (by omega)
    unfold nearS
    have : dt q q p = 0 := by unfold dt; grind
    rw [this, if_pos (Int.le_refl _)]
    simpa using hd
  · -- sq q p * sq a b = (dt a b p - dt a b q)^2 + (crs a b p - crs a b q)^2
    have E : sq q p * sq a b = (dt a b p - dt a b q) * (dt a b p - dt a b q) + (crs a b p - crs a b q) * (crs a b p - crs a b q) := by unfold sq dt crs; grind
    rw [hc, Int.sub_zero] at E
    have L1 := lagrange a b p
    have L2 := lagrange2 a b p
    have k0 := Int.mul_le_mul_of_nonneg_right hd L
    unfold nearS
    by_cases c1 : dt a b p ≤ 0
    · rw [if_pos c1, decide_eq_true_eq]
      have : dt a b p * dt a b p ≤ (dt a b p - dt a b q) * (dt a b p - dt a b q) := by
        have := Int.mul_nonneg s0 (show 0 ≤ dt a b q - 2 * dt a b p by omega)
        have e : (dt a b p - dt a b q) * (dt a b p - dt a b q) = dt a b p * dt a b p + dt a b q * (dt a b q - 2 * dt a b p) := by grind
        omega
      have e : sq a b * sq a p = sq a p * sq a b := Int.mul_comm _ _
      have : sq a p * sq a b ≤ r * r * sq a b := by omega
      exact Int.le_of_mul_le_mul_right this (by omega)
    · rw [if_neg c1]
      by_cases c2 : sq a b ≤ dt a b p
      · rw [if_pos c2, decide_eq_true_eq]
        have : (sq a b - dt a b p) * (sq a b - dt a b p) ≤ (dt a b p - dt a b q) * (dt a b p - dt a b q) := by
          have := Int.mul_nonneg (show 0 ≤ sq a b - dt a b q by omega) (show 0 ≤ 2 * dt a b p - dt a b q - sq a b by omega)
          have e : (dt a b p - dt a b q) * (dt a b p - dt a b q) = (sq a b - dt a b p) * (sq a b - dt a b p) + (sq a b - dt a b q) * (2 * dt a b p - dt a b q - sq a b) := by grind
          omega
        have e : sq a b * sq b p = sq b p * sq a b := Int.mul_comm _ _
        have : sq b p * sq a b ≤ r * r * sq a b := by omega
        exact Int.le_of_mul_le_mul_right this (by omega)
      · rw [if_neg c2, decide_eq_true_eq]
        have := sqr0 (dt a b p - dt a b q)
        omega
theorem le_of_sq {x y : Int} (hy : 0 ≤ y) (h : x * x ≤ y * y) : x ≤ y := by
  false_or_by_contra
  rename_i hn
  have h1 := Int.mul_lt_mul_of_pos_right (show y < x by omega) (show 0 < x by omega)
  have h2 := Int.mul_le_mul_of_nonneg_left (show y ≤ x by omega) hy
  omega
/-- The triangle's inequality. -/
theorem triangle {a b c : Pt} {G H L : Int} (hG : 0 ≤ G) (hH : 0 ≤ H) (h1 : sq a b ≤ G * G) (h2 : sq b c ≤ H * H) (hL : L * L ≤ sq a c) : L ≤ G + H := by
  refine le_of_sq (by omega) (Int.le_trans hL ?_)
  have e : sq a c = sq a b - 2 * dt b a c + sq b c := by unfold sq dt; grind
  have L0 := lagrange b a c
  rw [sq_comm b a] at L0
  have k : sq a b * sq b c ≤ (G * G) * (H * H) := Int.mul_le_mul h1 h2 (sq_0 b c) (Int.mul_nonneg hG hG)
  have := sqr0 (crs b a c)
  have k2 : (- dt b a c) * (- dt b a c) ≤ (G * H) * (G * H) := by
    rw [Int.neg_mul_neg]
    have e2 : (G * H) * (G * H) = (G * G) * (H * H) := by grind
    omega
  have k3 := le_of_sq (Int.mul_nonneg hG hH) k2
  have e3 : (G + H) * (G + H) = G * G + 2 * (G * H) + H * H := by grind
  omega
theorem near_root {p a b : Pt} {r H L : Int} (hr : 0 ≤ r) (hH : 0 ≤ H) (hn : nearS p a b r = true) (hL : L * L ≤ sq p a) (h2 : sq a b ≤ H * H) : L ≤ r + H := by
  have L1 := lagrange a b p
  unfold nearS at hn
  by_cases c1 : dt a b p ≤ 0
  · rw [if_pos c1, decide_eq_true_eq, sq_comm] at hn
    have := le_of_sq hr (Int.le_trans hL hn)
    omega
  · rw [if_neg c1] at hn
    by_cases c2 : sq a b ≤ dt a b p
    · rw [if_pos c2, decide_eq_true_eq, sq_comm] at hn
      rw [sq_comm] at h2
      exact triangle hr hH hn h2 hL
    · rw [if_neg c2, decide_eq_true_eq] at hn
      refine le_of_sq (by omega) (Int.le_trans hL ?_)
      have k1 : dt a b p * dt a b p ≤ sq a b * sq a b := Int.mul_le_mul (by omega) (by omega) (by omega) (sq_0 a b)
      have e1 : (sq a b + r * r) * sq a b = sq a b * sq a b + r * r * sq a b := Int.add_mul _ _ _
      have e2 : sq a b * sq a p = sq a p * sq a b := Int.mul_comm _ _
      have k2 : sq a p * sq a b ≤ (sq a b + r * r) * sq a b := by omega
      have k3 := Int.le_of_mul_le_mul_right k2 (by omega)
      rw [sq_comm p a]
      have e3 : (r + H) * (r + H) = r * r + 2 * (r * H) + H * H := by grind
      have := Int.mul_nonneg hr hH
      omega
-- roots
def IsRoot (d lo : Int) : Prop := 0 ≤ lo ∧ lo * lo ≤ d ∧ d < (lo + 1) * (lo + 1)
def hiS (d lo : Int) : Int := if lo * lo < d then lo + 1 else lo
theorem root_ex {d : Int} (h : 0 ≤ d) : ∃ lo, IsRoot d lo := by
  have : ∀ n : Nat, ∃ lo, IsRoot (n : Int) lo := by
    intro n
    induction n with
    | zero => exact ⟨0, by unfold IsRoot; omega⟩
    | succ n ih =>
      obtain ⟨lo, h0, h1, h2⟩ := ih
      by_cases c : ((n + 1 : Nat) : Int) < (lo + 1) * (lo + 1)
      · exact ⟨lo, h0, by omega, c⟩
      · refine ⟨lo + 1, by omega, by omega, ?_⟩
        have : (lo + 1 + 1) * (lo + 1 + 1) = (lo + 1) * (lo + 1) + 2 * lo + 3 := by grind
        omega
  obtain ⟨n, rfl⟩ := Int.eq_ofNat_of_zero_le h
  exact this n
theorem root_uniq {d x y : Int} (hx : IsRoot d x) (hy : IsRoot d y) : x = y := by
  obtain ⟨x0, x1, x2⟩ := hx
  obtain ⟨y0, y1, y2⟩ := hy
  have k1 : x < y + 1 := by
    false_or_by_contra
    rename_i hn
    have := Int.mul_le_mul (show y + 1 ≤ x by omega) (show y + 1 ≤ x by omega) (by omega) x0
    omega
  have k2 : y < x + 1 := by
    false_or_by_contra
    rename_i hn
    have := Int.mul_le_mul (show x + 1 ≤ y by omega) (show x + 1 ≤ y by omega) (by omega) y0
    omega
  omega
theorem root_b {d lo : Int} (h : IsRoot d lo) (hd : d ≤ 20000000000) : 0 ≤ lo ∧ lo ≤ 141421 := by
  refine ⟨h.1, ?_⟩
  false_or_by_contra
  rename_i hn
  have := Int.mul_le_mul (show 141422 ≤ lo by omega) (show 141422 ≤ lo by omega) (by omega) h.1
  have := h.2.1
  omega
theorem root_lt {d lo : Int} (h : IsRoot d lo) {x : Int} (hx : 0 ≤ x) : d < (x + 1) * (x + 1) ↔ lo ≤ x := by
  constructor
  · intro h1
    false_or_by_contra
    rename_i hn
    have := Int.mul_le_mul (show x + 1 ≤ lo by omega) (show x + 1 ≤ lo by omega) (by omega) h.1
    have := h.2.1
    omega
  · intro h1
    have h0 := h.1
    have := Int.mul_le_mul (show lo + 1 ≤ x + 1 by omega) (show lo + 1 ≤ x + 1 by omega) (by omega) (by omega)
    have := h.2.2
    omega
theorem hi_facts {d lo : Int} (h : IsRoot d lo) : d ≤ hiS d lo * hiS d lo ∧ lo ≤ hiS d lo ∧ hiS d lo - lo ≤ 1 ∧ (hiS d lo ≠ lo → lo * lo ≠ d ∧ hiS d lo * hiS d lo ≠ d) := by
  obtain ⟨h0, h1, h2⟩ := h
  unfold hiS
  by_cases c : lo * lo < d
  · rw [if_pos c]
    exact ⟨by omega, by omega, by omega, fun _ => ⟨by omega, by omega⟩⟩
  · rw [if_neg c]
    exact ⟨by omega, by omega, by omega, fun h => absurd rfl h⟩
end Sp
end Go.Proofs.Ytfdnmlggemonhaa
