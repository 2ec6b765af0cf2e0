/-
  Plain mathematics of layer 7: points, turns, segments, distances; no Go in sight.
-/
import Derived.WalkKit
namespace Go.Proofs.Ytfdnmlggemonhaa
set_option linter.unusedVariables false
namespace Sp
abbrev Pt := Int × Int
def okP (p : Pt) : Bool := decide (0 ≤ p.1 ∧ p.1 ≤ 100000 ∧ 0 ≤ p.2 ∧ p.2 ≤ 100000)
def crs (a b c : Pt) : Int := (b.1 - a.1) * (c.2 - a.2) - (b.2 - a.2) * (c.1 - a.1)
def dt (a b c : Pt) : Int := (b.1 - a.1) * (c.1 - a.1) + (b.2 - a.2) * (c.2 - a.2)
def sq (a b : Pt) : Int := (b.1 - a.1) * (b.1 - a.1) + (b.2 - a.2) * (b.2 - a.2)
def btw (x a b : Int) : Bool := decide (min a b ≤ x ∧ x ≤ max a b)
def sg (n : Int) : Int := if n < 0 then -1 else if 0 < n then 1 else 0
def onS (p a b : Pt) : Bool := decide (crs a b p = 0) && btw p.1 a.1 b.1 && btw p.2 a.2 b.2
def shd (a b c d : Pt) : List Pt := [a, b, c, d].filter fun p => onS p a b && onS p c d
def crossing (a b c d : Pt) : Bool := decide (sg (crs a b c) * sg (crs a b d) < 0) && decide (sg (crs c d a) * sg (crs c d b) < 0)
def pk (x y z : Int) : List Pt → Int
  | [] => x
  | p :: l => if l.all (fun q => decide (q = p)) then y else z
def relS (a b c d : Pt) : Int := pk (if crossing a b c d then 2 else 0) 1 3 (shd a b c d)
def nearS (p a b : Pt) (r : Int) : Bool :=
  if dt a b p ≤ 0 then decide (sq a p ≤ r * r) else if sq a b ≤ dt a b p then decide (sq b p ≤ r * r) else decide (crs a b p * crs a b p ≤ r * r * sq a b)
def closeS (a b c d : Pt) (r : Int) : Bool := decide (relS a b c d ≠ 0) || (nearS a c d r || (nearS b c d r || (nearS c a b r || nearS d a b r)))
theorem okP_iff (p : Pt) : okP p = true ↔ 0 ≤ p.1 ∧ p.1 ≤ 100000 ∧ 0 ≤ p.2 ∧ p.2 ≤ 100000 := by unfold okP; simp
-- bounds
theorem mulb {x y : Int} (hx : -100000 ≤ x ∧ x ≤ 100000) (hy : -100000 ≤ y ∧ y ≤ 100000) : -10000000000 ≤ x * y ∧ x * y ≤ 10000000000 := by
  have h1 := Int.mul_nonneg (show (0 : Int) ≤ 100000 - x by omega) (show (0 : Int) ≤ 100000 - y by omega)
  have h2 := Int.mul_nonneg (show (0 : Int) ≤ 100000 + x by omega) (show (0 : Int) ≤ 100000 + y by omega)
  have h3 := Int.mul_nonneg (show (0 : Int) ≤ 100000 - x by omega) (show (0 : Int) ≤ 100000 + y by omega)
  have h4 := Int.mul_nonneg (show (0 : Int) ≤ 100000 + x by omega) (show (0 : Int) ≤ 100000 - y by omega)
  have e1 : (100000 - x) * (100000 - y) = 10000000000 - 100000 * x - 100000 * y + x * y := by grind
  have e2 : (100000 + x) * (100000 + y) = 10000000000 + 100000 * x + 100000 * y + x * y := by grind
  have e3 : (100000 - x) * (100000 + y) = 10000000000 - 100000 * x + 100000 * y - x * y := by grind
  have e4 : (100000 + x) * (100000 - y) = 10000000000 + 100000 * x - 100000 * y - x * y := by grind
  rw [e1] at h1; rw [e2] at h2; rw [e3] at h3; rw [e4] at h4
  generalize x * y = z at *
  omega
theorem crs_b {a b c : Pt} (ha : okP a = true) (hb : okP b = true) (hc : okP c = true) : -20000000000 ≤ crs a b c ∧ crs a b c ≤ 20000000000 := by
  rw [okP_iff] at ha hb hc
  have h1 := mulb (x := b.1 - a.1) (y := c.2 - a.2) (by omega) (by omega)
  have h2 := mulb (x := b.2 - a.2) (y := c.1 - a.1) (by omega) (by omega)
  unfold crs
  omega
theorem dt_b {a b c : Pt} (ha : okP a = true) (hb : okP b = true) (hc : okP c = true) : -20000000000 ≤ dt a b c ∧ dt a b c ≤ 20000000000 := by
  rw [okP_iff] at ha hb hc
  have h1 := mulb (x := b.1 - a.1) (y := c.1 - a.1) (by omega) (by omega)
  have h2 := mulb (x := b.2 - a.2) (y := c.2 - a.2) (by omega) (by omega)
  unfold dt
  omega
theorem sqr0 (x : Int) : 0 ≤ x * x := by
  rcases Int.le_total 0 x with h | h
  · exact Int.mul_nonneg h h
  · have := Int.mul_nonneg (show 0 ≤ -x by omega) (show 0 ≤ -x by omega)
    rwa [Int.neg_mul_neg] at this
theorem sq_0 (a b : Pt) : 0 ≤ sq a b := by
  have h1 := sqr0 (b.1 - a.1)
  have h2 := sqr0 (b.2 - a.2)
  unfold sq; omega
theorem sq_dt (a b : Pt) : sq a b = dt a b b := rfl
theorem sq_comm (a b : Pt) : sq a b = sq b a := by unfold sq; grind
theorem sq_b {a b : Pt} (ha : okP a = true) (hb : okP b = true) : 0 ≤ sq a b ∧ sq a b ≤ 20000000000 := ⟨sq_0 a b, (dt_b ha hb hb).2⟩
-- identities
theorem lagrange (a b p : Pt) : crs a b p * crs a b p + dt a b p * dt a b p = sq a b * sq a p := by unfold crs dt sq; grind
theorem lagrange2 (a b p : Pt) : crs a b p * crs a b p + (sq a b - dt a b p) * (sq a b - dt a b p) = sq a b * sq b p := by unfold crs dt sq; grind
theorem sq_other (a b p : Pt) : sq b p = sq a p - 2 * dt a b p + sq a b := by unfold dt sq; grind
theorem dt_comm (a b c : Pt) : dt a b c = dt a c b := by unfold dt; grind
theorem sq_eq0 {a b : Pt} (h : sq a b ≤ 0) : a = b := by
  have h1 := sqr0 (b.1 - a.1)
  have h2 := sqr0 (b.2 - a.2)
  unfold sq at h
  have e1 : (b.1 - a.1) * (b.1 - a.1) = 0 := by omega
  have e2 : (b.2 - a.2) * (b.2 - a.2) = 0 := by omega
  rcases Int.mul_eq_zero.1 e1 with e | e <;> rcases Int.mul_eq_zero.1 e2 with e' | e' <;> exact Prod.ext (by omega) (by omega)
theorem sqr_eq0 {x : Int} (h : x * x ≤ 0) : x = 0 := by
  have := sqr0 x
  rcases Int.mul_eq_zero.1 (show x * x = 0 by omega) with e | e <;> exact e
/-- The reference's way to ask whether a point is near a segment. -/
theorem near_ref {p a b : Pt} {r : Int} : nearS p a b r = (decide (sq p a ≤ r * r) || decide (sq p b ≤ r * r) || (!(decide (dt a p b ≤ 0) || decide (sq a b ≤ dt a p b)) && decide (crs a b p * crs a b p ≤ r * r * sq a b))) := by
  have L1 := lagrange a b p
  have L2 := lagrange2 a b p
  have so := sq_other a b p
  have s0 := sq_0 a b
  rw [dt_comm a p b, sq_comm p a, sq_comm p b]
  unfold nearS
  by_cases h1 : dt a b p ≤ 0
  · rw [if_pos h1]
    by_cases h2 : sq a p ≤ r * r
    · simp [h2]
    · have h3 : ¬ sq b p ≤ r * r := by omega
      simp [h1, h2, h3]
  · rw [if_neg h1]
    by_cases h4 : sq a b ≤ dt a b p
    · rw [if_pos h4]
      by_cases h3 : sq b p ≤ r * r
      · simp [h3]
      · have h2 : ¬ sq a p ≤ r * r := by omega
        simp [h4, h2, h3]
    · rw [if_neg h4]
      by_cases h2 : sq a p ≤ r * r
      · have h5 : crs a b p * crs a b p ≤ r * r * sq a b := by
          have := Int.mul_le_mul_of_nonneg_right h2 s0
          have := sqr0 (dt a b p)
          have e : sq a p * sq a b = sq a b * sq a p := Int.mul_comm _ _
          omega
        simp [h2, h5]
      · by_cases h3 : sq b p ≤ r * r
        · have h5 : crs a b p * crs a b p ≤ r * r * sq a b := by
            have := Int.mul_le_mul_of_nonneg_right h3 s0
            have := sqr0 (sq a b - dt a b p)
            have e : sq b p * sq a b = sq a b * sq b p := Int.mul_comm _ _
            omega
          simp [h3, h5]
        · simp [h1, h2, h3, h4]
/-- What is near for a distance is near for a greater one. -/
theorem near_more {p a b : Pt} {r s : Int} (h0 : 0 ≤ r) (h : r ≤ s) (hn : nearS p a b r = true) : nearS p a b s = true := by
  have h1 : r * r ≤ s * s := Int.mul_le_mul h h h0 (by omega)
  have h2 := Int.mul_le_mul_of_nonneg_right h1 (sq_0 a b)
  unfold nearS at hn ⊢
  by_cases c1 : dt a b p ≤ 0
  · rw [if_pos c1] at hn ⊢
    simp at hn ⊢; omega
  · rw [if_neg c1] at hn ⊢
    by_cases c2 : sq a b ≤ dt a b p
    · rw [if_pos c2] at hn ⊢
      simp at hn ⊢; omega
    · rw [if_neg c2] at hn ⊢
      simp at hn ⊢; omega
theorem btw_iff (x a b : Int) : btw x a b = true ↔ (a ≤ x ∧ x ≤ b) ∨ (b ≤ x ∧ x ≤ a) := by
  unfold btw; simp; omega
theorem onS_iff (p a b : Pt) : onS p a b = true ↔ crs a b p = 0 ∧ btw p.1 a.1 b.1 = true ∧ btw p.2 a.2 b.2 = true := by unfold onS; simp [and_assoc]
theorem on_left (a b : Pt) : onS a a b = true := by
  rw [onS_iff, btw_iff, btw_iff]
  refine ⟨by unfold crs; grind, by omega, by omega⟩
theorem on_right (a b : Pt) : onS b a b = true := by
  rw [onS_iff, btw_iff, btw_iff]
  refine ⟨by unfold crs; grind, by omega, by omega⟩
theorem on_swap (p a b : Pt) : onS p a b = onS p b a := by
  have e : crs b a p = - crs a b p := by unfold crs; grind
  have e1 : btw p.1 a.1 b.1 = btw p.1 b.1 a.1 := by rw [Bool.eq_iff_iff, btw_iff, btw_iff]; omega
  have e2 : btw p.2 a.2 b.2 = btw p.2 b.2 a.2 := by rw [Bool.eq_iff_iff, btw_iff, btw_iff]; omega
  unfold onS
  rw [e, e1, e2]
  have : decide (crs a b p = 0) = decide (-crs a b p = 0) := by rw [decide_eq_decide]; omega
  rw [this]
end Sp
end Go.Proofs.Ytfdnmlggemonhaa
