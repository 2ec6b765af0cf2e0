/-
  Layer 7: the small functions of package geometry and of the reference, by contract.
-/
import Derived.Test.YtfdnmlggemonhaaGn
import Derived.Test.YtfdnmlggemonhaaWcode
import Derived.WideShapes
import Derived.Shelf.SlicesG.Cmp
namespace Go.Proofs.Ytfdnmlggemonhaa
open Go.RowKit
set_option linter.unusedVariables false
set_option linter.unusedSimpArgs false

/-- A call answers a value, turns nothing that was there, and has drawn no less. -/
def GivesD (v : Value) (w : World) (e : Ending) (w' : World) : Prop := e = .returned v ∧ Below w.heap.size w w' ∧ w.drawn ≤ w'.drawn
theorem GivesD.mk {v v' : Value} {w w' : World} (h : v = v') (b : Below w.heap.size w w') (d : w.drawn ≤ w'.drawn) : GivesD v w (.returned v') w' := ⟨by rw [h], b, d⟩
theorem GivesD.g {v : Value} {w : World} {e : Ending} {w' : World} (h : GivesD v w e w') : Gives v w e w' := ⟨h.1, h.2.1⟩
theorem w64 (n : Int) (h : -9223372036854775808 ≤ n ∧ n ≤ 9223372036854775807) : wrap64 n = n := by unfold wrap64; omega
theorem at_any (x y : Int) (w : World) : Calls Try.prog 34 #[.int .i64 x, .int .i64 y] w (Gives (.agg #[.int .i64 x, .int .i64 y]) w) := by
  go_enter Try.func34, Try.ntmps34
  go_wp2_with fail
  refine bodyPost_ret (v := .agg #[.int .i64 x, .int .i64 y]) (by simp [results, Try.results34, go_sem]) rfl ?_
  exact Gives.mk rfl (by repeat' (first | (with_reducible exact Below.refl _ _) | (with_reducible refine Below.alloc ?_ ?_ _) | (with_reducible refine Below.setCell ?_ ?_ _) | (with_reducible refine Below.drew ?_) | (with_reducible refine Below.trans ?_ (Below.mono (by assumption) ?_)) | (simp; done) | (simp; omega) | omega))
theorem btw_any (x a b : Int) (w : World) : Calls Try.prog 53 #[.int .i64 x, .int .i64 a, .int .i64 b] w fun e w' => e = .returned (.bool (Sp.btw x a b)) ∧ w = w' := by
  by_cases hab : a ≤ b
  · by_cases h1 : a ≤ x
    · by_cases h2 : x ≤ b
      · have e : Sp.btw x a b = true := by rw [Sp.btw_iff]; omega
        rw [e]
        go_enter Try.func53, Try.ntmps53
        go_wp2_with fail
        go_ret
        exact ⟨congrArg Ending.returned (congrArg Value.bool (by first | rfl | (simp; omega))), rfl⟩
      · have e : Sp.btw x a b = false := by rw [← Bool.not_eq_true, Sp.btw_iff]; omega
        rw [e]
        go_enter Try.func53, Try.ntmps53
        go_wp2_with fail
        go_ret
        exact ⟨congrArg Ending.returned (congrArg Value.bool (by first | rfl | (simp; omega))), rfl⟩
    · have e : Sp.btw x a b = false := by rw [← Bool.not_eq_true, Sp.btw_iff]; omega
      rw [e]
      go_enter Try.func53, Try.ntmps53
      go_wp2_with fail
      go_ret
      exact ⟨congrArg Ending.returned (congrArg Value.bool (by first | rfl | (simp; omega))), rfl⟩
  · by_cases h1 : b ≤ x
    · by_cases h2 : x ≤ a
      · have e : Sp.btw x a b = true := by rw [Sp.btw_iff]; omega
        rw [e]
        go_enter Try.func53, Try.ntmps53
        go_wp2_with fail
        go_ret
        exact ⟨congrArg Ending.returned (congrArg Value.bool (by first | rfl | (simp; omega))), rfl⟩
      · have e : Sp.btw x a b = false := by rw [← Bool.not_eq_true, Sp.btw_iff]; omega
        rw [e]
        go_enter Try.func53, Try.ntmps53
        go_wp2_with fail
        go_ret
        exact ⟨congrArg Ending.returned (congrArg Value.bool (by first | rfl | (simp; omega))), rfl⟩
    · have e : Sp.btw x a b = false := by rw [← Bool.not_eq_true, Sp.btw_iff]; omega
      rw [e]
      go_enter Try.func53, Try.ntmps53
      go_wp2_with fail
      go_ret
      exact ⟨congrArg Ending.returned (congrArg Value.bool (by first | rfl | (simp; omega))), rfl⟩
theorem crs_w {a b c : Sp.Pt} (ha : Sp.okP a = true) (hb : Sp.okP b = true) (hc : Sp.okP c = true) :
    wrap64 (wrap64 (wrap64 (b.1 - a.1) * wrap64 (c.2 - a.2)) - wrap64 (wrap64 (b.2 - a.2) * wrap64 (c.1 - a.1))) = Sp.crs a b c := by
  have ha' := (Sp.okP_iff a).1 ha
  have hb' := (Sp.okP_iff b).1 hb
  have hc' := (Sp.okP_iff c).1 hc
  rw [w64 (b.1 - a.1) (by omega), w64 (c.2 - a.2) (by omega), w64 (b.2 - a.2) (by omega), w64 (c.1 - a.1) (by omega)]
  have m1 := Sp.mulb (x := b.1 - a.1) (y := c.2 - a.2) (by omega) (by omega)
  have m2 := Sp.mulb (x := b.2 - a.2) (y := c.1 - a.1) (by omega) (by omega)
  unfold Sp.crs
  rw [w64 ((b.1 - a.1) * (c.2 - a.2)) (by omega), w64 ((b.2 - a.2) * (c.1 - a.1)) (by omega), w64 _ (by omega)]
theorem dt_w {a b c : Sp.Pt} (ha : Sp.okP a = true) (hb : Sp.okP b = true) (hc : Sp.okP c = true) :
    wrap64 (wrap64 (wrap64 (b.1 - a.1) * wrap64 (c.1 - a.1)) + wrap64 (wrap64 (b.2 - a.2) * wrap64 (c.2 - a.2))) = Sp.dt a b c := by
  have ha' := (Sp.okP_iff a).1 ha
  have hb' := (Sp.okP_iff b).1 hb
  have hc' := (Sp.okP_iff c).1 hc
  rw [w64 (b.1 - a.1) (by omega), w64 (c.1 - a.1) (by omega), w64 (b.2 - a.2) (by omega), w64 (c.2 - a.2) (by omega)]
  have m1 := Sp.mulb (x := b.1 - a.1) (y := c.1 - a.1) (by omega) (by omega)
  have m2 := Sp.mulb (x := b.2 - a.2) (y := c.2 - a.2) (by omega) (by omega)
  unfold Sp.dt
  rw [w64 ((b.1 - a.1) * (c.1 - a.1)) (by omega), w64 ((b.2 - a.2) * (c.2 - a.2)) (by omega), w64 _ (by omega)]
theorem cross_any (a b c : Sp.Pt) (ha : Sp.okP a = true) (hb : Sp.okP b = true) (hc : Sp.okP c = true) (w : World) :
    Calls Try.prog 37 #[.agg #[.int .i64 a.1, .int .i64 a.2], .agg #[.int .i64 b.1, .int .i64 b.2], .agg #[.int .i64 c.1, .int .i64 c.2]] w (GivesD (.int .i64 (Sp.crs a b c)) w) := by
  have hv := crs_w ha hb hc
  clear ha hb hc
  generalize Sp.crs a b c = v at hv ⊢
  obtain ⟨a1, a2⟩ := a
  obtain ⟨b1, b2⟩ := b
  obtain ⟨c1, c2⟩ := c
  have HV := hid hv
  clear hv
  go_enter Try.func37, Try.ntmps37
  go_wp2_with fail
  go_ret
  exact GivesD.mk (i64_eq HV.out.symm) (by repeat' (first | (with_reducible exact Below.refl _ _) | (with_reducible refine Below.alloc ?_ ?_ _) | (with_reducible refine Below.setCell ?_ ?_ _) | (with_reducible refine Below.drew ?_) | (with_reducible refine Below.trans ?_ (Below.mono (by assumption) ?_)) | (simp; done) | (simp; omega) | omega)) (Nat.le_refl _)
theorem rturn_any (a b c : Sp.Pt) (ha : Sp.okP a = true) (hb : Sp.okP b = true) (hc : Sp.okP c = true) (w : World) :
    Calls Try.prog 39 #[.agg #[.int .i64 a.1, .int .i64 a.2], .agg #[.int .i64 b.1, .int .i64 b.2], .agg #[.int .i64 c.1, .int .i64 c.2]] w (GivesD (.int .i64 (Sp.crs a b c)) w) := by
  have hv := crs_w ha hb hc
  clear ha hb hc
  generalize Sp.crs a b c = v at hv ⊢
  obtain ⟨a1, a2⟩ := a
  obtain ⟨b1, b2⟩ := b
  obtain ⟨c1, c2⟩ := c
  have HV := hid hv
  clear hv
  go_enter Try.func39, Try.ntmps39
  go_wp2_with fail
  go_ret
  exact GivesD.mk (i64_eq HV.out.symm) (by repeat' (first | (with_reducible exact Below.refl _ _) | (with_reducible refine Below.alloc ?_ ?_ _) | (with_reducible refine Below.setCell ?_ ?_ _) | (with_reducible refine Below.drew ?_) | (with_reducible refine Below.trans ?_ (Below.mono (by assumption) ?_)) | (simp; done) | (simp; omega) | omega)) (Nat.le_refl _)
theorem dot_any (a b c : Sp.Pt) (ha : Sp.okP a = true) (hb : Sp.okP b = true) (hc : Sp.okP c = true) (w : World) :
    Calls Try.prog 62 #[.agg #[.int .i64 a.1, .int .i64 a.2], .agg #[.int .i64 b.1, .int .i64 b.2], .agg #[.int .i64 c.1, .int .i64 c.2]] w (GivesD (.int .i64 (Sp.dt a b c)) w) := by
  have hv := dt_w ha hb hc
  clear ha hb hc
  generalize Sp.dt a b c = v at hv ⊢
  obtain ⟨a1, a2⟩ := a
  obtain ⟨b1, b2⟩ := b
  obtain ⟨c1, c2⟩ := c
  have HV := hid hv
  clear hv
  go_enter Try.func62, Try.ntmps62
  go_wp2_with fail
  go_ret
  exact GivesD.mk (i64_eq HV.out.symm) (by repeat' (first | (with_reducible exact Below.refl _ _) | (with_reducible refine Below.alloc ?_ ?_ _) | (with_reducible refine Below.setCell ?_ ?_ _) | (with_reducible refine Below.drew ?_) | (with_reducible refine Below.trans ?_ (Below.mono (by assumption) ?_)) | (simp; done) | (simp; omega) | omega)) (Nat.le_refl _)
theorem rsquare_any (a b : Sp.Pt) (ha : Sp.okP a = true) (hb : Sp.okP b = true) (w : World) :
    Calls Try.prog 43 #[.agg #[.int .i64 a.1, .int .i64 a.2], .agg #[.int .i64 b.1, .int .i64 b.2]] w (GivesD (.int .i64 (Sp.sq a b)) w) := by
  have hv := dt_w ha hb hb
  rw [Sp.sq_dt]
  clear ha hb
  generalize Sp.dt a b b = v at hv ⊢
  obtain ⟨a1, a2⟩ := a
  obtain ⟨b1, b2⟩ := b
  have HV := hid hv
  clear hv
  go_enter Try.func43, Try.ntmps43
  go_wp2_with fail
  go_ret
  exact GivesD.mk (i64_eq HV.out.symm) (by repeat' (first | (with_reducible exact Below.refl _ _) | (with_reducible refine Below.alloc ?_ ?_ _) | (with_reducible refine Below.setCell ?_ ?_ _) | (with_reducible refine Below.drew ?_) | (with_reducible refine Below.trans ?_ (Below.mono (by assumption) ?_)) | (simp; done) | (simp; omega) | omega)) (Nat.le_refl _)
theorem square_any (a b : Sp.Pt) (ha : Sp.okP a = true) (hb : Sp.okP b = true) (w : World) :
    Calls Try.prog 42 #[.agg #[.int .i64 a.1, .int .i64 a.2], .agg #[.int .i64 b.1, .int .i64 b.2]] w (GivesD (.int .i64 (Sp.sq a b)) w) := by
  have dv := dot_any a b b ha hb hb
  rw [Sp.sq_dt]
  clear ha hb
  generalize Sp.dt a b b = v at dv ⊢
  obtain ⟨a1, a2⟩ := a
  obtain ⟨b1, b2⟩ := b
  go_enter Try.func42, Try.ntmps42
  go_wp2_with fail
  refine (dv _).mono ?_
  rintro _ u1 ⟨rfl, hb, hd⟩
  go_wp2_with fail
  go_ret
  exact GivesD.mk rfl (by repeat' (first | (with_reducible exact Below.refl _ _) | (with_reducible refine Below.alloc ?_ ?_ _) | (with_reducible refine Below.setCell ?_ ?_ _) | (with_reducible refine Below.drew ?_) | (with_reducible refine Below.trans ?_ (Below.mono (by assumption) ?_)) | (simp; done) | (simp; omega) | omega)) hd
/-- cmp.Compare of two ints. -/
theorem icmp_any (a b : Int) (w : World) : Calls Try.prog 61 #[.int .i64 a, .int .i64 b] w fun e w' => e = .returned (.int .i64 (Lib.compareInt a b)) ∧ w = w' := by
  have nan : ∀ x : Int, ∀ W : World, Calls Try.prog 72 #[.int .i64 x] W fun e w' => e = .returned (.bool false) ∧ W = w' := by
    intro x W
    go_enter Try.func72, Try.ntmps72
    go_wp2_with fail
    go_ret
    exact ⟨rfl, rfl⟩
  unfold Lib.compareInt
  by_cases h1 : a < b
  · rw [if_pos h1]
    go_enter Try.func61, Try.ntmps61
    go_wp2_with (go_at_call 72; refine (nan _ _).mono ?_; rintro e w' ⟨rfl, rfl⟩)
    go_ret
    exact ⟨rfl, rfl⟩
  · rw [if_neg h1]
    by_cases h2 : b < a
    · rw [if_pos h2]
      go_enter Try.func61, Try.ntmps61
      go_wp2_with (go_at_call 72; refine (nan _ _).mono ?_; rintro e w' ⟨rfl, rfl⟩)
      go_ret
      exact ⟨rfl, rfl⟩
    · rw [if_neg h2]
      go_enter Try.func61, Try.ntmps61
      go_wp2_with (go_at_call 72; refine (nan _ _).mono ?_; rintro e w' ⟨rfl, rfl⟩)
      go_ret
      exact ⟨rfl, rfl⟩
theorem cmp_sg (n : Int) : Lib.compareInt n 0 = Sp.sg n := rfl
theorem turn_any (a b c : Sp.Pt) (ha : Sp.okP a = true) (hb : Sp.okP b = true) (hc : Sp.okP c = true) (w : World) :
    Calls Try.prog 40 #[.agg #[.int .i64 a.1, .int .i64 a.2], .agg #[.int .i64 b.1, .int .i64 b.2], .agg #[.int .i64 c.1, .int .i64 c.2]] w (GivesD (.int .i64 (Sp.sg (Sp.crs a b c))) w) := by
  have dv := cross_any a b c ha hb hc
  rw [← cmp_sg]
  clear ha hb hc
  generalize Sp.crs a b c = v at dv ⊢
  have cv := icmp_any v 0
  generalize Lib.compareInt v 0 = u at cv ⊢
  obtain ⟨a1, a2⟩ := a
  obtain ⟨b1, b2⟩ := b
  obtain ⟨c1, c2⟩ := c
  go_enter Try.func40, Try.ntmps40
  go_wp2_with fail
  refine (dv _).mono ?_
  rintro _ u1 ⟨rfl, hb, hd⟩
  go_wp2_with fail
  refine (cv _).mono ?_
  rintro _ u2 ⟨rfl, rfl⟩
  go_wp2_with fail
  go_ret
  exact GivesD.mk rfl (by repeat' (first | (with_reducible exact Below.refl _ _) | (with_reducible refine Below.alloc ?_ ?_ _) | (with_reducible refine Below.setCell ?_ ?_ _) | (with_reducible refine Below.drew ?_) | (with_reducible refine Below.trans ?_ (Below.mono (by assumption) ?_)) | (simp; done) | (simp; omega) | omega)) hd
theorem rsign_any (n : Int) (w : World) : Calls Try.prog 41 #[.int .i64 n] w fun e w' => e = .returned (.int .i64 (Sp.sg n)) ∧ w = w' := by
  rcases Sp.sg_cases n with ⟨h, e⟩ | ⟨h, e⟩ | ⟨h, e⟩
  all_goals
    rw [e]
    go_enter Try.func41, Try.ntmps41
    go_wp2_with fail
    go_ret
    exact ⟨rfl, rfl⟩
theorem rbtw_any (x a b : Int) (w : World) : Calls Try.prog 63 #[.int .i64 x, .int .i64 a, .int .i64 b] w fun e w' => e = .returned (.bool (Sp.btw x a b)) ∧ w = w' := by
  by_cases h1 : a ≤ x
  · by_cases h2 : x ≤ b
    · have e : Sp.btw x a b = true := by rw [Sp.btw_iff]; omega
      rw [e]
      go_enter Try.func63, Try.ntmps63
      go_wp2_with fail
      go_ret
      exact ⟨rfl, rfl⟩
    · by_cases h3 : b ≤ x
      · by_cases h4 : x ≤ a
        · have e : Sp.btw x a b = true := by rw [Sp.btw_iff]; omega
          rw [e]
          go_enter Try.func63, Try.ntmps63
          go_wp2_with fail
          go_ret
          exact ⟨rfl, rfl⟩
        · have e : Sp.btw x a b = false := by rw [← Bool.not_eq_true, Sp.btw_iff]; omega
          rw [e]
          go_enter Try.func63, Try.ntmps63
          go_wp2_with fail
          go_ret
          exact ⟨rfl, rfl⟩
      · have e : Sp.btw x a b = false := by rw [← Bool.not_eq_true, Sp.btw_iff]; omega
        rw [e]
        go_enter Try.func63, Try.ntmps63
        go_wp2_with fail
        go_ret
        exact ⟨rfl, rfl⟩
  · by_cases h3 : b ≤ x
    · have h4 : x ≤ a := by omega
      have e : Sp.btw x a b = true := by rw [Sp.btw_iff]; omega
      rw [e]
      go_enter Try.func63, Try.ntmps63
      go_wp2_with fail
      go_ret
      exact ⟨rfl, rfl⟩
    · have e : Sp.btw x a b = false := by rw [← Bool.not_eq_true, Sp.btw_iff]; omega
      rw [e]
      go_enter Try.func63, Try.ntmps63
      go_wp2_with fail
      go_ret
      exact ⟨rfl, rfl⟩
end Go.Proofs.Ytfdnmlggemonhaa
