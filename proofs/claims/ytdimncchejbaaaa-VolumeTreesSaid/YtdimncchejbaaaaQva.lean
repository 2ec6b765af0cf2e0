/-
  Layer 14: curves, Check, Volume, Height, diameterAt, checkStem with places, Diameter of package volume, by contract.
-/
import Derived.Test.YtdimncchejbaaaaQb
import Derived.StillTailTactics
import Derived.Test.YtdimncchejbaaaaFops2
namespace Go.Proofs.Ytdimncchejbaaaa
open Go.RowKit
set_option linter.unusedVariables false
set_option linter.unusedSimpArgs false
/-- The error of a curve. -/
def Sp.curE (h : List Sp.Pd) (f : Int) (t : List Sp.Pd) : Int :=
  if Sp.pcheck h ≠ 0 then Sp.pcheck h else if f < 1 ∨ 1000 < f then 2 else if Sp.pcheck t ≠ 0 then Sp.pcheck t else if Sp.least t = 0 ∧ Sp.great t = 1000 then 0 else 2
theorem Sp.curE_zero {h : List Sp.Pd} {f : Int} {t : List Sp.Pd} (e : Sp.curE h f t = 0) : Sp.pcheck h = 0 ∧ 1 ≤ f ∧ f ≤ 1000 ∧ Sp.pcheck t = 0 ∧ Sp.least t = 0 ∧ Sp.great t = 1000 := by
  unfold Sp.curE at e
  split at e
  · exact absurd e ‹_›
  · split at e
    · exact absurd e (by omega)
    · split at e
      · exact absurd e ‹_›
      · split at e
        · exact ⟨by omega, by omega, by omega, by omega, by omega, by omega⟩
        · exact absurd e (by omega)
/-- A curve in a box. -/
structure CurAt (w : World) (g : Nat) (A : Option Addr) (n cap : Nat) (f : Int) (A' : Option Addr) (n' cap' : Nat) : Prop where
  lt : g < w.heap.size
  c0 : w.cell? ⟨g, 0, none⟩ = some (.slice A n cap)
  c1 : w.cell? ⟨g, 1, none⟩ = some (.int .i64 f)
  c2 : w.cell? ⟨g, 2, none⟩ = some (.slice A' n' cap')
theorem CurAt.below {w w' : World} {g : Nat} {A A' : Option Addr} {n cap n' cap' : Nat} {f : Int} (h : CurAt w g A n cap f A' n' cap') (hb : Below w.heap.size w w') : CurAt w' g A n cap f A' n' cap' :=
  ⟨Nat.lt_of_lt_of_le h.lt hb.size, (hb.cell (p := ⟨g, 0, none⟩) h.lt).trans h.c0, (hb.cell (p := ⟨g, 1, none⟩) h.lt).trans h.c1, (hb.cell (p := ⟨g, 2, none⟩) h.lt).trans h.c2⟩
theorem curAt_new (w : World) (A A' : Option Addr) (n cap n' cap' : Nat) (f : Int) : CurAt (w.alloc (.cells #[.slice A n cap, .int .i64 f, .slice A' n' cap'] 24)) w.heap.size A n cap f A' n' cap' :=
  ⟨by simp, by simp [go_sem], by simp [go_sem], by simp [go_sem]⟩
theorem vwithin_any (x a b : Int) (w : World) : Calls Try.prog 43 #[.int .i64 x, .int .i64 a, .int .i64 b] w (Gives (.bool (decide (a ≤ x) && decide (x ≤ b))) w) := by
  by_cases c1 : a ≤ x
  · by_cases c2 : x ≤ b
    · rw [decide_eq_true c1, decide_eq_true c2]
      go_enter Try.func43, Try.ntmps43
      go_wp2_with fail
      go_ret
      exact Gives.mk rfl (Below.refl _ _)
    · rw [decide_eq_true c1, decide_eq_false c2]
      go_enter Try.func43, Try.ntmps43
      go_wp2_with fail
      go_ret
      exact Gives.mk rfl (Below.refl _ _)
  · rw [decide_eq_false c1, Bool.false_and]
    go_enter Try.func43, Try.ntmps43
    go_wp2_with fail
    go_ret
    exact Gives.mk rfl (Below.refl _ _)
theorem vcheck_any (A A' : Option Addr) (cap cap' : Nat) (h t : List Sp.Pd) (f : Int) (w : World) (hz : PcSized h) (tz : PcSized t) (hT : Pcs w A h) (tT : Pcs w A' t) :
    Calls Try.prog 17 #[.agg #[.slice A h.length cap, .int .i64 f, .slice A' t.length cap']] w (Gives (.int .i64 (Sp.curE h f t)) w) := by
  have CK := hid (fun W (hb : Below w.heap.size w W) => pcheck_any A cap h W hz (hT.below hb))
  unfold Sp.curE
  by_cases c1 : Sp.pcheck h = 0
  · rw [if_neg (fun k => k c1)]
    simp only [c1] at CK
    have W := hid (fun W => vwithin_any f 1 1000 W)
    by_cases c2 : f < 1 ∨ 1000 < f
    · rw [if_pos c2]
      have e : (decide (1 ≤ f) && decide (f ≤ 1000)) = false := by simp; omega
      rw [e] at W
      clear hz tz hT tT c1 e c2
      go_enter Try.func17, Try.ntmps17
      go_wp2_with (first
        | (go_at_call 42; refine (CK.out _ (balloc _ _)).mono ?_; rintro _ w5 ⟨rfl, hb⟩; have Q5 := hid ((curAt_new w A A' h.length cap t.length cap' f).below hb); have q0 := Q5.out.c0; have q1 := Q5.out.c1; have q2 := Q5.out.c2; have ql := Q5.out.lt; have B5 := hid (bthen (balloc w _) hb); clear hb)
        | (go_at_call 43; refine (W.out _).mono ?_; rintro _ w6 ⟨rfl, hb⟩; have Q6 := hid (Q5.out.below hb); have q0 := Q6.out.c0; have q1 := Q6.out.c1; have q2 := Q6.out.c2; have ql := Q6.out.lt; have B6 := hid (bthen B5.out hb); clear hb))
      go_ret
      exact Gives.mk rfl B6.out
    · rw [if_neg c2]
      have e : (decide (1 ≤ f) && decide (f ≤ 1000)) = true := by simp; omega
      rw [e] at W
      by_cases c3 : Sp.pcheck t = 0
      · have DO := hid (fun W (hb : Below w.heap.size w W) => domain_any A' cap' t _ _ _ W tz (tT.below hb) (dom_good c3))
        rw [if_neg (fun k => k c3)]
        generalize Sp.least t = a at DO ⊢
        generalize Sp.great t = b at DO ⊢
        clear hz tz hT tT c1 e c2 c3
        by_cases c4 : a = 0
        · subst c4
          by_cases c5 : b = 1000
          · subst c5
            rw [if_pos ⟨rfl, rfl⟩]
            go_enter Try.func17, Try.ntmps17
            go_wp2_with (first
              | (go_at_call 42; refine (CK.out _ (balloc _ _)).mono ?_; rintro _ w5 ⟨rfl, hb⟩; have Q5 := hid ((curAt_new w A A' h.length cap t.length cap' f).below hb); have q0 := Q5.out.c0; have q1 := Q5.out.c1; have q2 := Q5.out.c2; have ql := Q5.out.lt; have B5 := hid (bthen (balloc w _) hb); clear hb)
              | (go_at_call 43; refine (W.out _).mono ?_; rintro _ w6 ⟨rfl, hb⟩; have Q6 := hid (Q5.out.below hb); have q0 := Q6.out.c0; have q1 := Q6.out.c1; have q2 := Q6.out.c2; have ql := Q6.out.lt; have B6 := hid (bthen B5.out hb); clear hb)
              | (go_at_call 44; refine (DO.out _ B6.out).mono ?_; rintro _ w7 ⟨rfl, hb⟩; have B7 := hid (bthen B6.out hb); clear hb))
            go_ret
            exact Gives.mk rfl B7.out
          · rw [if_neg (fun k => c5 k.2)]
            go_enter Try.func17, Try.ntmps17
            go_wp2_with (first
              | (go_at_call 42; refine (CK.out _ (balloc _ _)).mono ?_; rintro _ w5 ⟨rfl, hb⟩; have Q5 := hid ((curAt_new w A A' h.length cap t.length cap' f).below hb); have q0 := Q5.out.c0; have q1 := Q5.out.c1; have q2 := Q5.out.c2; have ql := Q5.out.lt; have B5 := hid (bthen (balloc w _) hb); clear hb)
              | (go_at_call 43; refine (W.out _).mono ?_; rintro _ w6 ⟨rfl, hb⟩; have Q6 := hid (Q5.out.below hb); have q0 := Q6.out.c0; have q1 := Q6.out.c1; have q2 := Q6.out.c2; have ql := Q6.out.lt; have B6 := hid (bthen B5.out hb); clear hb)
              | (go_at_call 44; refine (DO.out _ B6.out).mono ?_; rintro _ w7 ⟨rfl, hb⟩; have B7 := hid (bthen B6.out hb); clear hb))
            go_ret
            exact Gives.mk rfl B7.out
        · rw [if_neg (fun k => c4 k.1)]
          go_enter Try.func17, Try.ntmps17
          go_wp2_with (first
            | (go_at_call 42; refine (CK.out _ (balloc _ _)).mono ?_; rintro _ w5 ⟨rfl, hb⟩; have Q5 := hid ((curAt_new w A A' h.length cap t.length cap' f).below hb); have q0 := Q5.out.c0; have q1 := Q5.out.c1; have q2 := Q5.out.c2; have ql := Q5.out.lt; have B5 := hid (bthen (balloc w _) hb); clear hb)
            | (go_at_call 43; refine (W.out _).mono ?_; rintro _ w6 ⟨rfl, hb⟩; have Q6 := hid (Q5.out.below hb); have q0 := Q6.out.c0; have q1 := Q6.out.c1; have q2 := Q6.out.c2; have ql := Q6.out.lt; have B6 := hid (bthen B5.out hb); clear hb)
            | (go_at_call 44; refine (DO.out _ B6.out).mono ?_; rintro _ w7 ⟨rfl, hb⟩; have B7 := hid (bthen B6.out hb); clear hb))
          go_ret
          exact Gives.mk rfl B7.out
      · have DO := hid (fun W (hb : Below w.heap.size w W) => domain_any A' cap' t _ _ _ W tz (tT.below hb) (dom_bad c3))
        rw [if_pos c3]
        generalize Sp.pcheck t = E at DO c3 ⊢
        clear hz tz hT tT c1 e c2
        go_enter Try.func17, Try.ntmps17
        go_wp2_with (first
          | (go_at_call 42; refine (CK.out _ (balloc _ _)).mono ?_; rintro _ w5 ⟨rfl, hb⟩; have Q5 := hid ((curAt_new w A A' h.length cap t.length cap' f).below hb); have q0 := Q5.out.c0; have q1 := Q5.out.c1; have q2 := Q5.out.c2; have ql := Q5.out.lt; have B5 := hid (bthen (balloc w _) hb); clear hb)
          | (go_at_call 43; refine (W.out _).mono ?_; rintro _ w6 ⟨rfl, hb⟩; have Q6 := hid (Q5.out.below hb); have q0 := Q6.out.c0; have q1 := Q6.out.c1; have q2 := Q6.out.c2; have ql := Q6.out.lt; have B6 := hid (bthen B5.out hb); clear hb)
          | (go_at_call 44; refine (DO.out _ B6.out).mono ?_; rintro _ w7 ⟨rfl, hb⟩; have B7 := hid (bthen B6.out hb); clear hb))
        go_ret
        exact Gives.mk rfl B7.out
  · rw [if_pos c1]
    generalize Sp.pcheck h = E at CK c1 ⊢
    clear hz tz hT tT
    go_enter Try.func17, Try.ntmps17
    go_wp2_with (go_at_call 42; refine (CK.out _ (balloc _ _)).mono ?_; rintro _ w5 ⟨rfl, hb⟩; have Q5 := hid ((curAt_new w A A' h.length cap t.length cap' f).below hb); have q0 := Q5.out.c0; have q1 := Q5.out.c1; have q2 := Q5.out.c2; have ql := Q5.out.lt; have B5 := hid (bthen (balloc w _) hb); clear hb)
    go_ret
    exact Gives.mk rfl B5.out
/-- An enclosure of a volume. -/
def Sp.volS (f d h : Int) : Int × Int := ((785398 * (f * d * d * h)).tdiv 10000000000000, (785399 * (f * d * d * h) + 10000000000000 - 1).tdiv 10000000000000)
theorem vdiam_any (x : Int) (w : World) : Calls Try.prog 31 #[.int .i64 x] w (Gives (.bool (decide (1 ≤ x) && decide (x ≤ 3000))) w) := by
  have W := hid (vwithin_any x 1 3000 w)
  generalize (decide (1 ≤ x) && decide (x ≤ 3000)) = B at W ⊢
  go_enter Try.func31, Try.ntmps31
  go_wp2_with (go_at_call 43; refine W.out.mono ?_; rintro _ w5 ⟨rfl, hb⟩; have B5 := hid hb; clear hb)
  go_ret
  exact Gives.mk rfl B5.out
theorem vheigh_any (x : Int) (w : World) : Calls Try.prog 34 #[.int .i64 x] w (Gives (.bool (decide (1 ≤ x) && decide (x ≤ 1000))) w) := by
  have W := hid (vwithin_any x 1 1000 w)
  generalize (decide (1 ≤ x) && decide (x ≤ 1000)) = B at W ⊢
  go_enter Try.func34, Try.ntmps34
  go_wp2_with (go_at_call 43; refine W.out.mono ?_; rintro _ w5 ⟨rfl, hb⟩; have B5 := hid hb; clear hb)
  go_ret
  exact Gives.mk rfl B5.out
/-- The error of a stem without places. -/
def Sp.stemE (h : List Sp.Pd) (f : Int) (t : List Sp.Pd) (d x : Int) : Int :=
  if Sp.curE h f t ≠ 0 then Sp.curE h f t else if (decide (1 ≤ d) && decide (d ≤ 3000)) = false then 2 else if (decide (1 ≤ x) && decide (x ≤ 1000)) = false then 2 else 0
theorem vstem_any (A A' : Option Addr) (cap cap' : Nat) (h t : List Sp.Pd) (f d x : Int) (w : World) (hz : PcSized h) (tz : PcSized t) (hT : Pcs w A h) (tT : Pcs w A' t) :
    Calls Try.prog 39 #[.agg #[.slice A h.length cap, .int .i64 f, .slice A' t.length cap'], .int .i64 d, .int .i64 x, .slice none 0 0] w (Gives (.int .i64 (Sp.stemE h f t d x)) w) := by
  have CK := hid (fun W (hb : Below w.heap.size w W) => vcheck_any A A' cap cap' h t f W hz tz (hT.below hb) (tT.below hb))
  have DI := hid (fun W => vdiam_any d W)
  have HE := hid (fun W => vheigh_any x W)
  unfold Sp.stemE
  generalize Sp.curE h f t = E at CK ⊢
  generalize (decide (1 ≤ d) && decide (d ≤ 3000)) = B1 at DI ⊢
  generalize (decide (1 ≤ x) && decide (x ≤ 1000)) = B2 at HE ⊢
  clear hz tz hT tT
  by_cases c1 : E = 0
  · subst c1
    rw [if_neg (fun k => k rfl)]
    cases B1
    · rw [if_pos rfl]
      go_enter Try.func39, Try.ntmps39
      go_wp2_with (first
        | (go_at_call 17; refine (CK.out _ (by first | exact Below.refl _ _ | exact balloc _ _)).mono ?_; rintro _ w5 ⟨rfl, hb⟩; have B5 := hid hb; clear hb)
        | (go_at_call 31; refine (DI.out _).mono ?_; rintro _ w6 ⟨rfl, hb⟩; have B6 := hid (bthen B5.out hb); clear hb))
      go_ret
      exact Gives.mk rfl (bthen (balloc w _) B6.out)
    · rw [if_neg (by simp)]
      cases B2
      · rw [if_pos rfl]
        go_enter Try.func39, Try.ntmps39
        go_wp2_with (first
          | (go_at_call 17; refine (CK.out _ (by first | exact Below.refl _ _ | exact balloc _ _)).mono ?_; rintro _ w5 ⟨rfl, hb⟩; have B5 := hid hb; clear hb)
          | (go_at_call 31; refine (DI.out _).mono ?_; rintro _ w6 ⟨rfl, hb⟩; have B6 := hid (bthen B5.out hb); clear hb)
          | (go_at_call 34; refine (HE.out _).mono ?_; rintro _ w7 ⟨rfl, hb⟩; have B7 := hid (bthen B6.out hb); clear hb))
        go_ret
        exact Gives.mk rfl (bthen (balloc w _) B7.out)
      · rw [if_neg (by simp)]
        go_enter Try.func39, Try.ntmps39
        go_wp2_with (first
          | (go_at_call 17; refine (CK.out _ (by first | exact Below.refl _ _ | exact balloc _ _)).mono ?_; rintro _ w5 ⟨rfl, hb⟩; have B5 := hid hb; clear hb)
          | (go_at_call 31; refine (DI.out _).mono ?_; rintro _ w6 ⟨rfl, hb⟩; have B6 := hid (bthen B5.out hb); clear hb)
          | (go_at_call 34; refine (HE.out _).mono ?_; rintro _ w7 ⟨rfl, hb⟩; have B7 := hid (bthen B6.out hb); clear hb))
        go_loopw [27] (fun t wr => t = .int .i64 0 ∧ Below w.heap.size w wr) (fun _ _ => 0)
        case atStart => exact ⟨rfl, bthen (balloc w _) B7.out⟩
        case round =>
          obtain ⟨rfl, hb⟩ := hrel
          have HB := hid hb
          clear hb
          go_wp2_with fail
          go_ret
          exact Gives.mk rfl HB.out
  · rw [if_pos c1]
    go_enter Try.func39, Try.ntmps39
    go_wp2_with (go_at_call 17; refine (CK.out _ (by first | exact Below.refl _ _ | exact balloc _ _)).mono ?_; rintro _ w5 ⟨rfl, hb⟩; have B5 := hid hb; clear hb)
    go_ret
    exact Gives.mk rfl (bthen (balloc w _) B5.out)
set_option maxRecDepth 100000 in
theorem venc_any (l h u : Int) (l0 : 0 ≤ l) (l1 : l ≤ 9000000000000) (h0 : 0 ≤ h) (h1 : h ≤ 9000000000000) (u0 : 1 ≤ u) (u1 : u ≤ 10000000000000) (w : World) :
    Calls Try.prog 40 #[.int .i64 l, .int .i64 h, .int .i64 u] w (Gives (.agg #[.int .i64 ((785398 * l).tdiv u), .int .i64 ((785399 * h + u - 1).tdiv u)]) w) := by
  obtain ⟨p, hp⟩ : ∃ p, 785398 * l = p := ⟨_, rfl⟩
  obtain ⟨q, hq⟩ : ∃ q, 785399 * h = q := ⟨_, rfl⟩
  have p0 : 0 ≤ p := by omega
  have p1 : p ≤ 7068582000000000000 := by omega
  have q0 : 0 ≤ q := by omega
  have q1 : q ≤ 7068591000000000000 := by omega
  rw [hp, hq]
  obtain ⟨a, ha⟩ : ∃ a, p.tdiv u = a := ⟨_, rfl⟩
  obtain ⟨b, hb⟩ : ∃ b, (q + u - 1).tdiv u = b := ⟨_, rfl⟩
  have a0 : 0 ≤ a := by rw [← ha]; exact Int.tdiv_nonneg p0 (by omega)
  have a1 : a ≤ p := by rw [← ha, Int.tdiv_eq_ediv_of_nonneg p0]; exact Int.ediv_le_self _ p0
  have b0 : 0 ≤ b := by rw [← hb]; exact Int.tdiv_nonneg (by omega) (by omega)
  have b1 : b ≤ q + u - 1 := by rw [← hb, Int.tdiv_eq_ediv_of_nonneg (by omega)]; exact Int.ediv_le_self _ (by omega)
  have w1 : wrap64 p = p := pw64 _ (by omega)
  have w2 : wrap64 q = q := pw64 _ (by omega)
  have w3 : wrap64 (q + u) = q + u := pw64 _ (by omega)
  have w4 : wrap64 (q + u - 1) = q + u - 1 := pw64 _ (by omega)
  have w5 : wrap64 a = a := pw64 _ (by omega)
  have w6 : wrap64 b = b := pw64 _ (by omega)
  have uz : (u == 0) = false := by simp; omega
  rw [ha, hb]
  go_enter Try.func40, Try.ntmps40
  have x1 : IntKind.i64.wrap p = p := by rw [IntKind.wrap_i64]; omega
  have x2 : IntKind.i64.wrap q = q := by rw [IntKind.wrap_i64]; omega
  have x3 : IntKind.i64.wrap (q + u) = q + u := by rw [IntKind.wrap_i64]; omega
  have x4 : IntKind.i64.wrap (q + u - 1) = q + u - 1 := by rw [IntKind.wrap_i64]; omega
  have x5 : IntKind.i64.wrap a = a := by rw [IntKind.wrap_i64]; omega
  have x6 : IntKind.i64.wrap b = b := by rw [IntKind.wrap_i64]; omega
  go_wp2_with fail
  have un : ¬ u = 0 := by omega
  obtain ⟨U, hU⟩ : ∃ U, w.alloc (.cells #[.int .i64 0, .int .i64 0] 32) = U := ⟨_, rfl⟩
  have BU := hid (show Below w.heap.size w U by rw [← hU]; exact balloc _ _)
  have z0 : U.cell? ⟨w.heap.size, 0, none⟩ = some (.int .i64 0) := by rw [← hU]; simp [go_sem]
  have z1 : U.cell? ⟨w.heap.size, 1, none⟩ = some (.int .i64 0) := by rw [← hU]; simp [go_sem]
  have zf : ∀ o, U.frozen? ⟨w.heap.size, o, none⟩ = false := by intro o; rw [← hU]; simp [go_sem]
  have zz : w.heap.size < U.heap.size := by rw [← hU]; simp
  simp only [hU]
  clear hU
  go_still_tail 12, (by rfl)
  go_wp2_with fail
  refine bodyPost_ret (v := .agg #[.int .i64 a, .int .i64 b]) (by simp [results, Try.results40, go_sem, z0, z1, zf, zz]) rfl ?_
  exact Gives.mk rfl (by have hB := BU.out; repeat' (first | (with_reducible exact Below.refl _ _) | (with_reducible refine Below.alloc ?_ ?_ _) | (with_reducible refine Below.setCell ?_ ?_ _) | (with_reducible refine Below.drew ?_) | (with_reducible refine below_dn ?_ _) | (with_reducible refine Below.trans ?_ (Below.mono (by assumption) ?_)) | (simp; done) | (simp; omega) | omega))
theorem vol_prod {f d x : Int} (f0 : 1 ≤ f) (f1 : f ≤ 1000) (d0 : 1 ≤ d) (d1 : d ≤ 3000) (x0 : 1 ≤ x) (x1 : x ≤ 1000) : (0 ≤ f * d ∧ f * d ≤ 3000000) ∧ (0 ≤ f * d * d ∧ f * d * d ≤ 9000000000) ∧ (0 ≤ f * d * d * x ∧ f * d * d * x ≤ 9000000000000) := by
  have a0 : 0 ≤ f * d := Int.mul_nonneg (by omega) (by omega)
  have a1 : f * d ≤ 1000 * 3000 := Int.mul_le_mul f1 d1 (by omega) (by omega)
  have b0 : 0 ≤ f * d * d := Int.mul_nonneg a0 (by omega)
  have b1 : f * d * d ≤ 3000000 * 3000 := Int.mul_le_mul (by omega) d1 (by omega) (by omega)
  have c0 : 0 ≤ f * d * d * x := Int.mul_nonneg b0 (by omega)
  have c1 : f * d * d * x ≤ 9000000000 * 1000 := Int.mul_le_mul (by omega) x1 (by omega) (by omega)
  exact ⟨⟨a0, by omega⟩, ⟨b0, by omega⟩, ⟨c0, by omega⟩⟩
/-- A curve's box and a span's box behind it, made in w. -/
structure VBox (w W : World) (A : Option Addr) (n cap : Nat) (f : Int) (A' : Option Addr) (n' cap' : Nat) : Prop where
  bl : Below w.heap.size w W
  cu : CurAt W w.heap.size A n cap f A' n' cap'
  z0 : W.cell? ⟨w.heap.size + 1, 0, none⟩ = some (.int .i64 0)
  z1 : W.cell? ⟨w.heap.size + 1, 1, none⟩ = some (.int .i64 0)
  zf : ∀ o, W.frozen? ⟨w.heap.size + 1, o, none⟩ = false
  zz : w.heap.size + 1 < W.heap.size
theorem VBox.new (w : World) (A : Option Addr) (n cap : Nat) (f : Int) (A' : Option Addr) (n' cap' : Nat) :
    VBox w ((w.alloc (.cells #[.slice A n cap, .int .i64 f, .slice A' n' cap'] 24)).alloc (Obj.cells #[.int .i64 0, .int .i64 0] 32)) A n cap f A' n' cap' :=
  ⟨((Below.refl _ _).alloc (Nat.le_refl _) _).alloc (by simp) _, (curAt_new w A A' n cap n' cap' f).below (balloc _ _), by simp [go_sem], by simp [go_sem], fun o => by simp [go_sem], by simp⟩
theorem VBox.below {w W W' : World} {A A' : Option Addr} {n cap n' cap' : Nat} {f : Int} (h : VBox w W A n cap f A' n' cap') (hb : Below W.heap.size W W') : VBox w W' A n cap f A' n' cap' :=
  ⟨bthen h.bl hb, h.cu.below hb, (hb.cell (p := ⟨w.heap.size + 1, 0, none⟩) h.zz).trans h.z0, (hb.cell (p := ⟨w.heap.size + 1, 1, none⟩) h.zz).trans h.z1, fun o => (hb.frozen (p := ⟨w.heap.size + 1, o, none⟩) h.zz).trans (h.zf o), Nat.lt_of_lt_of_le h.zz hb.size⟩
/-- What Volume answers. -/
def Sp.volE (h : List Sp.Pd) (f : Int) (t : List Sp.Pd) (d x : Int) : Int × Int × Int :=
  if Sp.stemE h f t d x ≠ 0 then (0, 0, Sp.stemE h f t d x) else ((Sp.volS f d x).1, (Sp.volS f d x).2, 0)
theorem Sp.stemE_zero {h : List Sp.Pd} {f : Int} {t : List Sp.Pd} {d x : Int} (e : Sp.stemE h f t d x = 0) : Sp.curE h f t = 0 ∧ 1 ≤ d ∧ d ≤ 3000 ∧ 1 ≤ x ∧ x ≤ 1000 := by
  unfold Sp.stemE at e
  by_cases c : Sp.curE h f t = 0
  · rw [if_neg (fun k => k c)] at e
    by_cases c1 : (decide (1 ≤ d) && decide (d ≤ 3000)) = false
    · rw [if_pos c1] at e; omega
    · rw [if_neg c1] at e
      by_cases c2 : (decide (1 ≤ x) && decide (x ≤ 1000)) = false
      · rw [if_pos c2] at e; omega
      · simp at c1 c2
        exact ⟨c, by omega, by omega, by omega, by omega⟩
  · rw [if_pos c] at e; exact absurd e c
theorem vvol_bad (A A' : Option Addr) (cap cap' : Nat) (h t : List Sp.Pd) (f : Int) (d x : Int) (w : World) (hz : PcSized h) (tz : PcSized t) (hT : Pcs w A h) (tT : Pcs w A' t) (hE : Sp.stemE h f t d x ≠ 0) :
    Calls Try.prog 15 #[.agg #[.slice A h.length cap, .int .i64 f, .slice A' t.length cap'], .int .i64 d, .int .i64 x] w (Gives (.tuple #[.agg #[.int .i64 0, .int .i64 0], .int .i64 (Sp.stemE h f t d x)]) w) := by
  have VB := VBox.new w A h.length cap f A' t.length cap'
  generalize hU : (w.alloc (Obj.cells #[.slice A h.length cap, .int .i64 f, .slice A' t.length cap'] 24)).alloc (Obj.cells #[.int .i64 0, .int .i64 0] 32) = U at VB
  have ST := hid (vstem_any A A' cap cap' h t f d x U hz tz (hT.below VB.bl) (tT.below VB.bl))
  have HB := hid VB
  have HU := hid hU
  generalize Sp.stemE h f t d x = E at ST hE ⊢
  have hn : (E == 0) = false := by simpa using hE
  have k0 := VB.cu.c0
  have k1 := VB.cu.c1
  have k2 := VB.cu.c2
  clear VB hU hz tz hT tT hE
  go_enter Try.func15, Try.ntmps15
  go_upto_region 1 with fail
  rw [HU.out]
  go_wp2_with fail
  refine ST.out.mono ?_
  rintro _ w5 ⟨rfl, hb⟩
  have V5 := hid (HB.out.below hb)
  have z0 := V5.out.z0
  have z1 := V5.out.z1
  have zf := V5.out.zf
  have zz := V5.out.zz
  have zl := V5.out.cu.lt
  clear hb k0 k1 k2
  go_wp2_with fail
  refine bodyPost_ret (v := .tuple #[.agg #[.int .i64 0, .int .i64 0], .int .i64 E]) (by simp [results, Try.results15, go_sem, z0, z1, zf, zz]) rfl ?_
  exact Gives.mk rfl (by have hB := V5.out.bl; repeat' (first | (with_reducible exact Below.refl _ _) | (with_reducible refine Below.alloc ?_ ?_ _) | (with_reducible refine Below.setCell ?_ ?_ _) | (with_reducible refine Below.drew ?_) | (with_reducible refine Below.trans ?_ (Below.mono (by assumption) ?_)) | (simp; done) | (simp; omega) | omega))
theorem vvol_good (A A' : Option Addr) (cap cap' : Nat) (h t : List Sp.Pd) (f : Int) (d x lo hi n1 n2 n : Int) (w : World) (hz : PcSized h) (tz : PcSized t) (hT : Pcs w A h) (tT : Pcs w A' t) (hE : Sp.stemE h f t d x = 0) (h1 : f * d = n1) (h2 : n1 * d = n2) (h3 : n2 * x = n)
    (b1 : 0 ≤ n1 ∧ n1 ≤ 3000000) (b2 : 0 ≤ n2 ∧ n2 ≤ 9000000000) (b3 : 0 ≤ n ∧ n ≤ 9000000000000)
    (en : ∀ w, Calls Try.prog 40 #[.int .i64 n, .int .i64 n, .int .i64 10000000000000] w (Gives (.agg #[.int .i64 lo, .int .i64 hi]) w)) :
    Calls Try.prog 15 #[.agg #[.slice A h.length cap, .int .i64 f, .slice A' t.length cap'], .int .i64 d, .int .i64 x] w (Gives (.tuple #[.agg #[.int .i64 lo, .int .i64 hi], .int .i64 0]) w) := by
  have VB := VBox.new w A h.length cap f A' t.length cap'
  generalize hU : (w.alloc (Obj.cells #[.slice A h.length cap, .int .i64 f, .slice A' t.length cap'] 24)).alloc (Obj.cells #[.int .i64 0, .int .i64 0] 32) = U at VB
  have ST := hid (vstem_any A A' cap cap' h t f d x U hz tz (hT.below VB.bl) (tT.below VB.bl))
  rw [hE] at ST
  have HB := hid VB
  have HU := hid hU
  have EN := hid en
  have k0 := VB.cu.c0
  have k1 := VB.cu.c1
  have k2 := VB.cu.c2
  clear VB hU hz tz hT tT hE en
  go_enter Try.func15, Try.ntmps15
  go_upto_region 1 with fail
  rw [HU.out]
  go_wp2_with fail
  refine ST.out.mono ?_
  rintro _ w5 ⟨rfl, hb⟩
  have V5 := hid (HB.out.below hb)
  have q1 := V5.out.cu.c1
  have zl := V5.out.cu.lt
  clear hb k0 k1 k2
  go_wp2_with fail
  refine (EN.out _).mono ?_
  rintro _ w6 ⟨rfl, hb⟩
  have V6 := hid (V5.out.below hb)
  have z0 := V6.out.z0
  have z1 := V6.out.z1
  have zf := V6.out.zf
  have zz := V6.out.zz
  clear hb q1 zl
  go_wp2_with fail
  refine bodyPost_ret (v := .tuple #[.agg #[.int .i64 lo, .int .i64 hi], .int .i64 0]) (by simp [results, Try.results15, go_sem, z0, z1, zf, zz]) rfl ?_
  exact Gives.mk rfl (by have hB := V6.out.bl; repeat' (first | (with_reducible exact Below.refl _ _) | (with_reducible refine Below.alloc ?_ ?_ _) | (with_reducible refine Below.setCell ?_ ?_ _) | (with_reducible refine Below.drew ?_) | (with_reducible refine Below.trans ?_ (Below.mono (by assumption) ?_)) | (simp; done) | (simp; omega) | omega))
theorem vvol_any (A A' : Option Addr) (cap cap' : Nat) (h t : List Sp.Pd) (f : Int) (d x lo hi e : Int) (w : World) (hz : PcSized h) (tz : PcSized t) (hT : Pcs w A h) (tT : Pcs w A' t) (hv : Sp.volE h f t d x = (lo, hi, e)) :
    Calls Try.prog 15 #[.agg #[.slice A h.length cap, .int .i64 f, .slice A' t.length cap'], .int .i64 d, .int .i64 x] w (Gives (.tuple #[.agg #[.int .i64 lo, .int .i64 hi], .int .i64 e]) w) := by
  unfold Sp.volE at hv
  by_cases c : Sp.stemE h f t d x = 0
  · rw [if_neg (fun k => k c)] at hv
    obtain ⟨rfl, hv2⟩ := Prod.mk.inj hv
    obtain ⟨rfl, rfl⟩ := Prod.mk.inj hv2
    obtain ⟨z0, z1, z2, z3, z4⟩ := Sp.stemE_zero c
    obtain ⟨y0, y1, y2, y3, y4, y5⟩ := Sp.curE_zero z0
    obtain ⟨p1, p2, p3⟩ := vol_prod y1 y2 z1 z2 z3 z4
    exact vvol_good A A' cap cap' h t f d x _ _ _ _ _ w hz tz hT tT c rfl rfl rfl p1 p2 p3 (fun w => venc_any _ _ _ p3.1 p3.2 p3.1 p3.2 (by omega) (by omega) w)
  · rw [if_pos c] at hv
    obtain ⟨rfl, hv2⟩ := Prod.mk.inj hv
    obtain ⟨rfl, rfl⟩ := Prod.mk.inj hv2
    exact vvol_bad A A' cap cap' h t f d x w hz tz hT tT c
theorem evalS_ok {l : List Sp.Pd} {x lo hi : Int} (h : Sp.evalS l x = (lo, hi, 0)) : Sp.okQ (lo, hi) := by
  unfold Sp.evalS at h
  by_cases c : Sp.valsE l x x = 0
  · rw [if_neg (fun k => k c)] at h
    obtain ⟨-, -, k⟩ := vals_sized l x x c
    rw [vals_one] at k
    have k1 := k _ (List.mem_singleton.mpr rfl)
    obtain ⟨h1, h2⟩ := Prod.mk.inj h
    obtain ⟨h2, -⟩ := Prod.mk.inj h2
    rw [h1, h2] at k1
    exact k1
  · rw [if_pos c] at h
    obtain ⟨-, h2⟩ := Prod.mk.inj h
    obtain ⟨-, h3⟩ := Prod.mk.inj h2
    exact absurd h3 c
namespace Sp
theorem newS_small {n d : Int} (n0 : 1 ≤ n) (n1 : n ≤ 1000000000000000) (d0 : 1 ≤ d) (d1 : d ≤ 1000000000000000) :
    ∃ g x y : Int, newS n d = (x, y, 0) ∧ 1 ≤ g ∧ n = x * g ∧ d = y * g ∧ 1 ≤ x ∧ x ≤ n ∧ 1 ≤ y ∧ y ≤ d ∧ Int.gcd x y ≤ 1 := by
  obtain ⟨m, rfl⟩ : ∃ m : Nat, n = (m : Int) := ⟨n.toNat, by omega⟩
  obtain ⟨k, rfl⟩ : ∃ k : Nat, d = (k : Int) := ⟨d.toNat, by omega⟩
  have hg : Int.gcd (m : Int) (k : Int) = Nat.gcd m k := by simp
  have g0 : 0 < Nat.gcd m k := Nat.gcd_pos_of_pos_left _ (by omega)
  obtain ⟨x, hx⟩ := Nat.gcd_dvd_left m k
  obtain ⟨y, hy⟩ := Nat.gcd_dvd_right m k
  have hxd : m / Nat.gcd m k = x := by
    have h2 : Nat.gcd m k * x / Nat.gcd m k = x := Nat.mul_div_cancel_left _ g0
    rw [← hx] at h2
    exact h2
  have hyd : k / Nat.gcd m k = y := by
    have h2 : Nat.gcd m k * y / Nat.gcd m k = y := Nat.mul_div_cancel_left _ g0
    rw [← hy] at h2
    exact h2
  have hcop : Nat.gcd x y = 1 := by
    have h := Nat.gcd_mul_left (Nat.gcd m k) x y
    rw [← hx, ← hy] at h
    exact Nat.eq_of_mul_eq_mul_left g0 (by rw [Nat.mul_one]; exact h.symm)
  have x1 : 1 ≤ x := by
    rcases Nat.eq_zero_or_pos x with h | h
    · rw [h, Nat.mul_zero] at hx; omega
    · exact h
  have y1 : 1 ≤ y := by
    rcases Nat.eq_zero_or_pos y with h | h
    · rw [h, Nat.mul_zero] at hy; omega
    · exact h
  have xm : x ≤ m := by rw [← hxd]; exact Nat.div_le_self _ _
  have yk : y ≤ k := by rw [← hyd]; exact Nat.div_le_self _ _
  refine ⟨(Nat.gcd m k : Nat), (x : Nat), (y : Nat), ?_, by omega, by rw [← Int.natCast_mul]; congr 1; rw [Nat.mul_comm]; exact hx, by rw [← Int.natCast_mul]; congr 1; rw [Nat.mul_comm]; exact hy, by omega, by omega, by omega, by omega, by simp [hcop]⟩
  unfold newS
  have e1 : ((m : Int).natAbs : Int) / (Int.gcd (m : Int) (k : Int) : Int) = (x : Int) := by
    rw [hg, Int.natAbs_natCast, ← Int.natCast_ediv, hxd]
  have e2 : ((k : Int).natAbs : Int) / (Int.gcd (m : Int) (k : Int) : Int) = (y : Int) := by
    rw [hg, Int.natAbs_natCast, ← Int.natCast_ediv, hyd]
  rw [e1, e2, if_neg (by omega), if_neg (by omega), if_pos (by rw [decide_eq_decide]; omega)]
end Sp
theorem newS_pos {n d : Int} (n0 : 1 ≤ n) (n1 : n ≤ 1000000000000000) (d0 : 1 ≤ d) (d1 : d ≤ 1000000000000000) : (Sp.newS n d).2.2 = 0 ∧ Sp.okQ ((Sp.newS n d).1, (Sp.newS n d).2.1) := by
  obtain ⟨g, x, y, e, g1, hn, hd, x1, xn, y1, yd, hg⟩ := Sp.newS_small n0 n1 d0 d1
  rw [e]
  have gp : 0 < Int.gcd x y := Int.gcd_pos_of_ne_zero_left _ (by omega)
  have cop : Int.gcd x y = 1 := by omega
  have k : Sp.okQ (x, y) := Sp.valid_mk (by omega) cop (by omega) (by omega)
  exact ⟨rfl, k⟩
/-- What Height answers. -/
def Sp.heiS (h : List Sp.Pd) (f : Int) (t : List Sp.Pd) (d : Int) : Int × Int :=
  if Sp.curE h f t ≠ 0 then (0, Sp.curE h f t)
  else if (decide (1 ≤ d) && decide (d ≤ 3000)) = false then (0, 2)
  else if (Sp.evalS h d).2.2 ≠ 0 then (0, (Sp.evalS h d).2.2)
  else if (decide (1 ≤ Sp.roundF (Sp.evalS h d).1 (Sp.evalS h d).2.1) && decide (Sp.roundF (Sp.evalS h d).1 (Sp.evalS h d).2.1 ≤ 1000)) = false then (0, 2)
  else (Sp.roundF (Sp.evalS h d).1 (Sp.evalS h d).2.1, 0)
set_option maxRecDepth 100000 in
theorem vhei_any (A A' : Option Addr) (cap cap' : Nat) (h t : List Sp.Pd) (f : Int) (d r e : Int) (w : World) (hz : PcSized h) (tz : PcSized t) (hT : Pcs w A h) (tT : Pcs w A' t) (hv : Sp.heiS h f t d = (r, e)) :
    Calls Try.prog 13 #[.agg #[.slice A h.length cap, .int .i64 f, .slice A' t.length cap'], .int .i64 d] w (Gives (.tuple #[.int .i64 r, .int .i64 e]) w) := by
  have VB := curAt_new w A A' h.length cap t.length cap' f
  have b0 : Below w.heap.size w (w.alloc (Obj.cells #[.slice A h.length cap, .int .i64 f, .slice A' t.length cap'] 24)) := balloc _ _
  generalize hU : w.alloc (Obj.cells #[.slice A h.length cap, .int .i64 f, .slice A' t.length cap'] 24) = U at VB b0
  have CK := hid (vcheck_any A A' cap cap' h t f U hz tz (hT.below b0) (tT.below b0))
  have DI := hid (fun W => vdiam_any d W)
  obtain ⟨⟨lo, hi, y⟩, hy⟩ : ∃ z, Sp.evalS h d = z := ⟨_, rfl⟩
  have EV := hid (fun W (hb : Below w.heap.size w W) => eval_any A cap h d lo hi y W hz (hT.below hb) hy)
  have OK := hid (fun (k : y = 0) => Sp.okQ_bounds (evalS_ok (k ▸ hy)))
  unfold Sp.heiS at hv
  rw [hy] at hv
  simp only at hv
  generalize Sp.curE h f t = E at CK hv
  generalize (decide (1 ≤ d) && decide (d ≤ 3000)) = B1 at DI hv
  have RO := hid (fun (k : y = 0) W => fround_any lo hi (OK.out k).1.1 (OK.out k).1.2 (OK.out k).2.1 (OK.out k).2.2 W)
  generalize Sp.roundF lo hi = R at RO hv
  have HE := hid (fun W => vheigh_any R W)
  generalize (decide (1 ≤ R) && decide (R ≤ 1000)) = B2 at HE hv
  have HV := hid hv
  have HU := hid hU
  have HB := hid b0
  have HC := hid VB
  have k0 := VB.c0
  have k1 := VB.c1
  have k2 := VB.c2
  clear hz tz hT tT hy hv hU b0 VB OK
  go_enter Try.func13, Try.ntmps13
  go_upto_region 1 with fail
  rw [HU.out]
  go_wp2_with fail
  refine CK.out.mono ?_
  rintro _ w5 ⟨rfl, hb⟩
  have Q5 := hid (HC.out.below hb)
  have B5 := hid (bthen HB.out hb)
  clear hb k0 k1 k2
  by_cases c1 : E = 0
  · subst c1
    go_wp2_with fail
    refine (DI.out _).mono ?_
    rintro _ w6 ⟨rfl, hb⟩
    have q0 := (Q5.out.below hb).c0
    have ql := (Q5.out.below hb).lt
    have B6 := hid (bthen B5.out hb)
    clear hb
    cases B1
    · obtain ⟨rfl, rfl⟩ : 0 = r ∧ 2 = e := by simpa using HV.out
      go_wp2_with fail
      refine bodyPost_ret (v := .tuple #[.int .i64 0, .int .i64 2]) (by simp [results, Try.results13, go_sem]) rfl ?_
      exact Gives.mk rfl B6.out
    · go_wp2_with fail
      refine (EV.out _ B6.out).mono ?_
      rintro _ w7 ⟨rfl, hb⟩
      have B7 := hid (bthen B6.out hb)
      clear hb q0 ql
      by_cases c2 : y = 0
      · subst c2
        have RO2 := hid (RO.out rfl)
        go_wp2_with fail
        refine (RO2.out _).mono ?_
        rintro _ w8 ⟨rfl, hb⟩
        have B8 := hid (bthen (bthen B7.out (balloc _ _)) hb)
        clear hb
        go_wp2_with fail
        refine (HE.out _).mono ?_
        rintro _ w9 ⟨rfl, hb⟩
        have B9 := hid (bthen B8.out hb)
        clear hb
        cases B2
        · obtain ⟨rfl, rfl⟩ : 0 = r ∧ 2 = e := by simpa using HV.out
          go_wp2_with fail
          refine bodyPost_ret (v := .tuple #[.int .i64 0, .int .i64 2]) (by simp [results, Try.results13, go_sem]) rfl ?_
          exact Gives.mk rfl B9.out
        · obtain ⟨rfl, rfl⟩ : R = r ∧ 0 = e := by simpa using HV.out
          go_wp2_with fail
          refine bodyPost_ret (v := .tuple #[.int .i64 R, .int .i64 0]) (by simp [results, Try.results13, go_sem]) rfl ?_
          exact Gives.mk rfl B9.out
      · obtain ⟨rfl, rfl⟩ : 0 = r ∧ y = e := by simpa [c2] using HV.out
        have hn : (y == 0) = false := by simpa using c2
        clear RO EV DI HV
        go_wp2_with fail
        refine bodyPost_ret (v := .tuple #[.int .i64 0, .int .i64 y]) (by simp [results, Try.results13, go_sem]) rfl ?_
        exact Gives.mk rfl (bthen B7.out (balloc _ _))
  · obtain ⟨rfl, rfl⟩ : 0 = r ∧ E = e := by simpa [c1] using HV.out
    have hn : (E == 0) = false := by simpa using c1
    go_wp2_with fail
    refine bodyPost_ret (v := .tuple #[.int .i64 0, .int .i64 E]) (by simp [results, Try.results13, go_sem]) rfl ?_
    exact Gives.mk rfl B5.out
namespace Sp
def diaM (z : Int × Int × Int) : Int × Int := if z.2.2 ≠ 0 then (0, z.2.2) else (min (max (z.1 / z.2.1) 0) 3000, 0)
def diaQ (y u : Int × Int × Int) : Int × Int := if y.2.2 ≠ 0 then (0, y.2.2) else diaM (mulF y.1 y.2.1 u.1 u.2.1)
/-- What diameterAt answers. -/
def diaS (t : List Pd) (d x a : Int) : Int × Int := diaQ (evalS t ((1000 * a).tdiv x)) (newS d 1000)
end Sp
/-- A pair that lies in a box, and an error. -/
def PaRel (w : World) (lo hi y : Int) (v v' : Value) (wx : World) : Prop :=
  ∃ g, v = .pointer (some ⟨g, 0, none⟩) ∧ v' = .int .i64 y ∧ (w.heap.size ≤ g ∧ g < wx.heap.size) ∧ (wx.cell? ⟨g, 0, none⟩ = some (.int .i64 lo) ∧ wx.cell? ⟨g, 1, none⟩ = some (.int .i64 hi)) ∧ Below w.heap.size w wx
set_option maxRecDepth 100000 in
set_option maxHeartbeats 1000000 in
theorem vdia_any (A A' : Option Addr) (cap cap' : Nat) (h t : List Sp.Pd) (f : Int) (d x a r e : Int) (w : World) (tz : PcSized t) (tT : Pcs w A' t) (d0 : 1 ≤ d) (d1 : d ≤ 3000) (x0 : 1 ≤ x) (x1 : x ≤ 1000) (a0 : 0 ≤ a) (a1 : a ≤ 1000) (hv : Sp.diaS t d x a = (r, e)) :
    Calls Try.prog 47 #[.agg #[.slice A h.length cap, .int .i64 f, .slice A' t.length cap'], .int .i64 d, .int .i64 x, .int .i64 a] w (Gives (.tuple #[.int .i64 r, .int .i64 e]) w) := by
  have b0 : Below w.heap.size w (w.alloc (Obj.cells #[.slice A h.length cap, .int .i64 f, .slice A' t.length cap'] 24)) := balloc _ _
  have VB := curAt_new w A A' h.length cap t.length cap' f
  have zU : (w.alloc (Obj.cells #[.slice A h.length cap, .int .i64 f, .slice A' t.length cap'] 24)).heap.size = w.heap.size + 1 := by simp
  generalize hU : w.alloc (Obj.cells #[.slice A h.length cap, .int .i64 f, .slice A' t.length cap'] 24) = U at VB b0 zU
  obtain ⟨P, hP⟩ : ∃ P, 1000 * a = P := ⟨_, rfl⟩
  obtain ⟨Q, hQ⟩ : ∃ Q, P.tdiv x = Q := ⟨_, rfl⟩
  have p0 : 0 ≤ P := by omega
  have p1 : P ≤ 1000000 := by omega
  have Q0 : 0 ≤ Q := by rw [← hQ]; exact Int.tdiv_nonneg p0 (by omega)
  have Q1 : Q ≤ P := by rw [← hQ, Int.tdiv_eq_ediv_of_nonneg p0]; exact Int.ediv_le_self _ p0
  obtain ⟨⟨lo, hi, y⟩, hy⟩ : ∃ z, Sp.evalS t Q = z := ⟨_, rfl⟩
  obtain ⟨n2, n3⟩ := newS_pos d0 (by omega : d ≤ 1000000000000000) (by omega : (1 : Int) ≤ 1000) (by omega)
  obtain ⟨⟨u1, u2, ue⟩, hu⟩ : ∃ z, Sp.newS d 1000 = z := ⟨_, rfl⟩
  obtain ⟨⟨z1, z2, ze⟩, hz⟩ : ∃ z, Sp.mulF lo hi u1 u2 = z := ⟨_, rfl⟩
  unfold Sp.diaS at hv
  rw [hP, hQ, hy, hu] at hv
  unfold Sp.diaQ at hv
  simp only [hz] at hv
  rw [hu] at n2 n3
  simp only at n2 n3
  have EV := hid (fun W (hb : Below w.heap.size w W) => eval_any A' cap' t Q lo hi y W tz (tT.below hb) hy)
  have NE := hid (fun W => fnew_any d 1000 (by omega) (by omega) (by omega) (by omega) u1 u2 ue hu W)
  have MU := hid (fun (k : y = 0) W => fmul_any lo hi u1 u2 z1 z2 ze (Sp.okQ_bounds (evalS_ok (k ▸ hy))).1.1 (Sp.okQ_bounds (evalS_ok (k ▸ hy))).1.2 (Sp.okQ_bounds (evalS_ok (k ▸ hy))).2.1 (Sp.okQ_bounds (evalS_ok (k ▸ hy))).2.2 (Sp.okQ_bounds n3).1.1 (Sp.okQ_bounds n3).1.2 (Sp.okQ_bounds n3).2.1 (Sp.okQ_bounds n3).2.2 hz W)
  have FL := hid (fun (k : y = 0) (k2 : ze = 0) W => ffloor_any z1 z2 (by
    rcases Sp.mul_res (evalS_ok (k ▸ hy)) n3 with h | h
    · rw [hz] at h; exact h.2
    · rw [hz] at h
      obtain ⟨-, h2⟩ := Prod.mk.inj h
      obtain ⟨-, h3⟩ := Prod.mk.inj h2
      omega) W)
  have HV := hid hv
  have HU := hid hU
  have KU := hid b0
  have c2 := VB.c2
  have zz : w.heap.size ≤ U.heap.size := by omega
  have zw : w.heap.size < U.heap.size := by omega
  have zn : ¬ w.heap.size = U.heap.size := by omega
  have xz : (x == 0) = false := by simp; omega
  have xn : ¬ x = 0 := by omega
  have wP : IntKind.i64.wrap P = P := by rw [IntKind.wrap_i64]; omega
  have wQ : IntKind.i64.wrap Q = Q := by rw [IntKind.wrap_i64]; omega
  have vP : wrap64 P = P := pw64 _ (by omega)
  have vQ : wrap64 Q = Q := pw64 _ (by omega)
  clear zU tz tT hv hU b0 VB hy hu hz n2 n3 x0 x1 a0 a1 p0 p1 Q0 Q1 d0 d1
  go_enter Try.func47, Try.ntmps47
  go_upto_region 1 with fail
  rw [HU.out]
  go_cut [10, 11] (fun v v' wx => PaRel w lo hi y v v' wx)
  case first =>
    go_region_with (go_at_call 32; refine (EV.out _ (by have hk := KU.out; repeat' (first | (with_reducible exact Below.refl _ _) | (with_reducible refine Below.alloc ?_ ?_ _) | (with_reducible refine Below.setCell ?_ ?_ _) | (with_reducible refine Below.drew ?_) | (with_reducible refine Below.trans ?_ (Below.mono (by assumption) ?_)) | (simp; done) | (simp; omega) | omega))).mono ?_; rintro _ w6 ⟨rfl, hb⟩; have hb6 : Below U.heap.size U w6 := (by repeat' (first | (with_reducible exact Below.refl _ _) | (with_reducible refine Below.alloc ?_ ?_ _) | (with_reducible refine Below.setCell ?_ ?_ _) | (with_reducible refine Below.drew ?_) | (with_reducible refine below_dn ?_ _) | (with_reducible refine Below.trans ?_ (Below.mono (by assumption) ?_)) | (simp; done) | (simp; omega) | omega)); have sz6 : U.heap.size ≤ w6.heap.size := hb6.size; (first | (have g0 : w6.cell? ⟨U.heap.size, 0, none⟩ = some (.int .i64 0) := (hb.cell (p := ⟨U.heap.size, 0, none⟩) (by simp)).trans (by simp [go_sem]); have g1 : w6.cell? ⟨U.heap.size, 1, none⟩ = some (.int .i64 0) := (hb.cell (p := ⟨U.heap.size, 1, none⟩) (by simp)).trans (by simp [go_sem]); have gf : ∀ o, w6.frozen? ⟨U.heap.size, o, none⟩ = false := fun o => (hb.frozen (p := ⟨U.heap.size, o, none⟩) (by simp)).trans (by simp [go_sem]); have gz : U.heap.size < w6.heap.size := (by have := hb.size; simp at this; omega)) | skip); clear hb)
    all_goals
      go_wp2_with fail
      go_meet
      have k6 : Below w.heap.size w w6 := bthen KU.out hb6
      first
        | (exact ⟨w6.heap.size, rfl, rfl, ⟨by omega, by simp⟩, ⟨by simp [go_sem], by simp [go_sem]⟩, by repeat' (first | (with_reducible exact Below.refl _ _) | (with_reducible refine Below.alloc ?_ ?_ _) | (with_reducible refine Below.setCell ?_ ?_ _) | (with_reducible refine Below.drew ?_) | (with_reducible refine below_dn ?_ _) | (with_reducible refine Below.trans ?_ (Below.mono (by assumption) ?_)) | (simp; done) | (simp; omega) | omega)⟩)
        | (exact ⟨U.heap.size, rfl, rfl, ⟨zz, by simpa using gz⟩, ⟨by simp [go_sem, g0, g1], by simp [go_sem, g0, g1]⟩, by repeat' (first | (with_reducible exact Below.refl _ _) | (with_reducible refine Below.alloc ?_ ?_ _) | (with_reducible refine Below.setCell ?_ ?_ _) | (with_reducible refine Below.drew ?_) | (with_reducible refine below_dn ?_ _) | (with_reducible refine Below.trans ?_ (Below.mono (by assumption) ?_)) | (simp; done) | (simp; omega) | omega)⟩)
  case rest =>
    obtain ⟨g, rfl, rfl, ⟨hg0, hg1⟩, ⟨q0, q1⟩, hk⟩ := hcut
    have HK := hid hk
    clear hk c2 zn
    by_cases c1 : y = 0
    · subst c1
      have MU2 := hid (MU.out rfl)
      have FL2 := hid (FL.out rfl)
      clear MU FL
      go_wp2_with fail
      refine (NE.out _).mono ?_
      rintro _ w7 ⟨rfl, hb⟩
      have r0 := (hb.cell (p := ⟨g, 0, none⟩) hg1).trans q0
      have r1 := (hb.cell (p := ⟨g, 1, none⟩) hg1).trans q1
      have g7 : g < w7.heap.size := Nat.lt_of_lt_of_le hg1 hb.size
      have n7 : ¬ g = w7.heap.size := by omega
      have m7 : ¬ w7.heap.size = g := by omega
      have B7 := hid (bthen HK.out hb)
      clear hb q0 q1 hg1
      go_wp2_with fail
      refine (MU2.out _).mono ?_
      rintro _ w8 ⟨rfl, hb⟩
      have B8 := hid (bthen (bthen B7.out (balloc _ _)) hb)
      clear hb r0 r1
      by_cases c2 : ze = 0
      · subst c2
        have FL3 := hid (FL2.out rfl)
        go_wp2_with fail
        refine (FL3.out _).mono ?_
        rintro _ w9 ⟨rfl, hb⟩
        have B9 := hid (bthen (bthen B8.out (balloc _ _)) hb)
        clear hb
        have hv := HV.out
        rw [if_neg (fun k => k rfl)] at hv
        unfold Sp.diaM at hv
        rw [if_neg (fun k => k rfl)] at hv
        obtain ⟨rfl, rfl⟩ := Prod.mk.inj hv
        clear hv HV
        go_wp2_with fail
        refine bodyPost_ret (v := .tuple #[.int .i64 (min (max (z1 / z2) 0) 3000), .int .i64 0]) (by simp [results, Try.results47, go_sem]) rfl ?_
        exact Gives.mk rfl B9.out
      · have hv := HV.out
        rw [if_neg (fun k => k rfl)] at hv
        unfold Sp.diaM at hv
        rw [if_pos c2] at hv
        obtain ⟨rfl, rfl⟩ := Prod.mk.inj hv
        have hn : (ze == 0) = false := by simpa using c2
        clear hv HV
        go_wp2_with fail
        refine bodyPost_ret (v := .tuple #[.int .i64 0, .int .i64 ze]) (by simp [results, Try.results47, go_sem]) rfl ?_
        exact Gives.mk rfl (bthen B8.out (balloc _ _))
    · have hv := HV.out
      rw [if_pos c1] at hv
      obtain ⟨rfl, rfl⟩ := Prod.mk.inj hv
      have hn : (y == 0) = false := by simpa using c1
      clear hv HV MU FL
      go_wp2_with fail
      refine bodyPost_ret (v := .tuple #[.int .i64 0, .int .i64 y]) (by simp [results, Try.results47, go_sem]) rfl ?_
      exact Gives.mk rfl HK.out
/-- A list of ints that lies in memory. -/
def Ints (w : World) (A : Option Addr) (l : List Int) : Prop := 0 < l.length → ∃ b off, A = some ⟨b, off, none⟩ ∧ b < w.heap.size ∧ ∀ j, (hj : j < l.length) → w.cell? ⟨b, off + j, none⟩ = some (.int .i64 (l[j]))
theorem Ints.below {w w' : World} {A : Option Addr} {l : List Int} (h : Ints w A l) (hb : Below w.heap.size w w') : Ints w' A l := fun h0 => by
  obtain ⟨b, off, e, bl, q⟩ := h h0
  exact ⟨b, off, e, Nat.lt_of_lt_of_le bl hb.size, fun j hj => (hb.cell (p := ⟨b, off + j, none⟩) bl).trans (q j hj)⟩
/-- The error of places on a stem of the height x. -/
def Sp.plE (x : Int) : List Int → Int
  | [] => 0
  | a :: l => if (decide (0 ≤ a) && decide (a ≤ x)) = false then 2 else Sp.plE x l
/-- The error of a stem with places. -/
def Sp.stemP (h : List Sp.Pd) (f : Int) (t : List Sp.Pd) (d x : Int) (l : List Int) : Int := if Sp.stemE h f t d x ≠ 0 then Sp.stemE h f t d x else Sp.plE x l
set_option maxRecDepth 100000 in
theorem vstemp_any (A A' : Option Addr) (cap cap' : Nat) (h t : List Sp.Pd) (f : Int) (d x : Int) (A2 : Option Addr) (cap2 : Nat) (l : List Int) (w : World) (hz : PcSized h) (tz : PcSized t) (hT : Pcs w A h) (tT : Pcs w A' t) (hl : l.length ≤ 1000) (hI : Ints w A2 l) :
    Calls Try.prog 39 #[.agg #[.slice A h.length cap, .int .i64 f, .slice A' t.length cap'], .int .i64 d, .int .i64 x, .slice A2 l.length cap2] w (Gives (.int .i64 (Sp.stemP h f t d x l)) w) := by
  have CK := hid (fun W (hb : Below w.heap.size w W) => vcheck_any A A' cap cap' h t f W hz tz (hT.below hb) (tT.below hb))
  have DI := hid (fun W => vdiam_any d W)
  have HE := hid (fun W => vheigh_any x W)
  unfold Sp.stemP Sp.stemE
  generalize Sp.curE h f t = E at CK ⊢
  generalize (decide (1 ≤ d) && decide (d ≤ 3000)) = B1 at DI ⊢
  generalize (decide (1 ≤ x) && decide (x ≤ 1000)) = B2 at HE ⊢
  have HI := hid hI
  have LE := hid hl
  clear hz tz hT tT hI hl
  by_cases c1 : E = 0
  · subst c1
    cases B1
    · simp only [ne_eq, not_true_eq_false, if_false, if_true, reduceIte, reduceCtorEq, not_false_eq_true, show ¬ (2:Int) = 0 from by decide]
      go_enter Try.func39, Try.ntmps39
      go_wp2_with (first
        | (go_at_call 17; refine (CK.out _ (by first | exact Below.refl _ _ | exact balloc _ _)).mono ?_; rintro _ w5 ⟨rfl, hb⟩; have B5 := hid hb; clear hb)
        | (go_at_call 31; refine (DI.out _).mono ?_; rintro _ w6 ⟨rfl, hb⟩; have B6 := hid (bthen B5.out hb); clear hb))
      go_ret
      exact Gives.mk (by simp) (bthen (balloc w _) B6.out)
    · cases B2
      · simp only [ne_eq, not_true_eq_false, if_false, if_true, reduceIte, reduceCtorEq, not_false_eq_true, show ¬ (2:Int) = 0 from by decide]
        go_enter Try.func39, Try.ntmps39
        go_wp2_with (first
          | (go_at_call 17; refine (CK.out _ (by first | exact Below.refl _ _ | exact balloc _ _)).mono ?_; rintro _ w5 ⟨rfl, hb⟩; have B5 := hid hb; clear hb)
          | (go_at_call 31; refine (DI.out _).mono ?_; rintro _ w6 ⟨rfl, hb⟩; have B6 := hid (bthen B5.out hb); clear hb)
          | (go_at_call 34; refine (HE.out _).mono ?_; rintro _ w7 ⟨rfl, hb⟩; have B7 := hid (bthen B6.out hb); clear hb))
        go_ret
        exact Gives.mk (by simp) (bthen (balloc w _) B7.out)
      · simp only [ne_eq, not_true_eq_false, if_false, if_true, reduceIte, reduceCtorEq, not_false_eq_true, show ¬ (2:Int) = 0 from by decide]
        obtain ⟨R, hR⟩ : ∃ R, Sp.plE x l = R := ⟨_, rfl⟩
        rw [hR]
        have HR := hid hR
        clear hR
        go_enter Try.func39, Try.ntmps39
        go_wp2_with (first
          | (go_at_call 17; refine (CK.out _ (by first | exact Below.refl _ _ | exact balloc _ _)).mono ?_; rintro _ w5 ⟨rfl, hb⟩; have B5 := hid hb; clear hb)
          | (go_at_call 31; refine (DI.out _).mono ?_; rintro _ w6 ⟨rfl, hb⟩; have B6 := hid (bthen B5.out hb); clear hb)
          | (go_at_call 34; refine (HE.out _).mono ?_; rintro _ w7 ⟨rfl, hb⟩; have B7 := hid (bthen B6.out hb); clear hb))
        go_loopw [27] (fun t wr => ∃ j : Nat, t = .int .i64 (j : Int) ∧ j ≤ l.length ∧ Sp.plE x (l.drop j) = R ∧ Below w.heap.size w wr) (fun t _ => l.length - (intOf t).toNat)
        case atStart => exact ⟨0, rfl, Nat.zero_le _, HR.out, bthen (balloc w _) B7.out⟩
        case round =>
          obtain ⟨j, rfl, hj, hd, hB⟩ := hrel
          have HD := hid hd
          have HB := hid hB
          clear hd hB
          by_cases hlt : j < l.length
          · obtain ⟨b, off, rfl, bl, q⟩ := (HI.out.below HB.out) (by omega)
            have q0 := q j hlt
            have hd := HD.out
            rw [List.drop_eq_getElem_cons hlt] at hd
            unfold Sp.plE at hd
            obtain ⟨c, hc⟩ : ∃ c, l[j]'hlt = c := ⟨_, rfl⟩
            rw [hc] at q0 hd
            have i0 : (0 : Int) ≤ (j : Int) := by omega
            have i1 : (j : Int) < (l.length : Int) := by omega
            have WI := hid (vwithin_any c 0 x wr)
            have HJ := hid hlt
            have ej : wrap64 ((j : Int) + 1) = (j : Int) + 1 := pw64 _ (by have := LE.out; have := HJ.out; omega)
            generalize (decide (0 ≤ c) && decide (c ≤ x)) = B at WI hd
            clear q hc
            cases B
            · have HF := hid hd
              clear hd
              go_wp2_with fail
              refine WI.out.mono ?_
              rintro _ w8 ⟨rfl, hb⟩
              have B8 := hid hb
              clear hb
              go_wp2_with fail
              go_ret
              exact Gives.mk (i64_eq (by have := HF.out; simpa using this.symm)) (bthen HB.out B8.out)
            · have HF := hid hd
              clear hd
              go_wp2_with fail
              refine WI.out.mono ?_
              rintro _ w8 ⟨rfl, hb⟩
              have B8 := hid hb
              clear hb
              go_wp2_with fail
              go_roundw
              case rel => exact ⟨j + 1, by go_num, by have := HJ.out; omega, by have := HF.out; simpa using this, bthen HB.out B8.out⟩
              case measure => rw [ej]; exact pmeas _ _ HJ.out
          · have i1 : ¬ (j : Int) < (l.length : Int) := by omega
            have hd := HD.out
            rw [List.drop_eq_nil_of_le (by omega)] at hd
            have HF := hid (show (0 : Int) = R from hd)
            clear hd
            go_wp2_with fail
            go_ret
            exact Gives.mk (i64_eq HF.out.symm) HB.out
  · simp only [ne_eq, c1, not_false_eq_true, if_true]
    go_enter Try.func39, Try.ntmps39
    go_wp2_with (go_at_call 17; refine (CK.out _ (by first | exact Below.refl _ _ | exact balloc _ _)).mono ?_; rintro _ w5 ⟨rfl, hb⟩; have B5 := hid hb; clear hb)
    go_ret
    exact Gives.mk (by simp) (bthen (balloc w _) B5.out)
/-- What Diameter answers. -/
def Sp.diamS (h : List Sp.Pd) (f : Int) (t : List Sp.Pd) (d x a : Int) : Int × Int := if Sp.stemP h f t d x [a] ≠ 0 then (0, Sp.stemP h f t d x [a]) else Sp.diaS t d x a
theorem Sp.plE_cons {x a : Int} {l : List Int} (h : Sp.plE x (a :: l) = 0) : 0 ≤ a ∧ a ≤ x ∧ Sp.plE x l = 0 := by
  unfold Sp.plE at h
  by_cases c : (decide (0 ≤ a) && decide (a ≤ x)) = false
  · rw [if_pos c] at h; omega
  · rw [if_neg c] at h
    simp at c
    exact ⟨c.1, c.2, h⟩
theorem Sp.stemP_zero {h : List Sp.Pd} {f : Int} {t : List Sp.Pd} {d x : Int} {l : List Int} (e : Sp.stemP h f t d x l = 0) : Sp.stemE h f t d x = 0 ∧ Sp.plE x l = 0 := by
  unfold Sp.stemP at e
  by_cases c : Sp.stemE h f t d x = 0
  · rw [if_neg (fun k => k c)] at e; exact ⟨c, e⟩
  · rw [if_pos c] at e; exact absurd e c
theorem vdiam2_any (A A' : Option Addr) (cap cap' : Nat) (h t : List Sp.Pd) (f : Int) (d x a r e : Int) (w : World) (hz : PcSized h) (tz : PcSized t) (hT : Pcs w A h) (tT : Pcs w A' t) (hv : Sp.diamS h f t d x a = (r, e)) :
    Calls Try.prog 21 #[.agg #[.slice A h.length cap, .int .i64 f, .slice A' t.length cap'], .int .i64 d, .int .i64 x, .int .i64 a] w (Gives (.tuple #[.int .i64 r, .int .i64 e]) w) := by
  have VB : CurAt ((w.alloc (Obj.cells #[.slice A h.length cap, .int .i64 f, .slice A' t.length cap'] 24)).alloc (.cells #[.int .i64 a] 3)) w.heap.size A h.length cap f A' t.length cap' := (curAt_new w A A' h.length cap t.length cap' f).below (balloc _ _)
  have b0 : Below w.heap.size w ((w.alloc (Obj.cells #[.slice A h.length cap, .int .i64 f, .slice A' t.length cap'] 24)).alloc (.cells #[.int .i64 a] 3)) := bthen (balloc _ _) (balloc _ _)
  have hI : Ints ((w.alloc (Obj.cells #[.slice A h.length cap, .int .i64 f, .slice A' t.length cap'] 24)).alloc (.cells #[.int .i64 a] 3)) (some ⟨w.heap.size + 1, 0, none⟩) [a] := fun _ => ⟨w.heap.size + 1, 0, rfl, by simp, fun j hj => by
    have : j = 0 := by simpa using hj
    subst this
    simp [go_sem]⟩
  generalize hU : (w.alloc (Obj.cells #[.slice A h.length cap, .int .i64 f, .slice A' t.length cap'] 24)).alloc (.cells #[.int .i64 a] 3) = U at VB b0 hI
  have CK := hid (vstemp_any A A' cap cap' h t f d x (some ⟨w.heap.size + 1, 0, none⟩) 1 [a] U hz tz (hT.below b0) (tT.below b0) (by simp) hI)
  unfold Sp.diamS at hv
  have DA := hid (fun (k : Sp.stemP h f t d x [a] = 0) W (hb : Below w.heap.size w W) (r e : Int) hv => by
    obtain ⟨k1, k2⟩ := Sp.stemP_zero k
    obtain ⟨-, z1, z2, z3, z4⟩ := Sp.stemE_zero k1
    obtain ⟨z5, z6, -⟩ := Sp.plE_cons k2
    exact vdia_any A A' cap cap' h t f d x a r e W tz (tT.below hb) z1 z2 z3 z4 z5 (by omega) hv)
  generalize Sp.stemP h f t d x [a] = E at CK hv DA
  have HV := hid hv
  have HU := hid hU
  have HB := hid b0
  have HC := hid VB
  have k0 := VB.c0
  have k1 := VB.c1
  have k2 := VB.c2
  simp only [List.length_cons, List.length_nil, Nat.zero_add] at CK
  clear hz tz hT tT hv hU b0 VB hI
  go_enter Try.func21, Try.ntmps21
  go_upto_region 1 with fail
  go_wp2_with fail
  rw [HU.out]
  refine CK.out.mono ?_
  rintro _ w5 ⟨rfl, hb⟩
  have Q5 := HC.out.below hb
  have q0 := Q5.c0
  have q1 := Q5.c1
  have q2 := Q5.c2
  have B5 := hid (bthen HB.out hb)
  clear hb k0 k1 k2 Q5
  by_cases c1 : E = 0
  · subst c1
    have hv := HV.out
    rw [if_neg (fun k => k rfl)] at hv
    have DA2 := hid (DA.out rfl w5 B5.out r e hv)
    clear hv HV DA
    go_wp2_with fail
    refine DA2.out.mono ?_
    rintro _ w6 ⟨rfl, hb⟩
    have B6 := hid (bthen B5.out hb)
    clear hb
    go_wp2_with fail
    refine bodyPost_ret (v := .tuple #[.int .i64 r, .int .i64 e]) (by simp [results, Try.results21, go_sem]) rfl ?_
    exact Gives.mk rfl B6.out
  · have hv := HV.out
    rw [if_pos c1] at hv
    obtain ⟨rfl, rfl⟩ := Prod.mk.inj hv
    have hn : (E == 0) = false := by simpa using c1
    clear hv HV DA
    go_wp2_with fail
    refine bodyPost_ret (v := .tuple #[.int .i64 0, .int .i64 E]) (by simp [results, Try.results21, go_sem]) rfl ?_
    exact Gives.mk rfl B5.out
end Go.Proofs.Ytdimncchejbaaaa
