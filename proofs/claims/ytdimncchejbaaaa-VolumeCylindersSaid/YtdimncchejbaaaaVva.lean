/-
  Layer 14: curves (Cur), the specification of volume.Check, and the contracts of Check, Height and Volume of package volume.
-/
import Derived.Test.YtdimncchejbaaaaQb
namespace Go.Proofs.Ytdimncchejbaaaa
open Go.RowKit
set_option linter.unusedVariables false
set_option linter.unusedSimpArgs false
/-- The error of a curve. -/
def Sp.curE (h : List Sp.Pd) (f : Int) (t : List Sp.Pd) : Int :=
  if Sp.pcheck h ≠ 0 then Sp.pcheck h else if f < 1 ∨ 1000 < f then 2 else if Sp.pcheck t ≠ 0 then Sp.pcheck t else if Sp.least t = 0 ∧ Sp.great t = 1000 then 0 else 2
theorem Sp.curE_zero {h : List Sp.Pd} {f : Int} {t : List Sp.Pd} (e : Sp.curE h f t = 0) : Sp.pcheck h = 0 ∧ 1 ≤ f ∧ f ≤ 1000 ∧ Sp.pcheck t = 0 ∧ Sp.least t = 0 ∧ Sp.great t = 1000 := by
  unfold Sp.curE at e
  split at e
  · exact absurd e ‹_›
  · split at e
    · exact absurd e (by omega)
    · split at e
      · exact absurd e ‹_›
      · split at e
        · exact ⟨by omega, by omega, by omega, by omega, by omega, by omega⟩
        · exact absurd e (by omega)
/-- A curve in a box. -/
structure CurAt (w : World) (g : Nat) (A : Option Addr) (n cap : Nat) (f : Int) (A' : Option Addr) (n' cap' : Nat) : Prop where
  lt : g < w.heap.size
  c0 : w.cell? ⟨g, 0, none⟩ = some (.slice A n cap)
  c1 : w.cell? ⟨g, 1, none⟩ = some (.int .i64 f)
  c2 : w.cell? ⟨g, 2, none⟩ = some (.slice A' n' cap')
theorem CurAt.below {w w' : World} {g : Nat} {A A' : Option Addr} {n cap n' cap' : Nat} {f : Int} (h : CurAt w g A n cap f A' n' cap') (hb : Below w.heap.size w w') : CurAt w' g A n cap f A' n' cap' :=
  ⟨Nat.lt_of_lt_of_le h.lt hb.size, (hb.cell (p := ⟨g, 0, none⟩) h.lt).trans h.c0, (hb.cell (p := ⟨g, 1, none⟩) h.lt).trans h.c1, (hb.cell (p := ⟨g, 2, none⟩) h.lt).trans h.c2⟩
theorem curAt_new (w : World) (A A' : Option Addr) (n cap n' cap' : Nat) (f : Int) : CurAt (w.alloc (.cells #[.slice A n cap, .int .i64 f, .slice A' n' cap'] 24)) w.heap.size A n cap f A' n' cap' :=
  ⟨by simp, by simp [go_sem], by simp [go_sem], by simp [go_sem]⟩
theorem vwithin_any (x a b : Int) (w : World) : Calls Try.prog 43 #[.int .i64 x, .int .i64 a, .int .i64 b] w (Gives (.bool (decide (a ≤ x) && decide (x ≤ b))) w) := by
  by_cases c1 : a ≤ x
  · by_cases c2 : x ≤ b
    · rw [decide_eq_true c1, decide_eq_true c2]
      go_enter Try.func43, Try.ntmps43
      go_wp2_with fail
      go_ret
      exact Gives.mk rfl (Below.refl _ _)
    · rw [decide_eq_true c1, decide_eq_false c2]
      go_enter Try.func43, Try.ntmps43
      go_wp2_with fail
      go_ret
      exact Gives.mk rfl (Below.refl _ _)
  · rw [decide_eq_false c1, Bool.false_and]
    go_enter Try.func43, Try.ntmps43
    go_wp2_with fail
    go_ret
    exact Gives.mk rfl (Below.refl _ _)
theorem vcheck_any (A A' : Option Addr) (cap cap' : Nat) (h t : List Sp.Pd) (f : Int) (w : World) (hz : PcSized h) (tz : PcSized t) (hT : Pcs w A h) (tT : Pcs w A' t) :
    Calls Try.prog 17 #[.agg #[.slice A h.length cap, .int .i64 f, .slice A' t.length cap']] w (Gives (.int .i64 (Sp.curE h f t)) w) := by
  have CK := hid (fun W (hb : Below w.heap.size w W) => pcheck_any A cap h W hz (hT.below hb))
  unfold Sp.curE
  by_cases c1 : Sp.pcheck h = 0
  · rw [if_neg (fun k => k c1)]
    simp only [c1] at CK
    have W := hid (fun W => vwithin_any f 1 1000 W)
    by_cases c2 : f < 1 ∨ 1000 < f
    · rw [if_pos c2]
      have e : (decide (1 ≤ f) && decide (f ≤ 1000)) = false := by simp; omega
      rw [e] at W
      clear hz tz hT tT c1 e c2
      go_enter Try.func17, Try.ntmps17
      go_wp2_with (first
        | (go_at_call 42; refine (CK.out _ (balloc _ _)).mono ?_; rintro _ w5 ⟨rfl, hb⟩; have Q5 := hid ((curAt_new w A A' h.length cap t.length cap' f).below hb); have q0 := Q5.out.c0; have q1 := Q5.out.c1; have q2 := Q5.out.c2; have ql := Q5.out.lt; have B5 := hid (bthen (balloc w _) hb); clear hb)
        | (go_at_call 43; refine (W.out _).mono ?_; rintro _ w6 ⟨rfl, hb⟩; have Q6 := hid (Q5.out.below hb); have q0 := Q6.out.c0; have q1 := Q6.out.c1; have q2 := Q6.out.c2; have ql := Q6.out.lt; have B6 := hid (bthen B5.out hb); clear hb))
      go_ret
      exact Gives.mk rfl B6.out
    · rw [if_neg c2]
      have e : (decide (1 ≤ f) && decide (f ≤ 1000)) = true := by simp; omega
      rw [e] at W
      by_cases c3 : Sp.pcheck t = 0
      · have DO := hid (fun W (hb : Below w.heap.size w W) => domain_any A' cap' t _ _ _ W tz (tT.below hb) (dom_good c3))
        rw [if_neg (fun k => k c3)]
        generalize Sp.least t = a at DO ⊢
        generalize Sp.great t = b at DO ⊢
        clear hz tz hT tT c1 e c2 c3
        by_cases c4 : a = 0
        · subst c4
          by_cases c5 : b = 1000
          · subst c5
            rw [if_pos ⟨rfl, rfl⟩]
            go_enter Try.func17, Try.ntmps17
            go_wp2_with (first
              | (go_at_call 42; refine (CK.out _ (balloc _ _)).mono ?_; rintro _ w5 ⟨rfl, hb⟩; have Q5 := hid ((curAt_new w A A' h.length cap t.length cap' f).below hb); have q0 := Q5.out.c0; have q1 := Q5.out.c1; have q2 := Q5.out.c2; have ql := Q5.out.lt; have B5 := hid (bthen (balloc w _) hb); clear hb)
              | (go_at_call 43; refine (W.out _).mono ?_; rintro _ w6 ⟨rfl, hb⟩; have Q6 := hid (Q5.out.below hb); have q0 := Q6.out.c0; have q1 := Q6.out.c1; have q2 := Q6.out.c2; have ql := Q6.out.lt; have B6 := hid (bthen B5.out hb); clear hb)
              | (go_at_call 44; refine (DO.out _ B6.out).mono ?_; rintro _ w7 ⟨rfl, hb⟩; have B7 := hid (bthen B6.out hb); clear hb))
            go_ret
            exact Gives.mk rfl B7.out
          · rw [if_neg (fun k => c5 k.2)]
            go_enter Try.func17, Try.ntmps17
            go_wp2_with (first
              | (go_at_call 42; refine (CK.out _ (balloc _ _)).mono ?_; rintro _ w5 ⟨rfl, hb⟩; have Q5 := hid ((curAt_new w A A' h.length cap t.length cap' f).below hb); have q0 := Q5.out.c0; have q1 := Q5.out.c1; have q2 := Q5.out.c2; have ql := Q5.out.lt; have B5 := hid (bthen (balloc w _) hb); clear hb)
              | (go_at_call 43; refine (W.out _).mono ?_; rintro _ w6 ⟨rfl, hb⟩; have Q6 := hid (Q5.out.below hb); have q0 := Q6.out.c0; have q1 := Q6.out.c1; have q2 := Q6.out.c2; have ql := Q6.out.lt; have B6 := hid (bthen B5.out hb); clear hb)
              | (go_at_call 44; refine (DO.out _ B6.out).mono ?_; rintro _ w7 ⟨rfl, hb⟩; have B7 := hid (bthen B6.out hb); clear hb))
            go_ret
            exact Gives.mk rfl B7.out
        · rw [if_neg (fun k => c4 k.1)]
          go_enter Try.func17, Try.ntmps17
          go_wp2_with (first
            | (go_at_call 42; refine (CK.out _ (balloc _ _)).mono ?_; rintro _ w5 ⟨rfl, hb⟩; have Q5 := hid ((curAt_new w A A' h.length cap t.length cap' f).below hb); have q0 := Q5.out.c0; have q1 := Q5.out.c1; have q2 := Q5.out.c2; have ql := Q5.out.lt; have B5 := hid (bthen (balloc w _) hb); clear hb)
            | (go_at_call 43; refine (W.out _).mono ?_; rintro _ w6 ⟨rfl, hb⟩; have Q6 := hid (Q5.out.below hb); have q0 := Q6.out.c0; have q1 := Q6.out.c1; have q2 := Q6.out.c2; have ql := Q6.out.lt; have B6 := hid (bthen B5.out hb); clear hb)
            | (go_at_call 44; refine (DO.out _ B6.out).mono ?_; rintro _ w7 ⟨rfl, hb⟩; have B7 := hid (bthen B6.out hb); clear hb))
          go_ret
          exact Gives.mk rfl B7.out
      · have DO := hid (fun W (hb : Below w.heap.size w W) => domain_any A' cap' t _ _ _ W tz (tT.below hb) (dom_bad c3))
        rw [if_pos c3]
        generalize Sp.pcheck t = E at DO c3 ⊢
        clear hz tz hT tT c1 e c2
        go_enter Try.func17, Try.ntmps17
        go_wp2_with (first
          | (go_at_call 42; refine (CK.out _ (balloc _ _)).mono ?_; rintro _ w5 ⟨rfl, hb⟩; have Q5 := hid ((curAt_new w A A' h.length cap t.length cap' f).below hb); have q0 := Q5.out.c0; have q1 := Q5.out.c1; have q2 := Q5.out.c2; have ql := Q5.out.lt; have B5 := hid (bthen (balloc w _) hb); clear hb)
          | (go_at_call 43; refine (W.out _).mono ?_; rintro _ w6 ⟨rfl, hb⟩; have Q6 := hid (Q5.out.below hb); have q0 := Q6.out.c0; have q1 := Q6.out.c1; have q2 := Q6.out.c2; have ql := Q6.out.lt; have B6 := hid (bthen B5.out hb); clear hb)
          | (go_at_call 44; refine (DO.out _ B6.out).mono ?_; rintro _ w7 ⟨rfl, hb⟩; have B7 := hid (bthen B6.out hb); clear hb))
        go_ret
        exact Gives.mk rfl B7.out
  · rw [if_pos c1]
    generalize Sp.pcheck h = E at CK c1 ⊢
    clear hz tz hT tT
    go_enter Try.func17, Try.ntmps17
    go_wp2_with (go_at_call 42; refine (CK.out _ (balloc _ _)).mono ?_; rintro _ w5 ⟨rfl, hb⟩; have Q5 := hid ((curAt_new w A A' h.length cap t.length cap' f).below hb); have q0 := Q5.out.c0; have q1 := Q5.out.c1; have q2 := Q5.out.c2; have ql := Q5.out.lt; have B5 := hid (bthen (balloc w _) hb); clear hb)
    go_ret
    exact Gives.mk rfl B5.out
end Go.Proofs.Ytdimncchejbaaaa
