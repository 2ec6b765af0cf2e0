/-
  Layer 14: Height and Volume of package volume, by contract.
-/
import Derived.Test.YtdimncchejbaaaaVva
namespace Go.Proofs.Ytdimncchejbaaaa
open Go.RowKit
set_option linter.unusedVariables false
set_option linter.unusedSimpArgs false
/-- An enclosure of a volume. -/
def Sp.volS (f d h : Int) : Int × Int := ((785398 * (f * d * d * h)).tdiv 10000000000000, (785399 * (f * d * d * h) + 10000000000000 - 1).tdiv 10000000000000)
theorem vdiam_any (x : Int) (w : World) : Calls Try.prog 31 #[.int .i64 x] w (Gives (.bool (decide (1 ≤ x) && decide (x ≤ 3000))) w) := by
  have W := hid (vwithin_any x 1 3000 w)
  generalize (decide (1 ≤ x) && decide (x ≤ 3000)) = B at W ⊢
  go_enter Try.func31, Try.ntmps31
  go_wp2_with (go_at_call 43; refine W.out.mono ?_; rintro _ w5 ⟨rfl, hb⟩; have B5 := hid hb; clear hb)
  go_ret
  exact Gives.mk rfl B5.out
theorem vheigh_any (x : Int) (w : World) : Calls Try.prog 34 #[.int .i64 x] w (Gives (.bool (decide (1 ≤ x) && decide (x ≤ 1000))) w) := by
  have W := hid (vwithin_any x 1 1000 w)
  generalize (decide (1 ≤ x) && decide (x ≤ 1000)) = B at W ⊢
  go_enter Try.func34, Try.ntmps34
  go_wp2_with (go_at_call 43; refine W.out.mono ?_; rintro _ w5 ⟨rfl, hb⟩; have B5 := hid hb; clear hb)
  go_ret
  exact Gives.mk rfl B5.out
/-- The error of a stem without places. -/
def Sp.stemE (h : List Sp.Pd) (f : Int) (t : List Sp.Pd) (d x : Int) : Int :=
  if Sp.curE h f t ≠ 0 then Sp.curE h f t else if (decide (1 ≤ d) && decide (d ≤ 3000)) = false then 2 else if (decide (1 ≤ x) && decide (x ≤ 1000)) = false then 2 else 0
theorem vstem_any (A A' : Option Addr) (cap cap' : Nat) (h t : List Sp.Pd) (f d x : Int) (w : World) (hz : PcSized h) (tz : PcSized t) (hT : Pcs w A h) (tT : Pcs w A' t) :
    Calls Try.prog 39 #[.agg #[.slice A h.length cap, .int .i64 f, .slice A' t.length cap'], .int .i64 d, .int .i64 x, .slice none 0 0] w (Gives (.int .i64 (Sp.stemE h f t d x)) w) := by
  have CK := hid (fun W (hb : Below w.heap.size w W) => vcheck_any A A' cap cap' h t f W hz tz (hT.below hb) (tT.below hb))
  have DI := hid (fun W => vdiam_any d W)
  have HE := hid (fun W => vheigh_any x W)
  unfold Sp.stemE
  generalize Sp.curE h f t = E at CK ⊢
  generalize (decide (1 ≤ d) && decide (d ≤ 3000)) = B1 at DI ⊢
  generalize (decide (1 ≤ x) && decide (x ≤ 1000)) = B2 at HE ⊢
  clear hz tz hT tT
  by_cases c1 : E = 0
  · subst c1
    rw [if_neg (fun k => k rfl)]
    cases B1
    · rw [if_pos rfl]
      go_enter Try.func39, Try.ntmps39
      go_wp2_with (first
        | (go_at_call 17; refine (CK.out _ (by first | exact Below.refl _ _ | exact balloc _ _)).mono ?_; rintro _ w5 ⟨rfl, hb⟩; have B5 := hid hb; clear hb)
        | (go_at_call 31; refine (DI.out _).mono ?_; rintro _ w6 ⟨rfl, hb⟩; have B6 := hid (bthen B5.out hb); clear hb))
      go_ret
      exact Gives.mk rfl (bthen (balloc w _) B6.out)
    · rw [if_neg (by simp)]
      cases B2
      · rw [if_pos rfl]
        go_enter Try.func39, Try.ntmps39
        go_wp2_with (first
          | (go_at_call 17; refine (CK.out _ (by first | exact Below.refl _ _ | exact balloc _ _)).mono ?_; rintro _ w5 ⟨rfl, hb⟩; have B5 := hid hb; clear hb)
          | (go_at_call 31; refine (DI.out _).mono ?_; rintro _ w6 ⟨rfl, hb⟩; have B6 := hid (bthen B5.out hb); clear hb)
          | (go_at_call 34; refine (HE.out _).mono ?_; rintro _ w7 ⟨rfl, hb⟩; have B7 := hid (bthen B6.out hb); clear hb))
        go_ret
        exact Gives.mk rfl (bthen (balloc w _) B7.out)
      · rw [if_neg (by simp)]
        go_enter Try.func39, Try.ntmps39
        go_wp2_with (first
          | (go_at_call 17; refine (CK.out _ (by first | exact Below.refl _ _ | exact balloc _ _)).mono ?_; rintro _ w5 ⟨rfl, hb⟩; have B5 := hid hb; clear hb)
          | (go_at_call 31; refine (DI.out _).mono ?_; rintro _ w6 ⟨rfl, hb⟩; have B6 := hid (bthen B5.out hb); clear hb)
          | (go_at_call 34; refine (HE.out _).mono ?_; rintro _ w7 ⟨rfl, hb⟩; have B7 := hid (bthen B6.out hb); clear hb))
        go_loopw [27] (fun t wr => t = .int .i64 0 ∧ Below w.heap.size w wr) (fun _ _ => 0)
        case atStart => exact ⟨rfl, bthen (balloc w _) B7.out⟩
        case round =>
          obtain ⟨rfl, hb⟩ := hrel
          have HB := hid hb
          clear hb
          go_wp2_with fail
          go_ret
          exact Gives.mk rfl HB.out
  · rw [if_pos c1]
    go_enter Try.func39, Try.ntmps39
    go_wp2_with (go_at_call 17; refine (CK.out _ (by first | exact Below.refl _ _ | exact balloc _ _)).mono ?_; rintro _ w5 ⟨rfl, hb⟩; have B5 := hid hb; clear hb)
    go_ret
    exact Gives.mk rfl (bthen (balloc w _) B5.out)
end Go.Proofs.Ytdimncchejbaaaa
