/-
  Proved: for every two int16 and every uint8 the statement PiecewiseLines of layer 12 holds (a single line with whole coefficients). No condition.
-/
import Derived.Test.YtcbecfimikpljaaRows
import Derived.Test.YtcbecfimikpljaaPla
import Derived.WalkKit
import Derived.ProofKit
import Derived.OpenShut
import Derived.Lib.SmallJoins
namespace Go.Proofs.Ytcbecfimikpljaa.piecewiseLines
open Go.ChangeShapes Go.WideShapes Go.ChangeAt Go.RowKit
set_option linter.unusedVariables false      -- a walk need not use every 'w<i>' (that an integer argument fits its kind)

theorem own : ownKnob Try.prog.godebug = none := by kernel_rfl

theorem walk  (a0i16 : Int) (a1i16 : Int) (a2u8 : Int) (wa0i16 : (Lit.int .i16 a0i16).wf = true) (wa1i16 : (Lit.int .i16 a1i16).wf = true) (wa2u8 : (Lit.int .u8 a2u8).wf = true) (w : World) :
    Calls Try.prog 9 #[.int .i16 a0i16, .int .i16 a1i16, .int .u8 a2u8] w (Gives (.bool true) w) := by
  have ba0i16 := bounds_i16 wa0i16
  have ba1i16 := bounds_i16 wa1i16
  have ba2u8 := bounds_u8 wa2u8
  exact lines_as  a0i16 a1i16 a2u8 ba0i16.1 ba0i16.2 ba1i16.1 ba1i16.2 ba2u8.1 ba2u8.2 w

set_option maxRecDepth 100000 in
theorem lifted (os : Os) (started : os.Started) (H : Type) (enc : TypeId × Value → H) :
    ReturnsInHanded {} Try.checked os 9 .any (Rows.piecewiseLinesSpec.pre6 enc Try.prog Try.f9 Rows.piecewiseLinesRow.domain false) (Rows.piecewiseLinesSpec.post enc Try.prog Try.f9 false true false false) := by
  refine returnsInHanded_of_change (C := Try.checked) own started (by kernel_rfl) Try.func9
    (ChangeSpec.witness6 (enc := enc) (C := Try.checked) false ⟨#[], #[.int .i16 0, .int .i16 0, .int .u8 0], []⟩ 8 (by kernel_rfl) (by kernel_rfl) (by kernel_rfl) (by kernel_rfl)) ?_
  intro W base args ds gs before hval0 hW hcnd _
  have hval : ∀ (j : Nat) t v, Try.f9.params[j]? = some t → args[j]? = some v → Value.okWide Try.prog W .any base t v := hval0
  have hW' := hW
  have hWl := hW
  obtain ⟨p, q, hA0, hV, rfl, hfz, hnd⟩ := hW
  have hA : DataW.TrodAll enc Try.prog W 0 (fun _ => true) true Try.f9.params.toList args.toList ds p := hA0
  rw [Try.params9] at hA hval
  obtain ⟨v0, vs0, d0, ds0, p0, q0, hargs, rfl, rfl, h0, r0⟩ := trodAll_cons hA
  obtain ⟨v1, vs1, d1, ds1, p1, q1, rfl, rfl, rfl, h1, r1⟩ := trodAll_cons r0
  obtain ⟨v2, vs2, d2, ds2, p2, q2, rfl, rfl, rfl, h2, r2⟩ := trodAll_cons r1
  obtain ⟨rfl, rfl, rfl⟩ := trodAll_nil r2
  obtain rfl : args = #[v0, v1, v2] := by cases args; simp_all
  obtain ⟨rfl, rfl⟩ := trodVars_none hV
  obtain ⟨a0i16, rfl, rfl, rfl, wa0i16⟩ := open_int Try.underlying46 (hval 0 46 v0 rfl rfl) h0
  obtain ⟨a1i16, rfl, rfl, rfl, wa1i16⟩ := open_int Try.underlying46 (hval 1 46 v1 rfl rfl) h1
  obtain ⟨a2u8, rfl, rfl, rfl, wa2u8⟩ := open_int Try.underlying5 (hval 2 5 v2 rfl rfl) h2
  clear hA0 hval0
  simp only [List.append_nil] at hW'
  refine (walk  a0i16 a1i16 a2u8 wa0i16 wa1i16 wa2u8 W).mono fun e W' ⟨he, hg⟩ => ?_
  subst he
  exact ⟨_, rfl, _, _, _, [], [], [], hW', trodAll_mk1 (shut_bool Try.underlying4 _), (trodAll_cons_mk (shut_int Try.underlying46 wa0i16) (trodAll_cons_mk (shut_int Try.underlying46 wa1i16) (trodAll_cons_mk (shut_int Try.underlying5 wa2u8) trodAll_mk0))), rfl, hg.frame _, fun h => by cases h⟩

theorem over : Rows.piecewiseLinesRow.holds Try.pinned (OpenSpec.ofChange Rows.piecewiseLinesSpec) :=
  OpenClaim.holds_of_wide 9 Try.f9 rfl rfl rfl rfl rfl rfl rfl ⟨rfl, rfl, rfl, rfl, rfl⟩ rfl rfl rfl rfl rfl (by kernel_rfl) Try.func9 (by kernel_rfl)
    (of_decide_eq_true (by kernel_rfl)) (by unfold Func.isWrapper; first | (rw [if_pos (by decide +kernel)]; kernel_rfl) | (rw [if_neg (by decide +kernel)]; exact ⟨rfl, rfl⟩))
    (fun os started H enc _ => lifted os started H enc)

/-- ████ THE STATEMENT ████ -/
theorem proved : Rows.PiecewiseLinesSaid :=
  over
#print axioms proved
end Go.Proofs.Ytcbecfimikpljaa.piecewiseLines
