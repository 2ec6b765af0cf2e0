/-
  Proved: for every wide integer and every int the statement WideInts of layer 1 holds: wide integers are valid exactly as specified, ints are converted back and forth, and texts are the specified ones. No condition.
-/
import Derived.Test.YthfnblifefnfmaaRows
import Derived.Test.YthfnblifefnfmaaWints
import Derived.WalkKit
import Derived.ProofKit
import Derived.OpenShut
import Derived.Lib.SmallJoins
namespace Go.Proofs.Ythfnblifefnfmaa.wideInts
open Go.ChangeShapes Go.WideShapes Go.ChangeAt Go.RowKit
set_option linter.unusedVariables false      -- a walk need not use every 'w<i>' (that an integer argument fits its kind)

theorem own : ownKnob Try.prog.godebug = none := by kernel_rfl

theorem walk (n0x : Bool) (h0x : Int) (l0x : Int) (a1 : Int) (wh0x : (Lit.int .u64 h0x).wf = true) (wl0x : (Lit.int .u64 l0x).wf = true) (wa1 : (Lit.int .i64 a1).wf = true) (w : World) :
    Calls Try.prog 3 #[.agg #[.bool n0x, .int .u64 h0x, .int .u64 l0x], .int .i64 a1] w (Gives (.bool true) w) := by
  have bh0x := bounds_u64 wh0x
  have bl0x := bounds_u64 wl0x
  have ba1 := bounds_i64 wa1
  exact wints_as n0x h0x l0x a1 bh0x.1 bh0x.2 bl0x.1 bl0x.2 ba1.1 ba1.2 w

set_option maxRecDepth 100000 in
theorem lifted (os : Os) (started : os.Started) (H : Type) (enc : TypeId × Value → H) :
    ReturnsInHanded {} Try.checked os 3 .any (Rows.wideIntsSpec.pre6 enc Try.prog Try.f3 Rows.wideIntsRow.domain false) (Rows.wideIntsSpec.post enc Try.prog Try.f3 false true false false) := by
  refine returnsInHanded_of_change (C := Try.checked) own started (by kernel_rfl) Try.func3
    (ChangeSpec.witness6 (enc := enc) (C := Try.checked) false ⟨#[], #[.agg #[.bool false, .int .u64 0, .int .u64 0], .int .i64 0], []⟩ 8 (by kernel_rfl) (by kernel_rfl) (by kernel_rfl) (by kernel_rfl)) ?_
  intro W base args ds gs before hval0 hW hcnd _
  have hval : ∀ (j : Nat) t v, Try.f3.params[j]? = some t → args[j]? = some v → Value.okWide Try.prog W .any base t v := hval0
  have hW' := hW
  obtain ⟨p, q, hA0, hV, rfl, hfz, hnd⟩ := hW
  have hA : DataW.TrodAll enc Try.prog W 0 (fun _ => true) true Try.f3.params.toList args.toList ds p := hA0
  rw [Try.params3] at hA hval
  obtain ⟨v0, vs0, d0, ds0, p0, q0, hargs, rfl, rfl, h0, r0⟩ := trodAll_cons hA
  obtain ⟨v1, vs1, d1, ds1, p1, q1, rfl, rfl, rfl, h1, r1⟩ := trodAll_cons r0
  obtain ⟨rfl, rfl, rfl⟩ := trodAll_nil r1
  obtain rfl : args = #[v0, v1] := by cases args; simp_all
  obtain ⟨rfl, rfl⟩ := trodVars_none hV
  obtain ⟨c00, c01, c02, y00, y01, y02, m0, rfl, rfl, rfl, hy00, hy01, hy02⟩ := Joins.open_agg3 Try.underlying24 (by kernel_rfl) (by kernel_rfl) (hval 0 24 v0 rfl rfl) h0
  obtain ⟨n0x, e00, rfl⟩ := DataW.trod_bool Try.underlying4 hy00
  obtain ⟨h0x, e01, rfl, wh0x⟩ := DataW.trod_int Try.underlying22 hy01
  obtain ⟨l0x, e02, rfl, wl0x⟩ := DataW.trod_int Try.underlying22 hy02
  simp at e00
  subst e00
  simp at e01
  subst e01
  simp at e02
  subst e02
  obtain ⟨a1, rfl, rfl, rfl, wa1⟩ := open_int Try.underlying3 (hval 1 3 v1 rfl rfl) h1
  clear hA0 hval0
  simp only [List.append_nil] at hW'
  have st0 : ∀ (W' : World) (sp : Nat → Bool) (held : Bool), DataW.Trod enc Try.prog W' 0 sp held 24 (.agg #[.bool n0x, .int .u64 h0x, .int .u64 l0x]) (.agg [.lit (.bool n0x), .lit (.int .u64 h0x), .lit (.int .u64 l0x)]) [] := fun W' sp held =>
    Joins.shut_agg3 (y0 := (.lit (.bool n0x), [])) (y1 := (.lit (.int .u64 h0x), [])) (y2 := (.lit (.int .u64 l0x), [])) Try.underlying24 (by kernel_rfl) (by kernel_rfl) ⟨1, by simp [DataW.trod, Try.underlying4]⟩ ⟨1, by simp [DataW.trod, Try.underlying22, wh0x]⟩ ⟨1, by simp [DataW.trod, Try.underlying22, wl0x]⟩
  refine (walk n0x h0x l0x a1 wh0x wl0x wa1 W).mono fun e W' ⟨he, hg⟩ => ?_
  subst he
  exact ⟨_, rfl, _, _, _, [], [], [], hW', trodAll_mk1 (shut_bool Try.underlying4 _), (trodAll_cons_mk (st0 _ _ _) (trodAll_cons_mk (shut_int Try.underlying3 wa1) trodAll_mk0)), rfl, hg.frame _, fun h => by cases h⟩

theorem over : Rows.wideIntsRow.holds Try.pinned (OpenSpec.ofChange Rows.wideIntsSpec) :=
  OpenClaim.holds_of_wide 3 Try.f3 rfl rfl rfl rfl rfl rfl rfl ⟨rfl, rfl, rfl, rfl, rfl⟩ rfl rfl rfl rfl rfl (by kernel_rfl) Try.func3 (by kernel_rfl)
    (of_decide_eq_true (by kernel_rfl)) (by unfold Func.isWrapper; first | (rw [if_pos (by decide +kernel)]; kernel_rfl) | (rw [if_neg (by decide +kernel)]; exact ⟨rfl, rfl⟩))
    (fun os started H enc _ => lifted os started H enc)

/-- ████ THE STATEMENT ████ -/
theorem proved : Rows.WideIntsSaid :=
  over
#print axioms proved
end Go.Proofs.Ythfnblifefnfmaa.wideInts
