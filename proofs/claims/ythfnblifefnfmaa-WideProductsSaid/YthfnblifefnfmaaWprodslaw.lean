/-
  Proved: for every two wide integers and every four ints the statement WideProducts of layer 1 holds: products are exact, or the specified error is returned, and integers and products are compared. No condition.
-/
import Derived.Test.YthfnblifefnfmaaRows
import Derived.Test.YthfnblifefnfmaaWprods
import Derived.Test.YthfnblifefnfmaaWarr4
import Derived.WalkKit
import Derived.ProofKit
import Derived.OpenShut
import Derived.Lib.SmallJoins
namespace Go.Proofs.Ythfnblifefnfmaa.wideProducts
open Go.ChangeShapes Go.WideShapes Go.ChangeAt Go.RowKit
set_option linter.unusedVariables false      -- a walk need not use every 'w<i>' (that an integer argument fits its kind)

theorem own : ownKnob Try.prog.godebug = none := by kernel_rfl

theorem walk (n0x : Bool) (n1x : Bool) (h0x : Int) (l0x : Int) (h1x : Int) (l1x : Int) (a20 : Int) (a21 : Int) (a22 : Int) (a23 : Int) (wh0x : (Lit.int .u64 h0x).wf = true) (wl0x : (Lit.int .u64 l0x).wf = true) (wh1x : (Lit.int .u64 h1x).wf = true) (wl1x : (Lit.int .u64 l1x).wf = true) (wa20 : (Lit.int .i64 a20).wf = true) (wa21 : (Lit.int .i64 a21).wf = true) (wa22 : (Lit.int .i64 a22).wf = true) (wa23 : (Lit.int .i64 a23).wf = true) (w : World) :
    Calls Try.prog 4 #[.agg #[.bool n0x, .int .u64 h0x, .int .u64 l0x], .agg #[.bool n1x, .int .u64 h1x, .int .u64 l1x], .agg #[.int .i64 a20, .int .i64 a21, .int .i64 a22, .int .i64 a23]] w (Gives (.bool true) w) := by
  have bh0x := bounds_u64 wh0x
  have bl0x := bounds_u64 wl0x
  have bh1x := bounds_u64 wh1x
  have bl1x := bounds_u64 wl1x
  have ba20 := bounds_i64 wa20
  have ba21 := bounds_i64 wa21
  have ba22 := bounds_i64 wa22
  have ba23 := bounds_i64 wa23
  exact wprods_as n0x n1x h0x l0x h1x l1x a20 a21 a22 a23 bh0x.1 bh0x.2 bl0x.1 bl0x.2 bh1x.1 bh1x.2 bl1x.1 bl1x.2 ba20.1 ba20.2 ba21.1 ba21.2 ba22.1 ba22.2 ba23.1 ba23.2 w

set_option maxRecDepth 100000 in
theorem lifted (os : Os) (started : os.Started) (H : Type) (enc : TypeId × Value → H) :
    ReturnsInHanded {} Try.checked os 4 .any (Rows.wideProductsSpec.pre6 enc Try.prog Try.f4 Rows.wideProductsRow.domain false) (Rows.wideProductsSpec.post enc Try.prog Try.f4 false true false false) := by
  refine returnsInHanded_of_change (C := Try.checked) own started (by kernel_rfl) Try.func4
    (ChangeSpec.witness6 (enc := enc) (C := Try.checked) false ⟨#[], #[.agg #[.bool false, .int .u64 0, .int .u64 0], .agg #[.bool false, .int .u64 0, .int .u64 0], .agg #[.int .i64 0, .int .i64 0, .int .i64 0, .int .i64 0]], []⟩ 8 (by kernel_rfl) (by kernel_rfl) (by kernel_rfl) (by kernel_rfl)) ?_
  intro W base args ds gs before hval0 hW hcnd _
  have hval : ∀ (j : Nat) t v, Try.f4.params[j]? = some t → args[j]? = some v → Value.okWide Try.prog W .any base t v := hval0
  have hW' := hW
  obtain ⟨p, q, hA0, hV, rfl, hfz, hnd⟩ := hW
  have hA : DataW.TrodAll enc Try.prog W 0 (fun _ => true) true Try.f4.params.toList args.toList ds p := hA0
  rw [Try.params4] at hA hval
  obtain ⟨v0, vs0, d0, ds0, p0, q0, hargs, rfl, rfl, h0, r0⟩ := trodAll_cons hA
  obtain ⟨v1, vs1, d1, ds1, p1, q1, rfl, rfl, rfl, h1, r1⟩ := trodAll_cons r0
  obtain ⟨v2, vs2, d2, ds2, p2, q2, rfl, rfl, rfl, h2, r2⟩ := trodAll_cons r1
  obtain ⟨rfl, rfl, rfl⟩ := trodAll_nil r2
  obtain rfl : args = #[v0, v1, v2] := by cases args; simp_all
  obtain ⟨rfl, rfl⟩ := trodVars_none hV
  obtain ⟨c00, c01, c02, y00, y01, y02, m0, rfl, rfl, rfl, hy00, hy01, hy02⟩ := Joins.open_agg3 Try.underlying24 (by kernel_rfl) (by kernel_rfl) (hval 0 24 v0 rfl rfl) h0
  obtain ⟨n0x, e00, rfl⟩ := DataW.trod_bool Try.underlying4 hy00
  obtain ⟨h0x, e01, rfl, wh0x⟩ := DataW.trod_int Try.underlying22 hy01
  obtain ⟨l0x, e02, rfl, wl0x⟩ := DataW.trod_int Try.underlying22 hy02
  simp at e00
  subst e00
  simp at e01
  subst e01
  simp at e02
  subst e02
  obtain ⟨c10, c11, c12, y10, y11, y12, m1, rfl, rfl, rfl, hy10, hy11, hy12⟩ := Joins.open_agg3 Try.underlying24 (by kernel_rfl) (by kernel_rfl) (hval 1 24 v1 rfl rfl) h1
  obtain ⟨n1x, e10, rfl⟩ := DataW.trod_bool Try.underlying4 hy10
  obtain ⟨h1x, e11, rfl, wh1x⟩ := DataW.trod_int Try.underlying22 hy11
  obtain ⟨l1x, e12, rfl, wl1x⟩ := DataW.trod_int Try.underlying22 hy12
  simp at e10
  subst e10
  simp at e11
  subst e11
  simp at e12
  subst e12
  obtain ⟨a20, a21, a22, a23, rfl, rfl, rfl, wa20, wa21, wa22, wa23⟩ := open_arr4 Try.underlying32 Try.underlying3 (by kernel_rfl) (by kernel_rfl) (hval 2 32 v2 rfl rfl) h2
  clear hA0 hval0
  simp only [List.append_nil] at hW'
  have st0 : ∀ (W' : World) (sp : Nat → Bool) (held : Bool), DataW.Trod enc Try.prog W' 0 sp held 24 (.agg #[.bool n0x, .int .u64 h0x, .int .u64 l0x]) (.agg [.lit (.bool n0x), .lit (.int .u64 h0x), .lit (.int .u64 l0x)]) [] := fun W' sp held =>
    Joins.shut_agg3 (y0 := (.lit (.bool n0x), [])) (y1 := (.lit (.int .u64 h0x), [])) (y2 := (.lit (.int .u64 l0x), [])) Try.underlying24 (by kernel_rfl) (by kernel_rfl) ⟨1, by simp [DataW.trod, Try.underlying4]⟩ ⟨1, by simp [DataW.trod, Try.underlying22, wh0x]⟩ ⟨1, by simp [DataW.trod, Try.underlying22, wl0x]⟩
  have st1 : ∀ (W' : World) (sp : Nat → Bool) (held : Bool), DataW.Trod enc Try.prog W' 0 sp held 24 (.agg #[.bool n1x, .int .u64 h1x, .int .u64 l1x]) (.agg [.lit (.bool n1x), .lit (.int .u64 h1x), .lit (.int .u64 l1x)]) [] := fun W' sp held =>
    Joins.shut_agg3 (y0 := (.lit (.bool n1x), [])) (y1 := (.lit (.int .u64 h1x), [])) (y2 := (.lit (.int .u64 l1x), [])) Try.underlying24 (by kernel_rfl) (by kernel_rfl) ⟨1, by simp [DataW.trod, Try.underlying4]⟩ ⟨1, by simp [DataW.trod, Try.underlying22, wh1x]⟩ ⟨1, by simp [DataW.trod, Try.underlying22, wl1x]⟩
  refine (walk n0x n1x h0x l0x h1x l1x a20 a21 a22 a23 wh0x wl0x wh1x wl1x wa20 wa21 wa22 wa23 W).mono fun e W' ⟨he, hg⟩ => ?_
  subst he
  exact ⟨_, rfl, _, _, _, [], [], [], hW', trodAll_mk1 (shut_bool Try.underlying4 _), (trodAll_cons_mk (st0 _ _ _) (trodAll_cons_mk (st1 _ _ _) (trodAll_cons_mk (shut_arr4 Try.underlying32 Try.underlying3 (by kernel_rfl) (by kernel_rfl) wa20 wa21 wa22 wa23) trodAll_mk0))), rfl, hg.frame _, fun h => by cases h⟩

theorem over : Rows.wideProductsRow.holds Try.pinned (OpenSpec.ofChange Rows.wideProductsSpec) :=
  OpenClaim.holds_of_wide 4 Try.f4 rfl rfl rfl rfl rfl rfl rfl ⟨rfl, rfl, rfl, rfl, rfl⟩ rfl rfl rfl rfl rfl (by kernel_rfl) Try.func4 (by kernel_rfl)
    (of_decide_eq_true (by kernel_rfl)) (by unfold Func.isWrapper; first | (rw [if_pos (by decide +kernel)]; kernel_rfl) | (rw [if_neg (by decide +kernel)]; exact ⟨rfl, rfl⟩))
    (fun os started H enc _ => lifted os started H enc)

/-- ████ THE STATEMENT ████ -/
theorem proved : Rows.WideProductsSaid :=
  over
#print axioms proved
end Go.Proofs.Ythfnblifefnfmaa.wideProducts
