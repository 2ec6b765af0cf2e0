/-
  Proved: for every slice of bytes, every offset and every change of four bytes the statement CodecBursts of layer 6 holds: a change within four bytes changes the checksum. No condition.
-/
import Derived.Test.YtcjhgihkofmhgaaRows
import Derived.Test.YtcjhgihkofmhgaaCzf
import Derived.Test.YtcjhgihkofmhgaaBslice
import Derived.Test.YtcjhgihkofmhgaaWarr4
import Derived.WalkKit
import Derived.ProofKit
import Derived.OpenShut
import Derived.Lib.SmallJoins
namespace Go.Proofs.Ytcjhgihkofmhgaa.codecBursts
open Go.ChangeShapes Go.WideShapes Go.ChangeAt Go.RowKit
set_option linter.unusedVariables false      -- a walk need not use every 'w<i>' (that an integer argument fits its kind)

theorem own : ownKnob Try.prog.godebug = none := by kernel_rfl

theorem walk  (a1u16 : Int) (a20u8 : Int) (a21u8 : Int) (a22u8 : Int) (a23u8 : Int) (wa1u16 : (Lit.int .u16 a1u16).wf = true) (wa20u8 : (Lit.int .u8 a20u8).wf = true) (wa21u8 : (Lit.int .u8 a21u8).wf = true) (wa22u8 : (Lit.int .u8 a22u8).wf = true) (wa23u8 : (Lit.int .u8 a23u8).wf = true) (A0 : Option Addr) (c0 : Nat) (L0 : List UInt8) (w : World) (hc0 : L0.length ≤ c0) (hm0 : c0 ≤ 9223372036854775807) (S0 : Bs w w.heap.size A0 L0) :
    Calls Try.prog 9 #[.slice A0 L0.length c0, .int .u16 a1u16, .agg #[.int .u8 a20u8, .int .u8 a21u8, .int .u8 a22u8, .int .u8 a23u8]] w (Gives (.bool true) w) := by
  have ba1u16 := bounds_u16 wa1u16
  have ba20u8 := bounds_u8 wa20u8
  have ba21u8 := bounds_u8 wa21u8
  have ba22u8 := bounds_u8 wa22u8
  have ba23u8 := bounds_u8 wa23u8
  exact cbur_as  a1u16 a20u8 a21u8 a22u8 a23u8 ba1u16.1 ba1u16.2 ba20u8.1 ba20u8.2 ba21u8.1 ba21u8.2 ba22u8.1 ba22u8.2 ba23u8.1 ba23u8.2 A0 c0 L0 w hc0 hm0 S0

set_option maxRecDepth 100000 in
theorem lifted (os : Os) (started : os.Started) (H : Type) (enc : TypeId × Value → H) :
    ReturnsInHanded {} Try.checked os 9 .any (Rows.codecBurstsSpec.pre6 enc Try.prog Try.f9 Rows.codecBurstsRow.domain false) (Rows.codecBurstsSpec.post enc Try.prog Try.f9 false true false false) := by
  refine returnsInHanded_of_change (C := Try.checked) own started (by kernel_rfl) Try.func9
    (ChangeSpec.witness6 (enc := enc) (C := Try.checked) false ⟨#[], #[.slice none 0 0, .int .u16 0, .agg #[.int .u8 0, .int .u8 0, .int .u8 0, .int .u8 0]], []⟩ 8 (by kernel_rfl) (by kernel_rfl) (by kernel_rfl) (by kernel_rfl)) ?_
  intro W base args ds gs before hval0 hW hcnd _
  have hval : ∀ (j : Nat) t v, Try.f9.params[j]? = some t → args[j]? = some v → Value.okWide Try.prog W .any base t v := hval0
  have hW' := hW
  have hWl := hW
  obtain ⟨p, q, hA0, hV, rfl, hfz, hnd⟩ := hW
  have hA : DataW.TrodAll enc Try.prog W 0 (fun _ => true) true Try.f9.params.toList args.toList ds p := hA0
  rw [Try.params9] at hA hval
  obtain ⟨v0, vs0, d0, ds0, p0, q0, hargs, rfl, rfl, h0, r0⟩ := trodAll_cons hA
  obtain ⟨v1, vs1, d1, ds1, p1, q1, rfl, rfl, rfl, h1, r1⟩ := trodAll_cons r0
  obtain ⟨v2, vs2, d2, ds2, p2, q2, rfl, rfl, rfl, h2, r2⟩ := trodAll_cons r1
  obtain ⟨rfl, rfl, rfl⟩ := trodAll_nil r2
  obtain rfl : args = #[v0, v1, v2] := by cases args; simp_all
  obtain ⟨rfl, rfl⟩ := trodVars_none hV
  obtain ⟨A0, n0, c0, rfl⟩ := okWide_slice Try.underlying22 (hval 0 22 v0 rfl rfl)
  obtain ⟨L0, rfl, hc0, hm0, S0, C0⟩ := bytes_open Try.underlying22 Try.underlying5 (by kernel_rfl) h0 (fun b o hm => hWl.lt (.cell b o) (by simp [hm]))
  obtain ⟨a1u16, rfl, rfl, rfl, wa1u16⟩ := open_int Try.underlying48 (hval 1 48 v1 rfl rfl) h1
  obtain ⟨a20u8, a21u8, a22u8, a23u8, rfl, rfl, rfl, wa20u8, wa21u8, wa22u8, wa23u8⟩ := open_arr4 Try.underlying50 Try.underlying5 (by kernel_rfl) (by kernel_rfl) (hval 2 50 v2 rfl rfl) h2
  clear hA0 hval0
  simp only [List.append_nil] at hW'
  refine (walk  a1u16 a20u8 a21u8 a22u8 a23u8 wa1u16 wa20u8 wa21u8 wa22u8 wa23u8 A0 c0 L0 W hc0 hm0 S0).mono fun e W' ⟨he, hg⟩ => ?_
  subst he
  exact ⟨_, rfl, _, _, _, [], _, [], hW', trodAll_mk1 (shut_bool Try.underlying4 _), (trodAll_cons_mk (C0 W' hg) (trodAll_cons_mk (shut_int Try.underlying48 wa1u16) (trodAll_cons_mk (shut_arr4 Try.underlying50 Try.underlying5 (by kernel_rfl) (by kernel_rfl) wa20u8 wa21u8 wa22u8 wa23u8) trodAll_mk0))), rfl, hg.frame _, fun h => by cases h⟩

theorem over : Rows.codecBurstsRow.holds Try.pinned (OpenSpec.ofChange Rows.codecBurstsSpec) :=
  OpenClaim.holds_of_wide 9 Try.f9 rfl rfl rfl rfl rfl rfl rfl ⟨rfl, rfl, rfl, rfl, rfl⟩ rfl rfl rfl rfl rfl (by kernel_rfl) Try.func9 (by kernel_rfl)
    (of_decide_eq_true (by kernel_rfl)) (by unfold Func.isWrapper; first | (rw [if_pos (by decide +kernel)]; kernel_rfl) | (rw [if_neg (by decide +kernel)]; exact ⟨rfl, rfl⟩))
    (fun os started H enc _ => lifted os started H enc)

/-- ████ THE STATEMENT ████ -/
theorem proved : Rows.CodecBurstsSaid :=
  over
#print axioms proved
end Go.Proofs.Ytcjhgihkofmhgaa.codecBursts
