/-
  Proved: for every two slices of bytes and every 32-bit number the statement CodecSums of layer 6 holds. No condition.
-/
import Derived.Test.YtcjhgihkofmhgaaRows
import Derived.Test.YtcjhgihkofmhgaaCzb
import Derived.Test.YtcjhgihkofmhgaaBslice
import Derived.WalkKit
import Derived.ProofKit
import Derived.OpenShut
import Derived.Lib.SmallJoins
namespace Go.Proofs.Ytcjhgihkofmhgaa.codecSums
open Go.ChangeShapes Go.WideShapes Go.ChangeAt Go.RowKit
set_option linter.unusedVariables false      -- a walk need not use every 'w<i>' (that an integer argument fits its kind)

theorem own : ownKnob Try.prog.godebug = none := by kernel_rfl

theorem walk  (a2u32 : Int) (wa2u32 : (Lit.int .u32 a2u32).wf = true) (A0 : Option Addr) (c0 : Nat) (L0 : List UInt8) (A1 : Option Addr) (c1 : Nat) (L1 : List UInt8) (w : World) (hc0 : L0.length ≤ c0) (hm0 : c0 ≤ 9223372036854775807) (S0 : Bs w w.heap.size A0 L0) (hc1 : L1.length ≤ c1) (hm1 : c1 ≤ 9223372036854775807) (S1 : Bs w w.heap.size A1 L1) :
    Calls Try.prog 6 #[.slice A0 L0.length c0, .slice A1 L1.length c1, .int .u32 a2u32] w (Gives (.bool true) w) := by
  have ba2u32 := bounds_u32 wa2u32
  exact csums_as  a2u32 ba2u32.1 ba2u32.2 A0 c0 L0 A1 c1 L1 w hc0 hm0 S0 hc1 hm1 S1

set_option maxRecDepth 100000 in
theorem lifted (os : Os) (started : os.Started) (H : Type) (enc : TypeId × Value → H) :
    ReturnsInHanded {} Try.checked os 6 .any (Rows.codecSumsSpec.pre6 enc Try.prog Try.f6 Rows.codecSumsRow.domain false) (Rows.codecSumsSpec.post enc Try.prog Try.f6 false true false false) := by
  refine returnsInHanded_of_change (C := Try.checked) own started (by kernel_rfl) Try.func6
    (ChangeSpec.witness6 (enc := enc) (C := Try.checked) false ⟨#[], #[.slice none 0 0, .slice none 0 0, .int .u32 0], []⟩ 8 (by kernel_rfl) (by kernel_rfl) (by kernel_rfl) (by kernel_rfl)) ?_
  intro W base args ds gs before hval0 hW hcnd _
  have hval : ∀ (j : Nat) t v, Try.f6.params[j]? = some t → args[j]? = some v → Value.okWide Try.prog W .any base t v := hval0
  have hW' := hW
  have hWl := hW
  obtain ⟨p, q, hA0, hV, rfl, hfz, hnd⟩ := hW
  have hA : DataW.TrodAll enc Try.prog W 0 (fun _ => true) true Try.f6.params.toList args.toList ds p := hA0
  rw [Try.params6] at hA hval
  obtain ⟨v0, vs0, d0, ds0, p0, q0, hargs, rfl, rfl, h0, r0⟩ := trodAll_cons hA
  obtain ⟨v1, vs1, d1, ds1, p1, q1, rfl, rfl, rfl, h1, r1⟩ := trodAll_cons r0
  obtain ⟨v2, vs2, d2, ds2, p2, q2, rfl, rfl, rfl, h2, r2⟩ := trodAll_cons r1
  obtain ⟨rfl, rfl, rfl⟩ := trodAll_nil r2
  obtain rfl : args = #[v0, v1, v2] := by cases args; simp_all
  obtain ⟨rfl, rfl⟩ := trodVars_none hV
  obtain ⟨A0, n0, c0, rfl⟩ := okWide_slice Try.underlying22 (hval 0 22 v0 rfl rfl)
  obtain ⟨L0, rfl, hc0, hm0, S0, C0⟩ := bytes_open Try.underlying22 Try.underlying5 (by kernel_rfl) h0 (fun b o hm => hWl.lt (.cell b o) (by simp [hm]))
  obtain ⟨A1, n1, c1, rfl⟩ := okWide_slice Try.underlying22 (hval 1 22 v1 rfl rfl)
  obtain ⟨L1, rfl, hc1, hm1, S1, C1⟩ := bytes_open Try.underlying22 Try.underlying5 (by kernel_rfl) h1 (fun b o hm => hWl.lt (.cell b o) (by simp [hm]))
  obtain ⟨a2u32, rfl, rfl, rfl, wa2u32⟩ := open_int Try.underlying43 (hval 2 43 v2 rfl rfl) h2
  clear hA0 hval0
  simp only [List.append_nil] at hW'
  refine (walk  a2u32 wa2u32 A0 c0 L0 A1 c1 L1 W hc0 hm0 S0 hc1 hm1 S1).mono fun e W' ⟨he, hg⟩ => ?_
  subst he
  exact ⟨_, rfl, _, _, _, [], _, [], hW', trodAll_mk1 (shut_bool Try.underlying4 _), (trodAll_cons_mk (C0 W' hg) (trodAll_cons_mk (C1 W' hg) (trodAll_cons_mk (shut_int Try.underlying43 wa2u32) trodAll_mk0))), rfl, hg.frame _, fun h => by cases h⟩

theorem over : Rows.codecSumsRow.holds Try.pinned (OpenSpec.ofChange Rows.codecSumsSpec) :=
  OpenClaim.holds_of_wide 6 Try.f6 rfl rfl rfl rfl rfl rfl rfl ⟨rfl, rfl, rfl, rfl, rfl⟩ rfl rfl rfl rfl rfl (by kernel_rfl) Try.func6 (by kernel_rfl)
    (of_decide_eq_true (by kernel_rfl)) (by unfold Func.isWrapper; first | (rw [if_pos (by decide +kernel)]; kernel_rfl) | (rw [if_neg (by decide +kernel)]; exact ⟨rfl, rfl⟩))
    (fun os started H enc _ => lifted os started H enc)

/-- ████ THE STATEMENT ████ -/
theorem proved : Rows.CodecSumsSaid :=
  over
#print axioms proved
end Go.Proofs.Ytcjhgihkofmhgaa.codecSums
