/-
  Proved: for every three slices of bytes the statement CodecLinear of layer 6 holds: checksums are linear. No condition.
-/
import Derived.Test.YtcjhgihkofmhgaaRows
import Derived.Test.YtcjhgihkofmhgaaCzd
import Derived.Test.YtcjhgihkofmhgaaBslice
import Derived.WalkKit
import Derived.ProofKit
import Derived.OpenShut
import Derived.Lib.SmallJoins
namespace Go.Proofs.Ytcjhgihkofmhgaa.codecLinear
open Go.ChangeShapes Go.WideShapes Go.ChangeAt Go.RowKit
set_option linter.unusedVariables false      -- a walk need not use every 'w<i>' (that an integer argument fits its kind)

theorem own : ownKnob Try.prog.godebug = none := by kernel_rfl

theorem walk    (A0 : Option Addr) (c0 : Nat) (L0 : List UInt8) (A1 : Option Addr) (c1 : Nat) (L1 : List UInt8) (A2 : Option Addr) (c2 : Nat) (L2 : List UInt8) (w : World) (hc0 : L0.length ≤ c0) (hm0 : c0 ≤ 9223372036854775807) (S0 : Bs w w.heap.size A0 L0) (hc1 : L1.length ≤ c1) (hm1 : c1 ≤ 9223372036854775807) (S1 : Bs w w.heap.size A1 L1) (hc2 : L2.length ≤ c2) (hm2 : c2 ≤ 9223372036854775807) (S2 : Bs w w.heap.size A2 L2) :
    Calls Try.prog 10 #[.slice A0 L0.length c0, .slice A1 L1.length c1, .slice A2 L2.length c2] w (Gives (.bool true) w) := by
  exact clin_as    A0 c0 L0 A1 c1 L1 A2 c2 L2 w hc0 hm0 S0 hc1 hm1 S1 hc2 hm2 S2

set_option maxRecDepth 100000 in
theorem lifted (os : Os) (started : os.Started) (H : Type) (enc : TypeId × Value → H) :
    ReturnsInHanded {} Try.checked os 10 .any (Rows.codecLinearSpec.pre6 enc Try.prog Try.f10 Rows.codecLinearRow.domain false) (Rows.codecLinearSpec.post enc Try.prog Try.f10 false true false false) := by
  refine returnsInHanded_of_change (C := Try.checked) own started (by kernel_rfl) Try.func10
    (ChangeSpec.witness6 (enc := enc) (C := Try.checked) false ⟨#[], #[.slice none 0 0, .slice none 0 0, .slice none 0 0], []⟩ 8 (by kernel_rfl) (by kernel_rfl) (by kernel_rfl) (by kernel_rfl)) ?_
  intro W base args ds gs before hval0 hW hcnd _
  have hval : ∀ (j : Nat) t v, Try.f10.params[j]? = some t → args[j]? = some v → Value.okWide Try.prog W .any base t v := hval0
  have hW' := hW
  have hWl := hW
  obtain ⟨p, q, hA0, hV, rfl, hfz, hnd⟩ := hW
  have hA : DataW.TrodAll enc Try.prog W 0 (fun _ => true) true Try.f10.params.toList args.toList ds p := hA0
  rw [Try.params10] at hA hval
  obtain ⟨v0, vs0, d0, ds0, p0, q0, hargs, rfl, rfl, h0, r0⟩ := trodAll_cons hA
  obtain ⟨v1, vs1, d1, ds1, p1, q1, rfl, rfl, rfl, h1, r1⟩ := trodAll_cons r0
  obtain ⟨v2, vs2, d2, ds2, p2, q2, rfl, rfl, rfl, h2, r2⟩ := trodAll_cons r1
  obtain ⟨rfl, rfl, rfl⟩ := trodAll_nil r2
  obtain rfl : args = #[v0, v1, v2] := by cases args; simp_all
  obtain ⟨rfl, rfl⟩ := trodVars_none hV
  obtain ⟨A0, n0, c0, rfl⟩ := okWide_slice Try.underlying22 (hval 0 22 v0 rfl rfl)
  obtain ⟨L0, rfl, hc0, hm0, S0, C0⟩ := bytes_open Try.underlying22 Try.underlying5 (by kernel_rfl) h0 (fun b o hm => hWl.lt (.cell b o) (by simp [hm]))
  obtain ⟨A1, n1, c1, rfl⟩ := okWide_slice Try.underlying22 (hval 1 22 v1 rfl rfl)
  obtain ⟨L1, rfl, hc1, hm1, S1, C1⟩ := bytes_open Try.underlying22 Try.underlying5 (by kernel_rfl) h1 (fun b o hm => hWl.lt (.cell b o) (by simp [hm]))
  obtain ⟨A2, n2, c2, rfl⟩ := okWide_slice Try.underlying22 (hval 2 22 v2 rfl rfl)
  obtain ⟨L2, rfl, hc2, hm2, S2, C2⟩ := bytes_open Try.underlying22 Try.underlying5 (by kernel_rfl) h2 (fun b o hm => hWl.lt (.cell b o) (by simp [hm]))
  clear hA0 hval0
  simp only [List.append_nil] at hW'
  refine (walk    A0 c0 L0 A1 c1 L1 A2 c2 L2 W hc0 hm0 S0 hc1 hm1 S1 hc2 hm2 S2).mono fun e W' ⟨he, hg⟩ => ?_
  subst he
  exact ⟨_, rfl, _, _, _, [], _, [], hW', trodAll_mk1 (shut_bool Try.underlying4 _), (trodAll_cons_mk (C0 W' hg) (trodAll_cons_mk (C1 W' hg) (trodAll_cons_mk (C2 W' hg) trodAll_mk0))), rfl, hg.frame _, fun h => by cases h⟩

theorem over : Rows.codecLinearRow.holds Try.pinned (OpenSpec.ofChange Rows.codecLinearSpec) :=
  OpenClaim.holds_of_wide 10 Try.f10 rfl rfl rfl rfl rfl rfl rfl ⟨rfl, rfl, rfl, rfl, rfl⟩ rfl rfl rfl rfl rfl (by kernel_rfl) Try.func10 (by kernel_rfl)
    (of_decide_eq_true (by kernel_rfl)) (by unfold Func.isWrapper; first | (rw [if_pos (by decide +kernel)]; kernel_rfl) | (rw [if_neg (by decide +kernel)]; exact ⟨rfl, rfl⟩))
    (fun os started H enc _ => lifted os started H enc)

/-- ████ THE STATEMENT ████ -/
theorem proved : Rows.CodecLinearSaid :=
  over
#print axioms proved
end Go.Proofs.Ytcjhgihkofmhgaa.codecLinear
