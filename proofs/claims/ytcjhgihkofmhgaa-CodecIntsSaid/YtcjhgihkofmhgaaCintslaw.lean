/-
  Proved: for every int, every slice of bytes and every offset the statement CodecInts of layer 6 holds: ints and texts are encoded and read as specified. No condition.
-/
import Derived.Test.YtcjhgihkofmhgaaRows
import Derived.Test.YtcjhgihkofmhgaaCzg
import Derived.Test.YtcjhgihkofmhgaaBslice
import Derived.WalkKit
import Derived.ProofKit
import Derived.OpenShut
import Derived.Lib.SmallJoins
namespace Go.Proofs.Ytcjhgihkofmhgaa.codecInts
open Go.ChangeShapes Go.WideShapes Go.ChangeAt Go.RowKit
set_option linter.unusedVariables false      -- a walk need not use every 'w<i>' (that an integer argument fits its kind)

theorem own : ownKnob Try.prog.godebug = none := by kernel_rfl

theorem walk  (a0 : Int) (a2 : Int) (wa0 : (Lit.int .i64 a0).wf = true) (wa2 : (Lit.int .i64 a2).wf = true) (A1 : Option Addr) (c1 : Nat) (L1 : List UInt8) (w : World) (hc1 : L1.length ≤ c1) (hm1 : c1 ≤ 9223372036854775807) (S1 : Bs w w.heap.size A1 L1) :
    Calls Try.prog 3 #[.int .i64 a0, .slice A1 L1.length c1, .int .i64 a2] w (Gives (.bool true) w) := by
  have ba0 := bounds_i64 wa0
  have ba2 := bounds_i64 wa2
  exact cints_as  a0 a2 ba0.1 ba0.2 ba2.1 ba2.2 A1 c1 L1 w hc1 hm1 S1

set_option maxRecDepth 100000 in
theorem lifted (os : Os) (started : os.Started) (H : Type) (enc : TypeId × Value → H) :
    ReturnsInHanded {} Try.checked os 3 .any (Rows.codecIntsSpec.pre6 enc Try.prog Try.f3 Rows.codecIntsRow.domain false) (Rows.codecIntsSpec.post enc Try.prog Try.f3 false true false false) := by
  refine returnsInHanded_of_change (C := Try.checked) own started (by kernel_rfl) Try.func3
    (ChangeSpec.witness6 (enc := enc) (C := Try.checked) false ⟨#[], #[.int .i64 0, .slice none 0 0, .int .i64 0], []⟩ 8 (by kernel_rfl) (by kernel_rfl) (by kernel_rfl) (by kernel_rfl)) ?_
  intro W base args ds gs before hval0 hW hcnd _
  have hval : ∀ (j : Nat) t v, Try.f3.params[j]? = some t → args[j]? = some v → Value.okWide Try.prog W .any base t v := hval0
  have hW' := hW
  have hWl := hW
  obtain ⟨p, q, hA0, hV, rfl, hfz, hnd⟩ := hW
  have hA : DataW.TrodAll enc Try.prog W 0 (fun _ => true) true Try.f3.params.toList args.toList ds p := hA0
  rw [Try.params3] at hA hval
  obtain ⟨v0, vs0, d0, ds0, p0, q0, hargs, rfl, rfl, h0, r0⟩ := trodAll_cons hA
  obtain ⟨v1, vs1, d1, ds1, p1, q1, rfl, rfl, rfl, h1, r1⟩ := trodAll_cons r0
  obtain ⟨v2, vs2, d2, ds2, p2, q2, rfl, rfl, rfl, h2, r2⟩ := trodAll_cons r1
  obtain ⟨rfl, rfl, rfl⟩ := trodAll_nil r2
  obtain rfl : args = #[v0, v1, v2] := by cases args; simp_all
  obtain ⟨rfl, rfl⟩ := trodVars_none hV
  obtain ⟨a0, rfl, rfl, rfl, wa0⟩ := open_int Try.underlying3 (hval 0 3 v0 rfl rfl) h0
  obtain ⟨A1, n1, c1, rfl⟩ := okWide_slice Try.underlying22 (hval 1 22 v1 rfl rfl)
  obtain ⟨L1, rfl, hc1, hm1, S1, C1⟩ := bytes_open Try.underlying22 Try.underlying5 (by kernel_rfl) h1 (fun b o hm => hWl.lt (.cell b o) (by simp [hm]))
  obtain ⟨a2, rfl, rfl, rfl, wa2⟩ := open_int Try.underlying3 (hval 2 3 v2 rfl rfl) h2
  clear hA0 hval0
  simp only [List.append_nil] at hW'
  refine (walk  a0 a2 wa0 wa2 A1 c1 L1 W hc1 hm1 S1).mono fun e W' ⟨he, hg⟩ => ?_
  subst he
  exact ⟨_, rfl, _, _, _, [], _, [], hW', trodAll_mk1 (shut_bool Try.underlying4 _), (trodAll_cons_mk (shut_int Try.underlying3 wa0) (trodAll_cons_mk (C1 W' hg) (trodAll_cons_mk (shut_int Try.underlying3 wa2) trodAll_mk0))), rfl, hg.frame _, fun h => by cases h⟩

theorem over : Rows.codecIntsRow.holds Try.pinned (OpenSpec.ofChange Rows.codecIntsSpec) :=
  OpenClaim.holds_of_wide 3 Try.f3 rfl rfl rfl rfl rfl rfl rfl ⟨rfl, rfl, rfl, rfl, rfl⟩ rfl rfl rfl rfl rfl (by kernel_rfl) Try.func3 (by kernel_rfl)
    (of_decide_eq_true (by kernel_rfl)) (by unfold Func.isWrapper; first | (rw [if_pos (by decide +kernel)]; kernel_rfl) | (rw [if_neg (by decide +kernel)]; exact ⟨rfl, rfl⟩))
    (fun os started H enc _ => lifted os started H enc)

/-- ████ THE STATEMENT ████ -/
theorem proved : Rows.CodecIntsSaid :=
  over
#print axioms proved
end Go.Proofs.Ytcjhgihkofmhgaa.codecInts
