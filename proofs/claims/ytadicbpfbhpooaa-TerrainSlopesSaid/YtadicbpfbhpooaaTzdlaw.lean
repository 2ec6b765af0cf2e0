/-
  The law TerrainSlopes of layer 15 (terrain): slopes and their classes are the specified ones: it returns true for every input.
-/
import Derived.Test.YtadicbpfbhpooaaRows
import Derived.Test.YtadicbpfbhpooaaTzd
import Derived.WalkKit
import Derived.ProofKit
import Derived.OpenShut
import Derived.Lib.SmallJoins
namespace Go.Proofs.Ytadicbpfbhpooaa.terrainSlopes
open Go.ChangeShapes Go.WideShapes Go.ChangeAt Go.RowKit
set_option linter.unusedVariables false      -- a walk need not use every 'w<i>' (that an integer argument fits its kind)

theorem own : ownKnob Try.prog.godebug = none := by kernel_rfl

theorem walk  (a20 : Int) (a21 : Int) (wa20 : (Lit.int .i64 a20).wf = true) (wa21 : (Lit.int .i64 a21).wf = true) (A0 : Option Addr) (N0 : Nat) (C0 R0 K0 : Int) (Z0 : List Int) (A1 : Option Addr) (N1 : Nat) (Z1 : List Int) (w : World) (hL0 : Z0.length ≤ 140737488355328) (T0 : Ints w A0 Z0) (hB1 : ∀ y ∈ Z1, -9223372036854775808 ≤ y ∧ y ≤ 9223372036854775807) (hL1 : Z1.length ≤ 140737488355328) (T1 : Ints w A1 Z1) :
    Calls Try.prog 5 #[.agg #[.int .i64 C0, .int .i64 R0, .int .i64 K0, .slice A0 Z0.length N0], .slice A1 Z1.length N1, .agg #[.int .i64 a20, .int .i64 a21]] w (Gives (.bool true) w) := by
  have ba20 := bounds_i64 wa20
  have ba21 := bounds_i64 wa21
  exact tslp_as  a20 a21 ba20.1 ba20.2 ba21.1 ba21.2 A0 N0 C0 R0 K0 Z0 A1 N1 Z1 w hL0 T0 hB1 hL1 T1

set_option maxRecDepth 100000 in
theorem lifted (os : Os) (started : os.Started) (H : Type) (enc : TypeId × Value → H) :
    ReturnsInHanded {} Try.checked os 5 .any (Rows.terrainSlopesSpec.pre6 enc Try.prog Try.f5 Rows.terrainSlopesRow.domain false) (Rows.terrainSlopesSpec.post enc Try.prog Try.f5 false true false false) := by
  refine returnsInHanded_of_change_sized (C := Try.checked) own started (by kernel_rfl) Try.func5
    (ChangeSpec.witness6 (enc := enc) (C := Try.checked) false ⟨#[], #[.agg #[.int .i64 0, .int .i64 0, .int .i64 0, .slice none 0 0], .slice none 0 0, .agg #[.int .i64 0, .int .i64 0]], []⟩ 8 (by kernel_rfl) (by kernel_rfl) (by kernel_rfl) (by kernel_rfl)) ?_
  intro W base args ds gs before hval0 hW hcnd hsz0 _
  have hval : ∀ (j : Nat) t v, Try.f5.params[j]? = some t → args[j]? = some v → Value.okWide Try.prog W .any base t v := hval0
  have hW' := hW
  have hWl := hW
  obtain ⟨p, q, hA0, hV, rfl, hfz, hnd⟩ := hW
  have hA : DataW.TrodAll enc Try.prog W 0 (fun _ => true) true Try.f5.params.toList args.toList ds p := hA0
  have hsz : (DataW.weightsEach Try.prog (Try.f5.params.toList ++ Rows.terrainSlopesSpec.plain.varTypes Try.prog) (ds ++ gs)).all (· ≤ reachBytes) = true := hsz0
  clear hsz0
  rw [Try.params5] at hA hval hsz
  obtain ⟨v0, vs0, d0, ds0, p0, q0, hargs, rfl, rfl, h0, r0⟩ := trodAll_cons hA
  obtain ⟨v1, vs1, d1, ds1, p1, q1, rfl, rfl, rfl, h1, r1⟩ := trodAll_cons r0
  obtain ⟨v2, vs2, d2, ds2, p2, q2, rfl, rfl, rfl, h2, r2⟩ := trodAll_cons r1
  obtain ⟨rfl, rfl, rfl⟩ := trodAll_nil r2
  obtain rfl : args = #[v0, v1, v2] := by cases args; simp_all
  obtain ⟨rfl, rfl⟩ := trodVars_none hV
  obtain ⟨A0, N0, C0, R0, K0, Z0, rfl, hL0, T0⟩ := terrain_open (hval 0 24 v0 rfl rfl) h0 (fun n hn => by have := List.all_eq_true.1 hsz n (DataW.weights_mem_each (j := 0) (t := 24) rfl rfl _ hn); simpa using this)
  obtain ⟨A1, N1, Z1, rfl, hB1, hL1, T1⟩ := ints_open (hval 1 22 v1 rfl rfl) h1 (fun n hn => by have := List.all_eq_true.1 hsz n (DataW.weights_mem_each (j := 1) (t := 22) rfl rfl _ hn); simpa using this)
  obtain ⟨a20, a21, rfl, rfl, rfl, wa20, wa21⟩ := open_arr2 Try.underlying41 Try.underlying3 (by kernel_rfl) (by kernel_rfl) (hval 2 41 v2 rfl rfl) h2
  clear hA0 hval0
  simp only [List.append_nil] at hW'
  refine (walk  a20 a21 wa20 wa21 A0 N0 C0 R0 K0 Z0 A1 N1 Z1 W hL0 T0 hB1 hL1 T1).mono fun e W' ⟨he, hg⟩ => ?_
  subst he
  exact ⟨_, rfl, _, _, _, [], _, [], hW', trodAll_mk1 (shut_bool Try.underlying4 _), (trodAll_cons_mk (Below.trod (P := Try.prog) (by kernel_rfl) (by kernel_rfl) (of_decide_eq_true (by kernel_rfl)) h0 hg (fun x hx => hWl.lt x (by simp [hx]))) (trodAll_cons_mk (Below.trod (P := Try.prog) (by kernel_rfl) (by kernel_rfl) (of_decide_eq_true (by kernel_rfl)) h1 hg (fun x hx => hWl.lt x (by simp [hx]))) (trodAll_cons_mk (shut_arr2 Try.underlying41 Try.underlying3 (by kernel_rfl) (by kernel_rfl) wa20 wa21) trodAll_mk0))), rfl, hg.frame _, fun h => by cases h⟩

theorem over : Rows.terrainSlopesRow.holds Try.pinned (OpenSpec.ofChange Rows.terrainSlopesSpec) :=
  OpenClaim.holds_of_wide 5 Try.f5 rfl rfl rfl rfl rfl rfl rfl ⟨rfl, rfl, rfl, rfl, rfl⟩ rfl rfl rfl rfl rfl (by kernel_rfl) Try.func5 (by kernel_rfl)
    (of_decide_eq_true (by kernel_rfl)) (by unfold Func.isWrapper; first | (rw [if_pos (by decide +kernel)]; kernel_rfl) | (rw [if_neg (by decide +kernel)]; exact ⟨rfl, rfl⟩))
    (fun os started H enc _ => lifted os started H enc)

/-- ████ THE STATEMENT ████ -/
theorem proved : Rows.TerrainSlopesSaid :=
  over
#print axioms proved
end Go.Proofs.Ytadicbpfbhpooaa.terrainSlopes
