/-
  VolumeMeasured answers true for every curve and stem: a tree whose height is missing has the volume of one with the height of the curve, that volume does not depend on the curve of heights, and the examples of the chapter are answered (no condition).
-/
import Derived.Test.YtdimncchejbaaaaRows
import Derived.Test.YtdimncchejbaaaaVtb
import Derived.Test.YtdimncchejbaaaaVcur
import Derived.WalkKit
import Derived.ProofKit
import Derived.OpenShut
import Derived.Lib.SmallJoins
namespace Go.Proofs.Ytdimncchejbaaaa.volumeMeasured
open Go.ChangeShapes Go.WideShapes Go.ChangeAt Go.RowKit
set_option linter.unusedVariables false      -- a walk need not use every 'w<i>' (that an integer argument fits its kind)

theorem own : ownKnob Try.prog.godebug = none := by kernel_rfl

theorem walk  (a10 : Int) (a11 : Int) (wa10 : (Lit.int .i64 a10).wf = true) (wa11 : (Lit.int .i64 a11).wf = true) (A0 B0 : Option Addr) (k0 m0 : Nat) (X0 Y0 : List Sp.Pd) (F0 : Int) (w : World) (bF0 : -9223372036854775808 ≤ F0 ∧ F0 ≤ 9223372036854775807) (sX0 : PcSized X0) (sY0 : PcSized Y0) (TX0 : Pcs w A0 X0) (TY0 : Pcs w B0 Y0) :
    Calls Try.prog 10 #[.agg #[.slice A0 X0.length k0, .int .i64 F0, .slice B0 Y0.length m0], .agg #[.int .i64 a10, .int .i64 a11]] w (Gives (.bool true) w) := by
  have ba10 := bounds_i64 wa10
  have ba11 := bounds_i64 wa11
  exact vmeas_any  a10 a11 ba10.1 ba10.2 ba11.1 ba11.2 A0 B0 k0 m0 X0 Y0 F0 w bF0 sX0 sY0 TX0 TY0

set_option maxRecDepth 100000 in
theorem lifted (os : Os) (started : os.Started) (H : Type) (enc : TypeId × Value → H) :
    ReturnsInHanded {} Try.checked os 10 .any (Rows.volumeMeasuredSpec.pre6 enc Try.prog Try.f10 Rows.volumeMeasuredRow.domain false) (Rows.volumeMeasuredSpec.post enc Try.prog Try.f10 false true false false) := by
  refine returnsInHanded_of_change_sized (C := Try.checked) own started (by kernel_rfl) Try.func10
    (ChangeSpec.witness6 (enc := enc) (C := Try.checked) false ⟨#[], #[.agg #[.slice none 0 0, .int .i64 0, .slice none 0 0], .agg #[.int .i64 0, .int .i64 0]], []⟩ 8 (by kernel_rfl) (by kernel_rfl) (by kernel_rfl) (by kernel_rfl)) ?_
  intro W base args ds gs before hval0 hW hcnd hsz0 _
  have hval : ∀ (j : Nat) t v, Try.f10.params[j]? = some t → args[j]? = some v → Value.okWide Try.prog W .any base t v := hval0
  have hW' := hW
  have hWl := hW
  obtain ⟨p, q, hA0, hV, rfl, hfz, hnd⟩ := hW
  have hA : DataW.TrodAll enc Try.prog W 0 (fun _ => true) true Try.f10.params.toList args.toList ds p := hA0
  have hsz : (DataW.weightsEach Try.prog (Try.f10.params.toList ++ Rows.volumeMeasuredSpec.plain.varTypes Try.prog) (ds ++ gs)).all (· ≤ reachBytes) = true := hsz0
  clear hsz0
  rw [Try.params10] at hA hval hsz
  obtain ⟨v0, vs0, d0, ds0, p0, q0, hargs, rfl, rfl, h0, r0⟩ := trodAll_cons hA
  obtain ⟨v1, vs1, d1, ds1, p1, q1, rfl, rfl, rfl, h1, r1⟩ := trodAll_cons r0
  obtain ⟨rfl, rfl, rfl⟩ := trodAll_nil r1
  obtain rfl : args = #[v0, v1] := by cases args; simp_all
  obtain ⟨rfl, rfl⟩ := trodVars_none hV
  obtain ⟨A0, B0, k0, m0, X0, Y0, F0, rfl, bF0, sX0, sY0, TX0, TY0⟩ := curve_open (hval 0 24 v0 rfl rfl) h0 (fun n hn => by have := List.all_eq_true.1 hsz n (DataW.weights_mem_each (j := 0) (t := 24) rfl rfl _ hn); simpa using this)
  obtain ⟨c10, c11, y10, y11, m1, rfl, rfl, rfl, hy10, hy11⟩ := Joins.open_agg2 Try.underlying26 (by kernel_rfl) (by kernel_rfl) (hval 1 26 v1 rfl rfl) h1
  obtain ⟨a10, e10, rfl, wa10⟩ := DataW.trod_int Try.underlying3 hy10
  simp at e10
  subst e10
  obtain ⟨a11, e11, rfl, wa11⟩ := DataW.trod_int Try.underlying3 hy11
  simp at e11
  subst e11
  clear hA0 hval0
  simp only [List.append_nil] at hW'
  have st1 : ∀ (W' : World) (sp : Nat → Bool) (held : Bool), DataW.Trod enc Try.prog W' 0 sp held 26 (.agg #[.int .i64 a10, .int .i64 a11]) (.agg [.lit (.int .i64 a10), .lit (.int .i64 a11)]) [] := fun W' sp held =>
    Joins.shut_agg2 (y0 := (.lit (.int .i64 a10), [])) (y1 := (.lit (.int .i64 a11), [])) Try.underlying26 (by kernel_rfl) (by kernel_rfl) ⟨1, by simp [DataW.trod, Try.underlying3, wa10]⟩ ⟨1, by simp [DataW.trod, Try.underlying3, wa11]⟩
  refine (walk  a10 a11 wa10 wa11 A0 B0 k0 m0 X0 Y0 F0 W bF0 sX0 sY0 TX0 TY0).mono fun e W' ⟨he, hg⟩ => ?_
  subst he
  exact ⟨_, rfl, _, _, _, [], _, [], hW', trodAll_mk1 (shut_bool Try.underlying4 _), (trodAll_cons_mk (Below.trod (P := Try.prog) (by kernel_rfl) (by kernel_rfl) (of_decide_eq_true (by kernel_rfl)) h0 hg (fun x hx => hWl.lt x (by simp [hx]))) (trodAll_cons_mk (st1 _ _ _) trodAll_mk0)), rfl, hg.frame _, fun h => by cases h⟩

theorem over : Rows.volumeMeasuredRow.holds Try.pinned (OpenSpec.ofChange Rows.volumeMeasuredSpec) :=
  OpenClaim.holds_of_wide 10 Try.f10 rfl rfl rfl rfl rfl rfl rfl ⟨rfl, rfl, rfl, rfl, rfl⟩ rfl rfl rfl rfl rfl (by kernel_rfl) Try.func10 (by kernel_rfl)
    (of_decide_eq_true (by kernel_rfl)) (by unfold Func.isWrapper; first | (rw [if_pos (by decide +kernel)]; kernel_rfl) | (rw [if_neg (by decide +kernel)]; exact ⟨rfl, rfl⟩))
    (fun os started H enc _ => lifted os started H enc)

/-- ████ THE STATEMENT ████ -/
theorem proved : Rows.VolumeMeasuredSaid :=
  over
#print axioms proved
end Go.Proofs.Ytdimncchejbaaaa.volumeMeasured
