/-
  VolumeAdds answers true for every curve, stem and three heights: two sections that meet add up to an interval that contains the section of both and is wider by at most 1 at each end, and the examples of the chapter are answered (no condition).
-/
import Derived.Test.YtdimncchejbaaaaRows
import Derived.Test.YtdimncchejbaaaaVvy
import Derived.Test.YtdimncchejbaaaaVcur
import Derived.Test.YtdimncchejbaaaaFarr3
import Derived.WalkKit
import Derived.ProofKit
import Derived.OpenShut
import Derived.Lib.SmallJoins
namespace Go.Proofs.Ytdimncchejbaaaa.volumeAdds
open Go.ChangeShapes Go.WideShapes Go.ChangeAt Go.RowKit
set_option linter.unusedVariables false      -- a walk need not use every 'w<i>' (that an integer argument fits its kind)

theorem own : ownKnob Try.prog.godebug = none := by kernel_rfl

theorem walk  (a10 : Int) (a11 : Int) (a20 : Int) (a21 : Int) (a22 : Int) (wa10 : (Lit.int .i64 a10).wf = true) (wa11 : (Lit.int .i64 a11).wf = true) (wa20 : (Lit.int .i64 a20).wf = true) (wa21 : (Lit.int .i64 a21).wf = true) (wa22 : (Lit.int .i64 a22).wf = true) (A0 B0 : Option Addr) (k0 m0 : Nat) (X0 Y0 : List Sp.Pd) (F0 : Int) (w : World) (bF0 : -9223372036854775808 ≤ F0 ∧ F0 ≤ 9223372036854775807) (sX0 : PcSized X0) (sY0 : PcSized Y0) (TX0 : Pcs w A0 X0) (TY0 : Pcs w B0 Y0) :
    Calls Try.prog 8 #[.agg #[.slice A0 X0.length k0, .int .i64 F0, .slice B0 Y0.length m0], .agg #[.int .i64 a10, .int .i64 a11], .agg #[.int .i64 a20, .int .i64 a21, .int .i64 a22]] w (Gives (.bool true) w) := by
  have ba10 := bounds_i64 wa10
  have ba11 := bounds_i64 wa11
  have ba20 := bounds_i64 wa20
  have ba21 := bounds_i64 wa21
  have ba22 := bounds_i64 wa22
  exact vadds_any  a10 a11 a20 a21 a22 ba10.1 ba10.2 ba11.1 ba11.2 ba20.1 ba20.2 ba21.1 ba21.2 ba22.1 ba22.2 A0 B0 k0 m0 X0 Y0 F0 w bF0 sX0 sY0 TX0 TY0

set_option maxRecDepth 100000 in
theorem lifted (os : Os) (started : os.Started) (H : Type) (enc : TypeId × Value → H) :
    ReturnsInHanded {} Try.checked os 8 .any (Rows.volumeAddsSpec.pre6 enc Try.prog Try.f8 Rows.volumeAddsRow.domain false) (Rows.volumeAddsSpec.post enc Try.prog Try.f8 false true false false) := by
  refine returnsInHanded_of_change_sized (C := Try.checked) own started (by kernel_rfl) Try.func8
    (ChangeSpec.witness6 (enc := enc) (C := Try.checked) false ⟨#[], #[.agg #[.slice none 0 0, .int .i64 0, .slice none 0 0], .agg #[.int .i64 0, .int .i64 0], .agg #[.int .i64 0, .int .i64 0, .int .i64 0]], []⟩ 8 (by kernel_rfl) (by kernel_rfl) (by kernel_rfl) (by kernel_rfl)) ?_
  intro W base args ds gs before hval0 hW hcnd hsz0 _
  have hval : ∀ (j : Nat) t v, Try.f8.params[j]? = some t → args[j]? = some v → Value.okWide Try.prog W .any base t v := hval0
  have hW' := hW
  have hWl := hW
  obtain ⟨p, q, hA0, hV, rfl, hfz, hnd⟩ := hW
  have hA : DataW.TrodAll enc Try.prog W 0 (fun _ => true) true Try.f8.params.toList args.toList ds p := hA0
  have hsz : (DataW.weightsEach Try.prog (Try.f8.params.toList ++ Rows.volumeAddsSpec.plain.varTypes Try.prog) (ds ++ gs)).all (· ≤ reachBytes) = true := hsz0
  clear hsz0
  rw [Try.params8] at hA hval hsz
  obtain ⟨v0, vs0, d0, ds0, p0, q0, hargs, rfl, rfl, h0, r0⟩ := trodAll_cons hA
  obtain ⟨v1, vs1, d1, ds1, p1, q1, rfl, rfl, rfl, h1, r1⟩ := trodAll_cons r0
  obtain ⟨v2, vs2, d2, ds2, p2, q2, rfl, rfl, rfl, h2, r2⟩ := trodAll_cons r1
  obtain ⟨rfl, rfl, rfl⟩ := trodAll_nil r2
  obtain rfl : args = #[v0, v1, v2] := by cases args; simp_all
  obtain ⟨rfl, rfl⟩ := trodVars_none hV
  obtain ⟨A0, B0, k0, m0, X0, Y0, F0, rfl, bF0, sX0, sY0, TX0, TY0⟩ := curve_open (hval 0 24 v0 rfl rfl) h0 (fun n hn => by have := List.all_eq_true.1 hsz n (DataW.weights_mem_each (j := 0) (t := 24) rfl rfl _ hn); simpa using this)
  obtain ⟨c10, c11, y10, y11, m1, rfl, rfl, rfl, hy10, hy11⟩ := Joins.open_agg2 Try.underlying26 (by kernel_rfl) (by kernel_rfl) (hval 1 26 v1 rfl rfl) h1
  obtain ⟨a10, e10, rfl, wa10⟩ := DataW.trod_int Try.underlying3 hy10
  simp at e10
  subst e10
  obtain ⟨a11, e11, rfl, wa11⟩ := DataW.trod_int Try.underlying3 hy11
  simp at e11
  subst e11
  obtain ⟨a20, a21, a22, rfl, rfl, rfl, wa20, wa21, wa22⟩ := open_arr3 Try.underlying50 Try.underlying3 (by kernel_rfl) (by kernel_rfl) (hval 2 50 v2 rfl rfl) h2
  clear hA0 hval0
  simp only [List.append_nil] at hW'
  have st1 : ∀ (W' : World) (sp : Nat → Bool) (held : Bool), DataW.Trod enc Try.prog W' 0 sp held 26 (.agg #[.int .i64 a10, .int .i64 a11]) (.agg [.lit (.int .i64 a10), .lit (.int .i64 a11)]) [] := fun W' sp held =>
    Joins.shut_agg2 (y0 := (.lit (.int .i64 a10), [])) (y1 := (.lit (.int .i64 a11), [])) Try.underlying26 (by kernel_rfl) (by kernel_rfl) ⟨1, by simp [DataW.trod, Try.underlying3, wa10]⟩ ⟨1, by simp [DataW.trod, Try.underlying3, wa11]⟩
  refine (walk  a10 a11 a20 a21 a22 wa10 wa11 wa20 wa21 wa22 A0 B0 k0 m0 X0 Y0 F0 W bF0 sX0 sY0 TX0 TY0).mono fun e W' ⟨he, hg⟩ => ?_
  subst he
  exact ⟨_, rfl, _, _, _, [], _, [], hW', trodAll_mk1 (shut_bool Try.underlying4 _), (trodAll_cons_mk (Below.trod (P := Try.prog) (by kernel_rfl) (by kernel_rfl) (of_decide_eq_true (by kernel_rfl)) h0 hg (fun x hx => hWl.lt x (by simp [hx]))) (trodAll_cons_mk (st1 _ _ _) (trodAll_cons_mk (shut_arr3 Try.underlying50 Try.underlying3 (by kernel_rfl) (by kernel_rfl) wa20 wa21 wa22) trodAll_mk0))), rfl, hg.frame _, fun h => by cases h⟩

theorem over : Rows.volumeAddsRow.holds Try.pinned (OpenSpec.ofChange Rows.volumeAddsSpec) :=
  OpenClaim.holds_of_wide 8 Try.f8 rfl rfl rfl rfl rfl rfl rfl ⟨rfl, rfl, rfl, rfl, rfl⟩ rfl rfl rfl rfl rfl (by kernel_rfl) Try.func8 (by kernel_rfl)
    (of_decide_eq_true (by kernel_rfl)) (by unfold Func.isWrapper; first | (rw [if_pos (by decide +kernel)]; kernel_rfl) | (rw [if_neg (by decide +kernel)]; exact ⟨rfl, rfl⟩))
    (fun os started H enc _ => lifted os started H enc)

/-- ████ THE STATEMENT ████ -/
theorem proved : Rows.VolumeAddsSaid :=
  over
#print axioms proved
end Go.Proofs.Ytdimncchejbaaaa.volumeAdds
