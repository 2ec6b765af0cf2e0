/-
  An array of two points as a law's parameter: opened.
-/
import Derived.Test.YtadicbpfbhpooaaProg
import Derived.Lib.SmallJoins
import Derived.OpenShut
import Derived.WideKeyArr2
import Derived.Carry
import Derived.SizedLaws
namespace Go.Proofs.Ytadicbpfbhpooaa
open Go.ChangeShapes Go.WideShapes Go.ChangeAt
set_option linter.unusedVariables false
section
variable {H : Type} {enc : TypeId × Value → H} {P : Program}
theorem point_cells {tp : TypeId} {f0 f1 : Field} (hp : P.underlying tp = some (.struct #[f0, f1])) (hi0 : P.underlying f0.type = some (.int .i64)) (hi1 : P.underlying f1.type = some (.int .i64)) (h0 : P.cellsOf f0.type = 1) (h1 : P.cellsOf f1.type = 1) (o0 : f0.offset = 0) (o1 : f1.offset = 1) {W : World} {n : Nat} {c c' : Value} {y : DataW H × List MemPlace} (hy : DataW.trod enc P W 0 (fun _ => true) true n tp [c, c'] = some y) : ∃ p q : Int, c = .int .i64 p ∧ c' = .int .i64 q := by
  obtain ⟨zs, m, rfl, _, _, hz, hk⟩ := DataW.trod_struct hp hy
  match zs, hz with
  | [z0, z1], _ =>
    have k0 := hk 0 _ rfl
    have k1 := hk 1 _ rfl
    obtain ⟨p, e0, _, _⟩ := DataW.trod_int hi0 k0
    obtain ⟨q, e1, _, _⟩ := DataW.trod_int hi1 k1
    have g0 : [c] = [Value.int .i64 p] := by simpa [h0, o0] using e0
    have g1 : [c'] = [Value.int .i64 q] := by simpa [h1, o1] using e1
    exact ⟨p, q, by simpa using g0, by simpa using g1⟩
theorem parr2_open {t tp : TypeId} {f0 f1 : Field} (hu : P.underlying t = some (.array 2 tp)) (hp : P.underlying tp = some (.struct #[f0, f1])) (hi0 : P.underlying f0.type = some (.int .i64)) (hi1 : P.underlying f1.type = some (.int .i64)) (q0 : P.cellsOf f0.type = 1) (q1 : P.cellsOf f1.type = 1) (o0 : f0.offset = 0) (o1 : f1.offset = 1) (pc : P.cellsOf tp = 2) (h8 : P.cellsOf t = 4) {W : World} {base : Nat} {v : Value} {d : DataW H} {ps : List MemPlace} (hv : Value.okWide P W .any base t v) (h : DataW.Trod enc P W 0 (fun _ => true) true t v d ps) :
    ∃ x0 x1 x2 x3 : Int, v = .agg #[.int .i64 x0, .int .i64 x1, .int .i64 x2, .int .i64 x3] := by
  simp only [Value.okWide, hu] at hv
  obtain ⟨cs, rfl, h2, _⟩ := hv
  have hz : cs.toList.length = 4 := by rw [Array.length_toList]; exact h2.trans h8
  obtain ⟨c0, c1, c2, c3, e⟩ : ∃ c0 c1 c2 c3, cs.toList = [c0, c1, c2, c3] := by
    match cs.toList, hz with
    | [c0, c1, c2, c3], _ => exact ⟨c0, c1, c2, c3, rfl⟩
  obtain rfl : cs = #[c0, c1, c2, c3] := by rw [← Array.toArray_toList (xs := cs), e]
  obtain ⟨fuel, hf⟩ := h
  cases fuel with
  | zero => simp [DataW.trod] at hf
  | succ m =>
    rw [DataW.trod_step] at hf
    unfold DataW.trodStep at hf
    simp only [hu, Value.cells] at hf
    rw [if_pos (by simp [h8])] at hf
    simp only [Option.map_eq_some_iff] at hf
    obtain ⟨ys, hy, e1⟩ := hf
    rw [pc] at hy
    have hr : List.range 2 = [0, 1] := rfl
    rw [hr] at hy
    simp only [List.mapM_cons, List.mapM_nil, bind, Option.bind_eq_some_iff, pure, Option.some.injEq] at hy
    obtain ⟨y0, g0, r1, ⟨y1, g1, r2, rfl, rfl⟩, rfl⟩ := hy
    obtain ⟨x0, x1, rfl, rfl⟩ := point_cells hp hi0 hi1 q0 q1 o0 o1 g0
    obtain ⟨x2, x3, rfl, rfl⟩ := point_cells hp hi0 hi1 q0 q1 o0 o1 g1
    exact ⟨x0, x1, x2, x3, rfl⟩
end
end Go.Proofs.Ytadicbpfbhpooaa
