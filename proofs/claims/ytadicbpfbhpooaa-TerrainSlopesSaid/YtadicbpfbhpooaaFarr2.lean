/-
  An array of two integers of one kind as a law's parameter: opened, and shut again.
-/
import Derived.Test.YtadicbpfbhpooaaProg
import Derived.Lib.SmallJoins
import Derived.OpenShut
import Derived.WideKeyArr2
namespace Go.Proofs.Ytadicbpfbhpooaa
open Go.ChangeShapes Go.WideShapes Go.ChangeAt
section
variable {H : Type} {enc : TypeId × Value → H} {P : Program} {q : IntKind} {w : World} {base : Nat} {spare : Nat → Bool} {held : Bool}
theorem open_arr2 {r : Reach} {b0 : Nat} {t e : TypeId} {v : Value} {d : DataW H} {p : List MemPlace} (hu : P.underlying t = some (.array 2 e)) (he : P.underlying e = some (.int q)) (h1 : P.cellsOf e = 1) (h4 : P.cellsOf t = 2)
    (hv : Value.okWide P w r b0 t v) (h : DataW.Trod enc P w base spare held t v d p) :
    ∃ a0 a1 : Int, v = .agg #[.int q a0, .int q a1] ∧ d = .agg [.lit (.int q a0), .lit (.int q a1)] ∧ p = [] ∧
      (Lit.int q a0).wf = true ∧ (Lit.int q a1).wf = true := by
  simp only [Value.okWide, hu] at hv
  obtain ⟨cs, rfl, h2, _⟩ := hv
  obtain ⟨c0, c1, rfl⟩ : ∃ c0 c1, cs = #[c0, c1] := by
    have hsz : cs.size = 2 := h2.trans h4
    match cs, hsz with
    | ⟨[c0, c1]⟩, _ => exact ⟨c0, c1, rfl⟩
  obtain ⟨fuel, hf⟩ := h
  cases fuel with
  | zero => simp [DataW.trod] at hf
  | succ m =>
    rw [DataW.trod_step] at hf
    unfold DataW.trodStep at hf
    simp only [hu, Value.cells] at hf
    rw [if_pos (by simp [h4])] at hf
    simp only [Option.map_eq_some_iff] at hf
    obtain ⟨ys, hy, e1⟩ := hf
    rw [h1] at hy
    have hr : List.range 2 = [0, 1] := rfl
    rw [hr] at hy
    simp only [List.mapM_cons, List.mapM_nil, bind, Option.bind_eq_some_iff, pure, Option.some.injEq] at hy
    obtain ⟨y0, g0, r1, ⟨y1, g1, r2, rfl, rfl⟩, rfl⟩ := hy
    obtain ⟨a0, e0, rfl, wa0⟩ := DataW.trod_int he g0
    obtain ⟨a1, e2, rfl, wa1⟩ := DataW.trod_int he g1
    simp at e0 e2
    subst e0 e2
    simp only [Prod.mk.injEq] at e1
    exact ⟨a0, a1, rfl, by rw [← e1.1]; rfl, by rw [← e1.2]; rfl, wa0, wa1⟩
theorem shut_arr2 {t e : TypeId} {a0 a1 : Int} (hu : P.underlying t = some (.array 2 e)) (he : P.underlying e = some (.int q)) (h1 : P.cellsOf e = 1) (h4 : P.cellsOf t = 2)
    (wa0 : (Lit.int q a0).wf = true) (wa1 : (Lit.int q a1).wf = true) :
    DataW.Trod enc P w base spare held t (.agg #[.int q a0, .int q a1]) (.agg [.lit (.int q a0), .lit (.int q a1)]) [] := by
  refine ⟨2, ?_⟩
  rw [DataW.trod_step]
  unfold DataW.trodStep
  simp only [hu, Value.cells]
  rw [if_pos (by simp [h4])]
  have hr : List.range 2 = [0, 1] := rfl
  have hi : ∀ a : Int, (Lit.int q a).wf = true → DataW.trod enc P w base spare held 1 e [.int q a] = some (.lit (.int q a), []) := fun a wa => by simp [DataW.trod, he, wa]
  rw [hr, h1]
  simp [List.mapM_cons, hi, wa0, wa1]
end
end Go.Proofs.Ytadicbpfbhpooaa
