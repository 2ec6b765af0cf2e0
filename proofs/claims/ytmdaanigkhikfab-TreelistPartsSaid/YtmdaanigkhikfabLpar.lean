/-
  A list of trees as a law's parameter: opened.
-/
import Derived.Test.YtmdaanigkhikfabSo
import Derived.Test.YtmdaanigkhikfabLa
import Derived.OpenShut
import Derived.Carry
import Derived.SizedLaws
namespace Go.Proofs.Ytmdaanigkhikfab
open Go.ChangeShapes Go.WideShapes Go.ChangeAt Go.RowKit
set_option linter.unusedVariables false
set_option linter.unusedSimpArgs false
def TeB (c : Sp.Te) : Prop := (-9223372036854775808 ≤ c.s ∧ c.s ≤ 9223372036854775807) ∧ (-9223372036854775808 ≤ c.d ∧ c.d ≤ 9223372036854775807) ∧ (-9223372036854775808 ≤ c.h ∧ c.h ≤ 9223372036854775807) ∧ (-9223372036854775808 ≤ c.q ∧ c.q ≤ 9223372036854775807)
/-- What a list's numbers are. -/
def TeSized (l : List Sp.Te) : Prop := l.length ≤ 140737488355328 ∧ ∀ c ∈ l, TeB c
section
variable {H : Type} {enc : TypeId × Value → H}
theorem trow_fields {W : World} {sp : Nat → Bool} {fuel : Nat} {cs : List Value} {x : DataW H × List MemPlace}
    (h : DataW.trod enc Try.prog W 0 sp true fuel 43 cs = some x) :
    ∃ c : Sp.Te, cs = [.int .i64 c.s, .int .i64 c.d, .int .i64 c.h, .int .i64 c.q] ∧ TeB c := by
  obtain ⟨xs, n, rfl, rfl, hl, hx, hf⟩ := DataW.trod_struct Try.underlying43 h
  have hl4 : cs.length = 4 := hl.trans (by kernel_rfl)
  match cs, hl4 with
  | [c0, c1, c2, c3], _ =>
    match xs, hx with
    | [y0, y1, y2, y3], _ =>
      have h0 := hf 0 _ rfl
      have h1 := hf 1 _ rfl
      have h2 := hf 2 _ rfl
      have h3 := hf 3 _ rfl
      obtain ⟨s, e0, _, w0⟩ := DataW.trod_int Try.underlying3 h0
      obtain ⟨k, e1, _, w1⟩ := DataW.trod_int Try.underlying3 h1
      obtain ⟨m, e2, _, w2⟩ := DataW.trod_int Try.underlying3 h2
      obtain ⟨p, e3, _, w3⟩ := DataW.trod_int Try.underlying3 h3
      have f0 : [c0] = [Value.int .i64 s] := e0
      have f1 : [c1] = [Value.int .i64 k] := e1
      have f2 : [c2] = [Value.int .i64 m] := e2
      have f3 : [c3] = [Value.int .i64 p] := e3
      have g0 : c0 = .int .i64 s := by simpa using f0
      have g1 : c1 = .int .i64 k := by simpa using f1
      have g2 : c2 = .int .i64 m := by simpa using f2
      have g3 : c3 = .int .i64 p := by simpa using f3
      subst g0 g1 g2 g3
      have b0 := bounds_i64 w0
      have b1 := bounds_i64 w1
      have b2 := bounds_i64 w2
      have b3 := bounds_i64 w3
      exact ⟨⟨s, k, m, p⟩, rfl, b0, b1, b2, b3⟩
theorem trees_open {W : World} {base : Nat} {v : Value} {d : DataW H} {ps : List MemPlace} (hv : Value.okWide Try.prog W .any base 23 v)
    (h : DataW.Trod enc Try.prog W 0 (fun _ => true) true 23 v d ps) (hw : ∀ n ∈ d.weights Try.prog 23, n ≤ reachBytes) :
    ∃ (A : Option Addr) (cap : Nat) (l : List Sp.Te), v = .slice A l.length cap ∧ l.length ≤ cap ∧ TeSized l ∧ Trs W A l := by
  obtain ⟨fuel, hf⟩ := h
  obtain ⟨A, len, cap, rfl⟩ := okWide_slice Try.underlying23 hv
  rcases DataW.trod_slice Try.underlying23 hf with ⟨e3, _⟩ | ⟨a, len', cap', elems, rest, n', rfl, e3, hx, _, hlc, hcm, hell, hel, _, _⟩
  · have e : Value.slice A len cap = .slice none 0 0 := by simpa [Value.cells] using e3
    injection e with f1 f2 f3
    subst f1 f2 f3
    exact ⟨none, 0, [], rfl, Nat.le_refl _, ⟨by simp, by simp⟩, fun h => absurd h (by simp)⟩
  · have e : Value.slice A len cap = .slice (some a) len' cap' := by simpa [Value.cells] using e3
    injection e with f1 f2 f3
    subst f1 f2 f3
    simp only [Prod.mk.injEq] at hx
    obtain ⟨rfl, _⟩ := hx
    have hwl : ∀ n ∈ ((elems.map (·.1)).length + (rest.map (·.1)).length) * Try.prog.bytesOf 43 :: (DataW.weightsAll Try.prog 43 (elems.map (·.1)) ++ DataW.weightsAll Try.prog 43 (rest.map (·.1))), n ≤ reachBytes := fun n hn => hw n (by simp only [DataW.weights, Try.underlying23]; exact hn)
    have hcm2 : len ≤ 140737488355328 := by
      have h0 := hwl _ (List.mem_cons_self)
      have hb : Try.prog.bytesOf 43 = 32 := by kernel_rfl
      rw [hb] at h0
      simp only [List.length_map] at h0
      unfold reachBytes at h0
      omega
    have each : ∀ i, i < len → ∃ c : Sp.Te, (W.cell? (a.add (i * 4)) = some (.int .i64 c.s) ∧ W.cell? ((a.add (i * 4)).add 1) = some (.int .i64 c.d) ∧ W.cell? ((a.add (i * 4)).add 2) = some (.int .i64 c.h) ∧ W.cell? ((a.add (i * 4)).add 3) = some (.int .i64 c.q)) ∧ TeB c := by
      intro i hi
      have hi1 := hel i hi
      have hle : i < elems.length := by omega
      rw [List.getElem?_eq_getElem hle] at hi1
      obtain ⟨cs', hcs, hd⟩ := Option.bind_eq_some_iff.1 hi1
      have c4 : Try.prog.cellsOf 43 = 4 := by kernel_rfl
      rw [c4] at hcs
      obtain ⟨_, hlen, hcell⟩ := World.cells?_some hcs
      obtain ⟨c, rfl, hb⟩ := trow_fields hd
      have q0 := hcell 0 (by omega)
      have q1 := hcell 1 (by omega)
      have q2 := hcell 2 (by omega)
      have q3 := hcell 3 (by omega)
      have ad0 : (a.add (i * 4)).add 0 = a.add (i * 4) := by simp [Addr.add]
      rw [ad0] at q0
      exact ⟨c, ⟨q0, q1, q2, q3⟩, hb⟩
    obtain ⟨l, hl, hr⟩ := list_of len each
    refine ⟨some a, cap, l, by rw [hl], by omega, ⟨by omega, fun c hc => ?_⟩, fun h0 => ?_⟩
    · obtain ⟨j, hj, rfl⟩ := List.getElem_of_mem hc
      exact (hr j hj).2
    · obtain ⟨b, off, spot⟩ := a
      have hspot : spot = none := by
        obtain ⟨⟨q0, _⟩, _⟩ := hr 0 h0
        simpa [Addr.add] using World.cell?_spot q0
      subst hspot
      have blt : b < W.heap.size := by
        obtain ⟨⟨q0, _⟩, _⟩ := hr 0 h0
        simp only [add_at] at q0
        exact World.block_lt_of_cell? W _ q0
      refine ⟨b, off, rfl, blt, fun j hj => ?_⟩
      obtain ⟨⟨q0, q1, q2, q3⟩, _⟩ := hr j hj
      simp only [add_at] at q0 q1 q2 q3
      exact ⟨q0, q1, q2, q3⟩
end
end Go.Proofs.Ytmdaanigkhikfab
