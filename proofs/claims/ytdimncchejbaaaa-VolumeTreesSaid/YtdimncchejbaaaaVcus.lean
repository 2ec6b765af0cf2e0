/-
  A list of curves, and a tree, as a law's parameters: opened.
-/
import Derived.Test.YtdimncchejbaaaaVcur
import Derived.Test.YtdimncchejbaaaaVta
namespace Go.Proofs.Ytdimncchejbaaaa
open Go.ChangeShapes Go.WideShapes Go.ChangeAt Go.RowKit
set_option linter.unusedVariables false
set_option linter.unusedSimpArgs false
set_option maxRecDepth 100000
section
variable {H : Type} {enc : TypeId × Value → H}
theorem cv_fields {W : World} {sp : Nat → Bool} {fuel : Nat} {cs : List Value} {x : DataW H × List MemPlace}
    (h : DataW.trod enc Try.prog W 0 sp true fuel 24 cs = some x) (hw : ∀ n ∈ x.1.weights Try.prog 24, n ≤ reachBytes) :
    ∃ c : Sp.Cv, cs = [.slice c.A c.h.length c.k, .int .i64 c.f, .slice c.B c.t.length c.m] ∧ (PcSized c.h ∧ PcSized c.t) ∧ Pcs W c.A c.h ∧ Pcs W c.B c.t := by
  obtain ⟨xs, n, rfl, rfl, hl, hx, hf⟩ := DataW.trod_struct Try.underlying24 h
  have hl3 : cs.length = 3 := hl.trans (by kernel_rfl)
  match cs, hl3 with
  | [c0, c1, c2], _ =>
    match xs, hx with
    | [y0, y1, y2], _ =>
      have h0 := hf 0 _ rfl
      have h1 := hf 1 _ rfl
      have h2 := hf 2 _ rfl
      have hwe : ∀ n ∈ DataW.weightsEach Try.prog [22, 3, 22] [y0.1, y1.1, y2.1], n ≤ reachBytes := fun n hn => hw n (by simp only [DataW.weights, Try.underlying24]; exact hn)
      have k0 : DataW.trod enc Try.prog W 0 _ true _ 22 [c0] = some y0 := h0
      have k2 : DataW.trod enc Try.prog W 0 _ true _ 22 [c2] = some y2 := h2
      obtain ⟨A, k, X, rfl, sx, px⟩ := pcs_trod k0 (fun n hn => hwe n (DataW.weights_mem_each (j := 0) (t := 22) (d := y0.1) rfl rfl _ hn))
      obtain ⟨B, m, Y, rfl, sy, py⟩ := pcs_trod k2 (fun n hn => hwe n (DataW.weights_mem_each (j := 2) (t := 22) (d := y2.1) rfl rfl _ hn))
      obtain ⟨f, e1, _, w1⟩ := DataW.trod_int Try.underlying3 h1
      have f1 : [c1] = [Value.int .i64 f] := e1
      have g1 : c1 = .int .i64 f := by simpa using f1
      subst g1
      exact ⟨⟨A, k, X, f, B, m, Y⟩, rfl, ⟨sx, sy⟩, px, py⟩
theorem curves_open {W : World} {base : Nat} {v : Value} {d : DataW H} {ps : List MemPlace} (hv : Value.okWide Try.prog W .any base 37 v)
    (h : DataW.Trod enc Try.prog W 0 (fun _ => true) true 37 v d ps) (hw : ∀ n ∈ d.weights Try.prog 37, n ≤ reachBytes) :
    ∃ (A : Option Addr) (cap : Nat) (l : List Sp.Cv), v = .slice A l.length cap ∧ l.length ≤ cap ∧ CvSized l ∧ Cvs W A l := by
  obtain ⟨fuel, hf⟩ := h
  obtain ⟨A, len, cap, rfl⟩ := okWide_slice Try.underlying37 hv
  rcases DataW.trod_slice Try.underlying37 hf with ⟨e3, _⟩ | ⟨a, len', cap', elems, rest, n', rfl, e3, hx, _, hlc, hcm, hell, hel, _, _⟩
  · have e : Value.slice A len cap = .slice none 0 0 := by simpa [Value.cells] using e3
    injection e with f1 f2 f3
    subst f1 f2 f3
    exact ⟨none, 0, [], rfl, Nat.le_refl _, ⟨by simp, by simp⟩, ⟨fun h => absurd h (by simp), by simp⟩⟩
  · have e : Value.slice A len cap = .slice (some a) len' cap' := by simpa [Value.cells] using e3
    injection e with f1 f2 f3
    subst f1 f2 f3
    simp only [Prod.mk.injEq] at hx
    obtain ⟨rfl, _⟩ := hx
    have hwl : ∀ n ∈ ((elems.map (·.1)).length + (rest.map (·.1)).length) * Try.prog.bytesOf 24 :: (DataW.weightsAll Try.prog 24 (elems.map (·.1)) ++ DataW.weightsAll Try.prog 24 (rest.map (·.1))), n ≤ reachBytes := fun n hn => hw n (by simp only [DataW.weights, Try.underlying37]; exact hn)
    have hcm2 : len ≤ 140737488355328 := by
      have h0 := hwl _ (List.mem_cons_self)
      have hb : Try.prog.bytesOf 24 = 56 := by kernel_rfl
      rw [hb] at h0
      simp only [List.length_map] at h0
      unfold reachBytes at h0
      omega
    have each : ∀ i, i < len → ∃ c : Sp.Cv, (W.cell? (a.add (i * 3)) = some (.slice c.A c.h.length c.k) ∧ W.cell? ((a.add (i * 3)).add 1) = some (.int .i64 c.f) ∧ W.cell? ((a.add (i * 3)).add 2) = some (.slice c.B c.t.length c.m)) ∧
        (PcSized c.h ∧ PcSized c.t) ∧ Pcs W c.A c.h ∧ Pcs W c.B c.t := by
      intro i hi
      have hi1 := hel i hi
      have hle : i < elems.length := by omega
      rw [List.getElem?_eq_getElem hle] at hi1
      obtain ⟨cs', hcs, hd⟩ := Option.bind_eq_some_iff.1 hi1
      have c4 : Try.prog.cellsOf 24 = 3 := by kernel_rfl
      rw [c4] at hcs
      obtain ⟨_, hlen, hcell⟩ := World.cells?_some hcs
      obtain ⟨c, rfl, hs, hp⟩ := cv_fields hd (fun n hn => hwl n (List.mem_cons_of_mem _ (List.mem_append_left _ (weights_all (i := i) (by simp [List.getElem?_eq_getElem hle]) n hn))))
      have q0 := hcell 0 (by omega)
      have q1 := hcell 1 (by omega)
      have q2 := hcell 2 (by omega)
      have ad0 : (a.add (i * 3)).add 0 = a.add (i * 3) := by simp [Addr.add]
      rw [ad0] at q0
      exact ⟨c, ⟨q0, q1, q2⟩, hs, hp⟩
    obtain ⟨l, hl, hr⟩ := list_of len each
    refine ⟨some a, cap, l, by rw [hl], by omega, ⟨by omega, fun c hc => ?_⟩, ⟨fun h0 => ?_, fun c hc => ?_⟩⟩
    · obtain ⟨j, hj, rfl⟩ := List.getElem_of_mem hc
      exact (hr j hj).2.1
    · obtain ⟨b, off, spot⟩ := a
      have hspot : spot = none := by
        obtain ⟨⟨q0, _⟩, _⟩ := hr 0 h0
        simpa [Addr.add] using World.cell?_spot q0
      subst hspot
      have blt : b < W.heap.size := by
        obtain ⟨⟨q0, _⟩, _⟩ := hr 0 h0
        simp only [add_at] at q0
        exact World.block_lt_of_cell? W _ q0
      refine ⟨b, off, rfl, blt, fun j hj => ?_⟩
      obtain ⟨⟨q0, q1, q2⟩, _⟩ := hr j hj
      simp only [add_at] at q0 q1 q2
      exact ⟨q0, q1, q2⟩
    · obtain ⟨j, hj, rfl⟩ := List.getElem_of_mem hc
      exact (hr j hj).2.2
theorem tree_open {W : World} {base : Nat} {v : Value} {d : DataW H} {ps : List MemPlace} (hv : Value.okWide Try.prog W .any base 39 v)
    (h : DataW.Trod enc Try.prog W 0 (fun _ => true) true 39 v d ps) (hw : ∀ n ∈ d.weights Try.prog 39, n ≤ reachBytes) :
    ∃ x0 x1 x2 x3 : Int, v = .agg #[.int .i64 x0, .int .i64 x1, .int .i64 x2, .int .i64 x3] ∧ ((-9223372036854775808 ≤ x0 ∧ x0 ≤ 9223372036854775807) ∧ (-9223372036854775808 ≤ x1 ∧ x1 ≤ 9223372036854775807) ∧ (-9223372036854775808 ≤ x2 ∧ x2 ≤ 9223372036854775807) ∧ (-9223372036854775808 ≤ x3 ∧ x3 ≤ 9223372036854775807)) := by
  obtain ⟨v0, v1, v2, v3, y0, y1, y2, y3, n, rfl, rfl, rfl, h0, h1, h2, h3⟩ := Joins.open_agg4 Try.underlying39 (by kernel_rfl) (by kernel_rfl) hv h
  obtain ⟨x0, e0, _, w0⟩ := DataW.trod_int Try.underlying3 h0
  obtain ⟨x1, e1, _, w1⟩ := DataW.trod_int Try.underlying3 h1
  obtain ⟨x2, e2, _, w2⟩ := DataW.trod_int Try.underlying3 h2
  obtain ⟨x3, e3, _, w3⟩ := DataW.trod_int Try.underlying3 h3
  have f0 : v0 = .int .i64 x0 := by simpa using e0
  have f1 : v1 = .int .i64 x1 := by simpa using e1
  have f2 : v2 = .int .i64 x2 := by simpa using e2
  have f3 : v3 = .int .i64 x3 := by simpa using e3
  subst f0 f1 f2 f3
  exact ⟨x0, x1, x2, x3, rfl, bounds_i64 w0, bounds_i64 w1, bounds_i64 w2, bounds_i64 w3⟩
end
end Go.Proofs.Ytdimncchejbaaaa
