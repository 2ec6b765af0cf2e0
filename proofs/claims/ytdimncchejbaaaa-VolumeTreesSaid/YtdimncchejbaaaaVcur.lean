/-
  A curve, and a list of curves, as a law's parameter: opened.
-/
import Derived.Test.YtdimncchejbaaaaPo
import Derived.Lib.SmallJoins
namespace Go.Proofs.Ytdimncchejbaaaa
open Go.ChangeShapes Go.WideShapes Go.ChangeAt Go.RowKit
set_option linter.unusedVariables false
set_option linter.unusedSimpArgs false
set_option maxRecDepth 100000
section
variable {H : Type} {enc : TypeId × Value → H}
theorem pcs_trod {W : World} {sp : Nat → Bool} {fuel : Nat} {c : Value} {x : DataW H × List MemPlace}
    (h : DataW.trod enc Try.prog W 0 sp true fuel 22 [c] = some x) (hw : ∀ n ∈ x.1.weights Try.prog 22, n ≤ reachBytes) :
    ∃ (A : Option Addr) (cap : Nat) (l : List Sp.Pd), c = .slice A l.length cap ∧ PcSized l ∧ Pcs W A l := by
  rcases DataW.trod_slice Try.underlying22 h with ⟨e3, _⟩ | ⟨a, len, cap, elems, rest, n', rfl, e3, hx, _, hlc, hcm, hell, hel, _, _⟩
  · have e : c = .slice none 0 0 := by simpa using e3
    subst e
    exact ⟨none, 0, [], rfl, ⟨by simp, by simp⟩, fun h => absurd h (by simp), by simp⟩
  · have e : c = .slice (some a) len cap := by simpa using e3
    subst e
    subst hx
    have hwl : ∀ n ∈ ((elems.map (·.1)).length + (rest.map (·.1)).length) * Try.prog.bytesOf 59 :: (DataW.weightsAll Try.prog 59 (elems.map (·.1)) ++ DataW.weightsAll Try.prog 59 (rest.map (·.1))), n ≤ reachBytes := fun n hn => hw n (by simp only [DataW.weights, Try.underlying22]; exact hn)
    have hcm2 : len ≤ 140737488355328 := by
      have h0 := hwl _ (List.mem_cons_self)
      have hb : Try.prog.bytesOf 59 = 40 := by kernel_rfl
      rw [hb] at h0
      simp only [List.length_map] at h0
      unfold reachBytes at h0
      omega
    have each : ∀ i, i < len → ∃ p : Sp.Pd, (W.cell? (a.add (i * 3)) = some (.int .i64 p.f) ∧ W.cell? ((a.add (i * 3)).add 1) = some (.int .i64 p.t) ∧ W.cell? ((a.add (i * 3)).add 2) = some (.slice p.A p.c.length p.k)) ∧
        ((-9223372036854775808 ≤ p.f ∧ p.f ≤ 9223372036854775807) ∧ (-9223372036854775808 ≤ p.t ∧ p.t ≤ 9223372036854775807) ∧ FrSized p.c) ∧ Frs W p.A p.c := by
      intro i hi
      have hi1 := hel i hi
      have hle : i < elems.length := by omega
      rw [List.getElem?_eq_getElem hle] at hi1
      obtain ⟨cs', hcs, hd⟩ := Option.bind_eq_some_iff.1 hi1
      have c4 : Try.prog.cellsOf 59 = 3 := by kernel_rfl
      rw [c4] at hcs
      obtain ⟨_, hlen, hcell⟩ := World.cells?_some hcs
      obtain ⟨p, rfl, hb0, hb1, hb2, hF⟩ := pc_fields hd (fun n hn => hwl n (List.mem_cons_of_mem _ (List.mem_append_left _ (weights_all (i := i) (by simp [List.getElem?_eq_getElem hle]) n hn))))
      have q0 := hcell 0 (by omega)
      have q1 := hcell 1 (by omega)
      have q2 := hcell 2 (by omega)
      have ad0 : (a.add (i * 3)).add 0 = a.add (i * 3) := by simp [Addr.add]
      rw [ad0] at q0
      exact ⟨p, ⟨q0, q1, q2⟩, ⟨hb0, hb1, hb2⟩, hF⟩
    obtain ⟨l, hl, hr⟩ := list_of len each
    refine ⟨some a, cap, l, by rw [hl], ⟨by omega, fun c hc => ?_⟩, fun h0 => ?_, fun p hp => ?_⟩
    · obtain ⟨j, hj, rfl⟩ := List.getElem_of_mem hc
      exact (hr j hj).2.1
    · obtain ⟨b, off, spot⟩ := a
      have hspot : spot = none := by
        obtain ⟨⟨q0, _⟩, _⟩ := hr 0 h0
        simpa [Addr.add] using World.cell?_spot q0
      subst hspot
      have blt : b < W.heap.size := by
        obtain ⟨⟨q0, _⟩, _⟩ := hr 0 h0
        simp only [add_at] at q0
        exact World.block_lt_of_cell? W _ q0
      refine ⟨b, off, rfl, blt, fun j hj => ?_⟩
      obtain ⟨⟨q0, q1, q2⟩, _⟩ := hr j hj
      simp only [add_at] at q0 q1 q2
      exact ⟨q0, q1, q2⟩
    · obtain ⟨j, hj, rfl⟩ := List.getElem_of_mem hp
      exact (hr j hj).2.2
theorem curve_open {W : World} {base : Nat} {v : Value} {d : DataW H} {ps : List MemPlace} (hv : Value.okWide Try.prog W .any base 24 v)
    (h : DataW.Trod enc Try.prog W 0 (fun _ => true) true 24 v d ps) (hw : ∀ n ∈ d.weights Try.prog 24, n ≤ reachBytes) :
    ∃ (A B : Option Addr) (k m : Nat) (X Y : List Sp.Pd) (f : Int), v = .agg #[.slice A X.length k, .int .i64 f, .slice B Y.length m] ∧ (-9223372036854775808 ≤ f ∧ f ≤ 9223372036854775807) ∧ PcSized X ∧ PcSized Y ∧ Pcs W A X ∧ Pcs W B Y := by
  obtain ⟨v0, v1, v2, y0, y1, y2, n, rfl, rfl, rfl, h0, h1, h2⟩ := Joins.open_agg3 Try.underlying24 (by kernel_rfl) (by kernel_rfl) hv h
  have hwe : ∀ n ∈ DataW.weightsEach Try.prog [22, 3, 22] [y0.1, y1.1, y2.1], n ≤ reachBytes := fun n hn => hw n (by simp only [DataW.weights, Try.underlying24]; exact hn)
  have k0 : DataW.trod enc Try.prog W 0 (fun _ => true) true n 22 [v0] = some y0 := h0
  have k2 : DataW.trod enc Try.prog W 0 (fun _ => true) true n 22 [v2] = some y2 := h2
  obtain ⟨A, k, X, rfl, sx, px⟩ := pcs_trod k0 (fun n hn => hwe n (DataW.weights_mem_each (j := 0) (t := 22) (d := y0.1) rfl rfl _ hn))
  obtain ⟨B, m, Y, rfl, sy, py⟩ := pcs_trod k2 (fun n hn => hwe n (DataW.weights_mem_each (j := 2) (t := 22) (d := y2.1) rfl rfl _ hn))
  obtain ⟨f, e1, _, w1⟩ := DataW.trod_int Try.underlying3 h1
  have f1 : v1 = .int .i64 f := by simpa using e1
  subst f1
  exact ⟨A, B, k, m, X, Y, f, rfl, bounds_i64 w1, sx, sy, px, py⟩
end
end Go.Proofs.Ytdimncchejbaaaa
