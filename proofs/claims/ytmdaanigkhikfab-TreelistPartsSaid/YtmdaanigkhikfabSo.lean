/-
  A table of species as a law's parameter: opened.
-/
import Derived.Test.YtmdaanigkhikfabSa
import Derived.OpenShut
import Derived.Carry
import Derived.SizedLaws
namespace Go.Proofs.Ytmdaanigkhikfab
open Go.ChangeShapes Go.WideShapes Go.ChangeAt Go.RowKit
set_option linter.unusedVariables false
set_option linter.unusedSimpArgs false

theorem list_of {α : Type} {R : Nat → α → Prop} : ∀ (n : Nat), (∀ i, i < n → ∃ y, R i y) → ∃ l : List α, l.length = n ∧ ∀ i (h : i < l.length), R i (l[i])
  | 0, _ => ⟨[], rfl, fun i h => absurd h (by simp)⟩
  | n + 1, h => by
    obtain ⟨l, hl, hr⟩ := list_of n (fun i hi => h i (by omega))
    obtain ⟨y, hy⟩ := h n (by omega)
    refine ⟨l ++ [y], by simp [hl], fun i hi => ?_⟩
    by_cases c : i < l.length
    · rw [List.getElem_append_left c]
      exact hr i c
    · have e : i = l.length := by simp at hi; omega
      subst e
      rw [List.getElem_append_right (by omega)]
      simpa [hl] using hy
theorem add_at (b off : Nat) (j : Nat) : ((⟨b, off, none⟩ : Addr).add j) = ⟨b, off + j, none⟩ := by
  by_cases h : j = 0
  · subst h; simp [Addr.add]
  · simp [Addr.add, h]
section
variable {H : Type} {enc : TypeId × Value → H}
theorem weights_all {P : Program} {e : TypeId} : ∀ {l : List (DataW H)} {i : Nat} {d : DataW H}, l[i]? = some d → ∀ n ∈ d.weights P e, n ∈ DataW.weightsAll P e l
  | d0 :: l, 0, d, h, n, hn => by
    simp only [List.getElem?_cons_zero, Option.some.injEq] at h
    subst h
    simp only [DataW.weightsAll, List.mem_append]
    exact .inl hn
  | d0 :: l, i + 1, d, h, n, hn => by
    simp only [List.getElem?_cons_succ] at h
    simp only [DataW.weightsAll, List.mem_append]
    exact .inr (weights_all h n hn)
  | [], _, _, h, _, _ => by simp at h
theorem row_fields {W : World} {sp : Nat → Bool} {fuel : Nat} {cs : List Value} {x : DataW H × List MemPlace}
    (h : DataW.trod enc Try.prog W 0 sp true fuel 50 cs = some x) (hw : ∀ n ∈ x.1.weights Try.prog 50, n ≤ reachBytes) :
    ∃ c : Sp.Sc, cs = [.string c.s, .int .i64 c.den, .int .i64 c.car, .int .i64 c.lim] ∧ c.s.size ≤ 140737488355328 ∧
      (-9223372036854775808 ≤ c.den ∧ c.den ≤ 9223372036854775807) ∧ (-9223372036854775808 ≤ c.car ∧ c.car ≤ 9223372036854775807) ∧ (-9223372036854775808 ≤ c.lim ∧ c.lim ≤ 9223372036854775807) := by
  obtain ⟨xs, n, rfl, rfl, hl, hx, hf⟩ := DataW.trod_struct Try.underlying50 h
  have hl4 : cs.length = 4 := hl.trans (by kernel_rfl)
  match cs, hl4 with
  | [c0, c1, c2, c3], _ =>
    match xs, hx with
    | [y0, y1, y2, y3], _ =>
      have h0 := hf 0 _ rfl
      have h1 := hf 1 _ rfl
      have h2 := hf 2 _ rfl
      have h3 := hf 3 _ rfl
      obtain ⟨s, e0, es, w0⟩ := DataW.trod_string Try.underlying9 h0
      obtain ⟨k, e1, _, w1⟩ := DataW.trod_int Try.underlying3 h1
      obtain ⟨m, e2, _, w2⟩ := DataW.trod_int Try.underlying3 h2
      obtain ⟨p, e3, _, w3⟩ := DataW.trod_int Try.underlying3 h3
      have hwe : ∀ n ∈ DataW.weightsEach Try.prog [9, 3, 3, 3] [y0.1, y1.1, y2.1, y3.1], n ≤ reachBytes := fun n hn => hw n (by simp only [DataW.weights, Try.underlying50]; exact hn)
      have q2 := hwe s.data.toList.length (DataW.weights_mem_each (j := 0) (t := 9) (d := y0.1) rfl rfl _ (by rw [es]; simp [DataW.weights]))
      have f0 : [c0] = [Value.string s] := e0
      have f1 : [c1] = [Value.int .i64 k] := e1
      have f2 : [c2] = [Value.int .i64 m] := e2
      have f3 : [c3] = [Value.int .i64 p] := e3
      have g0 : c0 = .string s := by simpa using f0
      have g1 : c1 = .int .i64 k := by simpa using f1
      have g2 : c2 = .int .i64 m := by simpa using f2
      have g3 : c3 = .int .i64 p := by simpa using f3
      subst g0 g1 g2 g3
      have b1 := bounds_i64 w1
      have b2 := bounds_i64 w2
      have b3 := bounds_i64 w3
      exact ⟨⟨s, k, m, p⟩, rfl, by rw [← ssize] at q2; unfold reachBytes at q2; show s.size ≤ _; omega, b1, b2, b3⟩
theorem species_open {W : World} {base : Nat} {v : Value} {d : DataW H} {ps : List MemPlace} (hv : Value.okWide Try.prog W .any base 22 v)
    (h : DataW.Trod enc Try.prog W 0 (fun _ => true) true 22 v d ps) (hw : ∀ n ∈ d.weights Try.prog 22, n ≤ reachBytes) :
    ∃ (A : Option Addr) (cap : Nat) (l : List Sp.Sc), v = .slice A l.length cap ∧ l.length ≤ cap ∧ Sized l ∧ Tab W A l := by
  obtain ⟨fuel, hf⟩ := h
  obtain ⟨A, len, cap, rfl⟩ := okWide_slice Try.underlying22 hv
  rcases DataW.trod_slice Try.underlying22 hf with ⟨e3, _⟩ | ⟨a, len', cap', elems, rest, n', rfl, e3, hx, _, hlc, hcm, hell, hel, _, _⟩
  · have e : Value.slice A len cap = .slice none 0 0 := by simpa [Value.cells] using e3
    injection e with f1 f2 f3
    subst f1 f2 f3
    exact ⟨none, 0, [], rfl, Nat.le_refl _, ⟨by simp, by simp⟩, fun h => absurd h (by simp)⟩
  · have e : Value.slice A len cap = .slice (some a) len' cap' := by simpa [Value.cells] using e3
    injection e with f1 f2 f3
    subst f1 f2 f3
    simp only [Prod.mk.injEq] at hx
    obtain ⟨rfl, _⟩ := hx
    have hwl : ∀ n ∈ ((elems.map (·.1)).length + (rest.map (·.1)).length) * Try.prog.bytesOf 50 :: (DataW.weightsAll Try.prog 50 (elems.map (·.1)) ++ DataW.weightsAll Try.prog 50 (rest.map (·.1))), n ≤ reachBytes := fun n hn => hw n (by simp only [DataW.weights, Try.underlying22]; exact hn)
    have hcm2 : len ≤ 140737488355328 := by
      have h0 := hwl _ (List.mem_cons_self)
      have hb : Try.prog.bytesOf 50 = 40 := by kernel_rfl
      rw [hb] at h0
      simp only [List.length_map] at h0
      unfold reachBytes at h0
      omega
    have each : ∀ i, i < len → ∃ c : Sp.Sc, (W.cell? (a.add (i * 4)) = some (.string c.s) ∧ W.cell? ((a.add (i * 4)).add 1) = some (.int .i64 c.den) ∧ W.cell? ((a.add (i * 4)).add 2) = some (.int .i64 c.car) ∧ W.cell? ((a.add (i * 4)).add 3) = some (.int .i64 c.lim)) ∧
        c.s.size ≤ 140737488355328 ∧ (-9223372036854775808 ≤ c.den ∧ c.den ≤ 9223372036854775807) ∧ (-9223372036854775808 ≤ c.car ∧ c.car ≤ 9223372036854775807) ∧ (-9223372036854775808 ≤ c.lim ∧ c.lim ≤ 9223372036854775807) := by
      intro i hi
      have hi1 := hel i hi
      have hle : i < elems.length := by omega
      rw [List.getElem?_eq_getElem hle] at hi1
      obtain ⟨cs', hcs, hd⟩ := Option.bind_eq_some_iff.1 hi1
      have c4 : Try.prog.cellsOf 50 = 4 := by kernel_rfl
      rw [c4] at hcs
      obtain ⟨_, hlen, hcell⟩ := World.cells?_some hcs
      obtain ⟨c, rfl, hb⟩ := row_fields hd (fun n hn => hwl n (List.mem_cons_of_mem _ (List.mem_append_left _ (weights_all (i := i) (by simp [List.getElem?_eq_getElem hle]) n hn))))
      have q0 := hcell 0 (by omega)
      have q1 := hcell 1 (by omega)
      have q2 := hcell 2 (by omega)
      have q3 := hcell 3 (by omega)
      have ad0 : (a.add (i * 4)).add 0 = a.add (i * 4) := by simp [Addr.add]
      rw [ad0] at q0
      exact ⟨c, ⟨q0, q1, q2, q3⟩, hb⟩
    obtain ⟨l, hl, hr⟩ := list_of len each
    refine ⟨some a, cap, l, by rw [hl], by omega, ⟨by omega, fun c hc => ?_⟩, fun h0 => ?_⟩
    · obtain ⟨j, hj, rfl⟩ := List.getElem_of_mem hc
      exact (hr j hj).2
    · obtain ⟨b, off, spot⟩ := a
      have hspot : spot = none := by
        obtain ⟨⟨q0, _⟩, _⟩ := hr 0 h0
        simpa [Addr.add] using World.cell?_spot q0
      subst hspot
      have blt : b < W.heap.size := by
        obtain ⟨⟨q0, _⟩, _⟩ := hr 0 h0
        simp only [add_at] at q0
        exact World.block_lt_of_cell? W _ q0
      refine ⟨b, off, rfl, blt, fun j hj => ?_⟩
      obtain ⟨⟨q0, q1, q2, q3⟩, _⟩ := hr j hj
      simp only [add_at] at q0 q1 q2 q3
      exact ⟨q0, q1, q2, q3⟩
theorem str_open {W : World} {base : Nat} {v : Value} {d : DataW H} {ps : List MemPlace} (hv : Value.okWide Try.prog W .any base 9 v)
    (h : DataW.Trod enc Try.prog W 0 (fun _ => true) true 9 v d ps) (hw : ∀ n ∈ d.weights Try.prog 9, n ≤ reachBytes) : ∃ z : ByteArray, v = .string z := okWide_string Try.underlying9 hv
end
end Go.Proofs.Ytmdaanigkhikfab
