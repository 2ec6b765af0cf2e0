/-
  A list of pieces as a law's parameter: opened.
-/
import Derived.Test.YtdimncchejbaaaaPa
import Derived.OpenShut
import Derived.Carry
import Derived.SizedLaws
namespace Go.Proofs.Ytdimncchejbaaaa
open Go.ChangeShapes Go.WideShapes Go.ChangeAt Go.RowKit
set_option linter.unusedVariables false
set_option linter.unusedSimpArgs false
set_option maxRecDepth 100000

theorem list_of {α : Type} {R : Nat → α → Prop} : ∀ (n : Nat), (∀ i, i < n → ∃ y, R i y) → ∃ l : List α, l.length = n ∧ ∀ i (h : i < l.length), R i (l[i])
  | 0, _ => ⟨[], rfl, fun i h => absurd h (by simp)⟩
  | n + 1, h => by
    obtain ⟨l, hl, hr⟩ := list_of n (fun i hi => h i (by omega))
    obtain ⟨y, hy⟩ := h n (by omega)
    refine ⟨l ++ [y], by simp [hl], fun i hi => ?_⟩
    by_cases c : i < l.length
    · rw [List.getElem_append_left c]
      exact hr i c
    · have e : i = l.length := by simp at hi; omega
      subst e
      rw [List.getElem_append_right (by omega)]
      simpa [hl] using hy
theorem add_at (b off : Nat) (j : Nat) : ((⟨b, off, none⟩ : Addr).add j) = ⟨b, off + j, none⟩ := by
  by_cases h : j = 0
  · subst h; simp [Addr.add]
  · simp [Addr.add, h]
section
variable {H : Type} {enc : TypeId × Value → H}
theorem weights_all {P : Program} {e : TypeId} : ∀ {l : List (DataW H)} {i : Nat} {d : DataW H}, l[i]? = some d → ∀ n ∈ d.weights P e, n ∈ DataW.weightsAll P e l
  | d0 :: l, 0, d, h, n, hn => by
    simp only [List.getElem?_cons_zero, Option.some.injEq] at h
    subst h
    simp only [DataW.weightsAll, List.mem_append]
    exact .inl hn
  | d0 :: l, i + 1, d, h, n, hn => by
    simp only [List.getElem?_cons_succ] at h
    simp only [DataW.weightsAll, List.mem_append]
    exact .inr (weights_all h n hn)
  | [], _, _, h, _, _ => by simp at h
theorem fr_fields {W : World} {sp : Nat → Bool} {fuel : Nat} {cs : List Value} {x : DataW H × List MemPlace}
    (h : DataW.trod enc Try.prog W 0 sp true fuel 56 cs = some x) :
    ∃ q : Int × Int, cs = [.int .i64 q.1, .int .i64 q.2] ∧ (-9223372036854775808 ≤ q.1 ∧ q.1 ≤ 9223372036854775807) ∧ (-9223372036854775808 ≤ q.2 ∧ q.2 ≤ 9223372036854775807) := by
  obtain ⟨xs, n, rfl, rfl, hl, hx, hf⟩ := DataW.trod_struct Try.underlying56 h
  have hl2 : cs.length = 2 := hl.trans (by kernel_rfl)
  match cs, hl2 with
  | [c0, c1], _ =>
    match xs, hx with
    | [y0, y1], _ =>
      have h0 := hf 0 _ rfl
      have h1 := hf 1 _ rfl
      obtain ⟨k, e0, _, w0⟩ := DataW.trod_int Try.underlying3 h0
      obtain ⟨m, e1, _, w1⟩ := DataW.trod_int Try.underlying3 h1
      have f0 : [c0] = [Value.int .i64 k] := e0
      have f1 : [c1] = [Value.int .i64 m] := e1
      have g0 : c0 = .int .i64 k := by simpa using f0
      have g1 : c1 = .int .i64 m := by simpa using f1
      subst g0 g1
      exact ⟨(k, m), rfl, bounds_i64 w0, bounds_i64 w1⟩
theorem frs_trod {W : World} {sp : Nat → Bool} {fuel : Nat} {c : Value} {x : DataW H × List MemPlace}
    (h : DataW.trod enc Try.prog W 0 sp true fuel 57 [c] = some x) (hw : ∀ n ∈ x.1.weights Try.prog 57, n ≤ reachBytes) :
    ∃ (A : Option Addr) (cap : Nat) (l : List (Int × Int)), c = .slice A l.length cap ∧ FrSized l ∧ Frs W A l := by
  rcases DataW.trod_slice Try.underlying57 h with ⟨e3, _⟩ | ⟨a, len, cap, elems, rest, n', rfl, e3, hx, _, hlc, hcm, hell, hel, _, _⟩
  · have e : c = .slice none 0 0 := by simpa using e3
    subst e
    exact ⟨none, 0, [], rfl, ⟨by simp, by simp⟩, fun h => absurd h (by simp)⟩
  · have e : c = .slice (some a) len cap := by simpa using e3
    subst e
    subst hx
    have hwl : ∀ n ∈ ((elems.map (·.1)).length + (rest.map (·.1)).length) * Try.prog.bytesOf 56 :: (DataW.weightsAll Try.prog 56 (elems.map (·.1)) ++ DataW.weightsAll Try.prog 56 (rest.map (·.1))), n ≤ reachBytes := fun n hn => hw n (by simp only [DataW.weights, Try.underlying57]; exact hn)
    have hcm2 : len ≤ 140737488355328 := by
      have h0 := hwl _ (List.mem_cons_self)
      have hb : Try.prog.bytesOf 56 = 16 := by kernel_rfl
      rw [hb] at h0
      simp only [List.length_map] at h0
      unfold reachBytes at h0
      omega
    have each : ∀ i, i < len → ∃ q : Int × Int, (W.cell? (a.add (i * 2)) = some (.int .i64 q.1) ∧ W.cell? ((a.add (i * 2)).add 1) = some (.int .i64 q.2)) ∧
        (-9223372036854775808 ≤ q.1 ∧ q.1 ≤ 9223372036854775807) ∧ (-9223372036854775808 ≤ q.2 ∧ q.2 ≤ 9223372036854775807) := by
      intro i hi
      have hi1 := hel i hi
      have hle : i < elems.length := by omega
      rw [List.getElem?_eq_getElem hle] at hi1
      obtain ⟨cs', hcs, hd⟩ := Option.bind_eq_some_iff.1 hi1
      have c4 : Try.prog.cellsOf 56 = 2 := by kernel_rfl
      rw [c4] at hcs
      obtain ⟨_, hlen, hcell⟩ := World.cells?_some hcs
      obtain ⟨q, rfl, hb⟩ := fr_fields hd
      have q0 := hcell 0 (by omega)
      have q1 := hcell 1 (by omega)
      have ad0 : (a.add (i * 2)).add 0 = a.add (i * 2) := by simp [Addr.add]
      rw [ad0] at q0
      exact ⟨q, ⟨q0, q1⟩, hb⟩
    obtain ⟨l, hl, hr⟩ := list_of len each
    refine ⟨some a, cap, l, by rw [hl], ⟨by omega, fun c hc => ?_⟩, fun h0 => ?_⟩
    · obtain ⟨j, hj, rfl⟩ := List.getElem_of_mem hc
      exact (hr j hj).2
    · obtain ⟨b, off, spot⟩ := a
      have hspot : spot = none := by
        obtain ⟨⟨q0, _⟩, _⟩ := hr 0 h0
        simpa [Addr.add] using World.cell?_spot q0
      subst hspot
      have blt : b < W.heap.size := by
        obtain ⟨⟨q0, _⟩, _⟩ := hr 0 h0
        simp only [add_at] at q0
        exact World.block_lt_of_cell? W _ q0
      refine ⟨b, off, rfl, blt, fun j hj => ?_⟩
      obtain ⟨⟨q0, q1⟩, _⟩ := hr j hj
      simp only [add_at] at q0 q1
      exact ⟨q0, q1⟩
theorem pc_fields {W : World} {sp : Nat → Bool} {fuel : Nat} {cs : List Value} {x : DataW H × List MemPlace}
    (h : DataW.trod enc Try.prog W 0 sp true fuel 59 cs = some x) (hw : ∀ n ∈ x.1.weights Try.prog 59, n ≤ reachBytes) :
    ∃ p : Sp.Pd, cs = [.int .i64 p.f, .int .i64 p.t, .slice p.A p.c.length p.k] ∧ (-9223372036854775808 ≤ p.f ∧ p.f ≤ 9223372036854775807) ∧ (-9223372036854775808 ≤ p.t ∧ p.t ≤ 9223372036854775807) ∧ FrSized p.c ∧ Frs W p.A p.c := by
  obtain ⟨xs, n, rfl, rfl, hl, hx, hf⟩ := DataW.trod_struct Try.underlying59 h
  have hl3 : cs.length = 3 := hl.trans (by kernel_rfl)
  match cs, hl3 with
  | [c0, c1, c2], _ =>
    match xs, hx with
    | [y0, y1, y2], _ =>
      have h0 := hf 0 _ rfl
      have h1 := hf 1 _ rfl
      have h2 := hf 2 _ rfl
      obtain ⟨k, e0, _, w0⟩ := DataW.trod_int Try.underlying3 h0
      obtain ⟨m, e1, _, w1⟩ := DataW.trod_int Try.underlying3 h1
      have hwe : ∀ n ∈ DataW.weightsEach Try.prog [3, 3, 57] [y0.1, y1.1, y2.1], n ≤ reachBytes := fun n hn => hw n (by simp only [DataW.weights, Try.underlying59]; exact hn)
      have h3 : DataW.trod enc Try.prog W 0 _ true _ 57 [c2] = some y2 := h2
      obtain ⟨A, cap, l, rfl, hs, hF⟩ := frs_trod h3 (fun n hn => hwe n (DataW.weights_mem_each (j := 2) (t := 57) (d := y2.1) rfl rfl _ hn))
      have f0 : [c0] = [Value.int .i64 k] := e0
      have f1 : [c1] = [Value.int .i64 m] := e1
      have g0 : c0 = .int .i64 k := by simpa using f0
      have g1 : c1 = .int .i64 m := by simpa using f1
      subst g0 g1
      exact ⟨⟨k, m, A, cap, l⟩, rfl, bounds_i64 w0, bounds_i64 w1, hs, hF⟩
theorem pieces_open {W : World} {base : Nat} {v : Value} {d : DataW H} {ps : List MemPlace} (hv : Value.okWide Try.prog W .any base 22 v)
    (h : DataW.Trod enc Try.prog W 0 (fun _ => true) true 22 v d ps) (hw : ∀ n ∈ d.weights Try.prog 22, n ≤ reachBytes) :
    ∃ (A : Option Addr) (cap : Nat) (l : List Sp.Pd), v = .slice A l.length cap ∧ l.length ≤ cap ∧ PcSized l ∧ Pcs W A l := by
  obtain ⟨fuel, hf⟩ := h
  obtain ⟨A, len, cap, rfl⟩ := okWide_slice Try.underlying22 hv
  rcases DataW.trod_slice Try.underlying22 hf with ⟨e3, _⟩ | ⟨a, len', cap', elems, rest, n', rfl, e3, hx, _, hlc, hcm, hell, hel, _, _⟩
  · have e : Value.slice A len cap = .slice none 0 0 := by simpa [Value.cells] using e3
    injection e with f1 f2 f3
    subst f1 f2 f3
    exact ⟨none, 0, [], rfl, Nat.le_refl _, ⟨by simp, by simp⟩, fun h => absurd h (by simp), by simp⟩
  · have e : Value.slice A len cap = .slice (some a) len' cap' := by simpa [Value.cells] using e3
    injection e with f1 f2 f3
    subst f1 f2 f3
    simp only [Prod.mk.injEq] at hx
    obtain ⟨rfl, _⟩ := hx
    have hwl : ∀ n ∈ ((elems.map (·.1)).length + (rest.map (·.1)).length) * Try.prog.bytesOf 59 :: (DataW.weightsAll Try.prog 59 (elems.map (·.1)) ++ DataW.weightsAll Try.prog 59 (rest.map (·.1))), n ≤ reachBytes := fun n hn => hw n (by simp only [DataW.weights, Try.underlying22]; exact hn)
    have hcm2 : len ≤ 140737488355328 := by
      have h0 := hwl _ (List.mem_cons_self)
      have hb : Try.prog.bytesOf 59 = 40 := by kernel_rfl
      rw [hb] at h0
      simp only [List.length_map] at h0
      unfold reachBytes at h0
      omega
    have each : ∀ i, i < len → ∃ p : Sp.Pd, (W.cell? (a.add (i * 3)) = some (.int .i64 p.f) ∧ W.cell? ((a.add (i * 3)).add 1) = some (.int .i64 p.t) ∧ W.cell? ((a.add (i * 3)).add 2) = some (.slice p.A p.c.length p.k)) ∧
        ((-9223372036854775808 ≤ p.f ∧ p.f ≤ 9223372036854775807) ∧ (-9223372036854775808 ≤ p.t ∧ p.t ≤ 9223372036854775807) ∧ FrSized p.c) ∧ Frs W p.A p.c := by
      intro i hi
      have hi1 := hel i hi
      have hle : i < elems.length := by omega
      rw [List.getElem?_eq_getElem hle] at hi1
      obtain ⟨cs', hcs, hd⟩ := Option.bind_eq_some_iff.1 hi1
      have c4 : Try.prog.cellsOf 59 = 3 := by kernel_rfl
      rw [c4] at hcs
      obtain ⟨_, hlen, hcell⟩ := World.cells?_some hcs
      obtain ⟨p, rfl, hb0, hb1, hb2, hF⟩ := pc_fields hd (fun n hn => hwl n (List.mem_cons_of_mem _ (List.mem_append_left _ (weights_all (i := i) (by simp [List.getElem?_eq_getElem hle]) n hn))))
      have q0 := hcell 0 (by omega)
      have q1 := hcell 1 (by omega)
      have q2 := hcell 2 (by omega)
      have ad0 : (a.add (i * 3)).add 0 = a.add (i * 3) := by simp [Addr.add]
      rw [ad0] at q0
      exact ⟨p, ⟨q0, q1, q2⟩, ⟨hb0, hb1, hb2⟩, hF⟩
    obtain ⟨l, hl, hr⟩ := list_of len each
    refine ⟨some a, cap, l, by rw [hl], by omega, ⟨by omega, fun c hc => ?_⟩, fun h0 => ?_, fun p hp => ?_⟩
    · obtain ⟨j, hj, rfl⟩ := List.getElem_of_mem hc
      exact (hr j hj).2.1
    · obtain ⟨b, off, spot⟩ := a
      have hspot : spot = none := by
        obtain ⟨⟨q0, _⟩, _⟩ := hr 0 h0
        simpa [Addr.add] using World.cell?_spot q0
      subst hspot
      have blt : b < W.heap.size := by
        obtain ⟨⟨q0, _⟩, _⟩ := hr 0 h0
        simp only [add_at] at q0
        exact World.block_lt_of_cell? W _ q0
      refine ⟨b, off, rfl, blt, fun j hj => ?_⟩
      obtain ⟨⟨q0, q1, q2⟩, _⟩ := hr j hj
      simp only [add_at] at q0 q1 q2
      exact ⟨q0, q1, q2⟩
    · obtain ⟨j, hj, rfl⟩ := List.getElem_of_mem hp
      exact (hr j hj).2.2
end
end Go.Proofs.Ytdimncchejbaaaa
