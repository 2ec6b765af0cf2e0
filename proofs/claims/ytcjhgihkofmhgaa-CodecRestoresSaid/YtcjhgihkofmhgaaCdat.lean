/-
  A datum as a law's parameter: opened.
-/
import Derived.Test.YtcjhgihkofmhgaaCxb
import Derived.OpenShut
import Derived.Carry
import Derived.SizedLaws
namespace Go.Proofs.Ytcjhgihkofmhgaa
open Go.ChangeShapes Go.WideShapes Go.ChangeAt Go.RowKit
set_option linter.unusedVariables false
set_option linter.unusedSimpArgs false

theorem list_of {α : Type} {R : Nat → α → Prop} : ∀ (n : Nat), (∀ i, i < n → ∃ y, R i y) → ∃ l : List α, l.length = n ∧ ∀ i (h : i < l.length), R i (l[i])
  | 0, _ => ⟨[], rfl, fun i h => absurd h (by simp)⟩
  | n + 1, h => by
    obtain ⟨l, hl, hr⟩ := list_of n (fun i hi => h i (by omega))
    obtain ⟨y, hy⟩ := h n (by omega)
    refine ⟨l ++ [y], by simp [hl], fun i hi => ?_⟩
    by_cases c : i < l.length
    · rw [List.getElem_append_left c]
      exact hr i c
    · have e : i = l.length := by simp at hi; omega
      subst e
      rw [List.getElem_append_right (by omega)]
      simpa [hl] using hy
theorem add_at (b off : Nat) (j : Nat) : ((⟨b, off, none⟩ : Addr).add j) = ⟨b, off + j, none⟩ := by
  by_cases h : j = 0
  · subst h; simp [Addr.add]
  · simp [Addr.add, h]
section
variable {H : Type} {enc : TypeId × Value → H}
theorem weights_all {P : Program} {e : TypeId} : ∀ {l : List (DataW H)} {i : Nat} {d : DataW H}, l[i]? = some d → ∀ n ∈ d.weights P e, n ∈ DataW.weightsAll P e l
  | d0 :: l, 0, d, h, n, hn => by
    simp only [List.getElem?_cons_zero, Option.some.injEq] at h
    subst h
    simp only [DataW.weightsAll, List.mem_append]
    exact .inl hn
  | d0 :: l, i + 1, d, h, n, hn => by
    simp only [List.getElem?_cons_succ] at h
    simp only [DataW.weightsAll, List.mem_append]
    exact .inr (weights_all h n hn)
  | [], _, _, h, _, _ => by simp at h
theorem datum_fields {W : World} {sp : Nat → Bool} {fuel : Nat} {cs : List Value} {x : DataW H × List MemPlace}
    (h : DataW.trod enc Try.prog W 0 sp true fuel 34 cs = some x) (hw : ∀ n ∈ x.1.weights Try.prog 34, n ≤ reachBytes) :
    ∃ (n : Nat) (k m : Int) (s : ByteArray) (v3 : Value) (y : DataW H × List MemPlace), fuel = n + 1 ∧ cs = [.int .i64 k, .int .i64 m, .string s, v3] ∧
      (-9223372036854775808 ≤ k ∧ k ≤ 9223372036854775807) ∧ (-9223372036854775808 ≤ m ∧ m ≤ 9223372036854775807) ∧ s.size ≤ 140737488355328 ∧
      DataW.trod enc Try.prog W 0 sp true n 32 [v3] = some y ∧ ∀ n ∈ y.1.weights Try.prog 32, n ≤ reachBytes := by
  obtain ⟨xs, n, rfl, rfl, hl, hx, hf⟩ := DataW.trod_struct Try.underlying34 h
  have hl4 : cs.length = 4 := hl.trans (by kernel_rfl)
  match cs, hl4 with
  | [c0, c1, c2, c3], _ =>
    match xs, hx with
    | [y0, y1, y2, y3], _ =>
      have h0 := hf 0 _ rfl
      have h1 := hf 1 _ rfl
      have h2 := hf 2 _ rfl
      have h3 := hf 3 _ rfl
      obtain ⟨k, e0, _, w0⟩ := DataW.trod_int Try.underlying3 h0
      obtain ⟨m, e1, _, w1⟩ := DataW.trod_int Try.underlying3 h1
      obtain ⟨s, e2, es, w2⟩ := DataW.trod_string Try.underlying9 h2
      have hwe : ∀ n ∈ DataW.weightsEach Try.prog [3, 3, 9, 32] [y0.1, y1.1, y2.1, y3.1], n ≤ reachBytes := fun n hn => hw n (by simp only [DataW.weights, Try.underlying34]; exact hn)
      have q2 := hwe s.data.toList.length (DataW.weights_mem_each (j := 2) (t := 9) (d := y2.1) rfl rfl _ (by rw [es]; simp [DataW.weights]))
      have q3 : ∀ n ∈ y3.1.weights Try.prog 32, n ≤ reachBytes := fun n hn => hwe n (DataW.weights_mem_each (j := 3) (t := 32) (d := y3.1) rfl rfl _ hn)
      have f0 : [c0] = [Value.int .i64 k] := e0
      have f1 : [c1] = [Value.int .i64 m] := e1
      have f2 : [c2] = [Value.string s] := e2
      have g0 : c0 = .int .i64 k := by simpa using f0
      have g1 : c1 = .int .i64 m := by simpa using f1
      have g2 : c2 = .string s := by simpa using f2
      subst g0 g1 g2
      have b0 := bounds_i64 w0
      have b1 := bounds_i64 w1
      exact ⟨n, k, m, s, c3, y3, rfl, rfl, b0, b1, by rw [← size_list] at q2; unfold reachBytes at q2; omega, h3, q3⟩
theorem datum_trod {W : World} {sp : Nat → Bool} : ∀ (N fuel : Nat) (cs : List Value) (x : DataW H × List MemPlace), fuel ≤ N → DataW.trod enc Try.prog W 0 sp true fuel 34 cs = some x → (∀ n ∈ x.1.weights Try.prog 34, n ≤ reachBytes) →
    ∃ (t : Sp.Tr (fuel / 2 + 1)) (c0 c1 c2 c3 : Value), cs = [c0, c1, c2, c3] ∧ Lies W (fun _ => True) (fuel / 2 + 1) t (.agg #[c0, c1, c2, c3])
  | 0, fuel, cs, x, hN, h, hw => by
    obtain ⟨n, k, m, s, v3, y, rfl, _⟩ := datum_fields h hw
    omega
  | N + 1, fuel, cs, x, hN, h, hw => by
    obtain ⟨n, k, m, s, v3, y, rfl, rfl, b0, b1, b2, h3, hw3⟩ := datum_fields h hw
    rcases DataW.trod_slice Try.underlying32 h3 with ⟨e3, _⟩ | ⟨a, len, cap, elems, rest, n', rfl, e3, rfl, _, hlc, hcm, hell, hel, _, _⟩
    · have e : v3 = .slice none 0 0 := by simpa using e3
      subst e
      exact ⟨((k, m, s.data.toList, []) : Int × Int × List UInt8 × List (Sp.Tr ((n + 1) / 2))), _, _, _, _, rfl, s, none, 0, rfl, rfl, ⟨b0, b1, b2, by simp, by simp⟩, fun h0 => absurd h0 (by simp)⟩
    · have e : v3 = .slice (some a) len cap := by simpa using e3
      subst e
      have hwl : ∀ n ∈ ((elems.map (·.1)).length + (rest.map (·.1)).length) * Try.prog.bytesOf 34 :: (DataW.weightsAll Try.prog 34 (elems.map (·.1)) ++ DataW.weightsAll Try.prog 34 (rest.map (·.1))), n ≤ reachBytes := fun n hn => hw3 n (by simp only [DataW.weights, Try.underlying32]; exact hn)
      have hcm2 : len ≤ 140737488355328 := by
        have h0 := hwl _ (List.mem_cons_self)
        have hb : Try.prog.bytesOf 34 = 56 := by kernel_rfl
        rw [hb] at h0
        simp only [List.length_map] at h0
        unfold reachBytes at h0
        omega
      have hfu : (n' + 1 + 1) / 2 = n' / 2 + 1 := by omega
      have each : ∀ i, i < len → ∃ u : Sp.Tr (n' / 2 + 1), ∃ c0 c1 c2 c3 : Value, W.cell? (a.add (i * 4)) = some c0 ∧ W.cell? ((a.add (i * 4)).add 1) = some c1 ∧ W.cell? ((a.add (i * 4)).add 2) = some c2 ∧ W.cell? ((a.add (i * 4)).add 3) = some c3 ∧
          Lies W (fun _ => True) (n' / 2 + 1) u (.agg #[c0, c1, c2, c3]) := by
        intro i hi
        have hi1 := hel i hi
        have hle : i < elems.length := by omega
        rw [List.getElem?_eq_getElem hle] at hi1
        obtain ⟨cs', hcs, hd⟩ := Option.bind_eq_some_iff.1 hi1
        have c4 : Try.prog.cellsOf 34 = 4 := by kernel_rfl
        rw [c4] at hcs
        obtain ⟨_, hlen, hcell⟩ := World.cells?_some hcs
        obtain ⟨u, c0, c1, c2, c3, rfl, hL⟩ := datum_trod N n' cs' _ (by omega) hd (fun n hn => hwl n (List.mem_cons_of_mem _ (List.mem_append_left _ (weights_all (i := i) (by simp [List.getElem?_eq_getElem hle]) n hn))))
        have q0 := hcell 0 (by omega)
        have q1 := hcell 1 (by omega)
        have q2 := hcell 2 (by omega)
        have q3 := hcell 3 (by omega)
        have ad0 : (a.add (i * 4)).add 0 = a.add (i * 4) := by simp [Addr.add]
        rw [ad0] at q0
        exact ⟨u, c0, c1, c2, c3, q0, q1, q2, q3, hL⟩
      obtain ⟨l, hl, hr⟩ := list_of len each
      rw [hfu]
      refine ⟨((k, m, s.data.toList, l) : Int × Int × List UInt8 × List (Sp.Tr (n' / 2 + 1))), _, _, _, _, rfl, s, some a, cap, by simp [hl], rfl, ⟨b0, b1, b2, by simp; omega, by simp; omega⟩, fun h0 => ?_⟩
      have h0' : 0 < l.length := h0
      obtain ⟨b, off, spot⟩ := a
      have hspot : spot = none := by
        obtain ⟨c0, _, _, _, q0, _⟩ := hr 0 h0'
        simpa [Addr.add] using World.cell?_spot q0
      subst hspot
      refine ⟨b, off, rfl, trivial, fun j hj => ?_⟩
      obtain ⟨c0, c1, c2, c3, q0, q1, q2, q3, hL⟩ := hr j hj
      simp only [add_at] at q0 q1 q2 q3
      exact ⟨c0, c1, c2, c3, q0, q1, q2, q3, hL⟩
/-- A datum that came in: a tree that lies in memory. -/
theorem datum_open {W : World} {base : Nat} {v : Value} {d : DataW H} {p : List MemPlace} (hv : Value.okWide Try.prog W .any base 34 v)
    (h : DataW.Trod enc Try.prog W 0 (fun _ => true) true 34 v d p) (hw : ∀ n ∈ d.weights Try.prog 34, n ≤ reachBytes) : ∃ (D : Nat) (t : Sp.Tr D), Lies W (· < W.heap.size) D t v := by
  obtain ⟨fuel, hf⟩ := h
  obtain ⟨cs, rfl, _⟩ := okWide_struct Try.underlying34 hv
  obtain ⟨t, c0, c1, c2, c3, hcs, hL⟩ := datum_trod fuel fuel _ _ (Nat.le_refl _) hf hw
  refine ⟨_, t, ?_⟩
  have e : cs = #[c0, c1, c2, c3] := by
    have h2 : cs.toList = [c0, c1, c2, c3] := by simpa [Value.cells] using hcs
    rw [← Array.toArray_toList (xs := cs), h2]
  subst e
  exact hL.weak fun b _ hb => hb
end
end Go.Proofs.Ytcjhgihkofmhgaa
