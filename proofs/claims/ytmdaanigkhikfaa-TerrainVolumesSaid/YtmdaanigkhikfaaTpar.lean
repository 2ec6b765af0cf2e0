/-
  A terrain, and a list of ints, as a law's parameter: opened.
-/
import Derived.Test.YtmdaanigkhikfaaQta
import Derived.ProofKit
import Derived.OpenShut
import Derived.Lib.SmallJoins
namespace Go.Proofs.Ytmdaanigkhikfaa
open Go.ChangeShapes Go.WideShapes Go.ChangeAt Go.RowKit
set_option linter.unusedVariables false
set_option linter.unusedSimpArgs false
set_option maxRecDepth 100000
section
variable {H : Type} {enc : TypeId × Value → H}
theorem list_of {α : Type} {R : Nat → α → Prop} : ∀ (n : Nat), (∀ i, i < n → ∃ y, R i y) → ∃ l : List α, l.length = n ∧ ∀ i (h : i < l.length), R i (l[i])
  | 0, _ => ⟨[], rfl, fun i h => absurd h (by simp)⟩
  | n + 1, h => by
    obtain ⟨l, hl, hr⟩ := list_of n (fun i hi => h i (by omega))
    obtain ⟨y, hy⟩ := h n (by omega)
    refine ⟨l ++ [y], by simp [hl], fun i hi => ?_⟩
    by_cases c : i < l.length
    · rw [List.getElem_append_left c]
      exact hr i c
    · have e : i = l.length := by simp at hi; omega
      subst e
      rw [List.getElem_append_right (by omega)]
      simpa [hl] using hy
theorem add_at (b off : Nat) (j : Nat) : ((⟨b, off, none⟩ : Addr).add j) = ⟨b, off + j, none⟩ := by
  by_cases h : j = 0
  · subst h; simp [Addr.add]
  · simp [Addr.add, h]
section
variable {H : Type} {enc : TypeId × Value → H}
theorem ints_trod {W : World} {sp : Nat → Bool} {fuel : Nat} {v : Value} {x : DataW H × List MemPlace}
    (hf : DataW.trod enc Try.prog W 0 sp true fuel 22 [v] = some x) (hw : ∀ n ∈ x.1.weights Try.prog 22, n ≤ reachBytes) :
    ∃ (A : Option Addr) (cap : Nat) (l : List Int), v = .slice A l.length cap ∧ (∀ y ∈ l, -9223372036854775808 ≤ y ∧ y ≤ 9223372036854775807) ∧ l.length ≤ 140737488355328 ∧ Ints W A l := by
  rcases DataW.trod_slice Try.underlying22 hf with ⟨e3, _⟩ | ⟨a, len, cap, elems, rest, n', rfl, e3, hx, _, hlc, hcm, hell, hel, _, _⟩
  · have e : v = .slice none 0 0 := by simpa using e3
    subst e
    exact ⟨none, 0, [], rfl, by simp, by simp, fun h => absurd h (by simp)⟩
  · have e : v = .slice (some a) len cap := by simpa using e3
    subst e
    subst hx
    have hwl : ∀ n ∈ ((elems.map (·.1)).length + (rest.map (·.1)).length) * Try.prog.bytesOf 3 :: (DataW.weightsAll Try.prog 3 (elems.map (·.1)) ++ DataW.weightsAll Try.prog 3 (rest.map (·.1))), n ≤ reachBytes := fun n hn => hw n (by simpa only [DataW.weights, Try.underlying22] using hn)
    have hcm2 : len ≤ 140737488355328 := by
      have h0 := hwl _ (List.mem_cons_self)
      have hb : Try.prog.bytesOf 3 = 8 := by kernel_rfl
      rw [hb] at h0
      simp only [List.length_map] at h0
      unfold reachBytes at h0
      omega
    have each : ∀ i, i < len → ∃ q : Int, W.cell? (a.add (i * 1)) = some (.int .i64 q) ∧ (-9223372036854775808 ≤ q ∧ q ≤ 9223372036854775807) := by
      intro i hi
      have hi1 := hel i hi
      have hle : i < elems.length := by omega
      rw [List.getElem?_eq_getElem hle] at hi1
      obtain ⟨cs', hcs, hd⟩ := Option.bind_eq_some_iff.1 hi1
      have c4 : Try.prog.cellsOf 3 = 1 := by kernel_rfl
      rw [c4] at hcs
      obtain ⟨_, hlen, hcell⟩ := World.cells?_some hcs
      obtain ⟨k, e0, _, w0⟩ := DataW.trod_int Try.underlying3 hd
      subst e0
      have q0 := hcell 0 (by omega)
      have ad0 : (a.add (i * 1)).add 0 = a.add (i * 1) := by simp [Addr.add]
      rw [ad0] at q0
      exact ⟨k, q0, bounds_i64 w0⟩
    obtain ⟨l, hl, hr⟩ := list_of len each
    refine ⟨some a, cap, l, by rw [hl], fun c hc => ?_, by omega, fun h0 => ?_⟩
    · obtain ⟨j, hj, rfl⟩ := List.getElem_of_mem hc
      exact (hr j hj).2
    · obtain ⟨b, off, spot⟩ := a
      have hspot : spot = none := by
        have q0 := (hr 0 h0).1
        simpa [Addr.add] using World.cell?_spot q0
      subst hspot
      have blt : b < W.heap.size := by
        have q0 := (hr 0 h0).1
        simp only [add_at] at q0
        exact World.block_lt_of_cell? W _ q0
      refine ⟨b, off, rfl, blt, fun j hj => ?_⟩
      have q0 := (hr j hj).1
      simp only [add_at, Nat.mul_one] at q0
      exact q0

theorem ints_open {W : World} {base : Nat} {v : Value} {d : DataW H} {ps : List MemPlace} (hv : Value.okWide Try.prog W .any base 22 v)
    (h : DataW.Trod enc Try.prog W 0 (fun _ => true) true 22 v d ps) (hw : ∀ n ∈ d.weights Try.prog 22, n ≤ reachBytes) :
    ∃ (A : Option Addr) (cap : Nat) (l : List Int), v = .slice A l.length cap ∧ (∀ y ∈ l, -9223372036854775808 ≤ y ∧ y ≤ 9223372036854775807) ∧ l.length ≤ 140737488355328 ∧ Ints W A l := by
  obtain ⟨fuel, hf⟩ := h
  obtain ⟨A, len, cap, rfl⟩ := okWide_slice Try.underlying22 hv
  exact ints_trod (v := .slice A len cap) hf hw
theorem terrain_open {W : World} {base : Nat} {v : Value} {d : DataW H} {ps : List MemPlace} (hv : Value.okWide Try.prog W .any base 24 v)
    (h : DataW.Trod enc Try.prog W 0 (fun _ => true) true 24 v d ps) (hw : ∀ n ∈ d.weights Try.prog 24, n ≤ reachBytes) :
    ∃ (A : Option Addr) (cap : Nat) (c r k : Int) (z : List Int), v = .agg #[.int .i64 c, .int .i64 r, .int .i64 k, .slice A z.length cap] ∧ z.length ≤ 140737488355328 ∧ Ints W A z := by
  obtain ⟨v0, v1, v2, v3, y0, y1, y2, y3, n, rfl, rfl, rfl, h0, h1, h2, h3⟩ := Joins.open_agg4 Try.underlying24 (by kernel_rfl) (by kernel_rfl) hv h
  have hwe : ∀ n ∈ DataW.weightsEach Try.prog [3, 3, 3, 22] [y0.1, y1.1, y2.1, y3.1], n ≤ reachBytes := fun n hn => hw n (by simp only [DataW.weights, Try.underlying24]; exact hn)
  have k3 : DataW.trod enc Try.prog W 0 (fun _ => true) true n 22 [v3] = some y3 := h3
  obtain ⟨A, cap, z, rfl, -, hl, hT⟩ := ints_trod k3 (fun n hn => hwe n (DataW.weights_mem_each (j := 3) (t := 22) (d := y3.1) rfl rfl _ hn))
  obtain ⟨c, e0, _, w0⟩ := DataW.trod_int Try.underlying3 h0
  obtain ⟨r, e1, _, w1⟩ := DataW.trod_int Try.underlying3 h1
  obtain ⟨k, e2, _, w2⟩ := DataW.trod_int Try.underlying3 h2
  have f0 : v0 = .int .i64 c := by simpa using e0
  have f1 : v1 = .int .i64 r := by simpa using e1
  have f2 : v2 = .int .i64 k := by simpa using e2
  subst f0 f1 f2
  exact ⟨A, cap, c, r, k, z, rfl, hl, hT⟩
end
end
end Go.Proofs.Ytmdaanigkhikfaa
