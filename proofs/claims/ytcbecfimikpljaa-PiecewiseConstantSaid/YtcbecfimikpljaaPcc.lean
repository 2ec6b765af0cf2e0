/-
  A []int16 as a law's parameter: opened; the frame's form of PiecewiseConstant.
-/
import Derived.Test.YtcbecfimikpljaaPo
import Derived.Test.YtcbecfimikpljaaPcb
namespace Go.Proofs.Ytcbecfimikpljaa
open Go.ChangeShapes Go.WideShapes Go.ChangeAt Go.RowKit
set_option linter.unusedVariables false
set_option linter.unusedSimpArgs false
set_option maxRecDepth 100000
section
variable {H : Type} {enc : TypeId × Value → H}
theorem i16s_open {W : World} {base : Nat} {v : Value} {d : DataW H} {ps : List MemPlace} (hv : Value.okWide Try.prog W .any base 45 v)
    (h : DataW.Trod enc Try.prog W 0 (fun _ => true) true 45 v d ps) (hw : ∀ n ∈ d.weights Try.prog 45, n ≤ reachBytes) :
    ∃ (A : Option Addr) (cap : Nat) (l : List Int), v = .slice A l.length cap ∧ (∀ y ∈ l, -32768 ≤ y ∧ y ≤ 32767) ∧ l.length ≤ 140737488355328 ∧ I16s W A l := by
  obtain ⟨fuel, hf⟩ := h
  obtain ⟨A, len, cap, rfl⟩ := okWide_slice Try.underlying45 hv
  rcases DataW.trod_slice Try.underlying45 hf with ⟨e3, _⟩ | ⟨a, len', cap', elems, rest, n', rfl, e3, hx, _, hlc, hcm, hell, hel, _, _⟩
  · have e : Value.slice A len cap = .slice none 0 0 := by simpa [Value.cells] using e3
    injection e with f1 f2 f3
    subst f1 f2 f3
    exact ⟨none, 0, [], rfl, by simp, by simp, fun h => absurd h (by simp)⟩
  · have e : Value.slice A len cap = .slice (some a) len' cap' := by simpa [Value.cells] using e3
    injection e with f1 f2 f3
    subst f1 f2 f3
    simp only [Prod.mk.injEq] at hx
    obtain ⟨rfl, _⟩ := hx
    have hwl : ∀ n ∈ ((elems.map (·.1)).length + (rest.map (·.1)).length) * Try.prog.bytesOf 46 :: (DataW.weightsAll Try.prog 46 (elems.map (·.1)) ++ DataW.weightsAll Try.prog 46 (rest.map (·.1))), n ≤ reachBytes := fun n hn => hw n (by simpa only [DataW.weights, Try.underlying45] using hn)
    have hcm2 : len ≤ 140737488355328 := by
      have h0 := hwl _ (List.mem_cons_self)
      have hb : Try.prog.bytesOf 46 = 2 := by kernel_rfl
      rw [hb] at h0
      simp only [List.length_map] at h0
      unfold reachBytes at h0
      omega
    have each : ∀ i, i < len → ∃ q : Int, W.cell? (a.add (i * 1)) = some (.int .i16 q) ∧ (-32768 ≤ q ∧ q ≤ 32767) := by
      intro i hi
      have hi1 := hel i hi
      have hle : i < elems.length := by omega
      rw [List.getElem?_eq_getElem hle] at hi1
      obtain ⟨cs', hcs, hd⟩ := Option.bind_eq_some_iff.1 hi1
      have c4 : Try.prog.cellsOf 46 = 1 := by kernel_rfl
      rw [c4] at hcs
      obtain ⟨_, hlen, hcell⟩ := World.cells?_some hcs
      obtain ⟨k, e0, _, w0⟩ := DataW.trod_int Try.underlying46 hd
      subst e0
      have q0 := hcell 0 (by omega)
      have ad0 : (a.add (i * 1)).add 0 = a.add (i * 1) := by simp [Addr.add]
      rw [ad0] at q0
      exact ⟨k, q0, bounds_i16 w0⟩
    obtain ⟨l, hl, hr⟩ := list_of len each
    refine ⟨some a, cap, l, by rw [hl], fun c hc => ?_, by omega, fun h0 => ?_⟩
    · obtain ⟨j, hj, rfl⟩ := List.getElem_of_mem hc
      exact (hr j hj).2
    · obtain ⟨b, off, spot⟩ := a
      have hspot : spot = none := by
        have q0 := (hr 0 h0).1
        simpa [Addr.add] using World.cell?_spot q0
      subst hspot
      have blt : b < W.heap.size := by
        have q0 := (hr 0 h0).1
        simp only [add_at] at q0
        exact World.block_lt_of_cell? W _ q0
      refine ⟨b, off, rfl, blt, fun j hj => ?_⟩
      have q0 := (hr j hj).1
      simp only [add_at, Nat.mul_one] at q0
      exact q0
end
theorem const_law (x : Int) (x0 : -9223372036854775808 ≤ x) (x1 : x ≤ 9223372036854775807) (A : Option Addr) (cap : Nat) (c : List Int) (w : World) (hcb : ∀ y ∈ c, -32768 ≤ y ∧ y ≤ 32767) (hcl : c.length ≤ 140737488355328) (hT : I16s w A c) :
    Calls Try.prog 8 #[.slice A c.length cap, .int .i64 x] w (Gives (.bool true) w) := const_as A cap c x w hcb hcl x0 x1 hT
end Go.Proofs.Ytcbecfimikpljaa
