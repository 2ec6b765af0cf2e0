/-
  The table of the kinds, out of what the condition says that it reads as.
-/
import Derived.Test.YtgfjofdjicepiaaDoorUname
import Derived.Test.YtgfjofdjicepiaaDoorRows
import Derived.Lib.LaidTab
import Derived.Lib.SmallJoins
import Derived.ChangeSame
namespace Go.Proofs.YtgfjofdjicepiaaDoor
open Go.RowKit Go.ChangeShapes Go.WideShapes Go.ChangeAt Go.Deep
set_option linter.unusedVariables false
/-- An array of structs of a text and an integer: one of its elements. -/
theorem row_at {H : Type} {enc : TypeId × Value → H} {P : Program} {w : World} {base : Nat} {sp : Nat → Bool} {held : Bool} {fuel : Nat} {t e : TypeId} {n : Nat} {cs : List Value} {ds : List (DataW H)} {p : List MemPlace}
    (ht : P.underlying t = some (.array n e)) {a0 a1 : Field} (he : P.underlying e = some (.struct #[a0, a1])) (hone : oneCellFields P #[a0, a1] = true) (hce : P.cellsOf e = 2) (hs : P.underlying a0.type = some .string) (hi : P.underlying a1.type = some (.int .i64))
    (h : DataW.trod enc P w base sp held fuel t cs = some (.agg ds, p)) (i : Nat) (hin : i < n) (S : List UInt8) (d : Int) (hd : ds[i]? = some (.agg [.lit (.string S), .lit (.int .i64 d)])) :
    cs[2 * i]? = some (.string ⟨S.toArray⟩) ∧ cs[2 * i + 1]? = some (.int .i64 d) := by
  cases fuel with
  | zero => simp [DataW.trod] at h
  | succ fuel =>
    simp only [DataW.trod, ht] at h
    split at h
    · obtain ⟨xs, hm, hx⟩ := Option.map_eq_some_iff.1 h
      simp only [Prod.mk.injEq, DataW.agg.injEq] at hx
      obtain ⟨b, hb, hf⟩ := Lib.mapM_at hm i i (by simp [hin])
      obtain ⟨y0, y1, m, hxx, hl, h0, h1⟩ := trod_struct2 he hf
      obtain ⟨o0, k0⟩ := hone_of hone 0 a0 rfl
      obtain ⟨o1, k1⟩ := hone_of hone 1 a1 rfl
      have hbd : b.1 = .agg [.lit (.string S), .lit (.int .i64 d)] := by
        have : ds[i]? = some b.1 := by rw [← hx.1, List.getElem?_map, hb]; rfl
        rw [hd] at this
        exact (Option.some.inj this).symm
      rw [hxx] at hbd
      simp only [DataW.agg.injEq, List.cons.injEq, and_true] at hbd
      obtain ⟨s', hc0, hy0, _⟩ := DataW.trod_string hs h0
      obtain ⟨z, hc1, hy1, _⟩ := DataW.trod_int hi h1
      rw [hce] at hc0 hc1
      rw [o0, k0] at hc0
      rw [o1, k1] at hc1
      have es : s' = ⟨S.toArray⟩ := by
        have h2 := hbd.1
        rw [hy0] at h2
        simp only [DataW.lit.injEq, Lit.string.injEq] at h2
        rw [← h2]
      have ez : z = d := by
        have h2 := hbd.2
        rw [hy1] at h2
        simp only [DataW.lit.injEq, Lit.int.injEq] at h2
        exact h2.2
      subst es ez
      constructor
      · have := congrArg (·[0]?) hc0
        simp [List.getElem?_drop] at this
        rw [Nat.mul_comm]
        exact this
      · have := congrArg (·[0]?) hc1
        simp [List.getElem?_drop] at this
        rw [Nat.mul_comm]
        exact this
    · simp at h
theorem kName : Tryd.prog.globalNamed "coupe/units.kinds" = some 0 := by kernel_rfl
/-- The table of the kinds, where it reads as laid. -/
theorem ki_of {H : Type} {enc : TypeId × Value → H} {W W' : World} {base : Nat} {sp : Nat → Bool} {held : Bool} {fuel : Nat} {cs : Array Value} {p : List MemPlace} (hv : World.var? Tryd.prog W "coupe/units.kinds" = some cs)
    (hd : DataW.trod enc Tryd.prog W' base sp held fuel 47 cs.toList = some (Rows.laid_coupe_units_kinds, p)) : KI W := by
  have hat := fun i hi S d h => row_at Tryd.underlying47 Tryd.underlying46 (by kernel_rfl) (by kernel_rfl) Tryd.underlying9 Tryd.underlying3 hd i hi S d h
  unfold World.var? at hv
  rw [kName] at hv
  simp only [Option.bind_some] at hv
  split at hv
  · rename_i c0 T0 f0 hh
    obtain rfl := Option.some.inj hv
    have hlt : 0 < W.heap.size := by
      rcases Nat.lt_or_ge 0 W.heap.size with h | h
      · exact h
      · rw [Array.getElem?_eq_none h] at hh
        exact absurd hh (by simp)
    have cell : ∀ o, W.cell? ⟨0, o, none⟩ = c0.toList[o]? := fun o => by
      unfold World.cell?
      simp only [hh, Option.isSome_none, Bool.false_eq_true, if_false, Array.getElem?_toList]
    refine ⟨hlt, fun k h1 h2 => ?_⟩
    rw [cell, cell]
    have hc : k = 1 ∨ k = 2 ∨ k = 3 ∨ k = 4 ∨ k = 5 := by omega
    rcases hc with rfl | rfl | rfl | rfl | rfl
    · exact hat 1 (by omega) [109] 1 rfl
    · exact hat 2 (by omega) [99, 109] 1 rfl
    · exact hat 3 (by omega) [109, 51] 3 rfl
    · exact hat 4 (by omega) [116] 3 rfl
    · exact hat 5 (by omega) [107, 114] 2 rfl
  · exact absurd hv (by simp)
end Go.Proofs.YtgfjofdjicepiaaDoor
