/-
  Proved: for every list of intervals the statement IntervalLists of layer 3 holds: Sum answers the sum from left to right, or the specified error. No condition.
-/
import Derived.Test.YtnphibbhcogdkaaRows
import Derived.Test.YtnphibbhcogdkaaIlists
import Derived.WalkKit
import Derived.ProofKit
import Derived.OpenShut
import Derived.Deep.SlicePairs
namespace Go.Proofs.Ytnphibbhcogdkaa.intervalLists
open Go.ChangeShapes Go.WideShapes Go.ChangeAt Go.RowKit
set_option linter.unusedVariables false

theorem own : ownKnob Try.prog.godebug = none := by kernel_rfl
theorem c49 : Try.prog.cellsOf 49 = 2 := by kernel_rfl
theorem c3 : Try.prog.cellsOf 3 = 1 := by kernel_rfl
set_option maxRecDepth 100000 in
theorem lifted (os : Os) (started : os.Started) (H : Type) (enc : TypeId × Value → H) :
    ReturnsInHanded {} Try.checked os 11 .any (Rows.intervalListsSpec.pre6 enc Try.prog Try.f11 Rows.intervalListsRow.domain false) (Rows.intervalListsSpec.post enc Try.prog Try.f11 false true false false) := by
  refine returnsInHanded_of_change (C := Try.checked) own started (by kernel_rfl) Try.func11
    (ChangeSpec.witness6 (enc := enc) (C := Try.checked) false ⟨#[], #[.slice none 0 0], []⟩ 8 (by kernel_rfl) (by kernel_rfl) (by kernel_rfl) (by kernel_rfl)) ?_
  intro W base args ds gs before hval0 hW hcnd _
  have hval : ∀ (j : Nat) t v, Try.f11.params[j]? = some t → args[j]? = some v → Value.okWide Try.prog W .any base t v := hval0
  have hW' := hW
  have hWl := hW
  obtain ⟨p, q, hA0, hV, rfl, hfz, hnd⟩ := hW
  have hA : DataW.TrodAll enc Try.prog W 0 (fun _ => true) true Try.f11.params.toList args.toList ds p := hA0
  rw [Try.params11] at hA hval
  obtain ⟨v0, d0, rfl, rfl, h0⟩ := trodAll_one hA
  obtain ⟨rfl, rfl⟩ := trodVars_none hV
  obtain ⟨a0, len, cap, rfl⟩ := okWide_slice Try.underlying63 (hval 0 63 v0 rfl rfl)
  obtain ⟨fuel, hf⟩ := h0
  clear hA0 hval0
  simp only [List.append_nil] at hW'
  rcases Deep.open_slice_pairs Try.underlying63 Try.underlying49 c49 rfl rfl c3 c3 hf with ⟨hcs, hx⟩ | ⟨a, len', cap', m, n, V0, V1, D0, D1, P0, P1, hcs, hb, hl, hm, hmm, hx, hall⟩
  · simp [Value.cells] at hcs
    obtain ⟨rfl, rfl, rfl⟩ := hcs
    simp only [Prod.mk.injEq] at hx
    obtain ⟨rfl, rfl⟩ := hx
    refine (lists_nil none 0 W).mono fun e W' ⟨he, hg⟩ => ?_
    subst he
    exact ⟨_, rfl, _, _, _, [], [], [], hW', trodAll_mk1 (shut_bool Try.underlying4 _), trodAll_mk1 (shut_slice_nil Try.underlying63), rfl, hg.frame _, fun h => by cases h⟩
  · simp [Value.cells] at hcs
    obtain ⟨rfl, rfl, rfl⟩ := hcs
    simp only [if_true] at hmm
    subst hmm
    simp only [Prod.mk.injEq] at hx
    obtain ⟨rfl, rfl⟩ := hx
    by_cases hc0 : m = 0
    · subst hc0
      have l0 : len = 0 := by omega
      subst l0
      have again : ∀ (W' : World) (sp : Nat → Bool), ∃ k, DataW.trod enc Try.prog W' 0 sp true k 63 [.slice (some a) 0 0] = some (.slice ((List.range 0).map fun i => .agg [D0 i, D1 i]) ((List.range (0 - 0)).map fun j => .agg [D0 (0 + j), D1 (0 + j)]), MemPlace.row a (0 * 2) ++ (List.range 0).flatMap fun i => P0 i ++ P1 i) := by
        intro W' sp
        cases hs : sp a.block with
        | false => exact ⟨_, (Deep.shut_slice_cells (enc := enc) (w := W') (base := 0) (held := true) (len := 0) (cap := 0) Try.underlying63 (Nat.zero_le _) (Nat.le_refl _) hm hs (fun _ => .nil) (fun _ => []) (fun i hi => absurd hi (Nat.not_lt_zero _))).choose_spec⟩
        | true => exact ⟨_, (Deep.shut_slice_whole_cells (enc := enc) (w := W') (base := 0) (held := true) (len := 0) (cap := 0) Try.underlying63 (Nat.zero_le _) (Nat.le_refl _) hm hs (fun _ => .nil) (fun _ => []) (fun i hi => absurd hi (Nat.not_lt_zero _))).choose_spec⟩
      refine (lists_nil (some a) 0 W).mono fun e W' ⟨he, hg⟩ => ?_
      subst he
      obtain ⟨k, hk⟩ := again W' (fun b => decide (b < W.heap.size))
      exact ⟨_, rfl, _, _, _, [], _, [], hW', trodAll_mk1 (shut_bool Try.underlying4 _), trodAll_mk1 ⟨k, hk⟩, rfl, hg.frame _, fun h => by cases h⟩
    · obtain ⟨b, off, spot⟩ := a
      have hspot : spot = none := by simpa [Addr.add] using World.cell?_spot (hall 0 (by omega)).1
      subst hspot
      have hblt : b < W.heap.size := by
        have := hWl.lt (.cell b (off + 0)) (List.mem_append_left _ (List.mem_append_left _ (MemPlace.mem_row.2 ⟨0, by omega, by simp⟩)))
        exact this
      have int0 : ∀ i, i < m → V0 i = .int .i64 (intOf (V0 i)) ∧ D0 i = .lit (.int .i64 (intOf (V0 i))) ∧ P0 i = [] ∧ (Lit.int .i64 (intOf (V0 i))).wf = true := fun i hi => by
        obtain ⟨z, h1, h2, h3⟩ := DataW.trod_int Try.underlying3 (hall i hi).2.2.1
        simp only [List.cons.injEq, and_true] at h1
        simp only [Prod.mk.injEq] at h2
        rw [h1]; exact ⟨rfl, h2.1, h2.2, h3⟩
      have int1 : ∀ i, i < m → V1 i = .int .i64 (intOf (V1 i)) ∧ D1 i = .lit (.int .i64 (intOf (V1 i))) ∧ P1 i = [] ∧ (Lit.int .i64 (intOf (V1 i))).wf = true := fun i hi => by
        obtain ⟨z, h1, h2, h3⟩ := DataW.trod_int Try.underlying3 (hall i hi).2.2.2
        simp only [List.cons.injEq, and_true] at h1
        simp only [Prod.mk.injEq] at h2
        rw [h1]; exact ⟨rfl, h2.1, h2.2, h3⟩
      have cell0 : ∀ i, i < m → W.cell? ⟨b, off + i * 2, none⟩ = some (V0 i) := fun i hi => by
        have h := (hall i hi).1
        by_cases j : i = 0
        · subst j; simpa [Addr.add] using h
        · simpa [Addr.add, show ¬ i * 2 = 0 by omega] using h
      have cell1 : ∀ i, i < m → W.cell? ⟨b, off + i * 2 + 1, none⟩ = some (V1 i) := fun i hi => by
        have h := (hall i hi).2.1
        simpa [Addr.add, Nat.add_assoc] using h
      have S : Sl W b off len (fun i => intOf (V0 i)) (fun i => intOf (V1 i)) := ⟨fun _ _ => hblt, fun i hi => by rw [cell0 i (by omega)]; exact congrArg some (int0 i (by omega)).1, fun i hi => by rw [cell1 i (by omega)]; exact congrArg some (int1 i (by omega)).1⟩
      have hm' : len ≤ 9223372036854775807 := by unfold maxLen at hm; omega
      refine (lists_some _ _ b off len m hm' W S).mono fun e W' ⟨he, hg⟩ => ?_
      subst he
      have wh := Deep.shut_slice_pairs_whole (enc := enc) (w := W') (base := 0) (spare := fun b => decide (b < W.heap.size)) (held := true) Try.underlying63 Try.underlying49 c49 rfl rfl c3 c3 (b := b) (off := off) (len := len) (cap := m) (Nat.zero_le _) hl hm (by simpa using hblt) V0 V1 D0 D1 P0 P1
        (fun i hi => (hg.cell (p := ⟨b, off + i * 2, none⟩) hblt).trans (cell0 i hi)) (fun i hi => (hg.cell (p := ⟨b, off + i * 2 + 1, none⟩) hblt).trans (cell1 i hi))
        (fun i hi => by
          obtain ⟨z, h1, h2, h3⟩ := DataW.trod_int Try.underlying3 (hall i hi).2.2.1
          rw [h1, h2]; exact ⟨1, by simp [DataW.trod, Try.underlying3, h3]⟩)
        (fun i hi => by
          obtain ⟨z, h1, h2, h3⟩ := DataW.trod_int Try.underlying3 (hall i hi).2.2.2
          rw [h1, h2]; exact ⟨1, by simp [DataW.trod, Try.underlying3, h3]⟩)
      obtain ⟨k, hk⟩ := wh
      exact ⟨_, rfl, _, _, _, [], _, [], hW', trodAll_mk1 (shut_bool Try.underlying4 _), trodAll_mk1 ⟨k, hk⟩, rfl, hg.frame _, fun h => by cases h⟩

theorem over : Rows.intervalListsRow.holds Try.pinned (OpenSpec.ofChange Rows.intervalListsSpec) :=
  OpenClaim.holds_of_wide 11 Try.f11 rfl rfl rfl rfl rfl rfl rfl ⟨rfl, rfl, rfl, rfl, rfl⟩ rfl rfl rfl rfl rfl (by kernel_rfl) Try.func11 (by kernel_rfl)
    (of_decide_eq_true (by kernel_rfl)) (by unfold Func.isWrapper; first | (rw [if_pos (by decide +kernel)]; kernel_rfl) | (rw [if_neg (by decide +kernel)]; exact ⟨rfl, rfl⟩))
    (fun os started H enc _ => lifted os started H enc)

/-- ████ THE STATEMENT ████ -/
theorem proved : Rows.IntervalListsSaid :=
  over
#print axioms proved
end Go.Proofs.Ytnphibbhcogdkaa.intervalLists
