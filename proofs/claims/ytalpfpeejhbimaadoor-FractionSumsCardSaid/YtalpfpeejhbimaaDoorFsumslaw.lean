/-
  Proved: for every list of fractions the statement FractionSums of layer 2 holds: Sum returns the specified sum or error. The card ties the library's three tables to the program's text; that nothing else writes them is the translator's report. No further condition.
-/
import Derived.Test.YtalpfpeejhbimaaDoorRows
import Derived.Test.YtalpfpeejhbimaaDoorCards
import Derived.Test.YtalpfpeejhbimaaDoorTie
import Derived.Test.YtalpfpeejhbimaaDoorFsums
import Derived.WalkKit
import Derived.ProofKit
import Derived.LaidMore
import Derived.OpenShut
import Derived.Lib.SmallJoins
import Derived.Stop.Joined
import Derived.SevenTiedAt
import Derived.Deep.SlicePairs
namespace Go.Proofs.YtalpfpeejhbimaaDoor.fractionSums
open Go.ChangeShapes Go.WideShapes Go.ChangeAt Go.RowKit
set_option linter.unusedVariables false      -- a walk need not use every 'w<i>' (that an integer argument fits its kind)

theorem own : ownKnob Tryd.prog.godebug = none := by kernel_rfl
/-- The door's own heap meets the condition. -/
theorem door_met (os : Os) (args : Array Value) : laidMetH Tryd.prog Rows.fractionSumsRow.laid ((World.doorLaid Tryd.prog 400 os).forCall (fun _ _ => 0) ⟨#[], args, []⟩).memory :=
  laidMetH_of_parts3 (fuel := 8) (laidMet_of_run' 8 (by kernel_rfl) (by kernel_rfl)) (by kernel_rfl) (by kernel_rfl)
theorem data_is : (Rows.laid_internal_strconv_uint64pow10 : DataW Unit) = Lib.tabData .u64 Lib.pow10Tab := by rfl
theorem gName : Tryd.prog.globalNamed "internal/strconv.uint64pow10" = some 3 := by kernel_rfl
/-- What the condition gives the walk: the table of the powers of ten. -/
theorem of_laid {W : World} (h : laidMetH Tryd.prog Rows.fractionSumsRow.laid W) : Lib.TabIs Tryd.prog W "internal/strconv.uint64pow10" .u64 Lib.pow10Tab := by
  rw [MakeChecks.laidMetH_plain _ _ _ (by kernel_rfl)] at h
  obtain ⟨ps, ⟨g0, t0, cs0, f0, p0, q0, hg0, ht0, hv0, hd0, ⟨g1, t1, cs1, f1, p1, q1, hg1, ht1, hv1, hd1, ⟨g2, t2, cs2, f2, p2, q2, hg2, ht2, hv2, hd2, _, _⟩, _⟩, _⟩, _⟩ := h
  obtain rfl := Option.some.inj (gName.symm.trans hg2)
  rw [data_is] at hd2
  obtain rfl := Option.some.inj ((show (Tryd.prog.globals[3]?).map (·.type) = some 111 by kernel_rfl).symm.trans ht2)
  unfold Lib.TabIs
  rw [hv2, ← Lib.cells_of_tab Tryd.underlying111 Tryd.underlying51 (by kernel_rfl) (by kernel_rfl) hd2]

theorem cF : Tryd.prog.cellsOf 23 = 2 := by kernel_rfl
theorem c3 : Tryd.prog.cellsOf 3 = 1 := by kernel_rfl
set_option maxRecDepth 100000 in
theorem lifted (os : Os) (started : os.Started) (H : Type) (enc : TypeId × Value → H) :
    ReturnsInHanded {} Tryd.checked os 7 .any (fun w args => (Rows.fractionSumsSpec.pre enc Tryd.prog Tryd.f7 [] false w args ∧ laidMetH Tryd.prog Rows.fractionSumsRow.laid w) ∧ sizedMet enc Tryd.prog Tryd.f7 (OpenSpec.ofChange Rows.fractionSumsSpec) false w args)
      (Rows.fractionSumsSpec.post enc Tryd.prog Tryd.f7 false true false false) := by
  refine returnsInHanded_of_change_and (C := Tryd.checked) (X := fun w _ => laidMetH Tryd.prog Rows.fractionSumsRow.laid w) (fun _ _ _ hh h => h.of_heap hh) own started (by kernel_rfl) Tryd.func7
    (ChangeSpec.witness_shaped (enc := enc) (C := Tryd.checked) (os := os) (X := fun w _ => laidMetH Tryd.prog Rows.fractionSumsRow.laid w) false (World.doorLaid Tryd.prog 400 os) #[.slice none 0 0] 8 rfl (World.shaped_of_RefB (by kernel_rfl) (by kernel_rfl)) (by kernel_rfl) (by kernel_rfl) (by kernel_rfl) (door_met os _)) ?_
  intro W base args ds gs before hval0 hW _ _ hL _
  have hval : ∀ (j : Nat) t v, Tryd.f7.params[j]? = some t → args[j]? = some v → Value.okWide Tryd.prog W .any base t v := hval0
  have hW' := hW
  have hWl := hW
  obtain ⟨p, q, hA0, hV, rfl, hfz, hnd⟩ := hW
  have hA : DataW.TrodAll enc Tryd.prog W 0 (fun _ => true) true Tryd.f7.params.toList args.toList ds p := hA0
  rw [Tryd.params7] at hA hval
  obtain ⟨v0, d0, rfl, rfl, h0⟩ := trodAll_one hA
  obtain ⟨rfl, rfl⟩ := trodVars_none hV
  obtain ⟨a0, len, cap, rfl⟩ := okWide_slice Tryd.underlying41 (hval 0 41 v0 rfl rfl)
  obtain ⟨fuel, hf⟩ := h0
  have ht := of_laid hL
  have aw : ∀ w0, Below W.heap.size W w0 → Calls Tryd.prog 11 #[] w0 (Gives (.bool true) w0) := fun w0 h0 => fawake_any w0 (tab_below gPow ht h0)
  clear hA0 hval0
  simp only [List.append_nil] at hW'
  rcases Deep.open_slice_pairs Tryd.underlying41 Tryd.underlying23 cF rfl rfl c3 c3 hf with ⟨hcs, hx⟩ | ⟨a, len', cap', m, n, V0, V1, D0, D1, P0, P1, hcs, hb, hl, hm, hmm, hx, hall⟩
  · simp [Value.cells] at hcs
    obtain ⟨rfl, rfl, rfl⟩ := hcs
    simp only [Prod.mk.injEq] at hx
    obtain ⟨rfl, rfl⟩ := hx
    refine (fsums_nil none 0 W aw).mono fun e W' ⟨he, hg⟩ => ?_
    subst he
    exact ⟨_, rfl, _, _, _, [], [], [], hW', trodAll_mk1 (shut_bool Tryd.underlying4 _), trodAll_mk1 (shut_slice_nil Tryd.underlying41), rfl, hg.frame _, fun h => by cases h⟩
  · simp [Value.cells] at hcs
    obtain ⟨rfl, rfl, rfl⟩ := hcs
    simp only [if_true] at hmm
    subst hmm
    simp only [Prod.mk.injEq] at hx
    obtain ⟨rfl, rfl⟩ := hx
    by_cases hc0 : m = 0
    · subst hc0
      have l0 : len = 0 := by omega
      subst l0
      have again : ∀ (W' : World) (sp : Nat → Bool), ∃ k, DataW.trod enc Tryd.prog W' 0 sp true k 41 [.slice (some a) 0 0] = some (.slice ((List.range 0).map fun i => .agg [D0 i, D1 i]) ((List.range (0 - 0)).map fun j => .agg [D0 (0 + j), D1 (0 + j)]), MemPlace.row a (0 * 2) ++ (List.range 0).flatMap fun i => P0 i ++ P1 i) := by
        intro W' sp
        cases hs : sp a.block with
        | false => exact ⟨_, (Deep.shut_slice_cells (enc := enc) (w := W') (base := 0) (held := true) (len := 0) (cap := 0) Tryd.underlying41 (Nat.zero_le _) (Nat.le_refl _) hm hs (fun _ => .nil) (fun _ => []) (fun i hi => absurd hi (Nat.not_lt_zero _))).choose_spec⟩
        | true => exact ⟨_, (Deep.shut_slice_whole_cells (enc := enc) (w := W') (base := 0) (held := true) (len := 0) (cap := 0) Tryd.underlying41 (Nat.zero_le _) (Nat.le_refl _) hm hs (fun _ => .nil) (fun _ => []) (fun i hi => absurd hi (Nat.not_lt_zero _))).choose_spec⟩
      refine (fsums_nil (some a) 0 W aw).mono fun e W' ⟨he, hg⟩ => ?_
      subst he
      obtain ⟨k, hk⟩ := again W' (fun b => decide (b < W.heap.size))
      exact ⟨_, rfl, _, _, _, [], _, [], hW', trodAll_mk1 (shut_bool Tryd.underlying4 _), trodAll_mk1 ⟨k, hk⟩, rfl, hg.frame _, fun h => by cases h⟩
    · obtain ⟨b, off, spot⟩ := a
      have hspot : spot = none := by simpa [Addr.add] using World.cell?_spot (hall 0 (by omega)).1
      subst hspot
      have hblt : b < W.heap.size := by
        have := hWl.lt (.cell b (off + 0)) (List.mem_append_left _ (List.mem_append_left _ (MemPlace.mem_row.2 ⟨0, by omega, by simp⟩)))
        exact this
      have int0 : ∀ i, i < m → V0 i = .int .i64 (intOf (V0 i)) ∧ D0 i = .lit (.int .i64 (intOf (V0 i))) ∧ P0 i = [] ∧ (Lit.int .i64 (intOf (V0 i))).wf = true := fun i hi => by
        obtain ⟨z, h1, h2, h3⟩ := DataW.trod_int Tryd.underlying3 (hall i hi).2.2.1
        simp only [List.cons.injEq, and_true] at h1
        simp only [Prod.mk.injEq] at h2
        rw [h1]; exact ⟨rfl, h2.1, h2.2, h3⟩
      have int1 : ∀ i, i < m → V1 i = .int .i64 (intOf (V1 i)) ∧ D1 i = .lit (.int .i64 (intOf (V1 i))) ∧ P1 i = [] ∧ (Lit.int .i64 (intOf (V1 i))).wf = true := fun i hi => by
        obtain ⟨z, h1, h2, h3⟩ := DataW.trod_int Tryd.underlying3 (hall i hi).2.2.2
        simp only [List.cons.injEq, and_true] at h1
        simp only [Prod.mk.injEq] at h2
        rw [h1]; exact ⟨rfl, h2.1, h2.2, h3⟩
      have cell0 : ∀ i, i < m → W.cell? ⟨b, off + i * 2, none⟩ = some (V0 i) := fun i hi => by
        have h := (hall i hi).1
        by_cases j : i = 0
        · subst j; simpa [Addr.add] using h
        · simpa [Addr.add, show ¬ i * 2 = 0 by omega] using h
      have cell1 : ∀ i, i < m → W.cell? ⟨b, off + i * 2 + 1, none⟩ = some (V1 i) := fun i hi => by
        have h := (hall i hi).2.1
        simpa [Addr.add, Nat.add_assoc] using h
      have S : FSl W b off len (fun i => intOf (V0 i)) (fun i => intOf (V1 i)) := ⟨fun _ _ => hblt, fun i hi => by rw [cell0 i (by omega)]; exact congrArg some (int0 i (by omega)).1, fun i hi => by rw [cell1 i (by omega)]; exact congrArg some (int1 i (by omega)).1, fun i hi => ⟨(bounds_i64 (int0 i (by omega)).2.2.2).1, (bounds_i64 (int0 i (by omega)).2.2.2).2, (bounds_i64 (int1 i (by omega)).2.2.2).1, (bounds_i64 (int1 i (by omega)).2.2.2).2⟩⟩
      have hm' : len ≤ 9223372036854775807 := by unfold maxLen at hm; omega
      refine (fsums_some _ _ b off len m hm' W S aw).mono fun e W' ⟨he, hg⟩ => ?_
      subst he
      have wh := Deep.shut_slice_pairs_whole (enc := enc) (w := W') (base := 0) (spare := fun b => decide (b < W.heap.size)) (held := true) Tryd.underlying41 Tryd.underlying23 cF rfl rfl c3 c3 (b := b) (off := off) (len := len) (cap := m) (Nat.zero_le _) hl hm (by simpa using hblt) V0 V1 D0 D1 P0 P1
        (fun i hi => (hg.cell (p := ⟨b, off + i * 2, none⟩) hblt).trans (cell0 i hi)) (fun i hi => (hg.cell (p := ⟨b, off + i * 2 + 1, none⟩) hblt).trans (cell1 i hi))
        (fun i hi => by
          obtain ⟨z, h1, h2, h3⟩ := DataW.trod_int Tryd.underlying3 (hall i hi).2.2.1
          rw [h1, h2]; exact ⟨1, by simp [DataW.trod, Tryd.underlying3, h3]⟩)
        (fun i hi => by
          obtain ⟨z, h1, h2, h3⟩ := DataW.trod_int Tryd.underlying3 (hall i hi).2.2.2
          rw [h1, h2]; exact ⟨1, by simp [DataW.trod, Tryd.underlying3, h3]⟩)
      obtain ⟨k, hk⟩ := wh
      exact ⟨_, rfl, _, _, _, [], _, [], hW', trodAll_mk1 (shut_bool Tryd.underlying4 _), trodAll_mk1 ⟨k, hk⟩, rfl, hg.frame _, fun h => by cases h⟩

theorem over : Rows.FractionSumsSaid :=
  OpenClaim.holds_of_wide 7 Tryd.f7 rfl rfl rfl rfl rfl rfl rfl ⟨rfl, rfl, rfl, rfl, rfl⟩ rfl rfl rfl rfl rfl (by kernel_rfl) Tryd.func7 (by kernel_rfl)
    (of_decide_eq_true (by kernel_rfl)) (by unfold Func.isWrapper; first | (rw [if_pos (by decide +kernel)]; kernel_rfl) | (rw [if_neg (by decide +kernel)]; exact ⟨rfl, rfl⟩))
    (fun os started H enc _ => lifted os started H enc)

/-- ████ THE TIED CARD ████ -/
theorem proved : Rows.FractionSumsCardSaid :=
  Claim7.holds_tied_plain_at .later [] [.data, .data, .data] true Rows.fractionSumsCard.stood.harness false
    over (fun _ h => by cases h) (by kernel_rfl) (fun _ h => by cases h) fractionSums_row_tie rfl ⟨rfl, rfl⟩ (by kernel_rfl) rfl
    (fun f fn hf hfn => by
      obtain rfl : f = 7 := Option.some.inj ((show Tryd.prog.funcNamed "coupe/coupelaw02.FractionSums" = some 7 by kernel_rfl).symm.trans hf) |>.symm
      obtain rfl : fn = Tryd.f7 := (Option.some.inj (Tryd.func7.symm.trans hfn)).symm
      exact ⟨by kernel_rfl, fun j t ht => by
        rw [Tryd.params7] at ht
        have hm : t ∈ [41] := by simpa using Array.mem_of_getElem? ht
        have hall : ([41].all fun u => !Tryd.prog.wantsStandIn u) = true := by kernel_rfl
        exact (show Tryd.prog.wantsStandIn t = false by simpa using List.all_eq_true.1 hall t hm)⟩)
    (by kernel_rfl)
#print axioms proved
end Go.Proofs.YtalpfpeejhbimaaDoor.fractionSums
