/-
  Layer 6: the chapter's example, and awake.
-/
import Derived.Test.YtcjhgihkofmhgaaCyi
import Derived.Test.YtcjhgihkofmhgaaRegion
namespace Go.Proofs.Ytcjhgihkofmhgaa
open Go.RowKit
attribute [local go_sem ↓] Go.wp_at_zero Go.wp_at_succ
set_option linter.unusedVariables false
set_option linter.unusedSimpArgs false

def exT : Sp.Tr 2 := (3, 0, [], [(1, 5, [], []), (2, 0, [97, 98], [])])
def exD : Sp.Tr 8 := (3, 0, [], [(1, 5, [], []), (2, 0, [97, 98], [])])
def exL : List UInt8 := [3, 4, 1, 10, 2, 4, 97, 98]
theorem ex_check : Sp.checkS 2 exT = 0 := by kernel_rfl
theorem ex_enc : Sp.encT 2 exT = exL := by kernel_rfl
theorem ex_dec : Sp.decS exL = .inr exD := by kernel_rfl
theorem ex_eq : Sp.eqT 8 2 exD exT = true := by kernel_rfl
theorem ex_torn : Sp.getS [128] 0 = (0, 0, 17) := by kernel_rfl
theorem ex_form : Sp.getS [128, 0] 0 = (0, 0, 3) := by kernel_rfl
theorem ex_put : Sp.putS (-65) = [129, 1] := by kernel_rfl
theorem ex_sum : Sp.updS 0 [49, 50, 51, 52, 53, 54, 55, 56, 57] = 3421780262 := by kernel_rfl
theorem ex_none : Sp.updS 0 [] = 0 := by kernel_rfl
/-- A list of bytes that was just laid. -/
theorem lit_bs (w : World) (L : List UInt8) (t : TypeId) : Bs (w.alloc (.cells (byt L).toArray t)) (w.heap.size + 1) (some ⟨w.heap.size, 0, none⟩) L :=
  ⟨fun _ => ⟨w.heap.size, 0, rfl, by omega, fun j hj => by
    have h := byt_get L j hj
    rw [World.cell?_alloc_new]
    simpa using h⟩⟩
theorem lit_at (w : World) (g : Nat) (hg : w.heap.size = g) (L : List UInt8) (t : TypeId) : Bs (w.alloc (.cells (byt L).toArray t)) (g + 1) (some ⟨g, 0, none⟩) L := by
  subst hg
  exact lit_bs w L t
theorem getLit (w : World) (g : Nat) (hg : w.heap.size = g) (L : List UInt8) (n : Nat) (hn : L.length = n) (h4 : n ≤ 4000) (cs : Array Value) (hcs : cs = (byt L).toArray) (e : Int) (he : Sp.getS L 0 = (0, 0, e)) :
    Calls Try.prog 12 #[.slice (some ⟨g, 0, none⟩) n n, .int .i64 0] (w.alloc (.cells cs 5)) (fun e' w' => e' = .returned (.tuple #[.int .i64 0, .int .i64 0, .int .i64 e]) ∧ w.alloc (.cells cs 5) = w') := by
  subst hn hcs
  have h := getInt_any L (some ⟨g, 0, none⟩) L.length 0 (Nat.le_refl _) (by omega) _ _ (Nat.le_of_eq (by simp [hg])) (lit_at w g hg L 5)
  rw [he] at h
  exact h
theorem lit_h {W : World} {g : Nat} {cs : Array Value} {t : TypeId} (h : W.heap[g]? = some (.cells cs t)) (L : List UInt8) (hcs : cs = (byt L).toArray) : Bs W W.heap.size (some ⟨g, 0, none⟩) L := by
  subst hcs
  exact ⟨fun _ => ⟨g, 0, rfl, (Array.getElem?_eq_some_iff.1 h).1, fun j hj => by
    have h1 := byt_get L j hj
    rw [Nat.zero_add]
    refine (cell_of_row W g j _ t (0, 0) h).trans ?_
    simpa using h1⟩⟩
theorem eqLit (L : List UInt8) (n : Nat) (hn : L.length = n) (h4 : n ≤ 4000) (A C : Option Addr) (ca cc : Nat) (W : World) (h1 : Bs W W.heap.size A L) (h2 : Bs W W.heap.size C L) :
    Calls Try.prog 36 #[.slice A n ca, .slice C n cc] W (Gives (.bool true) W) := by
  subst hn
  have h := sliceEq_any L L A C ca cc W.heap.size W (Nat.le_refl _) (by omega) h1 h2
  rw [decide_eq_true rfl] at h
  exact h
theorem sumLit (L : List UInt8) (n : Nat) (hn : L.length = n) (h4 : n ≤ 4000) (A : Option Addr) (ca : Nat) (s : Nat) (hs : Sp.updS 0 L = s) (W : World) (h1 : Bs W W.heap.size A L) :
    Calls Try.prog 32 #[.slice A n ca] W (fun e w' => e = .returned (.int .u32 (s : Int)) ∧ W = w') := by
  subst hn
  have h := sum_any L A ca (by omega) W.heap.size W (Nat.le_refl _) h1
  rw [hs] at h
  exact h
theorem leaf (w : World) (P : Nat → Prop) (d : Nat) (k n : Int) (s : ByteArray) (hk : -9223372036854775808 ≤ k ∧ k ≤ 9223372036854775807) (hn : -9223372036854775808 ≤ n ∧ n ≤ 9223372036854775807) (hs : s.size ≤ 140737488355328) :
    Lies w P (d + 1) (((k, n, s.data.toList, []) : Int × Int × List UInt8 × List (Sp.Tr d)) : Sp.Tr (d + 1)) (.agg #[.int .i64 k, .int .i64 n, .string s, .slice none 0 0]) :=
  ⟨s, none, 0, rfl, rfl, ⟨hk, hn, hs, by simp, by simp⟩, fun h0 => absurd h0 (by simp)⟩
set_option maxHeartbeats 1000000 in
theorem example_any (w : World) :
    Calls Try.prog 37 #[] w fun e w' => ∃ v, e = .returned v ∧ Lies w' (fun b => w.heap.size ≤ b) 2 exT v ∧ Below w.heap.size w w' := by
  go_enter Try.func37, Try.ntmps37
  go_wp2_with fail
  have hz : w.heap.size < w.heap.size + 1 := by omega
  refine bodyPost_ret (v := .agg #[.int .i64 3, .int .i64 0, .string ⟨#[]⟩, .slice (some ⟨w.heap.size + 1, 0, none⟩) 2 2]) (by simp [results, Try.results37, go_sem, hz]) rfl ?_
  refine ⟨_, rfl, ?_, by repeat' (first | (with_reducible exact Below.refl _ _) | (with_reducible refine Below.alloc ?_ ?_ _) | (with_reducible refine Below.setCell ?_ ?_ _) | (with_reducible refine Below.drew ?_) | (with_reducible refine below_dn ?_ _) | (with_reducible refine Below.trans ?_ (Below.mono (by assumption) ?_)) | (simp; done) | (simp; omega) | omega)⟩
  refine ⟨⟨#[]⟩, some ⟨w.heap.size + 1, 0, none⟩, 2, rfl, rfl, ⟨⟨by decide, by decide⟩, ⟨by decide, by decide⟩, by decide, by decide, by decide⟩, fun _ => ⟨w.heap.size + 1, 0, rfl, by omega, fun j hj => ?_⟩⟩
  have hj2 : j < 2 := hj
  have h01 : j = 0 ∨ j = 1 := by omega
  rcases h01 with rfl | rfl
  · exact ⟨.int .i64 1, .int .i64 5, .string ⟨#[]⟩, .slice none 0 0, by simp [go_sem], by simp [go_sem], by simp [go_sem], by simp [go_sem], leaf _ _ 0 1 5 ⟨#[]⟩ (by decide) (by decide) (by decide)⟩
  · exact ⟨.int .i64 2, .int .i64 0, .string ⟨#[97, 98]⟩, .slice none 0 0, by simp [go_sem], by simp [go_sem], by simp [go_sem], by simp [go_sem], leaf _ _ 0 2 0 ⟨#[97, 98]⟩ (by decide) (by decide) (by decide)⟩
theorem Lies.kc {w w' : World} (hk : KC w w') {P : Nat → Prop} : ∀ {d : Nat} {t : Sp.Tr d} {v : Value}, Lies w P d t v → Lies w' P d t v
  | 0, t, v, h => h
  | d + 1, t, v, h => by
    obtain ⟨s, A, cap, hv, hs, hb, hel⟩ := h
    refine ⟨s, A, cap, hv, hs, hb, fun h0 => ?_⟩
    obtain ⟨b, off, hA, hP, hc⟩ := hel h0
    refine ⟨b, off, hA, hP, fun j hj => ?_⟩
    obtain ⟨c0, c1, c2, c3, h1, h2, h3, h4, h5⟩ := hc j hj
    exact ⟨c0, c1, c2, c3, hk.cell _ _ h1, hk.cell _ _ h2, hk.cell _ _ h3, hk.cell _ _ h4, h5.kc hk⟩
theorem shape_alloc_new (w : World) (c : Array Value) (t : TypeId) : (w.alloc (.cells c t)).shape? w.heap.size = some (t, c.size) := by
  unfold World.shape?
  rw [heap_alloc_new]
theorem conv_at {w : World} {t e : TypeId} {g n c m : Nat} (ht : Try.prog.underlying t = some (.slice e)) (he : Try.prog.underlying e = some (.int .u8)) (hs : w.shape? g = some (e, m)) :
    (convert t t (.slice (some ⟨g, 0, none⟩) n c)).run Try.prog w = .ok (.slice (some ⟨g, 0, none⟩) n c) (w.freeze ⟨g, m, none⟩ 1) := by
  simp [convert, run_underlying ht, run_underlying he, markStringish, hs]
set_option maxRecDepth 100000 in
set_option maxHeartbeats 4000000 in
theorem awake_any (w : World) : Calls Try.prog 11 #[] w (Gives (.bool true) w) := by
  go_enter Try.func11, Try.ntmps11
  go_wp2_with fail
  refine (example_any _).mono ?_
  rintro _ u1 ⟨v1, rfl, hL1, hb1⟩
  have HL1 := hid hL1
  have B1 := hid (show Below w.heap.size w u1 by repeat' (first | (with_reducible exact Below.refl _ _) | (with_reducible refine Below.alloc ?_ ?_ _) | (with_reducible refine Below.setCell ?_ ?_ _) | (with_reducible refine Below.drew ?_) | (with_reducible refine below_dn ?_ _) | (with_reducible refine Below.trans ?_ (Below.mono (by assumption) ?_)) | (simp; done) | (simp; omega) | omega))
  clear hb1 hL1
  go_wp2_with fail
  refine (encode_good 2 exT v1 ex_check _ (HL1.out.lift (Below.refl _ _))).mono ?_
  rintro _ u2 ⟨v2, rfl, how, hb2⟩
  rw [ex_enc] at how
  have B2 := hid (B1.out.trans (hb2.mono B1.out.size))
  have HO := hid how
  obtain ⟨A2, cap2, rfl, hcap2, hbs2⟩ := how.form
  have S2 := hid hbs2
  clear hb2 how hbs2
  go_wp2_with fail
  refine (decode_any exL A2 cap2 hcap2 _ S2.out).mono ?_
  rintro _ u3 ⟨hb3, h3⟩
  rw [ex_dec] at h3
  obtain ⟨v3, rfl, hL3⟩ := h3
  obtain ⟨k, n, z, A, m, cap, rfl⟩ := hL3.form
  have B3 := hid (B2.out.trans (hb3.mono B2.out.size))
  have S3 := hid (S2.out.below hb3)
  have z23 := hid hb3.size
  have L3 := hid hL3
  clear hb3 hL3
  go_wp2_with fail
  refine (getLit _ _ (by simp) [128, 0] 2 rfl (by decide) _ rfl 3 ex_form).mono ?_
  rintro _ _ ⟨rfl, rfl⟩
  go_wp2_with fail
  refine (getLit _ _ (by simp) [128] 1 rfl (by decide) _ rfl 17 ex_torn).mono ?_
  rintro _ _ ⟨rfl, rfl⟩
  go_wp2_with fail
  obtain ⟨u4, hu4⟩ : ∃ u : World, ((u3.alloc (Obj.cells #[.int .i64 k, .int .i64 n, .string z, .slice A m cap] 34)).alloc (.cells (byt [128, 0]).toArray 5)).alloc (.cells (byt [128]).toArray 5) = u := ⟨_, rfl⟩
  have b34 : Below u3.heap.size u3 u4 := by rw [← hu4]; repeat' (first | (with_reducible exact Below.refl _ _) | (with_reducible refine Below.alloc ?_ ?_ _) | (with_reducible refine Below.setCell ?_ ?_ _) | (with_reducible refine Below.drew ?_) | (with_reducible refine below_dn ?_ _) | (with_reducible refine Below.trans ?_ (Below.mono (by assumption) ?_)) | (simp; done) | (simp; omega) | omega)
  have z34 : u3.heap.size < u4.heap.size := by rw [← hu4]; simp; omega
  have x0 : u4.cell? ⟨u3.heap.size, 0, none⟩ = some (.int .i64 k) := by rw [← hu4]; simp [go_sem]
  have x1 : u4.cell? ⟨u3.heap.size, 1, none⟩ = some (.int .i64 n) := by rw [← hu4]; simp [go_sem]
  have x2 : u4.cell? ⟨u3.heap.size, 2, none⟩ = some (.string z) := by rw [← hu4]; simp [go_sem]
  have x3 : u4.cell? ⟨u3.heap.size, 3, none⟩ = some (.slice A m cap) := by rw [← hu4]; simp [go_sem]
  have B4 := hid (B3.out.trans (b34.mono B3.out.size))
  have S4 := hid ((S3.out.own).below b34)
  have L4 := hid (L3.out.below b34)
  rw [hu4]
  clear hu4 b34 B3 S3 L3 S2 HO B2 B1 HL1 z23
  refine region_inv (by kernel_rfl) [SP.eq (.int .i64 0), SP.eq (.bool true), SP.eq (.bool true), SP.eq (.int .i64 0), SP.eq (.bool true), SP.eq (.bool true), SP.eq (.bool true), SP.eq (.slice A2 exL.length cap2), ⟨fun v w => ∃ g, v = .slice (some ⟨g, 0, none⟩) 8 8 ∧ Bs w w.heap.size (some ⟨g, 0, none⟩) exL, fun v w w3 ⟨g, h1, h2⟩ hk => ⟨g, h1, h2.kc hk⟩⟩, SP.eq (.bool true), SP.eq (.bool true), SP.eq (.bool true), SP.eq (.agg #[.int .i64 k, .int .i64 n, .string z, .slice A m cap]), ⟨fun v w => Lies w (fun _ => True) 2 exT v, fun v w w3 h hk => h.kc hk⟩, SP.eq (.bool true), SP.eq (.bool true), SP.eq (.bool true), SP.eq (.int .i64 3), SP.eq (.bool true), SP.eq (.bool true), SP.eq (.bool true), SP.eq (.int .i64 17), SP.eq (.bool true), SP.eq (.bool true), SP.eq (.bool true), ⟨fun v w => ∃ A c, v = .slice A 2 c ∧ Bs w w.heap.size A [129, 1], fun v w w3 ⟨A, c, h1, h2⟩ hk => ⟨A, c, h1, h2.kc hk⟩⟩, ⟨fun v w => ∃ g, v = .slice (some ⟨g, 0, none⟩) 2 2 ∧ Bs w w.heap.size (some ⟨g, 0, none⟩) [129, 1], fun v w w3 ⟨g, h1, h2⟩ hk => ⟨g, h1, h2.kc hk⟩⟩, SP.eq (.bool true), SP.eq (.bool true), SP.eq (.bool true), ⟨fun v w => ∃ g, v = .slice (some ⟨g, 0, none⟩) 9 9 ∧ u4.heap.size ≤ g ∧ w.shape? g = some (5, 9) ∧ Bs w w.heap.size (some ⟨g, 0, none⟩) [49, 50, 51, 52, 53, 54, 55, 56, 57], fun v w w3 ⟨g, h1, h3, h4, h2⟩ hk => ⟨g, h1, h3, hk.shape _ _ h4, h2.kc hk⟩⟩, ⟨fun v w => ∃ g, v = .slice (some ⟨g, 0, none⟩) 9 9 ∧ Bs w w.heap.size (some ⟨g, 0, none⟩) [49, 50, 51, 52, 53, 54, 55, 56, 57], fun v w w3 ⟨g, h1, h2⟩ hk => ⟨g, h1, h2.kc hk⟩⟩, SP.eq (.int .u32 3421780262), SP.eq (.bool true), SP.eq (.bool true), SP.eq (.bool true), SP.eq (.int .u32 0), SP.eq (.bool true), SP.eq (.bool true), SP.eq (.bool true)] (by kernel_rfl) ?_ ?_
  · intro i hi a w2 FR DP BW
    have hc : i = 0 ∨ i = 1 ∨ i = 2 ∨ i = 3 ∨ i = 4 ∨ i = 5 ∨ i = 6 ∨ i = 7 ∨ i = 8 ∨ i = 9 ∨ i = 10 ∨ i = 11 ∨ i = 12 ∨ i = 13 ∨ i = 14 ∨ i = 15 ∨ i = 16 ∨ i = 17 ∨ i = 18 ∨ i = 19 ∨ i = 20 ∨ i = 21 ∨ i = 22 ∨ i = 23 ∨ i = 24 ∨ i = 25 ∨ i = 26 ∨ i = 27 ∨ i = 28 ∨ i = 29 ∨ i = 30 ∨ i = 31 ∨ i = 32 ∨ i = 33 ∨ i = 34 ∨ i = 35 ∨ i = 36 ∨ i = 37 ∨ i = 38 ∨ i = 39 := by
      have hi2 : i < 40 := hi
      omega
    clear hi
    rcases hc with rfl | rfl | rfl | rfl | rfl | rfl | rfl | rfl | rfl | rfl | rfl | rfl | rfl | rfl | rfl | rfl | rfl | rfl | rfl | rfl | rfl | rfl | rfl | rfl | rfl | rfl | rfl | rfl | rfl | rfl | rfl | rfl | rfl | rfl | rfl | rfl | rfl | rfl | rfl | rfl
    · -- 0: Op.move (Operand.tmp 2)
      have g2 : a.tmps[2]? = some _ := (FR 2 (by kernel_rfl)).trans rfl
      refine wpOp_run rfl (wanted_none rfl) fun K2 hK => ?_
      clear FR DP
      go_simp
      exact hK _ _ ⟨_, 33, rfl, rfl, KR.refl _ _, rfl⟩
    · -- 1: Op.binOp BinOp.eql 3 (Operand.tmp 33) (Operand.const (Value.int IntKin
      obtain ⟨_, g33, rfl⟩ := DP 0 33 (by kernel_rfl) (by kernel_rfl)
      refine wpOp_run rfl (wanted_none rfl) fun K2 hK => ?_
      clear FR DP
      go_simp
      exact hK _ _ ⟨_, 34, rfl, rfl, KR.refl _ _, rfl⟩
    · -- 2: Op.move (Operand.tmp 34)
      obtain ⟨_, g34, rfl⟩ := DP 1 34 (by kernel_rfl) (by kernel_rfl)
      refine wpOp_run rfl (wanted_none rfl) fun K2 hK => ?_
      clear FR DP
      go_simp
      exact hK _ _ ⟨_, 35, rfl, rfl, KR.refl _ _, rfl⟩
    · -- 3: Op.move (Operand.tmp 4)
      obtain ⟨_, g35, rfl⟩ := DP 2 35 (by kernel_rfl) (by kernel_rfl)
      have g4 : a.tmps[4]? = some _ := (FR 4 (by kernel_rfl)).trans rfl
      refine wpOp_run rfl (wanted_true rfl (by kernel_rfl) g35) fun K2 hK => ?_
      clear FR DP
      go_simp
      exact hK _ _ ⟨_, 36, rfl, rfl, KR.refl _ _, rfl⟩
    · -- 4: Op.binOp BinOp.eql 3 (Operand.tmp 36) (Operand.const (Value.int IntKin
      obtain ⟨_, g35, rfl⟩ := DP 2 35 (by kernel_rfl) (by kernel_rfl)
      obtain ⟨_, g36, rfl⟩ := DP 3 36 (by kernel_rfl) (by kernel_rfl)
      refine wpOp_run rfl (wanted_true rfl (by kernel_rfl) g35) fun K2 hK => ?_
      clear FR DP
      go_simp
      exact hK _ _ ⟨_, 37, rfl, rfl, KR.refl _ _, rfl⟩
    · -- 5: Op.pick (Operand.tmp 35) (Operand.tmp 37) (Operand.const (Value.bool f
      obtain ⟨_, g35, rfl⟩ := DP 2 35 (by kernel_rfl) (by kernel_rfl)
      obtain ⟨_, g37, rfl⟩ := DP 4 37 (by kernel_rfl) (by kernel_rfl)
      refine wpOp_run rfl (wanted_none rfl) fun K2 hK => ?_
      clear FR DP
      go_simp
      exact hK _ _ ⟨_, 38, rfl, rfl, KR.refl _ _, rfl⟩
    · -- 6: Op.move (Operand.tmp 38)
      obtain ⟨_, g38, rfl⟩ := DP 5 38 (by kernel_rfl) (by kernel_rfl)
      refine wpOp_run rfl (wanted_none rfl) fun K2 hK => ?_
      clear FR DP
      go_simp
      exact hK _ _ ⟨_, 39, rfl, rfl, KR.refl _ _, rfl⟩
    · -- 7: Op.move (Operand.tmp 1)
      obtain ⟨_, g39, rfl⟩ := DP 6 39 (by kernel_rfl) (by kernel_rfl)
      have g1 : a.tmps[1]? = some _ := (FR 1 (by kernel_rfl)).trans rfl
      refine wpOp_run rfl (wanted_true rfl (by kernel_rfl) g39) fun K2 hK => ?_
      clear FR DP
      go_simp
      exact hK _ _ ⟨_, 40, rfl, rfl, KR.refl _ _, rfl⟩
    · -- 8: Op.buildSlice 22 8 #[(0, Operand.const (Value.int IntKind.u8 3)), (1, 
      obtain ⟨_, g39, rfl⟩ := DP 6 39 (by kernel_rfl) (by kernel_rfl)
      refine wpOp_run rfl (wanted_true rfl (by kernel_rfl) g39) fun K2 hK => ?_
      clear FR DP
      go_simp
      exact hK _ _ ⟨_, 41, rfl, rfl, KR.of BW.size ((Below.refl _ _).alloc (Nat.le_refl _) _), _, rfl, lit_h (heap_alloc_new _ _) exL rfl⟩
    · -- 9: Op.call { callee := Callee.value (Operand.func 36), args := #[Operand.
      obtain ⟨_, g39, rfl⟩ := DP 6 39 (by kernel_rfl) (by kernel_rfl)
      obtain ⟨_, g40, rfl⟩ := DP 7 40 (by kernel_rfl) (by kernel_rfl)
      obtain ⟨v41, g41, p41⟩ := DP 8 41 (by kernel_rfl) (by kernel_rfl)
      obtain ⟨b41, e41, s41⟩ := p41
      cases e41
      refine wpOp_run rfl (wanted_true rfl (by kernel_rfl) g39) fun K2 hK => ?_
      clear FR DP
      go_simp
      refine (eqLit exL 8 rfl (by decide) A2 (some ⟨b41, 0, none⟩) cap2 8 w2 (S4.out.own.below BW).own s41).mono ?_
      rintro _ w3 ⟨rfl, hb3⟩
      exact hK _ _ ⟨_, 42, rfl, rfl, KR.of BW.size hb3, rfl⟩
    · -- 10: Op.pick (Operand.tmp 39) (Operand.tmp 42) (Operand.const (Value.bool f
      obtain ⟨_, g39, rfl⟩ := DP 6 39 (by kernel_rfl) (by kernel_rfl)
      obtain ⟨_, g42, rfl⟩ := DP 9 42 (by kernel_rfl) (by kernel_rfl)
      refine wpOp_run rfl (wanted_none rfl) fun K2 hK => ?_
      clear FR DP
      go_simp
      exact hK _ _ ⟨_, 43, rfl, rfl, KR.refl _ _, rfl⟩
    · -- 11: Op.move (Operand.tmp 43)
      obtain ⟨_, g43, rfl⟩ := DP 10 43 (by kernel_rfl) (by kernel_rfl)
      refine wpOp_run rfl (wanted_none rfl) fun K2 hK => ?_
      clear FR DP
      go_simp
      exact hK _ _ ⟨_, 44, rfl, rfl, KR.refl _ _, rfl⟩
    · -- 12: Op.load 34 (Operand.tmp 3)
      obtain ⟨_, g44, rfl⟩ := DP 11 44 (by kernel_rfl) (by kernel_rfl)
      have g3 : a.tmps[3]? = some _ := (FR 3 (by kernel_rfl)).trans rfl
      have X0 := (BW.cell (p := ⟨u3.heap.size, 0, none⟩) z34).trans x0
      have X1 := (BW.cell (p := ⟨u3.heap.size, 1, none⟩) z34).trans x1
      have X2 := (BW.cell (p := ⟨u3.heap.size, 2, none⟩) z34).trans x2
      have X3 := (BW.cell (p := ⟨u3.heap.size, 3, none⟩) z34).trans x3
      refine wpOp_run rfl (wanted_true rfl (by kernel_rfl) g44) fun K2 hK => ?_
      clear FR DP
      go_simp
      exact hK _ _ ⟨_, 45, rfl, rfl, KR.refl _ _, rfl⟩
    · -- 13: Op.call { callee := Callee.value (Operand.func 37), args := #[], argTy
      obtain ⟨_, g44, rfl⟩ := DP 11 44 (by kernel_rfl) (by kernel_rfl)
      refine wpOp_run rfl (wanted_true rfl (by kernel_rfl) g44) fun K2 hK => ?_
      clear FR DP
      go_simp
      refine (example_any _).mono ?_
      rintro _ w3 ⟨v3, rfl, hl3, hb3⟩
      exact hK _ _ ⟨_, 46, rfl, rfl, KR.of BW.size hb3, hl3.weak fun _ _ _ => trivial⟩
    · -- 14: Op.call { callee := Callee.value (Operand.func 30), args := #[Operand.
      obtain ⟨_, g44, rfl⟩ := DP 11 44 (by kernel_rfl) (by kernel_rfl)
      obtain ⟨_, g45, rfl⟩ := DP 12 45 (by kernel_rfl) (by kernel_rfl)
      obtain ⟨v46, g46, p46⟩ := DP 13 46 (by kernel_rfl) (by kernel_rfl)
      refine wpOp_run rfl (wanted_true rfl (by kernel_rfl) g44) fun K2 hK => ?_
      clear FR DP
      go_simp
      refine (equal_any 8 2 exD exT _ _ w2 (L4.out.below BW) p46).mono ?_
      rintro _ w3 ⟨rfl, hb3⟩
      rw [ex_eq]
      exact hK _ _ ⟨_, 47, rfl, rfl, KR.of BW.size hb3, rfl⟩
    · -- 15: Op.pick (Operand.tmp 44) (Operand.tmp 47) (Operand.const (Value.bool f
      obtain ⟨_, g44, rfl⟩ := DP 11 44 (by kernel_rfl) (by kernel_rfl)
      obtain ⟨_, g47, rfl⟩ := DP 14 47 (by kernel_rfl) (by kernel_rfl)
      refine wpOp_run rfl (wanted_none rfl) fun K2 hK => ?_
      clear FR DP
      go_simp
      exact hK _ _ ⟨_, 48, rfl, rfl, KR.refl _ _, rfl⟩
    · -- 16: Op.move (Operand.tmp 48)
      obtain ⟨_, g48, rfl⟩ := DP 15 48 (by kernel_rfl) (by kernel_rfl)
      refine wpOp_run rfl (wanted_none rfl) fun K2 hK => ?_
      clear FR DP
      go_simp
      exact hK _ _ ⟨_, 49, rfl, rfl, KR.refl _ _, rfl⟩
    · -- 17: Op.move (Operand.tmp 7)
      obtain ⟨_, g49, rfl⟩ := DP 16 49 (by kernel_rfl) (by kernel_rfl)
      have g7 : a.tmps[7]? = some _ := (FR 7 (by kernel_rfl)).trans rfl
      refine wpOp_run rfl (wanted_true rfl (by kernel_rfl) g49) fun K2 hK => ?_
      clear FR DP
      go_simp
      exact hK _ _ ⟨_, 50, rfl, rfl, KR.refl _ _, rfl⟩
    · -- 18: Op.binOp BinOp.eql 3 (Operand.tmp 50) (Operand.const (Value.int IntKin
      obtain ⟨_, g49, rfl⟩ := DP 16 49 (by kernel_rfl) (by kernel_rfl)
      obtain ⟨_, g50, rfl⟩ := DP 17 50 (by kernel_rfl) (by kernel_rfl)
      refine wpOp_run rfl (wanted_true rfl (by kernel_rfl) g49) fun K2 hK => ?_
      clear FR DP
      go_simp
      exact hK _ _ ⟨_, 51, rfl, rfl, KR.refl _ _, rfl⟩
    · -- 19: Op.pick (Operand.tmp 49) (Operand.tmp 51) (Operand.const (Value.bool f
      obtain ⟨_, g49, rfl⟩ := DP 16 49 (by kernel_rfl) (by kernel_rfl)
      obtain ⟨_, g51, rfl⟩ := DP 18 51 (by kernel_rfl) (by kernel_rfl)
      refine wpOp_run rfl (wanted_none rfl) fun K2 hK => ?_
      clear FR DP
      go_simp
      exact hK _ _ ⟨_, 52, rfl, rfl, KR.refl _ _, rfl⟩
    · -- 20: Op.move (Operand.tmp 52)
      obtain ⟨_, g52, rfl⟩ := DP 19 52 (by kernel_rfl) (by kernel_rfl)
      refine wpOp_run rfl (wanted_none rfl) fun K2 hK => ?_
      clear FR DP
      go_simp
      exact hK _ _ ⟨_, 53, rfl, rfl, KR.refl _ _, rfl⟩
    · -- 21: Op.move (Operand.tmp 10)
      obtain ⟨_, g53, rfl⟩ := DP 20 53 (by kernel_rfl) (by kernel_rfl)
      have g10 : a.tmps[10]? = some _ := (FR 10 (by kernel_rfl)).trans rfl
      refine wpOp_run rfl (wanted_true rfl (by kernel_rfl) g53) fun K2 hK => ?_
      clear FR DP
      go_simp
      exact hK _ _ ⟨_, 54, rfl, rfl, KR.refl _ _, rfl⟩
    · -- 22: Op.binOp BinOp.eql 3 (Operand.tmp 54) (Operand.const (Value.int IntKin
      obtain ⟨_, g53, rfl⟩ := DP 20 53 (by kernel_rfl) (by kernel_rfl)
      obtain ⟨_, g54, rfl⟩ := DP 21 54 (by kernel_rfl) (by kernel_rfl)
      refine wpOp_run rfl (wanted_true rfl (by kernel_rfl) g53) fun K2 hK => ?_
      clear FR DP
      go_simp
      exact hK _ _ ⟨_, 55, rfl, rfl, KR.refl _ _, rfl⟩
    · -- 23: Op.pick (Operand.tmp 53) (Operand.tmp 55) (Operand.const (Value.bool f
      obtain ⟨_, g53, rfl⟩ := DP 20 53 (by kernel_rfl) (by kernel_rfl)
      obtain ⟨_, g55, rfl⟩ := DP 22 55 (by kernel_rfl) (by kernel_rfl)
      refine wpOp_run rfl (wanted_none rfl) fun K2 hK => ?_
      clear FR DP
      go_simp
      exact hK _ _ ⟨_, 56, rfl, rfl, KR.refl _ _, rfl⟩
    · -- 24: Op.move (Operand.tmp 56)
      obtain ⟨_, g56, rfl⟩ := DP 23 56 (by kernel_rfl) (by kernel_rfl)
      refine wpOp_run rfl (wanted_none rfl) fun K2 hK => ?_
      clear FR DP
      go_simp
      exact hK _ _ ⟨_, 57, rfl, rfl, KR.refl _ _, rfl⟩
    · -- 25: Op.call { callee := Callee.value (Operand.func 17), args := #[Operand.
      obtain ⟨_, g57, rfl⟩ := DP 24 57 (by kernel_rfl) (by kernel_rfl)
      refine wpOp_run rfl (wanted_true rfl (by kernel_rfl) g57) fun K2 hK => ?_
      clear FR DP
      go_simp
      refine (putInt_any (-65) (by decide) (by decide) _).mono ?_
      rintro _ w3 ⟨v3, rfl, how, hb3⟩
      rw [ex_put] at how
      obtain ⟨A3, c3, rfl, hc3, hs3⟩ := how.form
      exact hK _ _ ⟨_, 58, rfl, rfl, KR.of BW.size hb3, A3, c3, rfl, hs3⟩
    · -- 26: Op.buildSlice 22 2 #[(0, Operand.const (Value.int IntKind.u8 129)), (1
      obtain ⟨_, g57, rfl⟩ := DP 24 57 (by kernel_rfl) (by kernel_rfl)
      refine wpOp_run rfl (wanted_true rfl (by kernel_rfl) g57) fun K2 hK => ?_
      clear FR DP
      go_simp
      exact hK _ _ ⟨_, 59, rfl, rfl, KR.of BW.size ((Below.refl _ _).alloc (Nat.le_refl _) _), _, rfl, lit_h (heap_alloc_new _ _) [129, 1] rfl⟩
    · -- 27: Op.call { callee := Callee.value (Operand.func 36), args := #[Operand.
      obtain ⟨_, g57, rfl⟩ := DP 24 57 (by kernel_rfl) (by kernel_rfl)
      obtain ⟨v58, g58, p58⟩ := DP 25 58 (by kernel_rfl) (by kernel_rfl)
      obtain ⟨A58, c58, e58, s58⟩ := p58
      cases e58
      obtain ⟨v59, g59, p59⟩ := DP 26 59 (by kernel_rfl) (by kernel_rfl)
      obtain ⟨b59, e59, s59⟩ := p59
      cases e59
      refine wpOp_run rfl (wanted_true rfl (by kernel_rfl) g57) fun K2 hK => ?_
      clear FR DP
      go_simp
      refine (eqLit [129, 1] 2 rfl (by decide) A58 (some ⟨b59, 0, none⟩) c58 2 w2 s58 s59).mono ?_
      rintro _ w3 ⟨rfl, hb3⟩
      exact hK _ _ ⟨_, 60, rfl, rfl, KR.of BW.size hb3, rfl⟩
    · -- 28: Op.pick (Operand.tmp 57) (Operand.tmp 60) (Operand.const (Value.bool f
      obtain ⟨_, g57, rfl⟩ := DP 24 57 (by kernel_rfl) (by kernel_rfl)
      obtain ⟨_, g60, rfl⟩ := DP 27 60 (by kernel_rfl) (by kernel_rfl)
      refine wpOp_run rfl (wanted_none rfl) fun K2 hK => ?_
      clear FR DP
      go_simp
      exact hK _ _ ⟨_, 61, rfl, rfl, KR.refl _ _, rfl⟩
    · -- 29: Op.move (Operand.tmp 61)
      obtain ⟨_, g61, rfl⟩ := DP 28 61 (by kernel_rfl) (by kernel_rfl)
      refine wpOp_run rfl (wanted_none rfl) fun K2 hK => ?_
      clear FR DP
      go_simp
      exact hK _ _ ⟨_, 62, rfl, rfl, KR.refl _ _, rfl⟩
    · -- 30: Op.buildSlice 22 9 #[(0, Operand.const (Value.int IntKind.u8 49)), (1,
      obtain ⟨_, g62, rfl⟩ := DP 29 62 (by kernel_rfl) (by kernel_rfl)
      refine wpOp_run rfl (wanted_true rfl (by kernel_rfl) g62) fun K2 hK => ?_
      clear FR DP
      go_simp
      exact hK _ _ ⟨_, 63, rfl, rfl, KR.of BW.size ((Below.refl _ _).alloc (Nat.le_refl _) _), _, rfl, BW.size, shape_alloc_new _ _ _, lit_h (heap_alloc_new _ _) [49, 50, 51, 52, 53, 54, 55, 56, 57] rfl⟩
    · -- 31: Op.convert 22 22 (Operand.tmp 63)
      obtain ⟨_, g62, rfl⟩ := DP 29 62 (by kernel_rfl) (by kernel_rfl)
      obtain ⟨v63, g63, p63⟩ := DP 30 63 (by kernel_rfl) (by kernel_rfl)
      obtain ⟨b63, e63, z63, y63, s63⟩ := p63
      cases e63
      refine wpOp_run rfl (wanted_true rfl (by kernel_rfl) g62) fun K2 hK => ?_
      clear FR DP
      go_simp
      rw [conv_at rfl rfl y63]
      exact hK _ _ ⟨_, 64, rfl, rfl, KR.freeze _ _ _ z63, _, rfl, s63.kc (KR.freeze (B := 0) _ _ _ (Nat.zero_le _)).k⟩
    · -- 32: Op.call { callee := Callee.value (Operand.func 32), args := #[Operand.
      obtain ⟨_, g62, rfl⟩ := DP 29 62 (by kernel_rfl) (by kernel_rfl)
      obtain ⟨v64, g64, p64⟩ := DP 31 64 (by kernel_rfl) (by kernel_rfl)
      obtain ⟨b64, e64, s64⟩ := p64
      cases e64
      refine wpOp_run rfl (wanted_true rfl (by kernel_rfl) g62) fun K2 hK => ?_
      clear FR DP
      go_simp
      refine (sumLit [49, 50, 51, 52, 53, 54, 55, 56, 57] 9 rfl (by decide) (some ⟨b64, 0, none⟩) 9 3421780262 ex_sum w2 s64).mono ?_
      rintro _ w3 ⟨rfl, rfl⟩
      exact hK _ _ ⟨_, 65, rfl, rfl, KR.refl _ _, rfl⟩
    · -- 33: Op.binOp BinOp.eql 43 (Operand.tmp 65) (Operand.const (Value.int IntKi
      obtain ⟨_, g62, rfl⟩ := DP 29 62 (by kernel_rfl) (by kernel_rfl)
      obtain ⟨_, g65, rfl⟩ := DP 32 65 (by kernel_rfl) (by kernel_rfl)
      refine wpOp_run rfl (wanted_true rfl (by kernel_rfl) g62) fun K2 hK => ?_
      clear FR DP
      go_simp
      exact hK _ _ ⟨_, 66, rfl, rfl, KR.refl _ _, rfl⟩
    · -- 34: Op.pick (Operand.tmp 62) (Operand.tmp 66) (Operand.const (Value.bool f
      obtain ⟨_, g62, rfl⟩ := DP 29 62 (by kernel_rfl) (by kernel_rfl)
      obtain ⟨_, g66, rfl⟩ := DP 33 66 (by kernel_rfl) (by kernel_rfl)
      refine wpOp_run rfl (wanted_none rfl) fun K2 hK => ?_
      clear FR DP
      go_simp
      exact hK _ _ ⟨_, 67, rfl, rfl, KR.refl _ _, rfl⟩
    · -- 35: Op.move (Operand.tmp 67)
      obtain ⟨_, g67, rfl⟩ := DP 34 67 (by kernel_rfl) (by kernel_rfl)
      refine wpOp_run rfl (wanted_none rfl) fun K2 hK => ?_
      clear FR DP
      go_simp
      exact hK _ _ ⟨_, 68, rfl, rfl, KR.refl _ _, rfl⟩
    · -- 36: Op.call { callee := Callee.value (Operand.func 32), args := #[Operand.
      obtain ⟨_, g68, rfl⟩ := DP 35 68 (by kernel_rfl) (by kernel_rfl)
      refine wpOp_run rfl (wanted_true rfl (by kernel_rfl) g68) fun K2 hK => ?_
      clear FR DP
      go_simp
      refine (sumLit [] 0 rfl (by decide) none 0 0 ex_none w2 ⟨fun h => absurd h (by decide)⟩).mono ?_
      rintro _ w3 ⟨rfl, rfl⟩
      exact hK _ _ ⟨_, 69, rfl, rfl, KR.refl _ _, rfl⟩
    · -- 37: Op.binOp BinOp.eql 43 (Operand.tmp 69) (Operand.const (Value.int IntKi
      obtain ⟨_, g68, rfl⟩ := DP 35 68 (by kernel_rfl) (by kernel_rfl)
      obtain ⟨_, g69, rfl⟩ := DP 36 69 (by kernel_rfl) (by kernel_rfl)
      refine wpOp_run rfl (wanted_true rfl (by kernel_rfl) g68) fun K2 hK => ?_
      clear FR DP
      go_simp
      exact hK _ _ ⟨_, 70, rfl, rfl, KR.refl _ _, rfl⟩
    · -- 38: Op.pick (Operand.tmp 68) (Operand.tmp 70) (Operand.const (Value.bool f
      obtain ⟨_, g68, rfl⟩ := DP 35 68 (by kernel_rfl) (by kernel_rfl)
      obtain ⟨_, g70, rfl⟩ := DP 37 70 (by kernel_rfl) (by kernel_rfl)
      refine wpOp_run rfl (wanted_none rfl) fun K2 hK => ?_
      clear FR DP
      go_simp
      exact hK _ _ ⟨_, 71, rfl, rfl, KR.refl _ _, rfl⟩
    · -- 39: Op.assign (Operand.tmp 71)
      obtain ⟨_, g71, rfl⟩ := DP 38 71 (by kernel_rfl) (by kernel_rfl)
      refine wpOp_run rfl (wanted_none rfl) fun K2 hK => ?_
      clear FR DP
      go_simp
      exact hK _ _ ⟨_, 0, rfl, rfl, KR.refl _ _, rfl⟩
  · intro a w2 FR DP BW DF AZ
    obtain ⟨_, g0, rfl⟩ := DP 39 0 (by kernel_rfl)
    refine (by assumption : ∀ (a : Act) (w_1 : World), Code.wp Try.prog Code.ret (bodyPost Try.prog Try.f11 (Gives (Value.bool true) w)) a w_1 → _) _ _ ?_
    refine wp_ret (bodyPost_ret (fn := Try.f11) (v := .bool true) (by simp [results, Try.results11, g0]) DF ?_)
    exact Gives.mk rfl (B4.out.trans (BW.mono B4.out.size))

end Go.Proofs.Ytcjhgihkofmhgaa
