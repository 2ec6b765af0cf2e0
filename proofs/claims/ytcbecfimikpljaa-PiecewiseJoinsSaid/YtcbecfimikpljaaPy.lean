/-
  Layer 12: Eval, Increasing, Range of package piecewise, by contract.
-/
import Derived.Test.YtcbecfimikpljaaPx
import Derived.Test.YtcbecfimikpljaaPd
namespace Go.Proofs.Ytcbecfimikpljaa
open Go.RowKit
set_option linter.unusedVariables false
set_option linter.unusedSimpArgs false

theorem vals_one (l : List Sp.Pd) (x : Int) : Sp.valsL l x x = [((Sp.valL l x).1, (Sp.valL l x).2.1)] := by
  unfold Sp.valsL
  have e : (x - x + 1).toNat = 1 := by omega
  rw [e]
  rfl
set_option maxRecDepth 100000 in
set_option maxHeartbeats 1000000 in
theorem eval_any (A : Option Addr) (cap : Nat) (l : List Sp.Pd) (x lo hi e : Int) (w : World) (hz : PcSized l) (hT : Pcs w A l) (hv : Sp.evalS l x = (lo, hi, e)) :
    Calls Try.prog 12 #[.slice A l.length cap, .int .i64 x] w (Gives (.tuple #[.agg #[.int .i64 lo, .int .i64 hi], .int .i64 e]) w) := by
  obtain ⟨V, hV⟩ : ∃ V, w.alloc (Obj.cells #[.int .i64 0, .int .i64 0] 26) = V := ⟨_, rfl⟩
  have kV : Below w.heap.size w V := by rw [← hV]; exact (Below.refl _ _).alloc (Nat.le_refl _) _
  have zV : V.heap.size = w.heap.size + 1 := by rw [← hV]; simp
  have v0 : V.cell? ⟨w.heap.size, 0, none⟩ = some (.int .i64 0) := by rw [← hV]; simp [go_sem]
  have v1 : V.cell? ⟨w.heap.size, 1, none⟩ = some (.int .i64 0) := by rw [← hV]; simp [go_sem]
  have vf : ∀ o, V.frozen? ⟨w.heap.size, o, none⟩ = false := by intro o; rw [← hV]; simp [go_sem]
  have VS := hid (values_any A cap l x x V hz (hT.below kV))
  have HK := hid (fun (W : World) (h : Below V.heap.size V W) => (⟨kV.trans (h.mono kV.size), (h.cell (p := ⟨w.heap.size, 0, none⟩) (by simp only; omega)).trans v0, (h.cell (p := ⟨w.heap.size, 1, none⟩) (by simp only; omega)).trans v1, fun o => (h.frozen (p := ⟨w.heap.size, o, none⟩) (by simp only; omega)).trans (vf o), by have := h.size; omega⟩ : Below w.heap.size w W ∧ W.cell? ⟨w.heap.size, 0, none⟩ = some (.int .i64 0) ∧ W.cell? ⟨w.heap.size, 1, none⟩ = some (.int .i64 0) ∧ (∀ o, W.frozen? ⟨w.heap.size, o, none⟩ = false) ∧ w.heap.size < W.heap.size))
  have HV := hid hV
  have HE := hid hv
  clear hV kV zV v0 v1 vf hz hT hv
  go_enter Try.func12, Try.ntmps12
  go_upto_region 1 with fail
  rw [HV.out]
  go_wp2_with fail
  refine VS.out.mono ?_
  rintro _ w5 ⟨hb, ⟨hne, rfl⟩ | ⟨h0, A', cap', rfl, hF⟩⟩
  · obtain ⟨kw, k0, k1, kf, kz⟩ := HK.out _ hb
    have h := HE.out
    unfold Sp.evalS at h
    rw [if_pos hne] at h
    generalize Sp.valsE l x x = y at h hne
    have e3 : 0 = lo ∧ 0 = hi ∧ y = e := by simpa using h
    obtain ⟨rfl, rfl, rfl⟩ := e3
    have hn : (y == 0) = false := by simpa using hne
    have KW := hid kw
    clear hb kw h hne
    go_wp2_with fail
    refine bodyPost_ret (v := .tuple #[.agg #[.int .i64 0, .int .i64 0], .int .i64 y]) (by simp [results, Try.results12, go_sem, k0, k1]) rfl ?_
    exact Gives.mk rfl (by have hB := KW.out; repeat' (first | (with_reducible exact Below.refl _ _) | (with_reducible refine Below.alloc ?_ ?_ _) | (with_reducible refine Below.setCell ?_ ?_ _) | (with_reducible refine Below.drew ?_) | (with_reducible refine Below.trans ?_ (Below.mono (by assumption) ?_)) | (simp; done) | (simp; omega) | omega))
  · obtain ⟨kw, k0, k1, kf, kz⟩ := HK.out _ hb
    have h := HE.out
    unfold Sp.evalS at h
    rw [if_neg (fun z => z h0)] at h
    rw [vals_one] at hF ⊢
    generalize (Sp.valL l x).1 = n at h hF
    generalize (Sp.valL l x).2.1 = d at h hF
    have e3 : n = lo ∧ d = hi ∧ 0 = e := by simpa using h
    obtain ⟨rfl, rfl, rfl⟩ := e3
    obtain ⟨b, off, rfl, bl, q⟩ := hF (by simp)
    obtain ⟨q0, q1⟩ := q 0 (by simp)
    simp only [Nat.zero_mul, Nat.add_zero, List.getElem_cons_zero] at q0 q1
    have KW := hid kw
    simp only [List.length_cons, List.length_nil]
    clear hb kw h h0 q
    go_wp2_with fail
    refine bodyPost_ret (v := .tuple #[.agg #[.int .i64 n, .int .i64 d], .int .i64 0]) (by simp [results, Try.results12, go_sem, k0, k1]) rfl ?_
    exact Gives.mk rfl (by have hB := KW.out; repeat' (first | (with_reducible exact Below.refl _ _) | (with_reducible refine Below.alloc ?_ ?_ _) | (with_reducible refine Below.setCell ?_ ?_ _) | (with_reducible refine Below.drew ?_) | (with_reducible refine Below.trans ?_ (Below.mono (by assumption) ?_)) | (simp; done) | (simp; omega) | omega))

theorem cells_sized (l : List Sp.Pd) (a b : Int) (hc : Sp.pcheck l = 0) (a0 : 0 ≤ a) (b1 : b ≤ 3000) (he : Sp.valsE l a b = 0) : (∀ q ∈ Sp.valsL l a b, Sp.okQ q) ∧ (Sp.valsL l a b).length ≤ 4000 := by
  unfold Sp.valsE at he
  rw [if_neg (fun h => h hc)] at he
  by_cases g : a < Sp.least l ∨ Sp.great l < b ∨ b < a
  · rw [if_pos g] at he; omega
  · rw [if_neg g] at he
    have f := (Sp.fstE_zero _ _ _).mp he
    unfold Sp.valsL
    refine ⟨fun q hq => ?_, by rw [Sp.lstV_len]; omega⟩
    obtain ⟨i, hi, e⟩ := List.getElem_of_mem hq
    rw [Sp.lstV_get] at e
    have hi2 : i < (b - a + 1).toNat := by rw [Sp.lstV_len] at hi; exact hi
    have r := Sp.valL_res (l := l) (x := a + i) hc (by omega) (by omega)
    have f2 := f i hi2
    rcases r with h | h
    · rw [← e]; exact h.2
    · rw [h] at f2; simp at f2
theorem vals_bound (l : List Sp.Pd) (a b : Int) (he : Sp.valsE l a b = 0) : Sp.pcheck l = 0 ∧ Sp.least l ≤ a ∧ a ≤ b ∧ b ≤ Sp.great l ∧ Sp.fstE (Sp.valL l) (b - a + 1).toNat a = 0 := by
  unfold Sp.valsE at he
  by_cases hc : Sp.pcheck l = 0
  · rw [if_neg (fun h => h hc)] at he
    by_cases g : a < Sp.least l ∨ Sp.great l < b ∨ b < a
    · rw [if_pos g] at he; omega
    · rw [if_neg g] at he
      exact ⟨hc, by omega, by omega, by omega, he⟩
  · rw [if_pos hc] at he; exact absurd he hc
theorem fr_sized {l : List (Int × Int)} (h : ∀ q ∈ l, Sp.okQ q) (hl : l.length ≤ 4000) : FrSized l := ⟨by omega, fun q hq => Sp.okQ_bounds (h q hq)⟩
theorem vals_sized (l : List Sp.Pd) (a b : Int) (he : Sp.valsE l a b = 0) : FrSized (Sp.valsL l a b) ∧ 0 < (Sp.valsL l a b).length ∧ (∀ q ∈ Sp.valsL l a b, Sp.okQ q) := by
  obtain ⟨hc, h1, h2, h3, -⟩ := vals_bound l a b he
  have li := least_in hc
  obtain ⟨h4, h5⟩ := cells_sized l a b hc (by omega) (by omega) he
  exact ⟨fr_sized h4 h5, by unfold Sp.valsL; rw [Sp.lstV_len]; omega, h4⟩
/-- What Increasing answers. -/
def IncIs (l : List Sp.Pd) (B : Bool) (E : Int) : Prop := E = Sp.valsE l (Sp.least l) (Sp.great l) ∧ (E ≠ 0 → B = false) ∧ (E = 0 → (B = true ↔ UpFrom (Sp.valsL l (Sp.least l) (Sp.great l)) 0))
set_option maxRecDepth 100000 in
set_option maxHeartbeats 1000000 in
theorem inc_any (A : Option Addr) (cap : Nat) (l : List Sp.Pd) (B : Bool) (E : Int) (w : World) (hz : PcSized l) (hT : Pcs w A l) (hv : IncIs l B E) :
    Calls Try.prog 20 #[.slice A l.length cap] w (Gives (.tuple #[.bool B, .int .i64 E]) w) := by
  obtain ⟨hE, hB0, hB1⟩ := hv
  have key : ∃ a b e, DomIs l a b e ∧ Sp.valsE l a b = E ∧ Sp.valsL l a b = Sp.valsL l a b ∧ (E = 0 → a = Sp.least l ∧ b = Sp.great l) := by
    by_cases hc : Sp.pcheck l = 0
    · exact ⟨_, _, _, dom_good hc, hE.symm, rfl, fun _ => ⟨rfl, rfl⟩⟩
    · refine ⟨_, _, _, dom_bad hc, ?_, rfl, fun h => ?_⟩
      · rw [hE]; unfold Sp.valsE; rw [if_pos hc, if_pos hc]
      · have : E = Sp.pcheck l := by rw [hE]; unfold Sp.valsE; rw [if_pos hc]
        omega
  obtain ⟨a, b, e, hd, h1, -, h2⟩ := key
  have DO := hid (domain_any A cap l a b e w hz hT hd)
  have VS := hid (fun (W : World) (h : Below w.heap.size w W) => values_any A cap l a b W hz (hT.below h))
  have H1 := hid h1
  have H2 := hid h2
  have HB0 := hid hB0
  have HB1 := hid hB1
  clear hz hT hE hB0 hB1 hd h1 h2
  go_enter Try.func20, Try.ntmps20
  go_wp2_with fail
  refine DO.out.mono ?_
  rintro _ w4 ⟨rfl, hb4⟩
  have B4 := hid hb4
  clear hb4
  go_wp2_with fail
  refine (VS.out _ B4.out).mono ?_
  rintro _ w5 ⟨hb, ⟨hne, rfl⟩ | ⟨h0, A', cap', rfl, hF⟩⟩
  · have B5 := hid (B4.out.trans (hb.mono B4.out.size))
    rw [H1.out] at hne
    have hf := HB0.out hne
    have hn : (E == 0) = false := by simpa using hne
    rw [H1.out]
    subst hf
    clear hb hne
    go_wp2_with fail
    refine bodyPost_ret (v := .tuple #[.bool false, .int .i64 E]) (by simp [results, Try.results20, go_sem]) rfl ?_
    exact Gives.mk rfl B5.out
  · have B5 := hid (B4.out.trans (hb.mono B4.out.size))
    have z : E = 0 := by rw [← H1.out]; exact h0
    obtain ⟨ea, eb⟩ := H2.out z
    have sz := vals_sized l a b h0
    have up := HB1.out z
    rw [← ea, ← eb] at up
    have SO := hid (sorted_any A' cap' _ B w5 sz.2.1 sz.1 hF up)
    subst z
    clear hb h0 hF sz up ea eb
    go_wp2_with fail
    refine SO.out.mono ?_
    rintro _ w6 ⟨rfl, hb⟩
    have B6 := hid (B5.out.trans (hb.mono B5.out.size))
    clear hb
    go_wp2_with fail
    refine bodyPost_ret (v := .tuple #[.bool B, .int .i64 0]) (by simp [results, Try.results20, go_sem]) rfl ?_
    exact Gives.mk rfl B6.out

theorem foldMin_mem : ∀ (l : List (Int × Int)) (m : Int × Int), foldMin l m = m ∨ foldMin l m ∈ l
  | [], m => .inl rfl
  | x :: r, m => by
    unfold foldMin
    by_cases c : cmpP x m < 0
    · rw [if_pos c]
      rcases foldMin_mem r x with h | h
      · right; rw [h]; simp
      · right; simp [h]
    · rw [if_neg c]
      rcases foldMin_mem r m with h | h
      · left; exact h
      · right; simp [h]
theorem foldMax_mem : ∀ (l : List (Int × Int)) (m : Int × Int), foldMax l m = m ∨ foldMax l m ∈ l
  | [], m => .inl rfl
  | x :: r, m => by
    unfold foldMax
    by_cases c : 0 < cmpP x m
    · rw [if_pos c]
      rcases foldMax_mem r x with h | h
      · right; rw [h]; simp
      · right; simp [h]
    · rw [if_neg c]
      rcases foldMax_mem r m with h | h
      · left; exact h
      · right; simp [h]
def leastV (l : List (Int × Int)) : Int × Int := foldMin (l.drop 1) ((l[0]?).getD (0, 1))
def greatV (l : List (Int × Int)) : Int × Int := foldMax (l.drop 1) ((l[0]?).getD (0, 1))
theorem leastV_mem {l : List (Int × Int)} (h : 0 < l.length) : leastV l ∈ l := by
  unfold leastV
  rw [List.getElem?_eq_getElem h, Option.getD_some]
  rcases foldMin_mem (l.drop 1) (l[0]) with e | e
  · rw [e]; exact List.getElem_mem h
  · exact List.mem_of_mem_drop e
theorem greatV_mem {l : List (Int × Int)} (h : 0 < l.length) : greatV l ∈ l := by
  unfold greatV
  rw [List.getElem?_eq_getElem h, Option.getD_some]
  rcases foldMax_mem (l.drop 1) (l[0]) with e | e
  · rw [e]; exact List.getElem_mem h
  · exact List.mem_of_mem_drop e
/-- What Range answers. -/
def RanIs (l : List Sp.Pd) (a b lo hi E : Int) : Prop := E = Sp.valsE l a b ∧ (E ≠ 0 → lo = 0 ∧ hi = 0) ∧ (E = 0 → lo = (leastV (Sp.valsL l a b)).1 / (leastV (Sp.valsL l a b)).2 ∧ hi = -((-(greatV (Sp.valsL l a b)).1) / (greatV (Sp.valsL l a b)).2))
set_option maxRecDepth 100000 in
set_option maxHeartbeats 2000000 in
theorem range_any (A : Option Addr) (cap : Nat) (l : List Sp.Pd) (a b lo hi E : Int) (w : World) (hz : PcSized l) (hT : Pcs w A l) (hv : RanIs l a b lo hi E) :
    Calls Try.prog 22 #[.slice A l.length cap, .int .i64 a, .int .i64 b] w (Gives (.tuple #[.agg #[.int .i64 lo, .int .i64 hi], .int .i64 E]) w) := by
  obtain ⟨V, hV⟩ : ∃ V, w.alloc (Obj.cells #[.int .i64 0, .int .i64 0] 36) = V := ⟨_, rfl⟩
  have kV : Below w.heap.size w V := by rw [← hV]; exact (Below.refl _ _).alloc (Nat.le_refl _) _
  have zV : V.heap.size = w.heap.size + 1 := by rw [← hV]; simp
  have v0 : V.cell? ⟨w.heap.size, 0, none⟩ = some (.int .i64 0) := by rw [← hV]; simp [go_sem]
  have v1 : V.cell? ⟨w.heap.size, 1, none⟩ = some (.int .i64 0) := by rw [← hV]; simp [go_sem]
  have vf : ∀ o, V.frozen? ⟨w.heap.size, o, none⟩ = false := by intro o; rw [← hV]; simp [go_sem]
  have VS := hid (values_any A cap l a b V hz (hT.below kV))
  have HK := hid (fun (W : World) (h : Below V.heap.size V W) => (⟨kV.trans (h.mono kV.size), (h.cell (p := ⟨w.heap.size, 0, none⟩) (by simp only; omega)).trans v0, (h.cell (p := ⟨w.heap.size, 1, none⟩) (by simp only; omega)).trans v1, fun o => (h.frozen (p := ⟨w.heap.size, o, none⟩) (by simp only; omega)).trans (vf o), by have := h.size; omega⟩ : Below w.heap.size w W ∧ W.cell? ⟨w.heap.size, 0, none⟩ = some (.int .i64 0) ∧ W.cell? ⟨w.heap.size, 1, none⟩ = some (.int .i64 0) ∧ (∀ o, W.frozen? ⟨w.heap.size, o, none⟩ = false) ∧ w.heap.size < W.heap.size))
  have HV := hid hV
  have HE := hid hv
  clear hV kV zV v0 v1 vf hz hT hv
  go_enter Try.func22, Try.ntmps22
  go_upto_region 1 with fail
  rw [HV.out]
  go_wp2_with fail
  refine VS.out.mono ?_
  rintro _ w5 ⟨hb, ⟨hne, rfl⟩ | ⟨h0, A', cap', rfl, hF⟩⟩
  · obtain ⟨kw, k0, k1, kf, kz⟩ := HK.out _ hb
    obtain ⟨h1, h2, -⟩ := HE.out
    rw [← h1] at hne ⊢
    obtain ⟨rfl, rfl⟩ := h2 hne
    have hn : (E == 0) = false := by simpa using hne
    have KW := hid kw
    clear hb kw h1 h2 hne
    go_wp2_with fail
    refine bodyPost_ret (v := .tuple #[.agg #[.int .i64 0, .int .i64 0], .int .i64 E]) (by simp [results, Try.results22, go_sem, k0, k1]) rfl ?_
    exact Gives.mk rfl (by have hB := KW.out; repeat' (first | (with_reducible exact Below.refl _ _) | (with_reducible refine Below.alloc ?_ ?_ _) | (with_reducible refine Below.setCell ?_ ?_ _) | (with_reducible refine Below.drew ?_) | (with_reducible refine Below.trans ?_ (Below.mono (by assumption) ?_)) | (simp; done) | (simp; omega) | omega))
  · obtain ⟨h1, -, h3⟩ := HE.out
    have z : E = 0 := by rw [h1]; exact h0
    obtain ⟨e1, e2⟩ := h3 z
    have sz := vals_sized l a b h0
    have m1 := leastV_mem sz.2.1
    have m2 := greatV_mem sz.2.1
    have o1 := sz.2.2 _ m1
    have o2 := sz.2.2 _ m2
    have p1 : foldMin ((Sp.valsL l a b).drop 1) ((Sp.valsL l a b)[0]'sz.2.1) = leastV (Sp.valsL l a b) := by unfold leastV; rw [List.getElem?_eq_getElem sz.2.1, Option.getD_some]
    have p2 : foldMax ((Sp.valsL l a b).drop 1) ((Sp.valsL l a b)[0]'sz.2.1) = greatV (Sp.valsL l a b) := by unfold greatV; rw [List.getElem?_eq_getElem sz.2.1, Option.getD_some]
    have MI := hid (minfunc_any A' cap' _ _ w5 sz.2.1 sz.1 hF p1)
    have MA := hid (fun (W : World) (h : Below w5.heap.size w5 W) => maxfunc_any A' cap' _ _ W sz.2.1 sz.1 (hF.below h) p2)
    clear h1 h3 h0 hF sz m1 m2 p1 p2
    generalize leastV (Sp.valsL l a b) = L at MI e1 o1
    generalize greatV (Sp.valsL l a b) = G at MA e2 o2
    generalize (Sp.valsL l a b).length = len at MI MA ⊢
    obtain ⟨n1, d1⟩ := L
    obtain ⟨n2, d2⟩ := G
    simp only at e1 e2 MI MA
    have FL := hid (fun W => ffloor_any n1 d1 o1 W)
    have CE := hid (fun W => fceil_any n2 d2 o2 W)
    rw [← e1] at FL
    rw [← e2] at CE
    subst z
    have HB5 := hid hb
    clear e1 e2 o1 o2 hb
    go_wp2_with (first
      | (go_at_call 41; refine MI.out.mono ?_; rintro _ w6 ⟨rfl, hb⟩; have HB6 := hid hb; clear hb)
      | (go_at_call 42; refine (MA.out _ HB6.out).mono ?_; rintro _ w7 ⟨rfl, hb⟩; have HB7 := hid (HB6.out.trans (hb.mono HB6.out.size)); clear hb))
    obtain ⟨U, hU⟩ : ∃ U, (w7.alloc (Obj.cells #[.int .i64 n1, .int .i64 d1] 26)).alloc (Obj.cells #[.int .i64 n2, .int .i64 d2] 26) = U := ⟨_, rfl⟩
    have zU : U.heap.size = w7.heap.size + 1 + 1 := by rw [← hU]; simp
    have u0 : U.cell? ⟨w7.heap.size, 0, none⟩ = some (.int .i64 n1) := by rw [← hU]; simp [go_sem]
    have u1 : U.cell? ⟨w7.heap.size, 1, none⟩ = some (.int .i64 d1) := by rw [← hU]; simp [go_sem]
    have u2 : U.cell? ⟨w7.heap.size + 1, 0, none⟩ = some (.int .i64 n2) := by rw [← hU]; simp [go_sem]
    have u3 : U.cell? ⟨w7.heap.size + 1, 1, none⟩ = some (.int .i64 d2) := by rw [← hU]; simp [go_sem]
    have k7 : Below w7.heap.size w7 U := by rw [← hU]; exact ((Below.refl _ _).alloc (Nat.le_refl _) _).alloc (by simp) _
    have kU : Below V.heap.size V U := HB5.out.trans ((HB7.out.trans (k7.mono HB7.out.size)).mono HB5.out.size)
    have KU := hid kU
    have wV : w.heap.size < w7.heap.size := by
      have h1 := (HK.out _ HB5.out).2.2.2.2
      have h2 := HB7.out.size
      omega
    have WV := hid wV
    have K : Hid (∀ W', Below U.heap.size U W' → (Below w.heap.size w W' ∧ W'.cell? ⟨w7.heap.size, 0, none⟩ = some (.int .i64 n1) ∧ W'.cell? ⟨w7.heap.size, 1, none⟩ = some (.int .i64 d1) ∧ W'.cell? ⟨w7.heap.size + 1, 0, none⟩ = some (.int .i64 n2) ∧ W'.cell? ⟨w7.heap.size + 1, 1, none⟩ = some (.int .i64 d2))) := hid fun W' B =>
      ⟨(HK.out _ (KU.out.trans (B.mono KU.out.size))).1, (B.cell (p := ⟨w7.heap.size, 0, none⟩) (by simp only; omega)).trans u0, (B.cell (p := ⟨w7.heap.size, 1, none⟩) (by simp only; omega)).trans u1, (B.cell (p := ⟨w7.heap.size + 1, 0, none⟩) (by simp only; omega)).trans u2, (B.cell (p := ⟨w7.heap.size + 1, 1, none⟩) (by simp only; omega)).trans u3⟩
    have KS : Hid (∀ W', (Below w.heap.size w W' ∧ W'.cell? ⟨w7.heap.size, 0, none⟩ = some (.int .i64 n1) ∧ W'.cell? ⟨w7.heap.size, 1, none⟩ = some (.int .i64 d1) ∧ W'.cell? ⟨w7.heap.size + 1, 0, none⟩ = some (.int .i64 n2) ∧ W'.cell? ⟨w7.heap.size + 1, 1, none⟩ = some (.int .i64 d2)) → ∀ v v2, (Below w.heap.size w ((W'.setCell ⟨w.heap.size, 0, none⟩ v).setCell ⟨w.heap.size, 1, none⟩ v2) ∧ ((W'.setCell ⟨w.heap.size, 0, none⟩ v).setCell ⟨w.heap.size, 1, none⟩ v2).cell? ⟨w7.heap.size, 0, none⟩ = some (.int .i64 n1) ∧ ((W'.setCell ⟨w.heap.size, 0, none⟩ v).setCell ⟨w.heap.size, 1, none⟩ v2).cell? ⟨w7.heap.size, 1, none⟩ = some (.int .i64 d1) ∧ ((W'.setCell ⟨w.heap.size, 0, none⟩ v).setCell ⟨w.heap.size, 1, none⟩ v2).cell? ⟨w7.heap.size + 1, 0, none⟩ = some (.int .i64 n2) ∧ ((W'.setCell ⟨w.heap.size, 0, none⟩ v).setCell ⟨w.heap.size, 1, none⟩ v2).cell? ⟨w7.heap.size + 1, 1, none⟩ = some (.int .i64 d2))) := hid fun W' B v v2 => by
      have n1 : ¬ w7.heap.size = w.heap.size := by omega
      have n2 : ¬ w7.heap.size + 1 = w.heap.size := by omega
      exact ⟨(B.1.setCell (p := ⟨w.heap.size, 0, none⟩) (Nat.le_refl _) v).setCell (p := ⟨w.heap.size, 1, none⟩) (Nat.le_refl _) v2, by simp [go_sem, n1, B.2.1], by simp [go_sem, n1, B.2.2.1], by simp [go_sem, n2, B.2.2.2.1], by simp [go_sem, n2, B.2.2.2.2]⟩
    rw [hU]
    clear hU u0 u1 u2 u3 k7 kU zU wV
    go_region_held3 (fun W' => Below w.heap.size w W' ∧ W'.cell? ⟨w7.heap.size, 0, none⟩ = some (.int .i64 n1) ∧ W'.cell? ⟨w7.heap.size, 1, none⟩ = some (.int .i64 d1) ∧ W'.cell? ⟨w7.heap.size + 1, 0, none⟩ = some (.int .i64 n2) ∧ W'.cell? ⟨w7.heap.size + 1, 1, none⟩ = some (.int .i64 d2)) (first | exact K.out _ (Below.refl _ _) | exact K.out _ ((Below.refl _ _).drew) | exact K.out _ hbA | exact K.out _ hbC | exact KS.out _ (K.out _ hbC) _ _)
      (first | (go_at_call 43; refine (FL.out _).mono ?_; rintro e w2 ⟨rfl, hb2⟩; have hbA : Below U.heap.size U w2 := (by repeat' (first | (with_reducible exact Below.refl _ _) | (with_reducible refine Below.alloc ?_ ?_ _) | (with_reducible refine Below.setCell ?_ ?_ _) | (with_reducible refine Below.drew ?_) | (with_reducible refine Below.trans ?_ (Below.mono (by assumption) ?_)) | (simp; done) | (simp; omega) | omega)); have hz2 : U.heap.size ≤ w2.heap.size := hbA.size)
             | (go_at_call 44; refine (CE.out _).mono ?_; rintro e w3 ⟨rfl, hb3⟩; have hbC : Below U.heap.size U w3 := (by repeat' (first | (with_reducible exact Below.refl _ _) | (with_reducible refine Below.alloc ?_ ?_ _) | (with_reducible refine Below.setCell ?_ ?_ _) | (with_reducible refine Below.drew ?_) | (with_reducible refine Below.trans ?_ (Below.mono (by assumption) ?_)) | (simp; done) | (simp; omega) | omega)); obtain ⟨-, k0, k1, kf, kz⟩ := HK.out _ (KU.out.trans (hbC.mono KU.out.size))))
    all_goals
      go_wp2
      refine bodyPost_ret (v := .tuple #[.agg #[.int .i64 lo, .int .i64 hi], .int .i64 0]) (by simp [results, Try.results22, go_sem, k0, k1]) rfl ?_
      exact Gives.mk rfl (KS.out _ (K.out _ hbC) _ _).1
end Go.Proofs.Ytcbecfimikpljaa
