/-
  Layer 14: Section of package volume, by contract.
-/
import Derived.Test.YtdimncchejbaaaaVvj
namespace Go.Proofs.Ytdimncchejbaaaa
open Go.RowKit Go.Shelf
set_option linter.unusedVariables false
set_option linter.unusedSimpArgs false
attribute [local go_sem] Oper.semAt_some
theorem VBox.grown {w W W' : World} {A A' : Option Addr} {n cap n' cap' : Nat} {f : Int} (h : VBox w W A n cap f A' n' cap') {r : Option Nat} (hg : W.grownBy W' r) (hr : ∀ k, r = some k → w.heap.size + 2 ≤ k) : VBox w W' A n cap f A' n' cap' := by
  have hz := h.zz
  have bk : ∀ k, k < w.heap.size + 2 → W'.heap[k]? = W.heap[k]? := fun k hk => hg.block k (by omega) (fun e => by have := hr k e.symm; omega)
  have ce : ∀ k o, k < w.heap.size + 2 → W'.cell? ⟨k, o, none⟩ = W.cell? ⟨k, o, none⟩ := fun k o hk => World.cell?_of_block (a := ⟨k, o, none⟩) (bk k hk)
  exact ⟨h.bl.grown hg h.bl.size (fun k e => by have := hr k e; omega), ⟨Nat.lt_of_lt_of_le h.cu.lt hg.size, (ce _ _ (by omega)).trans h.cu.c0, (ce _ _ (by omega)).trans h.cu.c1, (ce _ _ (by omega)).trans h.cu.c2⟩,
    (ce _ _ (by omega)).trans h.z0, (ce _ _ (by omega)).trans h.z1, fun o => (World.frozen?_of_block (a := ⟨w.heap.size + 1, o, none⟩) (bk _ (by simp only; omega))).trans (h.zf o), Nat.lt_of_lt_of_le hz hg.size⟩
/-- What holds at the head of the loop over the places. -/
def SRel (w : World) (B : Nat) (A : Option Addr) (n0 cap : Nat) (f : Int) (A' : Option Addr) (n' cap' : Nat) (g : Int → Int × Int) (a : Int) (n : Nat) (E : Int) (t u : Value) (wr : World) : Prop :=
  ∃ j : Nat, t = .int .i64 (a + j) ∧ j ≤ n ∧ Sp.fe g (n - j) (a + j) = E ∧ OwnI wr B u (Sp.fl g j a) ∧ VBox w wr A n0 cap f A' n' cap' ∧ B ≤ wr.heap.size
/-- The boxes of Section behind its first loop: the curve's, the span's, both sums. -/
structure SI (w : World) (P : Nat) (A : Option Addr) (n cap : Nat) (f : Int) (A' : Option Addr) (n' cap' : Nat) (l h : Int) (W : World) : Prop where
  vb : VBox w W A n cap f A' n' cap'
  l0 : W.cell? ⟨P, 0, none⟩ = some (.int .i64 l)
  lf : ∀ o, W.frozen? ⟨P, o, none⟩ = false
  h0 : W.cell? ⟨P + 1, 0, none⟩ = some (.int .i64 h)
  hf : ∀ o, W.frozen? ⟨P + 1, o, none⟩ = false
  sz : P + 1 < W.heap.size
  lt : w.heap.size + 2 ≤ P
theorem SI.grown {w W W' : World} {P : Nat} {A A' : Option Addr} {n cap n' cap' : Nat} {f l h : Int} (s : SI w P A n cap f A' n' cap' l h W) {row : Option Nat} {B : Nat} (hB : P + 1 < B) (hg : W.grownBy W' row) (hr : ∀ r, row = some r → B ≤ r ∧ ∃ o : Obj, W.heap[r]? = some o ∧ o.isCells = false) : SI w P A n cap f A' n' cap' l h W' := by
  have hr' := fun r e => (hr r e).2
  have h2 := s.lt
  exact ⟨s.vb.grown hg (fun k e => by have := (hr k e).1; omega), cell_kept s.l0 hg hr', frozen_at s.l0 s.lf hg hr', cell_kept s.h0 hg hr', frozen_at s.h0 s.hf hg hr', Nat.lt_of_lt_of_le s.sz hg.size, s.lt⟩
theorem SI.below {w W W' : World} {P : Nat} {A A' : Option Addr} {n cap n' cap' : Nat} {f l h : Int} (s : SI w P A n cap f A' n' cap' l h W) (hb : Below W.heap.size W W') : SI w P A n cap f A' n' cap' l h W' := by
  have z := s.sz
  exact ⟨s.vb.below hb, (hb.cell (p := ⟨P, 0, none⟩) (by simp only; omega)).trans s.l0, fun o => (hb.frozen (p := ⟨P, o, none⟩) (by simp only; omega)).trans (s.lf o), (hb.cell (p := ⟨P + 1, 0, none⟩) (by simp only; omega)).trans s.h0, fun o => (hb.frozen (p := ⟨P + 1, o, none⟩) (by simp only; omega)).trans (s.hf o), Nat.lt_of_lt_of_le z hb.size, s.lt⟩
theorem SI.set {w W : World} {P : Nat} {A A' : Option Addr} {n cap n' cap' : Nat} {f l h : Int} (s : SI w P A n cap f A' n' cap' l h W) (l' h' : Int) : SI w P A n cap f A' n' cap' l' h' ((W.setCell ⟨P, 0, none⟩ (.int .i64 l')).setCell ⟨P + 1, 0, none⟩ (.int .i64 h')) := by
  have z := s.sz
  have h2 := s.lt
  have g1 := s.vb.grown (grownBy_setCell' W P (.int .i64 l')) (fun k e => by cases e; omega)
  have g2 := g1.grown (grownBy_setCell' (W.setCell ⟨P, 0, none⟩ (.int .i64 l')) (P + 1) (.int .i64 h')) (fun k e => by cases e; omega)
  exact ⟨g2, by simp [go_sem, s.l0], fun o => by simp [go_sem, s.lf], by simp [go_sem, s.h0], fun o => by simp [go_sem, s.hf], by simpa using z, h2⟩
/-- The result of Section lies in its box. -/
structure SX (w : World) (lo hi : Int) (W : World) : Prop where
  r0 : W.cell? ⟨w.heap.size + 1, 0, none⟩ = some (.int .i64 lo)
  r1 : W.cell? ⟨w.heap.size + 1, 1, none⟩ = some (.int .i64 hi)
  bw : Below w.heap.size w W
theorem SX.put {w W : World} {lo hi : Int} (h : SX w lo hi W) {D : Nat} {o o' : Obj} (hD : w.heap.size ≤ D) (hK : W.heap[D]? = some o) (hc : o.isCells = false) : SX w lo hi (W.putObj D o') := by
  have hg := grownBy_putObj' W D o'
  have hr : ∀ r, some D = some r → ∃ o : Obj, W.heap[r]? = some o ∧ o.isCells = false := fun r e => by cases e; exact ⟨_, hK, hc⟩
  exact ⟨cell_kept h.r0 hg hr, cell_kept h.r1 hg hr, h.bw.grown hg h.bw.size (fun k e => by cases e; exact hD)⟩
set_option maxRecDepth 100000 in
set_option maxHeartbeats 4000000 in
theorem vsec_main (A A' : Option Addr) (cap cap' : Nat) (h t : List Sp.Pd) (f : Int) (d x a b lo hi e E : Int) (n : Nat) (g : Int → Int × Int) (w : World) (hz : PcSized h) (tz : PcSized t) (hT : Pcs w A h) (tT : Pcs w A' t) (hS : Sp.stemP h f t d x [a, b] = 0) (hab : ¬ b < a) (hn : (b - a + 1).toNat = n) (a0 : 0 ≤ a) (b1 : b ≤ 1000)
    (hE : Sp.fe g n a = E)
    (gi0 : ∀ z, 0 ≤ (g z).1 ∧ (g z).1 ≤ 3000)
    (DA : ∀ z W, 0 ≤ z → z ≤ b → Below w.heap.size w W → ∀ r e, g z = (r, e) → Calls Try.prog 47 #[.agg #[.slice A h.length cap, .int .i64 f, .slice A' t.length cap'], .int .i64 d, .int .i64 x, .int .i64 z] W (Gives (.tuple #[.int .i64 r, .int .i64 e]) W))
    (hv : (if E ≠ 0 then (0, 0, E) else ((785398 * Sp.loS (prU (Sp.fl g n a) (n - 1))).tdiv 10000000000, (785399 * Sp.hiS (prU (Sp.fl g n a) (n - 1)) + 10000000000 - 1).tdiv 10000000000, 0)) = (lo, hi, e)) :
    Calls Try.prog 23 #[.agg #[.slice A h.length cap, .int .i64 f, .slice A' t.length cap'], .int .i64 d, .int .i64 x, .int .i64 a, .int .i64 b] w (Gives (.tuple #[.agg #[.int .i64 lo, .int .i64 hi], .int .i64 e]) w) := by
  have VB : VBox w (((w.alloc (Obj.cells #[.slice A h.length cap, .int .i64 f, .slice A' t.length cap'] 24)).alloc (Obj.cells #[.int .i64 0, .int .i64 0] 32)).alloc (.cells #[.int .i64 a, .int .i64 b] 3)) A h.length cap f A' t.length cap' := (VBox.new w A h.length cap f A' t.length cap').below (balloc _ _)
  have hI : Ints (((w.alloc (Obj.cells #[.slice A h.length cap, .int .i64 f, .slice A' t.length cap'] 24)).alloc (Obj.cells #[.int .i64 0, .int .i64 0] 32)).alloc (.cells #[.int .i64 a, .int .i64 b] 3)) (some ⟨w.heap.size + 1 + 1, 0, none⟩) [a, b] := fun _ => ⟨w.heap.size + 1 + 1, 0, rfl, by simp, fun j hj => by
    match j, hj with
    | 0, _ => simp [go_sem]
    | 1, _ => simp [go_sem]⟩
  have uz : w.heap.size + 2 ≤ (((w.alloc (Obj.cells #[.slice A h.length cap, .int .i64 f, .slice A' t.length cap'] 24)).alloc (Obj.cells #[.int .i64 0, .int .i64 0] 32)).alloc (.cells #[.int .i64 a, .int .i64 b] 3)).heap.size := by simp
  generalize hU : ((w.alloc (Obj.cells #[.slice A h.length cap, .int .i64 f, .slice A' t.length cap'] 24)).alloc (Obj.cells #[.int .i64 0, .int .i64 0] 32)).alloc (.cells #[.int .i64 a, .int .i64 b] 3) = U at VB hI uz
  have CK := hid (callsIn_wide (n := 2).2 (vstemp_any A A' cap cap' h t f d x (some ⟨w.heap.size + 1 + 1, 0, none⟩) 2 [a, b] U hz tz (hT.below VB.bl) (tT.below VB.bl) (by simp) hI))
  rw [hS] at CK
  simp only [List.length_cons, List.length_nil, Nat.zero_add, Nat.reduceAdd] at CK
  have HU := hid hU
  have HV := hid VB
  have HD := hid DA
  have HG := hid gi0
  have HE := hid hE
  have HF := hid hv
  have HN := hid hn
  have A0 := hid a0
  have B1 := hid b1
  have AB := hid hab
  have UZ := hid uz
  have ba : decide (b < a) = false := decide_eq_false hab
  clear hz tz hT tT hU VB hI DA gi0 hE hv hn hS uz
  refine (callsIn_wide (n := 3)).1 ?_
  refine callsIn_of_wp_marks Try.func23 rfl trivial ?_ rfl
  simp only [Try.ntmps23, List.size_toArray, List.length_cons, List.length_nil, Nat.reduceAdd, Nat.reduceSub, Array.replicate_succ, Array.replicate_zero, List.push_toArray, List.append_toArray, List.nil_append, List.cons_append]
  gi_wp2
  rw [HU.out]
  refine ⟨trivial, ?_⟩
  refine CK.out.mono ?_
  rintro _ w5 ⟨rfl, hb⟩
  have V5 := hid (HV.out.below hb)
  have Z5 := hid (Nat.le_trans UZ.out hb.size)
  clear hb
  gi_wp2
  gi_loopw [14, 13] (fun v u wr => SRel w w5.heap.size A h.length cap f A' t.length cap' g a n E v u wr) (fun v u _ => (a + n - intOf v).toNat)
  case atStart => exact ⟨0, by simp, Nat.zero_le _, by simpa using HE.out, OwnI.nil _ _, V5.out, Nat.le_refl _⟩
  case round =>
    obtain ⟨j, rfl, hj, hd, hO, hV, hZ⟩ := hrel
    have HDD := hid hd
    have HVR := hid hV
    have HO := hid hO
    have HZR := hid hZ
    obtain ⟨A1, q1, e1, -, -, -⟩ := hO.form
    subst e1
    have r0 := hV.cu.c0
    have r1 := hV.cu.c1
    have r2 := hV.cu.c2
    have rl := hV.cu.lt
    clear hd hV hO hZ
    by_cases hlt : j < n
    · have hle : a + (j : Int) ≤ b := by have := HN.out; have := AB.out; omega
      obtain ⟨m, hm⟩ : ∃ m, n - j = m + 1 := ⟨n - j - 1, by omega⟩
      have hd := HDD.out
      rw [hm] at hd
      unfold Sp.fe at hd
      have x0 : 0 ≤ a + (j : Int) := by have := A0.out; omega
      obtain ⟨z, hz⟩ : ∃ z, a + (j : Int) = z := ⟨_, rfl⟩
      have sn := Sp.fl_snoc g j a
      rw [hz] at hd x0 hle sn
      obtain ⟨⟨r, y⟩, hr⟩ : ∃ q, g z = q := ⟨_, rfl⟩
      have DZ := hid (fun (W : World) (hb : Below w.heap.size w W) => callsIn_wide (n := 2).2 (HD.out z W x0 hle hb r y hr))
      rw [hr] at hd sn
      simp only at hd sn
      have SN := hid sn
      have zb : z ≤ 1000 := by have := B1.out; omega
      have ej : wrap64 (z + 1) = z + 1 := pwk (by omega) (by omega)
      have HX := hid hz
      have HM := hid hm
      have ll : Hid ((Sp.fl g j a).length ≤ 4000) := hid (by rw [Sp.fl_len]; have := HN.out; have := B1.out; have := A0.out; omega)
      have JN := hid hlt
      have hle2 : decide (z ≤ b) = true := decide_eq_true hle
      clear hr hm hz sn hlt
      rw [HX.out]
      by_cases c : y = 0
      · subst c
        have hd2 : Sp.fe g m (z + 1) = E := by simpa using hd
        have HFE := hid hd2
        clear hd hd2
        gi_wp2_with (first
          | (refine ⟨trivial, ?_⟩; gi_at_call 47; refine (DZ.out _ HVR.out.bl).mono ?_; rintro _ w6 ⟨rfl, hb⟩; have HV6 := hid (HVR.out.below hb); have HB6 := hid hb; have gb6 : w5.heap.size ≤ (w6.alloc (.cells #[.int .i64 r] 3)).heap.size := (by have h1 := HZR.out; have h2 := hb.size; simp; omega); clear hb)
          | (gi_at_builtin; refine appI_in rfl _ _ rfl w5.heap.size _ (Sp.fl g j a) rfl ((HO.out.below HB6.out).below (balloc _ _)) w6.heap.size rfl r (by simp [go_sem]) ll gb6 ?_; intro v8 w8 how hgr))
        have HOW := hid how
        have GR := hid hgr
        have OL := hid (fun g h => ownI_lt HO.out (g := g) h)
        clear how hgr
        go_roundw
        case rel =>
          have gz := GR.out.size
          refine ⟨j + 1, i64_eq (by have := HX.out; push_cast; omega), by have := JN.out; omega, ?_, ?_, ?_, Nat.le_trans gb6 gz⟩
          · have h1 := HFE.out
            have e1 : n - (j + 1) = m := by have := HM.out; omega
            have e2 : a + ((j + 1 : Nat) : Int) = z + 1 := by have := HX.out; omega
            rw [e1, e2]; exact h1
          · rw [SN.out]; exact HOW.out
          · exact (HV6.out.below (balloc _ _)).grown GR.out (fun k e => by
              have h1 := OL.out k e
              have := Z5.out
              omega)
        case measure =>
          have h1 := vmeas n j a A0.out JN.out
          rw [HX.out] at h1
          first | exact h1 | (rw [ej]; exact h1)
      · rw [if_pos c] at hd
        subst hd
        have hn : (y == 0) = false := by simpa using c
        have hf := HF.out
        rw [if_pos c] at hf
        obtain ⟨rfl, hf2⟩ := Prod.mk.inj hf
        obtain ⟨rfl, rfl⟩ := Prod.mk.inj hf2
        clear hf hf2 HF HE HDD
        gi_wp2_with (refine ⟨trivial, ?_⟩; gi_at_call 47; refine (DZ.out _ HVR.out.bl).mono ?_; rintro _ w6 ⟨rfl, hb⟩; have HV6 := hid (HVR.out.below hb); have s0 := HV6.out.z0; have s1 := HV6.out.z1; have sf := HV6.out.zf; have sz := HV6.out.zz; clear hb)
        refine ⟨.tuple #[.agg #[.int .i64 0, .int .i64 0], .int .i64 y], by simp [results, Try.results23, go_sem, s0, s1, sf, sz], Gives.mk rfl (by have hB := HV6.out.bl; repeat' (first | (with_reducible exact Below.refl _ _) | (with_reducible refine Below.alloc ?_ ?_ _) | (with_reducible refine Below.setCell ?_ ?_ _) | (with_reducible refine Below.drew ?_) | (with_reducible refine Below.trans ?_ (Below.mono (by assumption) ?_)) | (simp; done) | (simp; omega) | omega))⟩
    · have i1 : ¬ a + (j : Int) ≤ b := by have := HN.out; have := AB.out; omega
      obtain rfl : j = n := by omega
      have hd := HDD.out
      have e0 : j - j = 0 := Nat.sub_self j
      rw [e0] at hd
      have z0 : 0 = E := hd
      have hle2 : decide (a + (j : Int) ≤ b) = false := decide_eq_false i1
      subst z0
      clear hd
      gi_wp2_with (refine ⟨trivial, ?_⟩; gi_at_call 49; refine (slices_in _ _ _ _ _).mono ?_; rintro e w' ⟨rfl, rfl⟩)
      obtain ⟨A3, q3, e3, -, F3, G3⟩ := HO.out.form
      injection e3 with g1 g2 g3
      subst g1 g3
      have F4 := hid F3
      have G4 := hid G3
      clear g2 F3 G3
      obtain ⟨W0, hW0⟩ : ∃ W0, (((wr.alloc (.cells #[.int .i64 0] 3)).alloc (.cells #[.int .i64 0] 3)).alloc (.cells #[.slice A1 (Sp.fl g j a).length q1] 73)) = W0 := ⟨_, rfl⟩
      have zW : W0.heap.size = wr.heap.size + 3 := by rw [← hW0]; simp
      have kW : Below wr.heap.size wr W0 := by rw [← hW0]; exact (((Below.refl _ _).alloc (Nat.le_refl _) _).alloc (by simp) _).alloc (by simp; omega) _
      have bs : W0.cell? ⟨wr.heap.size + 2, 0, none⟩ = some (.slice A1 (Sp.fl g j a).length q1) := by rw [← hW0]; simp [go_sem]
      have I0 : SI w wr.heap.size A h.length cap f A' t.length cap' 0 0 W0 :=
        ⟨HVR.out.below kW, by rw [← hW0]; simp [go_sem], fun o => by rw [← hW0]; simp [go_sem], by rw [← hW0]; simp [go_sem], fun o => by rw [← hW0]; simp [go_sem], by omega, Nat.le_trans Z5.out HZR.out⟩
      have bl3 : ∀ v ∈ Sp.fl g j a, 0 ≤ v ∧ v ≤ 3000 := by
        intro v hv
        simp only [Sp.fl, List.mem_map] at hv
        obtain ⟨k, -, rfl⟩ := hv
        exact HG.out _
      have ll : (Sp.fl g j a).length ≤ 1001 := by rw [Sp.fl_len]; have := HN.out; have := B1.out; have := A0.out; omega
      have I3 := F4.out.below kW
      have HF3 := hid HF.out
      rw [hW0]
      clear hW0 kW r0 r1 r2 rl
      refine wpIn_rangeFunc_ownH rfl (by omega) (gf := 68) (lb := #[.pointer (some ⟨wr.heap.size + 2, 0, none⟩)]) rfl trivial (enters_of Try.func68 (by kernel_rfl) rfl)
        (slices_stops _ (by omega) (wr.heap.size + 2) wr.heap.size q1 A1 (Sp.fl g j a) (by omega) bl3 W0 (by omega) bs I3 (fun b off hA h0 => (G4.out b off hA).2))
        (fun h k => KV.trans h k) (KV.put (by omega) (by omega)) (Below.refl _ _) (fun _ => rfl)
        (fun (pre : List BQ) W => SI w wr.heap.size A h.length cap f A' t.length cap' (Sp.loS (vB pre)) (Sp.hiS (vB pre)) W)
        (fun cd pre W => False)
        (fun s X Y row hs hg hr => hs.grown (by omega) hg hr)
        (fun cd s X Y row hs hg hr => hs.elim)
        I0
        (fun z a' W => a' = { tmps := #[Value.agg #[Value.slice A h.length cap, Value.int IntKind.i64 f, Value.slice A' t.length cap'], Value.int IntKind.i64 d, Value.int IntKind.i64 x, Value.int IntKind.i64 a, Value.int IntKind.i64 b, Value.pointer (some { block := w.heap.size, off := 0 }), undef, undef, undef, undef, Value.pointer (some { block := w.heap.size + 1, off := 0 }), u11, Value.int IntKind.i64 0, Value.slice A1 (Sp.fl g j a).length q1, Value.int IntKind.i64 (a + ↑j), u15, u16, Value.pointer (some { block := wr.heap.size, off := 0 }), Value.pointer (some { block := wr.heap.size + 1, off := 0 }), Value.int IntKind.i64 z.1.1, Value.int IntKind.i64 z.1.2, undef, undef, Value.agg #[Value.slice A h.length cap, Value.int IntKind.i64 f, Value.slice A' t.length cap'], Value.int IntKind.i64 d, Value.int IntKind.i64 x, Value.int IntKind.i64 a, Value.int IntKind.i64 b, Value.slice (some { block := w.heap.size + 1 + 1, off := 0 }) 2 2, Value.int IntKind.i64 0, Value.int IntKind.i64 0, Value.bool false, undef, undef, Value.int IntKind.i64 a, Value.int IntKind.i64 b, Value.bool false, undef, Value.int IntKind.i64 a, Value.int IntKind.i64 (a + ↑j), Value.int IntKind.i64 b, Value.bool false, u42, u43, u44, u45, u46, u47, u48, u49, u50, u51, u52, u53, u54, u55, u56, u57, u58, u59, Value.slice A1 (Sp.fl g j a).length q1, Value.func (Fn.func 68) #[] #[Value.pointer (some { block := wr.heap.size + 1 + 1, off := 0 })], Value.int IntKind.i64 z.1.1, Value.int IntKind.i64 z.1.2, undef, undef, undef, undef, undef, undef, undef, undef, undef, undef, undef, undef, undef, undef, undef, undef, undef, undef, undef], defers := [] })
        (fun z a' _ X Y row hs hg hr => hs) ?assign ?body ?done ?stop
      case assign =>
        rintro l pre z W K hI hK
        gi_wp2
        exact hK _ _ (keeps_below (Below.refl _ _)) ⟨Below.refl _ _, rfl⟩ hI rfl
      case body =>
        rintro l pre ⟨⟨z1, z2⟩, hz⟩ a' W hl0 ⟨r, hr⟩ hI rfl hlt
        clear hr
        have hz2 : (0 ≤ z1 ∧ z1 ≤ 3000) ∧ (0 ≤ z2 ∧ z2 ≤ 3000) := hz
        obtain ⟨⟨y0, y1⟩, x0, x1⟩ := hz2
        have HI := hid hI
        obtain ⟨⟨p0, p1⟩, q0, q1'⟩ := Sp.lohi_bound (vB pre) (vB_ok pre)
        rw [vB_len] at p1 q1'
        have HB1 := hid (show vB (pre ++ [⟨(z1, z2), hz⟩]) = vB pre ++ [(z1, z2)] from vB_snoc _ _)
        have pl : (pre.length : Int) ≤ 1000 := by omega
        obtain ⟨L, hL⟩ : ∃ L, Sp.loS (vB pre) = L := ⟨_, rfl⟩
        obtain ⟨H, hH⟩ : ∃ H, Sp.hiS (vB pre) = H := ⟨_, rfl⟩
        obtain ⟨mn, hm⟩ : ∃ m, min z1 z2 = m := ⟨_, rfl⟩
        obtain ⟨mx, hx⟩ : ∃ m, max z1 z2 = m := ⟨_, rfl⟩
        obtain ⟨S, hS⟩ : ∃ S, mn * mn = S := ⟨_, rfl⟩
        obtain ⟨T, hT⟩ : ∃ T, mx * mx = T := ⟨_, rfl⟩
        have sb := Sp.sq_bound (x := mn) (by omega) (by omega)
        have tb := Sp.sq_bound (x := mx) (by omega) (by omega)
        rw [hS] at sb
        rw [hT] at tb
        have HLO := hid (show Sp.loS (vB (pre ++ [⟨(z1, z2), hz⟩])) = L + S by rw [HB1.out, Sp.loS_snoc, hL]; simp only [hm, hS])
        have HHI := hid (show Sp.hiS (vB (pre ++ [⟨(z1, z2), hz⟩])) = H + T by rw [HB1.out, Sp.hiS_snoc, hH]; simp only [hx, hT])
        rw [hL] at p0 p1 hI
        rw [hH] at q0 q1' hI
        have wS : wrap64 S = S := pw64 _ (by omega)
        have wT : wrap64 T = T := pw64 _ (by omega)
        have wL : wrap64 (L + S) = L + S := pw64 _ (by omega)
        have wH : wrap64 (H + T) = H + T := pw64 _ (by omega)
        have c0 := hI.l0
        have c1 := hI.lf
        have c2 := hI.h0
        have c3 := hI.hf
        have c4 := hI.sz
        have HI2 := hid hI
        have ZW := hid zW
        clear hI HI p0 p1 q0 q1' sb tb hL hH pl HB1 zW
        gi_wp2
        refine ⟨((KeepsOthers.setCell _ _ _).trans (KeepsOthers.setCell _ _ _)).from _, KV.set (KV.set ⟨Below.refl _ _, rfl⟩ (by omega) (by omega) _) (by omega) (by omega) _, ?_⟩
        show SI w wr.heap.size A h.length cap f A' t.length cap' (Sp.loS (vB (pre ++ [⟨(z1, z2), hz⟩]))) (Sp.hiS (vB (pre ++ [⟨(z1, z2), hz⟩]))) _
        rw [HLO.out, HHI.out]
        exact HI2.out.set _ _
      case done =>
        rintro D xs W hD hxs hI hK
        have HI := hid hI
        obtain ⟨⟨p0, p1⟩, q0, q1'⟩ := Sp.lohi_bound (vB xs) (vB_ok xs)
        rw [vB_len] at p1 q1'
        have xl : (xs.length : Int) ≤ 1001 := by
          have e1 := congrArg List.length hxs
          rw [vB_len, prU_length] at e1
          omega
        have hF := HF3.out
        rw [if_neg (fun z => z rfl), ← Sp.fl_len g j a] at hF
        rw [Sp.fl_len g j a] at hF hxs
        rw [← hxs] at hF
        generalize Sp.loS (vB xs) = L at hI p0 p1 hF HI
        generalize Sp.hiS (vB xs) = H at hI q0 q1' hF HI
        obtain ⟨hF1, hF4⟩ := Prod.mk.inj hF
        obtain ⟨hF2, hF5⟩ := Prod.mk.inj hF4
        subst hF5
        clear hF4
        have EN := hid (fun W => callsIn_wide (n := 2).2 (venc_any L H 10000000000 p0 (by omega) q0 (by omega) (by omega) (by omega) W))
        rw [hF1, hF2] at EN
        have c0 := hI.l0
        have c2 := hI.h0
        have HD := hid (show w.heap.size ≤ D by have := hI.lt; omega)
        have HKK := hid hK
        clear hI hD hF hF1 hF2 HF3 HF p0 p1 q0 q1' xl hxs hK zW bs bl3
        gi_wp2_with (refine ⟨trivial, ?_⟩; gi_at_call 40; refine (EN.out _).mono ?_; rintro _ w9 ⟨rfl, hb⟩; have HB9 := hid hb; have V9 := HI.out.vb.below hb; have s0 := V9.z0; have s1 := V9.z1; have sf := V9.zf; have sz := V9.zz; have bl9 := hid V9.bl; clear hb V9)
        have hK2 := ((keeps_below (B := 0) HB9.out).trans (((KeepsOthers.setCell w9 ⟨w.heap.size + 1, 0, none⟩ (.int .i64 lo)).trans (KeepsOthers.setCell _ ⟨w.heap.size + 1, 1, none⟩ (.int .i64 hi))).from _)).same D _ (Nat.zero_le _) HKK.out rfl
        have X1 : SX w lo hi ((w9.setCell ⟨w.heap.size + 1, 0, none⟩ (.int .i64 lo)).setCell ⟨w.heap.size + 1, 1, none⟩ (.int .i64 hi)) :=
          ⟨by simp [go_sem, s0, s1], by simp [go_sem, s0, s1], (bl9.out.setCell (p := ⟨w.heap.size + 1, 0, none⟩) (by simp only; omega) _).setCell (p := ⟨w.heap.size + 1, 1, none⟩) (by simp only; omega) _⟩
        have X2 := X1.put (o' := .deferred none) HD.out hK2 rfl
        refine ⟨by simp, .inl ⟨_, _, rfl, run_takeDeferred hK2, ?_⟩⟩
        have r0 := X2.r0
        have r1 := X2.r1
        exact ⟨.tuple #[.agg #[.int .i64 lo, .int .i64 hi], .int .i64 0], by simp [results, Try.results23, go_sem, r0, r1], Gives.mk rfl X2.bw⟩
      case stop =>
        rintro D cd pre W hD hk h hK
        exact h.elim
end Go.Proofs.Ytdimncchejbaaaa
