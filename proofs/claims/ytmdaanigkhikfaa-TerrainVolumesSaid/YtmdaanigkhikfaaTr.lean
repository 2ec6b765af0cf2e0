/-
  Layer 15: Classes of package terrain, by contract.
-/
import Derived.Test.YtmdaanigkhikfaaTq
import Derived.Test.YtmdaanigkhikfaaShelf
import Derived.Stop.RegionWithIn
namespace Go.Proofs.Ytmdaanigkhikfaa
open Go.RowKit Go.Shelf
set_option linter.unusedVariables false
set_option linter.unusedSimpArgs false
attribute [local go_sem] Oper.semAt_some
namespace Sp
/-- The error of Classes. -/
noncomputable def clsE (c r k : Int) (z l : List Int) : Int := if terE c r k z ≠ 0 then terE c r k z else if @decide (ascP l 0) (Classical.propDecidable _) = false then 9 else 0
/-- The class of a cell. -/
def clsG (z : List Int) (c k : Int) (l : List Int) (q : Int × Int) : Int := ((l.countP (fun x => decide (x < sloS z c k q.1 q.2)) : Nat) : Int)
/-- The classes of all cells. -/
def clsL (c r k : Int) (z l : List Int) : List Int := (cellU (c - 1).toNat ((r - 1).toNat * (c - 1).toNat)).map (clsG z c k l)
end Sp
/-- The boxes of Classes: the terrain's, the limits', and the list's, that grows. -/
structure ClsI (w : World) (P : Nat) (c r k : Int) (A : Option Addr) (n cap : Nat) (B : Option Addr) (m bcap : Nat) (L : List Int) (W : World) : Prop where
  tr : TrAt W w.heap.size c r k A n cap
  li : W.cell? ⟨w.heap.size + 1, 0, none⟩ = some (.slice B m bcap)
  bw : Below w.heap.size w W
  bx : ∃ v, W.cell? ⟨P, 0, none⟩ = some v ∧ OwnI W (P + 2) v L
  pf : ∀ o, W.frozen? ⟨P, o, none⟩ = false
  sz : P < W.heap.size
  lt : w.heap.size + 2 ≤ P
theorem TrAt.kept {w w' : World} {g : Nat} {c r k : Int} {A : Option Addr} {n cap : Nat} (h : TrAt w g c r k A n cap) {row : Option Nat} (hg : w.grownBy w' row) (hr : ∀ b, row = some b → ∃ o : Obj, w.heap[b]? = some o ∧ o.isCells = false) : TrAt w' g c r k A n cap :=
  ⟨Nat.lt_of_lt_of_le h.lt hg.size, cell_kept h.c0 hg hr, cell_kept h.c1 hg hr, cell_kept h.c2 hg hr, cell_kept h.c3 hg hr⟩
theorem OwnI.kept {w w' : World} {base : Nat} {v : Value} {l : List Int} (h : OwnI w base v l) {row : Option Nat} (hg : w.grownBy w' row) (hr : ∀ b, row = some b → ∃ o : Obj, w.heap[b]? = some o ∧ o.isCells = false) : OwnI w' base v l := by
  refine World.ownsRow.kept h hg ?_
  rcases h.2 with ⟨rfl, h0⟩ | ⟨g, cap, cur, rfl, hb, hgg, -⟩
  · exact .inl rfl
  · right
    intro e
    obtain ⟨o, ho, hc⟩ := hr g e.symm
    rw [hgg] at ho
    cases ho
    simp [Obj.isCells] at hc
theorem ClsI.grown {w W W' : World} {P : Nat} {c r k : Int} {A B : Option Addr} {n cap m bcap : Nat} {L : List Int} (s : ClsI w P c r k A n cap B m bcap L W) {row : Option Nat} {b : Nat} (hB : P < b) (hg : W.grownBy W' row) (hr : ∀ q, row = some q → b ≤ q ∧ ∃ o : Obj, W.heap[q]? = some o ∧ o.isCells = false) : ClsI w P c r k A n cap B m bcap L W' := by
  have hr' := fun q e => (hr q e).2
  obtain ⟨v, h1, h2⟩ := s.bx
  have h3 := s.lt
  exact ⟨s.tr.kept hg hr', cell_kept s.li hg hr', s.bw.grown hg s.bw.size (fun q e => by have := (hr q e).1; omega), ⟨v, cell_kept h1 hg hr', h2.kept hg hr'⟩, frozen_at h1 s.pf hg hr', Nat.lt_of_lt_of_le s.sz hg.size, h3⟩
theorem ClsI.below {w W W' : World} {P : Nat} {c r k : Int} {A B : Option Addr} {n cap m bcap : Nat} {L : List Int} (s : ClsI w P c r k A n cap B m bcap L W) (hb : Below W.heap.size W W') : ClsI w P c r k A n cap B m bcap L W' := by
  have z := s.sz
  have h3 := s.lt
  obtain ⟨v, h1, h2⟩ := s.bx
  exact ⟨s.tr.below hb, (hb.cell (p := ⟨w.heap.size + 1, 0, none⟩) (by simp only; omega)).trans s.li, bthen s.bw hb, ⟨v, (hb.cell (p := ⟨P, 0, none⟩) z).trans h1, h2.below hb⟩, fun o => (hb.frozen (p := ⟨P, o, none⟩) z).trans (s.pf o), Nat.lt_of_lt_of_le z hb.size, h3⟩
theorem ClsI.push {w W V w9 : World} {P : Nat} {c r k : Int} {A B : Option Addr} {n cap m bcap : Nat} {L : List Int} (s : ClsI w P c r k A n cap B m bcap L W) (v : Value) (h1 : W.cell? ⟨P, 0, none⟩ = some v) (h2 : OwnI W (P + 2) v L)
    (hV : Below W.heap.size W V) (hg : V.grownBy w9 v.ownBlock) (A9 : Option Addr) (n9 q9 : Nat) (x : Int) (how : OwnI w9 (P + 2) (.slice A9 n9 q9) (L ++ [x])) :
    ClsI w P c r k A n cap B m bcap (L ++ [x]) (w9.setCell ⟨P, 0, none⟩ (.slice A9 n9 q9)) := by
  have z := s.sz
  have h3 := s.lt
  have g0 : ∀ b, v.ownBlock = some b → P + 2 ≤ b := fun b e => (ownI_lt h2 e).1
  have e1 : ∀ b o, b < P + 2 → b < W.heap.size → w9.cell? ⟨b, o, none⟩ = W.cell? ⟨b, o, none⟩ := fun b o hb hz =>
    (World.cell?_of_block (a := ⟨b, o, none⟩) (hg.block b (Nat.lt_of_lt_of_le hz hV.size) (fun e => by have := g0 _ e.symm; omega))).trans (hV.cell (p := ⟨b, o, none⟩) hz)
  have e2 : ∀ b o, b < P + 2 → b < W.heap.size → w9.frozen? ⟨b, o, none⟩ = W.frozen? ⟨b, o, none⟩ := fun b o hb hz =>
    (World.frozen?_of_block (a := ⟨b, o, none⟩) (hg.block b (Nat.lt_of_lt_of_le hz hV.size) (fun e => by have := g0 _ e.symm; omega))).trans (hV.frozen (p := ⟨b, o, none⟩) hz)
  have so : ∀ b o, b < P → (w9.setCell ⟨P, 0, none⟩ (.slice A9 n9 q9)).cell? ⟨b, o, none⟩ = w9.cell? ⟨b, o, none⟩ := fun b o hb => World.cell?_setCell_other _ _ _ _ (by first | (simp; done) | (simp; omega))
  have cP : w9.cell? ⟨P, 0, none⟩ = some v := (e1 P 0 (by omega) z).trans h1
  have bw : Below w.heap.size w w9 := (bthen s.bw hV).grown hg (Nat.le_trans s.bw.size hV.size) (fun b e => by have := g0 b e; omega)
  have zz : W.heap.size ≤ w9.heap.size := Nat.le_trans hV.size hg.size
  have tl := s.tr.lt
  refine ⟨⟨by simpa using Nat.lt_of_lt_of_le tl zz, ?_, ?_, ?_, ?_⟩, ?_, bw.setCell (p := ⟨P, 0, none⟩) (by simp only; omega) _, ⟨.slice A9 n9 q9, by simp [go_sem, cP], ?_⟩, fun o => by simp [go_sem, (e2 P o (by omega) z).trans (s.pf o)], by simpa using Nat.lt_of_lt_of_le z zz, h3⟩
  · exact (so _ _ (by omega)).trans ((e1 _ _ (by omega) tl).trans s.tr.c0)
  · exact (so _ _ (by omega)).trans ((e1 _ _ (by omega) tl).trans s.tr.c1)
  · exact (so _ _ (by omega)).trans ((e1 _ _ (by omega) tl).trans s.tr.c2)
  · exact (so _ _ (by omega)).trans ((e1 _ _ (by omega) tl).trans s.tr.c3)
  · exact (so _ _ (by omega)).trans ((e1 _ _ (by omega) (by omega)).trans s.li)
  · refine World.ownsRow.kept how (grownBy_setCell' w9 P (.slice A9 n9 q9)) ?_
    right
    intro e
    have := (ownI_lt how e).1
    omega
theorem appI_inF {F : Fence} {n : Nat} {ops : Array Oper} {rest : List Oper} {o : Oper} {a : Act} {Q : Exit → Act → World → Prop} {w : World} (hgd : o.guard = none) (s x : Operand)
    (ho : o.op = .call { callee := .builtin .append, args := #[s, x], argTypes := #[22, 22] })
    (base : Nat) (v : Value) (l : List Int) (hs : a.eval s = v) (hown : OwnI w base v l) (g : Nat) (hx : a.eval x = .slice (some ⟨g, 0, none⟩) 1 1) (p : Int)
    (c0 : w.cell? ⟨g, 0, none⟩ = some (.int .i64 p)) (hlen : Hid (l.length ≤ 4000)) (hbase : base ≤ w.heap.size)
    (h : ∀ A' q' w', OwnI w' base (.slice A' (l ++ [p]).length q') (l ++ [p]) → w.grownBy w' v.ownBlock → wpListIn F n Try.prog ops Q rest (a.put o.dst (.slice A' (l ++ [p]).length q')) w') :
    wpListIn F n Try.prog ops Q (o :: rest) a w := by
  obtain ⟨i0, hi, hz0, hz1, hz2⟩ := info_parts info_int
  have hl := hlen.out
  refine wpListIn_append_own w hgd s x 22 ho base 3 i0 (.int .i64 0) 1 8 Try.underlying22 hi hz0 hz1 hz2 rfl (by decide) v l.length (intc l) hs hown ⟨g, 0, none⟩ 1 1 (intc [p]) hx (by simp [intc]) ?_ (fun u hu => by simp [intc] at hu; subst hu; rfl) (by unfold maxLen; omega) (by omega) hbase ?_
  · intro j u hu
    match j with
    | 0 => simp [intc] at hu; subst hu; simpa [Addr.add] using c0
    | j + 1 => simp [intc] at hu
  · intro v' w' h1 h2 _
    have hO : OwnI w' base v' (l ++ [p]) := by
      unfold OwnI
      have e : intc (l ++ [p]) = intc l ++ intc [p] := by simp [intc]
      rw [e, List.length_append]
      exact h1
    obtain ⟨A', q', rfl, -, -, -⟩ := hO.form
    exact h A' q' w' hO h2
theorem keeps_own {B base : Nat} {W W' : World} {v : Value} {l : List Int} (h : OwnI W base v l) (hg : W.grownBy W' v.ownBlock) : KeepsFrom B W W' := by
  refine ⟨hg.size, fun k o _ hk ho => (hg.block k (Array.getElem?_eq_some_iff.1 hk).1 fun e => ?_).trans hk⟩
  rcases h.2 with ⟨rfl, -⟩ | ⟨g, cap, cur, rfl, hb, hgg, -⟩
  · cases e
  · have e2 : k = g := by simpa [Value.ownBlock] using e
    subst e2
    rw [hgg] at hk
    cases hk
    simp [Obj.isCells] at ho
theorem asc_le {l : List Int} (h : ascP l 0) : ∀ (d i : Nat) (hd : i + d < l.length), l[i]'(by omega) ≤ l[i + d]
  | 0, i, hd => Int.le_refl _
  | d + 1, i, hd => by
    have h1 := asc_le h d i (by omega)
    have h2 := h (i + d) (Nat.zero_le _) (by omega)
    have e : l[i + (d + 1)] = l[i + d + 1]'(by omega) := rfl
    rw [e]
    omega
theorem asc_pairwise {l : List Int} (h : ascP l 0) : l.Pairwise (· ≤ ·) := by
  rw [List.pairwise_iff_getElem]
  intro i j hi hj hij
  have := asc_le h (j - i) i (by omega)
  have e : l[i + (j - i)]'(by omega) = l[j] := by congr 1; omega
  rw [e] at this
  exact this
theorem bsearch_any (B : Option Addr) (bcap : Nat) (l : List Int) (x : Int) (W : World) (hl : l.length ≤ 1000000) (hT : Ints W B l) (ha : ascP l 0) :
    Calls Try.prog 52 #[.slice B l.length bcap, .int .i64 x] W (Gives (.tuple #[.int .i64 ((l.countP (fun y => decide (y < x)) : Nat) : Int), .bool (l.contains x)]) W) := by
  by_cases h0 : 0 < l.length
  · obtain ⟨b, off, rfl, bl, q⟩ := hT h0
    have H := Try.slices_BinarySearch_int b off l.length bcap l x W (Nat.le_refl _) (by omega) (fun j hj => by rw [q j hj]; simp [List.getD, List.getElem?_eq_getElem hj]) (by rw [List.take_length]; exact asc_pairwise ha)
    rw [List.take_length] at H
    refine H.mono ?_
    rintro e w' ⟨rfl, n, rfl⟩
    exact Gives.mk rfl (below_dn (Below.refl _ _) n)
  · have e : l = [] := List.eq_nil_of_length_eq_zero (by omega)
    subst e
    refine (Try.slices_BinarySearch_int_empty B bcap x W).mono ?_
    rintro e w' ⟨rfl, rfl⟩
    exact Gives.mk (by simp) (Below.refl _ _)
set_option maxRecDepth 100000 in
set_option maxHeartbeats 4000000 in
theorem tcls_main (A : Option Addr) (cap : Nat) (c r k : Int) (z : List Int) (B : Option Addr) (bcap : Nat) (l : List Int) (E : Int) (D : Bool) (w : World) (hm : l.length ≤ 1000000) (hB : Ints w B l) (hT : Ints w A z)
    (hE : E = 0 → (2 ≤ c ∧ c ≤ 16) ∧ (2 ≤ r ∧ r ≤ 16) ∧ (1 ≤ k ∧ k ≤ 1000) ∧ (z.length : Int) = c * r ∧ ∀ v ∈ z, 0 ≤ v ∧ v ≤ 50000)
    (hD : D = true → ascP l 0)
    (CK : ∀ W, Below w.heap.size w W → Calls Try.prog 15 #[.agg #[.int .i64 c, .int .i64 r, .int .i64 k, .slice A z.length cap]] W (Gives (.int .i64 E) W))
    (AS : ∀ W, Below w.heap.size w W → Calls Try.prog 50 #[.slice B l.length bcap] W (Gives (.bool D) W)) :
    Calls Try.prog 22 #[.agg #[.int .i64 c, .int .i64 r, .int .i64 k, .slice A z.length cap], .slice B l.length bcap] w (IlPost w (if E ≠ 0 then E else if D = false then 9 else 0) (Sp.clsL c r k z l)) := by
  obtain ⟨R, hR⟩ : ∃ R : Int, (if E ≠ 0 then E else if D = false then 9 else 0) = R := ⟨_, rfl⟩
  rw [hR]
  have RR := hid hR
  clear hR
  obtain ⟨CL, hCL⟩ : ∃ CL, Sp.clsL c r k z l = CL := ⟨_, rfl⟩
  rw [hCL]
  have HCL := hid hCL
  clear hCL
  obtain ⟨U, hU⟩ : ∃ U, (w.alloc (Obj.cells #[.int .i64 c, .int .i64 r, .int .i64 k, .slice A z.length cap] 24)).alloc (.cells #[.slice B l.length bcap] 22) = U := ⟨_, rfl⟩
  have T0 : TrAt U w.heap.size c r k A z.length cap := by rw [← hU]; exact (trAt_new w c r k A z.length cap).below (balloc _ _)
  have b0 : Below w.heap.size w U := by rw [← hU]; exact bthen (balloc _ _) (balloc _ _)
  have l0 : U.cell? ⟨w.heap.size + 1, 0, none⟩ = some (.slice B l.length bcap) := by rw [← hU]; simp [go_sem]
  have uz : U.heap.size = w.heap.size + 2 := by rw [← hU]; simp
  have KK := hid (fun (W : World) (hb : Below U.heap.size U W) => (⟨bthen b0 hb, T0.below hb, (hb.cell (p := ⟨w.heap.size + 1, 0, none⟩) (by simp only; omega)).trans l0, by have := hb.size; omega⟩ : Below w.heap.size w W ∧ TrAt W w.heap.size c r k A z.length cap ∧ W.cell? ⟨w.heap.size + 1, 0, none⟩ = some (.slice B l.length bcap) ∧ w.heap.size + 2 ≤ W.heap.size))
  have CK1 := hid (callsIn_wide (n := 2).2 (CK U b0))
  have AS1 := hid (fun W hb => callsIn_wide (n := 2).2 (AS W hb))
  have HU := hid hU
  have HE := hid hE
  have HD := hid hD
  have HBB := hid hB
  have HTT := hid hT
  have HM := hid hm
  have c0 := T0.c0
  have c1 := T0.c1
  have c2 := T0.c2
  have c3 := T0.c3
  have cl := T0.lt
  clear hU T0 b0 l0 CK AS hE hD hB hT hm uz
  refine (callsIn_wide (n := 3)).1 ?_
  refine callsIn_of_wp_marks Try.func22 rfl trivial ?_ rfl
  simp only [Try.ntmps22, List.size_toArray, List.length_cons, List.length_nil, Nat.reduceAdd, Nat.reduceSub, Array.replicate_succ, Array.replicate_zero, List.push_toArray, List.append_toArray, List.nil_append, List.cons_append]
  gi_wp2
  rw [HU.out]
  refine ⟨trivial, ?_⟩
  refine CK1.out.mono ?_
  rintro _ w5 ⟨rfl, hb⟩
  have B5 := hid hb
  obtain ⟨kb, kt, kl, kz⟩ := KK.out _ hb
  clear hb c0 c1 c2 c3 cl
  by_cases cE : E = 0
  · subst cE
    have AS5 := hid (AS1.out w5 kb)
    obtain ⟨g1, g2, g3, g4, g5⟩ := HE.out rfl
    have lz : w.heap.size + 1 < w5.heap.size := by omega
    clear kb kt kz
    gi_wp2
    refine ⟨trivial, ?_⟩
    refine AS5.out.mono ?_
    rintro _ w6 ⟨rfl, hb⟩
    have B6 := hid (bthen B5.out hb)
    clear hb kl lz
    obtain ⟨kb, kt, kl, kz⟩ := KK.out _ B6.out
    cases D
    · gi_wp2
      refine ⟨.tuple #[.slice none 0 0, .int .i64 9], by simp [results, Try.results22, go_sem], ?_⟩
      have hr := RR.out
      simp at hr
      exact ⟨kb, .inl ⟨by omega, by rw [← hr]⟩⟩
    · have DD := HD.out rfl
      have lz : w.heap.size + 1 < w6.heap.size := by omega
      obtain ⟨nc, hnc⟩ : ∃ nc : Nat, c - 1 = (nc : Int) := ⟨(c - 1).toNat, by omega⟩
      obtain ⟨nr, hnr⟩ : ∃ nr : Nat, r - 1 = (nr : Int) := ⟨(r - 1).toNat, by omega⟩
      have c0 := kt.c0
      have c1 := kt.c1
      have c2 := kt.c2
      have c3 := kt.c3
      have cl := kt.lt
      have cn : ¬ w.heap.size = w6.heap.size := by omega
      gi_wp2_with (refine ⟨trivial, ?_⟩; gi_at_call 51; refine (cells_in _ _ _ _ _ _ _ _).mono ?_; rintro e w' ⟨rfl, rfl⟩)
      obtain ⟨W0, hW0⟩ : ∃ W0, (w6.alloc (.cells #[.slice none 0 0] 22)).alloc (Obj.cells #[.int .i64 c, .int .i64 r, .int .i64 k, .slice A z.length cap] 24) = W0 := ⟨_, rfl⟩
      have zW : W0.heap.size = w6.heap.size + 2 := by rw [← hW0]; simp
      have kW : Below w6.heap.size w6 W0 := by rw [← hW0]; exact bthen (balloc _ _) (balloc _ _)
      have b0 : W0.cell? ⟨w6.heap.size + 1, 0, none⟩ = some (.int .i64 c) := by rw [← hW0]; simp [go_sem]
      have b1 : W0.cell? ⟨w6.heap.size + 1, 1, none⟩ = some (.int .i64 r) := by rw [← hW0]; simp [go_sem]
      have I0 : ClsI w w6.heap.size c r k A z.length cap B l.length bcap [] W0 :=
        ⟨kt.below kW, (kW.cell (p := ⟨w.heap.size + 1, 0, none⟩) lz).trans kl, bthen kb kW, ⟨.slice none 0 0, by rw [← hW0]; simp [go_sem], OwnI.nil _ _⟩, fun o => by rw [← hW0]; simp [go_sem], by omega, kz⟩
      have SLO := hid (fun (x y : Int) (W : World) (hb : Below w.heap.size w W) (hx : okC c r (x, y)) => tslope_any A cap c r k z x y W g1 g2 g3 g4 g5 hx.1.1 hx.1.2 hx.2.1 hx.2.2 (HTT.out.below hb))
      have BSR := hid (fun (x : Int) (W : World) (hb : Below w.heap.size w W) => bsearch_any B bcap l x W HM.out (HBB.out.below hb) DD)
      have bc : nc ≤ 15 := by omega
      have br : nr ≤ 15 := by omega
      have KZ := hid kz
      rw [hW0]
      clear hW0 kW c0 c1 c2 c3 cl cn kt kl kb kz lz AS5 AS1 CK1
      refine wpIn_rangeFunc_ownH rfl (by omega) (gf := 70) (lb := #[.pointer (some ⟨w6.heap.size + 1, 0, none⟩)]) rfl trivial (enters_of Try.func70 (by kernel_rfl) rfl)
        (cells_stops _ (by omega) (w6.heap.size + 1) (w.heap.size + 2) c r nc nr hnc hnr bc br W0 (by omega) b0 b1)
        (fun h k => KV.trans h k) (KV.put (by have := KZ.out; omega) (by omega)) (Below.refl _ _) (fun _ => rfl)
        (fun (pre : List (CQ c r)) W => ClsI w w6.heap.size c r k A z.length cap B l.length bcap ((vC pre).map (Sp.clsG z c k l)) W)
        (fun cd pre W => False)
        (fun s X Y row hs hg hr => hs.grown (by omega) hg hr)
        (fun cd s X Y row hs hg hr => hs.elim)
        I0
        (fun q a' W => a' = { tmps := #[.agg #[.int .i64 c, .int .i64 r, .int .i64 k, .slice A z.length cap], .slice B l.length bcap, .pointer (some ⟨w.heap.size, 0, none⟩), .pointer (some ⟨w.heap.size + 1, 0, none⟩), .slice none 0 0, .int .i64 0, .int .i64 0, .pointer (some ⟨w6.heap.size, 0, none⟩), .int .i64 q.1.1, .int .i64 q.1.2, undef, undef, .agg #[.int .i64 c, .int .i64 r, .int .i64 k, .slice A z.length cap], .int .i64 0, .int .i64 0, .bool false, undef, .slice B l.length bcap, .bool true, .bool false, .agg #[.int .i64 c, .int .i64 r, .int .i64 k, .slice A z.length cap], .func (.func 70) #[] #[.pointer (some ⟨w6.heap.size + 1, 0, none⟩)], .int .i64 q.1.1, .int .i64 q.1.2, undef, undef, undef, undef, undef, undef, undef, undef, undef, undef, undef, undef, undef, undef], defers := [] })
        (fun q a' _ X Y row hs hg hr => hs) ?assign ?body ?done ?stop
      case assign =>
        rintro m pre q W K hI hK
        gi_wp2
        exact hK _ _ (keeps_below (Below.refl _ _)) ⟨Below.refl _ _, rfl⟩ hI rfl
      case body =>
        rintro m pre ⟨⟨x, y⟩, hxy⟩ a' W hl0 ⟨r', hr'⟩ hI rfl hlt
        have HW := hid (show w6.heap.size + 2 ≤ W.heap.size by have := (Array.getElem?_eq_some_iff.1 hr').1; omega)
        clear hr'
        have HIW := hid hI.bw
        have HI := hid hI
        have HS := hid (fun (q : Nat) W' (hb : Below W.heap.size W W') => CallsIn.inRound m (callsIn_wide (n := q).2 (SLO.out x y W' (bthen HIW.out hb) hxy)))
        obtain ⟨S, hS⟩ : ∃ S, Sp.sloS z c k x y = S := ⟨_, rfl⟩
        have HG := hid (show Sp.clsG z c k l (x, y) = ((l.countP (fun v => decide (v < S)) : Nat) : Int) by unfold Sp.clsG; simp only [hS])
        simp only [hS] at HS
        have HSB := hid (fun (q : Nat) W' (hb : Below W.heap.size W W') => CallsIn.inRound m (callsIn_wide (n := q).2 (BSR.out S W' (bthen HIW.out hb))))
        obtain ⟨CN, hCN⟩ : ∃ CN : Int, ((l.countP (fun v => decide (v < S)) : Nat) : Int) = CN := ⟨_, rfl⟩
        rw [hCN] at HG
        simp only [hCN] at HSB
        generalize l.contains S = FB at HSB
        have c0 := hI.tr.c0
        have c1 := hI.tr.c1
        have c2 := hI.tr.c2
        have c3 := hI.tr.c3
        have cl := hI.tr.lt
        have l0 := hI.li
        have lz : w.heap.size + 1 < W.heap.size := by have := hI.bw.size; have := hI.sz; have := hI.lt; omega
        have PL := hid (show pre.length ≤ 3000 by have := Nat.mul_le_mul br bc; omega)
        obtain ⟨LS, hLS⟩ : ∃ LS, (vC pre).map (Sp.clsG z c k l) = LS := ⟨_, rfl⟩
        have SN := hid (show (vC (pre ++ [(⟨(x, y), hxy⟩ : CQ c r)])).map (Sp.clsG z c k l) = LS ++ [CN] by rw [vC_snoc, List.map_append, hLS, List.map_cons, List.map_nil, HG.out])
        have LL0 := hid (show LS.length ≤ 3000 by rw [← hLS, List.length_map, vC_len]; exact PL.out)
        rw [hLS] at hI
        clear HI
        have HI := hid hI
        clear hI hlt hl0 hS hCN hLS
        gi_wp2
        refine Code.wpIn_mono (Q := fun e a' W' => e = .normal ∧ a' = { tmps := #[.agg #[.int .i64 c, .int .i64 r, .int .i64 k, .slice A z.length cap], .slice B l.length bcap, .pointer (some ⟨w.heap.size, 0, none⟩), .pointer (some ⟨w.heap.size + 1, 0, none⟩), .slice none 0 0, .int .i64 0, .int .i64 0, .pointer (some ⟨w6.heap.size, 0, none⟩), .int .i64 x, .int .i64 y, .int .i64 CN, .bool FB, .agg #[.int .i64 c, .int .i64 r, .int .i64 k, .slice A z.length cap], .int .i64 0, .int .i64 0, .bool false, undef, .slice B l.length bcap, .bool true, .bool false, .agg #[.int .i64 c, .int .i64 r, .int .i64 k, .slice A z.length cap], .func (.func 70) #[] #[.pointer (some ⟨w6.heap.size + 1, 0, none⟩)], .int .i64 x, .int .i64 y, .tuple #[.int .i64 CN, .bool FB], .slice B l.length bcap, .agg #[.int .i64 c, .int .i64 r, .int .i64 k, .slice A z.length cap], .int .i64 x, .int .i64 y, .int .i64 S, .tuple #[.int .i64 CN, .bool FB], .int .i64 CN, .bool FB, undef, undef, undef, undef, undef], defers := [] } ∧ Below W.heap.size W W') ?rest ?region
        case region =>
         gi_region_with (first
          | (refine ⟨trivial, ?_⟩; gi_at_call 48; refine (HS.out _ _ (by first | exact Below.refl _ _ | exact (Below.refl _ _).drew)).mono ?_; rintro _ w7 ⟨rfl, hb⟩; have hb7 : Below W.heap.size W w7 := (bthen (Below.refl _ _).drew hb); clear hb; have d0 : w7.cell? ⟨w.heap.size + 1, 0, none⟩ = some (.slice B l.length bcap) := (hb7.cell (p := ⟨w.heap.size + 1, 0, none⟩) lz).trans l0; have dz : w.heap.size + 1 < w7.heap.size := Nat.lt_of_lt_of_le lz hb7.size)
          | (refine ⟨trivial, ?_⟩; gi_at_call 52; refine (HSB.out _ _ hb7).mono ?_; rintro _ w8 ⟨rfl, hb⟩; have hb8 : Below W.heap.size W w8 := (bthen hb7 hb); clear hb))
         all_goals exact ⟨rfl, rfl, hb8⟩
        case rest =>
          rintro _ _ W7 ⟨rfl, rfl, hb7⟩
          have I7 := hid (HI.out.below hb7)
          obtain ⟨v, h1, h2⟩ := I7.out.bx
          obtain ⟨A3, q3, rfl, -, -, -⟩ := h2.form
          have H2 := hid h2
          have pf := I7.out.pf
          have pz := I7.out.sz
          have pl := I7.out.lt
          have HB7 := hid hb7
          have ll : Hid (LS.length ≤ 4000) := hid (by have := LL0.out; omega)
          have gb : w6.heap.size + 2 ≤ (W7.alloc (.cells #[.int .i64 CN] 3)).heap.size := by simp; omega
          have pn : ¬ w6.heap.size = W7.heap.size := by omega
          have OL := hid (fun g h => ownI_lt H2.out (g := g) h)
          clear h2 hb7 c0 c1 c2 c3 cl l0 lz HSB HS
          gi_wp2_with (gi_at_builtin; refine appI_inF rfl _ _ rfl (w6.heap.size + 2) _ LS rfl (H2.out.below (balloc _ _)) W7.heap.size rfl CN (by simp [go_sem]) ll gb ?_; intro A9 q9 w9 how hgr; have ce := (World.cell?_of_block (a := ⟨w6.heap.size, 0, none⟩) (hgr.block w6.heap.size (by simp; omega) (fun e => by have := (OL.out _ e.symm).1; omega))); have fe := fun o => (World.frozen?_of_block (a := ⟨w6.heap.size, o, none⟩) (hgr.block w6.heap.size (by simp; omega) (fun e => by have := (OL.out _ e.symm).1; omega))); have q9c := ce.trans ((Below.cell (balloc W7 (.cells #[.int .i64 CN] 3)) (p := ⟨w6.heap.size, 0, none⟩) pz).trans h1); have q9f := fun o => (fe o).trans ((Below.frozen (balloc W7 (.cells #[.int .i64 CN] 3)) (p := ⟨w6.heap.size, o, none⟩) pz).trans (pf o)); have q9z : w6.heap.size < w9.heap.size := (by have := hgr.size; simp at this; omega))
          have KF : KeepsFrom W0.heap.size W (w9.setCell ⟨w6.heap.size, 0, none⟩ (.slice A9 (LS.length + 1) q9)) := (keeps_below HB7.out).trans ((keeps_below (balloc _ _)).trans ((keeps_own (H2.out.below (balloc _ _)) hgr).trans ((KeepsOthers.setCell _ _ _).from _)))
          have wz := HI.out.bw.size
          have wp := HI.out.sz
          have wq := HW.out
          have h7z := HB7.out.size
          have az : W7.heap.size ≤ (W7.alloc (.cells #[.int .i64 CN] 3)).heap.size := by simp
          have KB : Below (w.heap.size + 2) W (w9.setCell ⟨w6.heap.size, 0, none⟩ (.slice A9 (LS.length + 1) q9)) :=
            (((bthen HB7.out (balloc _ _)).mono (by omega)).grown hgr (by omega) (fun b e => by have := (OL.out _ e).1; omega)).setCell (p := ⟨w6.heap.size, 0, none⟩) (by simp only; omega) _
          have KS : (w9.setCell ⟨w6.heap.size, 0, none⟩ (.slice A9 (LS.length + 1) q9)).heap[w6.heap.size + 1]? = W.heap[w6.heap.size + 1]? :=
            (Below.heap_setCell _ _ _ _ (Nat.succ_ne_self w6.heap.size)).trans ((hgr.block (w6.heap.size + 1) (by omega) (fun e => by have := (OL.out _ e.symm).1; omega)).trans (((balloc W7 _).block (w6.heap.size + 1) (by omega)).trans (HB7.out.block (w6.heap.size + 1) (by omega))))
          refine ⟨KF, ⟨KB, KS⟩, ?_⟩
          show ClsI w w6.heap.size c r k A z.length cap B l.length bcap ((vC (pre ++ [(⟨(x, y), hxy⟩ : CQ c r)])).map (Sp.clsG z c k l)) _
          rw [SN.out]
          exact I7.out.push _ h1 H2.out (balloc _ _) hgr A9 _ q9 CN (by simpa using how)
      case done =>
        rintro D xs W hD hxs hI hK
        have HI := hid hI
        obtain ⟨v, h1, h2⟩ := hI.bx
        obtain ⟨A3, q3, rfl, -, F3, -⟩ := h2.form
        have hL : (vC xs).map (Sp.clsG z c k l) = CL := by
          rw [hxs, ← HCL.out]
          unfold Sp.clsL
          rw [hnc, hnr]
          simp
        rw [hL] at h1 F3
        have sz := hI.sz
        have hr := RR.out
        simp at hr
        clear h2 hnc hnr
        gi_wp2
        refine ⟨by simp, .inl ⟨_, _, rfl, run_takeDeferred hK, ?_⟩⟩
        have hg := grownBy_putObj' W D (.deferred none)
        have hr' : ∀ b, some D = some b → ∃ o : Obj, W.heap[b]? = some o ∧ o.isCells = false := fun b e => by cases e; exact ⟨_, hK, rfl⟩
        have I9 := hI.grown (b := W0.heap.size) (by omega) hg (fun b e => ⟨by cases e; exact hD, hr' b e⟩)
        have F9 : Ints (W.putObj D (.deferred none)) A3 CL := fun h0 => by
          obtain ⟨b, off, e, bl, q⟩ := F3 h0
          exact ⟨b, off, e, Nat.lt_of_lt_of_le bl hg.size, fun j hj => cell_kept (q j hj) hg hr'⟩
        refine ⟨.tuple #[.slice A3 CL.length q3, .int .i64 0], by simp [results, Try.results22, go_sem], ?_⟩
        exact ⟨I9.bw, .inr ⟨hr.symm, A3, q3, rfl, F9⟩⟩
      case stop =>
        rintro D cd pre W hD hk h hK
        exact h.elim
  · have hn : (E == 0) = false := by simpa using cE
    clear kt kl kz
    gi_wp2
    refine ⟨.tuple #[.slice none 0 0, .int .i64 E], by simp [results, Try.results22, go_sem], ?_⟩
    have hr := RR.out
    rw [if_pos cE] at hr
    subst hr
    exact ⟨kb, .inl ⟨cE, rfl⟩⟩
theorem tClasses_any (A : Option Addr) (cap : Nat) (c r k : Int) (z : List Int) (B : Option Addr) (bcap : Nat) (l : List Int) (w : World) (hl : z.length ≤ 140737488355328) (hm : l.length ≤ 1000000) (hB : Ints w B l) (hT : Ints w A z) :
    Calls Try.prog 22 #[.agg #[.int .i64 c, .int .i64 r, .int .i64 k, .slice A z.length cap], .slice B l.length bcap] w (IlPost w (Sp.clsE c r k z l) (Sp.clsL c r k z l)) := by
  unfold Sp.clsE
  exact tcls_main A cap c r k z B bcap l _ (@decide (ascP l 0) (Classical.propDecidable _)) w hm hB hT (fun h => Sp.terE_zero h) (fun h => by simpa using h) (fun W hb => tcheck_any A cap c r k z W hl (hT.below hb))
    (fun W hb => tasc_any B bcap l _ W hm (hB.below hb) (by simp))
end Go.Proofs.Ytmdaanigkhikfaa
