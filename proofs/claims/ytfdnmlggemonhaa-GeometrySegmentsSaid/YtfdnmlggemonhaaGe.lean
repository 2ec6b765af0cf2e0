/-
  Layer 7: relation of package geometry, by contract. Written by tools/gen_ge.py.
-/
import Derived.Test.YtfdnmlggemonhaaGd
import Derived.IntWalk
import Derived.Test.YtfdnmlggemonhaaGreg
namespace Go.Proofs.Ytfdnmlggemonhaa
open Go.RowKit Go.Maps Go.WideMaps
set_option linter.unusedVariables false
set_option linter.unusedSimpArgs false

/-- What the loop of relation keeps: the map at block m, the four points at block g. -/
structure RelR (V : World) (m g : Nat) (l : List Sp.Pt) (f : Sp.Pt → Bool) (t : Value) (wr : World) : Prop where
  ex : ∃ j : Nat, t = .int .i64 (j : Int) ∧ j ≤ l.length ∧ wr.ownsMap Try.prog 23 (plainElem (H := Unit) Try.prog 4) m j (gset ((l.take j).filter f))
  pt : Pts wr (some ⟨g, 0, none⟩) l
  bw : Below V.heap.size V wr
theorem take_filter {l : List Sp.Pt} {f : Sp.Pt → Bool} {j : Nat} (h : j < l.length) : (l.take (j + 1)).filter f = (l.take j).filter f ++ (if f (l[j]'h) = true then [l[j]'h] else []) := by
  rw [List.take_add_one, List.filter_append, List.getElem?_eq_getElem h]
  cases e : f (l[j]'h) <;> simp [e]
theorem pts_block {w w' : World} {g : Nat} {l : List Sp.Pt} (h : Pts w (some ⟨g, 0, none⟩) l) (hb : w'.heap[g]? = w.heap[g]?) (hs : w.heap.size ≤ w'.heap.size) : Pts w' (some ⟨g, 0, none⟩) l := fun h0 => by
  obtain ⟨b, off, hA, hl, hc⟩ := h h0
  injection hA with hA
  injection hA with h1 h2 h3
  subst h1 h2
  refine ⟨g, 0, rfl, Nat.lt_of_lt_of_le hl hs, fun j hj => ?_⟩
  obtain ⟨c0, c1⟩ := hc j hj
  exact ⟨(World.cell?_of_block (a := ⟨g, 0 + j * 2, none⟩) hb).trans c0, (World.cell?_of_block (a := ⟨g, 0 + j * 2 + 1, none⟩) hb).trans c1⟩

set_option maxRecDepth 100000 in
set_option maxHeartbeats 4000000 in
theorem rel_any (a b c d : Sp.Pt) (ha : Sp.okP a = true) (hb : Sp.okP b = true) (hc : Sp.okP c = true) (hd : Sp.okP d = true) (w : World) :
    Calls Try.prog 51 #[.agg #[.int .i64 a.1, .int .i64 a.2], .agg #[.int .i64 b.1, .int .i64 b.2], .agg #[.int .i64 c.1, .int .i64 c.2], .agg #[.int .i64 d.1, .int .i64 d.2]] w (Gives (.int .i64 (Sp.relS a b c d)) w) := by
  have hmm := @run_makeMap Try.prog
  obtain ⟨f, hf⟩ : ∃ f : Sp.Pt → Bool, (fun p => Sp.onS p a b && Sp.onS p c d) = f := ⟨_, rfl⟩
  obtain ⟨l, hl⟩ : ∃ l : List Sp.Pt, [a, b, c, d] = l := ⟨_, rfl⟩
  have l4 : l.length = 4 := by rw [← hl]; rfl
  have ok : ∀ p ∈ l, Sp.okP p = true := by rw [← hl]; intro p hp; simp at hp; rcases hp with rfl | rfl | rfl | rfl <;> assumption
  have o1 := fun (p : Sp.Pt) (hp : Sp.okP p = true) => on_any p a b hp ha hb
  have o2 := fun (p : Sp.Pt) (hp : Sp.okP p = true) => on_any p c d hp hc hd
  have hff : ∀ p, f p = (Sp.onS p a b && Sp.onS p c d) := fun p => by rw [← hf]
  have t1 := turn_any a b c ha hb hc
  have t2 := turn_any a b d ha hb hd
  have t3 := turn_any c d a hc hd ha
  have t4 := turn_any c d b hc hd hb
  have K8 := fun (W : World) (gg : Nat) => Pts.mk4 (g := gg) (w := W) (a := a) (b := b) (c := c) (d := d)
  have hs := gset_size (l := l.filter f) (fun p hp => ok p (List.mem_filter.1 hp).1)
  obtain ⟨R, hR⟩ : ∃ R, Sp.relS a b c d = R := ⟨_, rfl⟩
  rw [hR]
  have hR2 : Sp.pk (if Sp.crossing a b c d = true then 2 else 0) 1 3 (l.filter f) = R := by rw [← hR, ← hl, ← hf]; rfl
  unfold Sp.crossing at hR2
  rw [hl] at K8
  have q1 := Sp.sg_cases (Sp.crs a b c)
  have q2 := Sp.sg_cases (Sp.crs a b d)
  have q3 := Sp.sg_cases (Sp.crs c d a)
  have q4 := Sp.sg_cases (Sp.crs c d b)
  generalize Sp.sg (Sp.crs a b c) = s1 at hR2 q1 t1
  generalize Sp.sg (Sp.crs a b d) = s2 at hR2 q2 t2
  generalize Sp.sg (Sp.crs c d a) = s3 at hR2 q3 t3
  generalize Sp.sg (Sp.crs c d b) = s4 at hR2 q4 t4
  have z1 : s1 = -1 ∨ s1 = 0 ∨ s1 = 1 := by rcases q1 with h | h | h <;> omega
  have z2 : s2 = -1 ∨ s2 = 0 ∨ s2 = 1 := by rcases q2 with h | h | h <;> omega
  have z3 : s3 = -1 ∨ s3 = 0 ∨ s3 = 1 := by rcases q3 with h | h | h <;> omega
  have z4 : s4 = -1 ∨ s4 = 0 ∨ s4 = 1 := by rcases q4 with h | h | h <;> omega
  have Z := hid (And.intro z1 (And.intro z2 (And.intro z3 z4)))
  have HS := hid hs
  have HR := hid hR2
  have OK := hid ok
  have HF := hid hff
  have KK := hid K8
  have O1 := hid o1
  have O2 := hid o2
  clear hR hR2 hs ok hff K8 o1 o2 q1 q2 q3 q4 z1 z2 z3 z4 hl hf ha hb hc hd
  obtain ⟨a1, a2⟩ := a
  obtain ⟨b1, b2⟩ := b
  obtain ⟨c1, c2⟩ := c
  obtain ⟨d1, d2⟩ := d
  dsimp only at *
  obtain ⟨V, hV⟩ : ∃ V : World, ((((w.alloc (Obj.cells #[.int .i64 (a1), .int .i64 (a2)] 23)).alloc (Obj.cells #[.int .i64 (b1), .int .i64 (b2)] 23)).alloc (Obj.cells #[.int .i64 (c1), .int .i64 (c2)] 23)).alloc (Obj.cells #[.int .i64 (d1), .int .i64 (d2)] 23)) = V := ⟨_, rfl⟩
  have bV : Below w.heap.size w V := by rw [← hV]; (repeat' (first | (with_reducible exact Below.refl _ _) | (with_reducible refine Below.alloc ?_ ?_ _) | (with_reducible refine Below.setCell ?_ ?_ _) | (with_reducible refine Below.drew ?_) | (with_reducible refine Below.trans ?_ (Below.mono (by assumption) ?_)) | (simp; done) | (simp; omega) | omega))
  have zV : V.heap.size = w.heap.size + 1 + 1 + 1 + 1 := by rw [← hV]; simp
  have dV : V.drawn = w.drawn := by rw [← hV]; rfl
  have K : Hid (∀ W' : World, Below V.heap.size V W' → (W'.cell? ⟨w.heap.size, 0, none⟩ = some (.int .i64 a1) ∧ W'.cell? ⟨w.heap.size, 1, none⟩ = some (.int .i64 a2) ∧ W'.cell? ⟨w.heap.size + 1, 0, none⟩ = some (.int .i64 b1) ∧ W'.cell? ⟨w.heap.size + 1, 1, none⟩ = some (.int .i64 b2) ∧ W'.cell? ⟨w.heap.size + 1 + 1, 0, none⟩ = some (.int .i64 c1) ∧ W'.cell? ⟨w.heap.size + 1 + 1, 1, none⟩ = some (.int .i64 c2) ∧ W'.cell? ⟨w.heap.size + 1 + 1 + 1, 0, none⟩ = some (.int .i64 d1) ∧ W'.cell? ⟨w.heap.size + 1 + 1 + 1, 1, none⟩ = some (.int .i64 d2))) := hid fun W' B => ⟨(B.cell (p := ⟨w.heap.size, 0, none⟩) (by simp only; omega)).trans (by rw [← hV]; simp [go_sem]), (B.cell (p := ⟨w.heap.size, 1, none⟩) (by simp only; omega)).trans (by rw [← hV]; simp [go_sem]), (B.cell (p := ⟨w.heap.size + 1, 0, none⟩) (by simp only; omega)).trans (by rw [← hV]; simp [go_sem]), (B.cell (p := ⟨w.heap.size + 1, 1, none⟩) (by simp only; omega)).trans (by rw [← hV]; simp [go_sem]), (B.cell (p := ⟨w.heap.size + 1 + 1, 0, none⟩) (by simp only; omega)).trans (by rw [← hV]; simp [go_sem]), (B.cell (p := ⟨w.heap.size + 1 + 1, 1, none⟩) (by simp only; omega)).trans (by rw [← hV]; simp [go_sem]), (B.cell (p := ⟨w.heap.size + 1 + 1 + 1, 0, none⟩) (by simp only; omega)).trans (by rw [← hV]; simp [go_sem]), (B.cell (p := ⟨w.heap.size + 1 + 1 + 1, 1, none⟩) (by simp only; omega)).trans (by rw [← hV]; simp [go_sem])⟩
  have HV := hid hV
  have BV := hid bV
  have ZV := hid zV
  have DV := hid dV
  clear hV bV zV dV
  go_enter Try.func51, Try.ntmps51
  go_upto_region 2 with fail
  rw [HV.out]
  obtain ⟨ac0, ac1, bc0, bc1, cc0, cc1, dc0, dc1⟩ := K.out _ (Below.refl _ _ : Below V.heap.size V V)
  have zl : w.heap.size + 1 + 1 + 1 < V.heap.size := by have h1 := ZV.out; have h2 := ((Below.refl _ _ : Below V.heap.size V V)).size; omega
  have mz : V.heap.size < (V.alloc (.map #[] 0)).heap.size := by simp
  have hmk := World.ownsMap_made V Try.prog 23 (plainElem (H := Unit) Try.prog 4)
  have bm : Below V.heap.size V (V.alloc (.map #[] 0)) := (Below.refl _ _).alloc (Nat.le_refl _) _
  have zm : (V.alloc (.map #[] 0)).heap.size = w.heap.size + 1 + 1 + 1 + 1 + 1 := by rw [World.size_alloc, ZV.out]
  generalize V.alloc (.map #[] 0) = V2 at hmk bm zm mz ⊢
  rw [ZV.out] at hmk
  have HM := hid hmk
  have BM := hid bm
  clear hmk bm ac0 ac1 bc0 bc1 cc0 cc1 dc0 dc1 zl mz
  obtain ⟨ac0, ac1, bc0, bc1, cc0, cc1, dc0, dc1⟩ := K.out _ BM.out
  go_wp2_with fail
  go_loopw [19] (fun t wr => RelR V (w.heap.size + 1 + 1 + 1 + 1) (w.heap.size + 1 + 1 + 1 + 1 + 1) l f t wr) (fun t _ => l.length - (intOf t).toNat)
  case atStart =>
    refine ⟨⟨0, rfl, Nat.zero_le _, ?_⟩, ?_, BM.out.trans (((Below.refl _ _).alloc (Nat.le_refl _) _).mono BM.out.size)⟩
    · exact owns_below HM.out ((Below.refl _ _).alloc (Nat.le_refl _) _)
    · exact KK.out _ _ (by simp; omega) (by simp [go_sem, ← zm]) (by simp [go_sem, ← zm]) (by simp [go_sem, ← zm]) (by simp [go_sem, ← zm]) (by simp [go_sem, ← zm]) (by simp [go_sem, ← zm]) (by simp [go_sem, ← zm]) (by simp [go_sem, ← zm])
  case round =>
    obtain ⟨⟨j, rfl, hj, hown⟩, hpt, hB⟩ := hrel
    clear ac0 ac1 bc0 bc1 cc0 cc1 dc0 dc1
    have HB := hid hB
    have HO := hid hown
    have HP := hid hpt
    clear hB hown hpt
    have zr : w.heap.size + 1 + 1 + 1 + 1 + 1 < wr.heap.size := by
      obtain ⟨b, off, hA, hl, _⟩ := HP.out (by omega)
      injection hA with hA
      injection hA with h1
      omega
    by_cases hlt : j < l.length
    · have tf := take_filter (f := f) hlt
      have okE := OK.out _ (List.getElem_mem hlt)
      obtain ⟨b, off, hA, hl0, hc⟩ := HP.out (by omega)
      injection hA with hA
      injection hA with h1 h2 h3
      subst h1 h2
      obtain ⟨x0, x1⟩ := hc j hlt
      have k1 := O1.out _ okE
      have k2 := O2.out _ okE
      have hf := HF.out (l[j]'hlt)
      have hkey := kl_some okE
      clear hc hl0
      obtain ⟨e, he⟩ : ∃ e, l[j]'hlt = e := ⟨_, rfl⟩
      rw [he] at tf x0 x1 k1 k2 hf hkey
      generalize Sp.onS e (a1, a2) (b1, b2) = f1 at k1 hf
      generalize Sp.onS e (c1, c2) (d1, d2) = f2 at k2 hf
      obtain ⟨e1, e2⟩ := e
      dsimp only at *
      rw [Nat.zero_add] at x0 x1
      obtain ⟨ac0, ac1, bc0, bc1, cc0, cc1, dc0, dc1⟩ := K.out _ HB.out
      have y1 : w.heap.size < wr.heap.size := by omega
      have y2 : w.heap.size + 1 < wr.heap.size := by omega
      have y3 : w.heap.size + 1 + 1 < wr.heap.size := by omega
      have y4 : w.heap.size + 1 + 1 + 1 < wr.heap.size := by omega
      have i0 : (0 : Int) ≤ (j : Int) := by omega
      have i1 : (j : Int) < 4 := by omega
      have i2 : (j : Int) < (l.length : Int) := by omega
      have TF := hid tf
      have HFE := hid hf
      have HL := hid hlt
      clear tf hf he okE
      have hb1 := (HB.out).trans ((((Below.refl wr.heap.size wr).alloc (Nat.le_refl _) (Obj.cells #[.int .i64 (e1), .int .i64 (e2)] 23))).mono HB.out.size)
      have BA := hid hb1
      clear hb1
      cases f1
      · go_wp2_with fail
        refine (k1 _).mono ?_
        rintro _ u1 ⟨rfl, hb, hd⟩
        have B1 := hid ((((Below.refl wr.heap.size wr).alloc (Nat.le_refl _) (Obj.cells #[.int .i64 (e1), .int .i64 (e2)] 23))).trans (hb.mono (by simp)))
        clear hb hd ac0 ac1 bc0 bc1 cc0 cc1 dc0 dc1 x0 x1
        go_wp2_with fail
        go_roundw
        case rel =>
          refine ⟨⟨j + 1, by go_num, by have := HL.out; omega, ?_⟩, HP.out.below B1.out, HB.out.trans (B1.out.mono HB.out.size)⟩
          rw [TF.out, HFE.out]
          simpa using (owns_below HO.out B1.out).mono (Nat.le_succ j)
        case measure => exact smeas _ _ HL.out
      · go_wp2_with fail
        refine (k1 _).mono ?_
        rintro _ u1 ⟨rfl, hb, hd⟩
        have n0 := (hb.cell (p := ⟨wr.heap.size, 0, none⟩) (by simp)).trans (show _ = some (.int .i64 e1) from by simp [go_sem])
        have n1 := (hb.cell (p := ⟨wr.heap.size, 1, none⟩) (by simp)).trans (show _ = some (.int .i64 e2) from by simp [go_sem])
        have hs1 : wr.heap.size < u1.heap.size := by have := hb.size; simp at this; omega
        have B1 := hid ((((Below.refl wr.heap.size wr).alloc (Nat.le_refl _) (Obj.cells #[.int .i64 (e1), .int .i64 (e2)] 23))).trans (hb.mono (by simp)))
        clear hb hd ac0 ac1 bc0 bc1 cc0 cc1 dc0 dc1 x0 x1
        obtain ⟨ac0, ac1, bc0, bc1, cc0, cc1, dc0, dc1⟩ := K.out _ (HB.out.trans (B1.out.mono HB.out.size))
        have zu : w.heap.size + 1 + 1 + 1 + 1 + 1 < u1.heap.size := by omega
        cases f2
        · go_wp2_with fail
          refine (k2 _).mono ?_
          rintro _ u2 ⟨rfl, hb, hd⟩
          have B2 := hid (B1.out.trans (hb.mono B1.out.size))
          clear hb hd ac0 ac1 bc0 bc1 cc0 cc1 dc0 dc1 n0 n1
          go_wp2_with fail
          go_roundw
          case rel =>
            refine ⟨⟨j + 1, by go_num, by have := HL.out; omega, ?_⟩, HP.out.below B2.out, HB.out.trans (B2.out.mono HB.out.size)⟩
            rw [TF.out, HFE.out]
            simpa using (owns_below HO.out B2.out).mono (Nat.le_succ j)
          case measure => exact smeas _ _ HL.out
        · go_wp2_with fail
          refine (k2 _).mono ?_
          rintro _ u2 ⟨rfl, hb, hd⟩
          have g0 := (hb.cell (p := ⟨wr.heap.size, 0, none⟩) hs1).trans n0
          have g1 := (hb.cell (p := ⟨wr.heap.size, 1, none⟩) hs1).trans n1
          have B2 := hid (B1.out.trans (hb.mono B1.out.size))
          have hs2 : wr.heap.size < u2.heap.size := Nat.lt_of_lt_of_le hs1 hb.size
          have hown2 := owns_below HO.out B2.out
          have PT2 := hid (HP.out.below B2.out)
          clear hb hd ac0 ac1 bc0 bc1 cc0 cc1 dc0 dc1 n0 n1 hs1 zu
          go_wp2_with (at_mapUpdate; refine wpList_mapUpdate_own _ rfl _ _ _ 72 rfl 23 4 gkeyed Try.underlying72 (plainElem (H := Unit) Try.prog 4) (w.heap.size + 1 + 1 + 1 + 1) j _ rfl hown2 (by unfold maxLen; omega) _ _ _ rfl rfl hkey _ [] (plainElem_bool Try.underlying4 true) ?_; intro w3 hown3 hgrow3)
          have PT3 := hid (pts_block PT2.out (hgrow3.block _ (by omega) (by intro h; injection h with h; omega)) hgrow3.size)
          have B3 := hid ((HB.out.trans (B2.out.mono HB.out.size)).grown hgrow3 (HB.out.trans (B2.out.mono HB.out.size)).size (fun q hq => by cases hq; rw [ZV.out]; exact Nat.le_refl _))
          have O3 := hid hown3
          clear hown3 hgrow3 hown2
          go_roundw
          case rel =>
            refine ⟨⟨j + 1, by go_num, by have := HL.out; omega, ?_⟩, PT3.out, B3.out⟩
            rw [TF.out, HFE.out]
            have h := O3.out
            rw [← gset_snoc] at h
            simpa using h
          case measure => exact smeas _ _ HL.out
    · have hjl : j = l.length := by omega
      subst hjl
      have hown := HO.out
      rw [List.take_length] at hown
      have i1 : ¬ ((l.length : Nat) : Int) < 4 := by omega
      obtain ⟨ac0, ac1, bc0, bc1, cc0, cc1, dc0, dc1⟩ := K.out _ HB.out
      have BN := hid (BV.out.trans (HB.out.mono BV.out.size))
      have K2 : Hid (∀ W' : World, Below wr.heap.size wr W' → (Below wr.heap.size wr W' ∧ W'.cell? ⟨w.heap.size, 0, none⟩ = some (.int .i64 a1) ∧ W'.cell? ⟨w.heap.size, 1, none⟩ = some (.int .i64 a2) ∧ W'.cell? ⟨w.heap.size + 1, 0, none⟩ = some (.int .i64 b1) ∧ W'.cell? ⟨w.heap.size + 1, 1, none⟩ = some (.int .i64 b2) ∧ W'.cell? ⟨w.heap.size + 1 + 1, 0, none⟩ = some (.int .i64 c1) ∧ W'.cell? ⟨w.heap.size + 1 + 1, 1, none⟩ = some (.int .i64 c2) ∧ W'.cell? ⟨w.heap.size + 1 + 1 + 1, 0, none⟩ = some (.int .i64 d1) ∧ W'.cell? ⟨w.heap.size + 1 + 1 + 1, 1, none⟩ = some (.int .i64 d2))) := hid fun W' B => ⟨B, K.out _ (HB.out.trans (B.mono HB.out.size))⟩
      rcases HS.out (if (decide (s1 * s2 < 0) && decide (s3 * s4 < 0)) = true then 2 else 0) 1 3 with ⟨n0, p0⟩ | ⟨n0, p0⟩ | ⟨n0, p0⟩
      · have hR := HR.out
        rw [p0] at hR
        have hn : ((Maps.size (gset (l.filter f)) : Nat) : Int) = 0 := by omega
        have z := Z.out
        obtain ⟨m1, hm1⟩ : ∃ m1, s1 * s2 = m1 := ⟨_, rfl⟩
        obtain ⟨m2, hm2⟩ : ∃ m2, s3 * s4 = m2 := ⟨_, rfl⟩
        have w1 : IntKind.i64.wrap (s1 * s2) = m1 := by rw [hm1]; refine IntWalk.i64_in _ ?_; rcases z with ⟨rfl | rfl | rfl, rfl | rfl | rfl, _⟩ <;> omega
        have w2 : IntKind.i64.wrap (s3 * s4) = m2 := by rw [hm2]; refine IntWalk.i64_in _ ?_; rcases z with ⟨_, _, rfl | rfl | rfl, rfl | rfl | rfl⟩ <;> omega
        rw [hm1, hm2] at hR
        have HR2 := hid hR
        clear hR p0 n0 z hm1 hm2
        by_cases y5 : m1 < 0
        · by_cases y6 : m2 < 0
          · have hR := HR2.out
            simp only [y5, y6, decide_true, Bool.and_self, if_true] at hR
            subst hR
            go_upto_region 12 with (at_len; refine wpList_len_own _ rfl _ 72 rfl 23 4 Try.underlying72 _ (w.heap.size + 1 + 1 + 1 + 1) l.length _ rfl hown ?_)
            clear hown
            go_region_held3 (fun W' => Below wr.heap.size wr W' ∧ W'.cell? ⟨w.heap.size, 0, none⟩ = some (.int .i64 a1) ∧ W'.cell? ⟨w.heap.size, 1, none⟩ = some (.int .i64 a2) ∧ W'.cell? ⟨w.heap.size + 1, 0, none⟩ = some (.int .i64 b1) ∧ W'.cell? ⟨w.heap.size + 1, 1, none⟩ = some (.int .i64 b2) ∧ W'.cell? ⟨w.heap.size + 1 + 1, 0, none⟩ = some (.int .i64 c1) ∧ W'.cell? ⟨w.heap.size + 1 + 1, 1, none⟩ = some (.int .i64 c2) ∧ W'.cell? ⟨w.heap.size + 1 + 1 + 1, 0, none⟩ = some (.int .i64 d1) ∧ W'.cell? ⟨w.heap.size + 1 + 1 + 1, 1, none⟩ = some (.int .i64 d2)) ((exact K2.out _ (by repeat' (first | (with_reducible exact Below.refl _ _) | (with_reducible refine Below.alloc ?_ ?_ _) | (with_reducible refine Below.setCell ?_ ?_ _) | (with_reducible refine Below.drew ?_) | (with_reducible refine below_dn ?_ _) | (with_reducible refine Below.trans ?_ (Below.mono (by assumption) ?_)) | (simp; done) | (simp; omega) | omega))))
              (first | (go_at_call 40; (with_reducible refine (t1 _).mono ?_); rintro _ w5 ⟨rfl, hb, hd⟩; have hb5 : Below wr.heap.size wr w5 := (by repeat' (first | (with_reducible exact Below.refl _ _) | (with_reducible refine Below.alloc ?_ ?_ _) | (with_reducible refine Below.setCell ?_ ?_ _) | (with_reducible refine Below.drew ?_) | (with_reducible refine below_dn ?_ _) | (with_reducible refine Below.trans ?_ (Below.mono (by assumption) ?_)) | (simp; done) | (simp; omega) | omega)); have hz5 : wr.heap.size ≤ w5.heap.size := hb5.size; clear hb hd) | (go_at_call 40; (with_reducible refine (t2 _).mono ?_); rintro _ w5 ⟨rfl, hb, hd⟩; have hb5 : Below wr.heap.size wr w5 := (by repeat' (first | (with_reducible exact Below.refl _ _) | (with_reducible refine Below.alloc ?_ ?_ _) | (with_reducible refine Below.setCell ?_ ?_ _) | (with_reducible refine Below.drew ?_) | (with_reducible refine below_dn ?_ _) | (with_reducible refine Below.trans ?_ (Below.mono (by assumption) ?_)) | (simp; done) | (simp; omega) | omega)); have hz5 : wr.heap.size ≤ w5.heap.size := hb5.size; clear hb hd) | (go_at_call 40; (with_reducible refine (t3 _).mono ?_); rintro _ w5 ⟨rfl, hb, hd⟩; have hb5 : Below wr.heap.size wr w5 := (by repeat' (first | (with_reducible exact Below.refl _ _) | (with_reducible refine Below.alloc ?_ ?_ _) | (with_reducible refine Below.setCell ?_ ?_ _) | (with_reducible refine Below.drew ?_) | (with_reducible refine below_dn ?_ _) | (with_reducible refine Below.trans ?_ (Below.mono (by assumption) ?_)) | (simp; done) | (simp; omega) | omega)); have hz5 : wr.heap.size ≤ w5.heap.size := hb5.size; clear hb hd) | (go_at_call 40; (with_reducible refine (t4 _).mono ?_); rintro _ w5 ⟨rfl, hb, hd⟩; have hb5 : Below wr.heap.size wr w5 := (by repeat' (first | (with_reducible exact Below.refl _ _) | (with_reducible refine Below.alloc ?_ ?_ _) | (with_reducible refine Below.setCell ?_ ?_ _) | (with_reducible refine Below.drew ?_) | (with_reducible refine below_dn ?_ _) | (with_reducible refine Below.trans ?_ (Below.mono (by assumption) ?_)) | (simp; done) | (simp; omega) | omega)); have hz5 : wr.heap.size ≤ w5.heap.size := hb5.size; clear hb hd))
            all_goals
              go_wp2_with fail
              go_ret
              exact Gives.mk rfl (BN.out.trans (hb5.mono BN.out.size))
          · have hR := HR2.out
            simp [y5, y6] at hR
            subst hR
            go_upto_region 12 with (at_len; refine wpList_len_own _ rfl _ 72 rfl 23 4 Try.underlying72 _ (w.heap.size + 1 + 1 + 1 + 1) l.length _ rfl hown ?_)
            clear hown
            go_region_held3 (fun W' => Below wr.heap.size wr W' ∧ W'.cell? ⟨w.heap.size, 0, none⟩ = some (.int .i64 a1) ∧ W'.cell? ⟨w.heap.size, 1, none⟩ = some (.int .i64 a2) ∧ W'.cell? ⟨w.heap.size + 1, 0, none⟩ = some (.int .i64 b1) ∧ W'.cell? ⟨w.heap.size + 1, 1, none⟩ = some (.int .i64 b2) ∧ W'.cell? ⟨w.heap.size + 1 + 1, 0, none⟩ = some (.int .i64 c1) ∧ W'.cell? ⟨w.heap.size + 1 + 1, 1, none⟩ = some (.int .i64 c2) ∧ W'.cell? ⟨w.heap.size + 1 + 1 + 1, 0, none⟩ = some (.int .i64 d1) ∧ W'.cell? ⟨w.heap.size + 1 + 1 + 1, 1, none⟩ = some (.int .i64 d2)) ((exact K2.out _ (by repeat' (first | (with_reducible exact Below.refl _ _) | (with_reducible refine Below.alloc ?_ ?_ _) | (with_reducible refine Below.setCell ?_ ?_ _) | (with_reducible refine Below.drew ?_) | (with_reducible refine below_dn ?_ _) | (with_reducible refine Below.trans ?_ (Below.mono (by assumption) ?_)) | (simp; done) | (simp; omega) | omega))))
              (first | (go_at_call 40; (with_reducible refine (t1 _).mono ?_); rintro _ w5 ⟨rfl, hb, hd⟩; have hb5 : Below wr.heap.size wr w5 := (by repeat' (first | (with_reducible exact Below.refl _ _) | (with_reducible refine Below.alloc ?_ ?_ _) | (with_reducible refine Below.setCell ?_ ?_ _) | (with_reducible refine Below.drew ?_) | (with_reducible refine below_dn ?_ _) | (with_reducible refine Below.trans ?_ (Below.mono (by assumption) ?_)) | (simp; done) | (simp; omega) | omega)); have hz5 : wr.heap.size ≤ w5.heap.size := hb5.size; clear hb hd) | (go_at_call 40; (with_reducible refine (t2 _).mono ?_); rintro _ w5 ⟨rfl, hb, hd⟩; have hb5 : Below wr.heap.size wr w5 := (by repeat' (first | (with_reducible exact Below.refl _ _) | (with_reducible refine Below.alloc ?_ ?_ _) | (with_reducible refine Below.setCell ?_ ?_ _) | (with_reducible refine Below.drew ?_) | (with_reducible refine below_dn ?_ _) | (with_reducible refine Below.trans ?_ (Below.mono (by assumption) ?_)) | (simp; done) | (simp; omega) | omega)); have hz5 : wr.heap.size ≤ w5.heap.size := hb5.size; clear hb hd) | (go_at_call 40; (with_reducible refine (t3 _).mono ?_); rintro _ w5 ⟨rfl, hb, hd⟩; have hb5 : Below wr.heap.size wr w5 := (by repeat' (first | (with_reducible exact Below.refl _ _) | (with_reducible refine Below.alloc ?_ ?_ _) | (with_reducible refine Below.setCell ?_ ?_ _) | (with_reducible refine Below.drew ?_) | (with_reducible refine below_dn ?_ _) | (with_reducible refine Below.trans ?_ (Below.mono (by assumption) ?_)) | (simp; done) | (simp; omega) | omega)); have hz5 : wr.heap.size ≤ w5.heap.size := hb5.size; clear hb hd) | (go_at_call 40; (with_reducible refine (t4 _).mono ?_); rintro _ w5 ⟨rfl, hb, hd⟩; have hb5 : Below wr.heap.size wr w5 := (by repeat' (first | (with_reducible exact Below.refl _ _) | (with_reducible refine Below.alloc ?_ ?_ _) | (with_reducible refine Below.setCell ?_ ?_ _) | (with_reducible refine Below.drew ?_) | (with_reducible refine below_dn ?_ _) | (with_reducible refine Below.trans ?_ (Below.mono (by assumption) ?_)) | (simp; done) | (simp; omega) | omega)); have hz5 : wr.heap.size ≤ w5.heap.size := hb5.size; clear hb hd))
            all_goals
              go_wp2_with fail
              go_ret
              exact Gives.mk rfl (BN.out.trans (hb5.mono BN.out.size))
        · have hR := HR2.out
          simp [y5] at hR
          subst hR
          have y7 : decide (m1 < 0) = false := decide_eq_false y5
          go_upto_region 12 with (at_len; refine wpList_len_own _ rfl _ 72 rfl 23 4 Try.underlying72 _ (w.heap.size + 1 + 1 + 1 + 1) l.length _ rfl hown ?_)
          clear hown
          refine region_inv (by kernel_rfl) [SP.eq (.agg #[.int .i64 a1, .int .i64 a2]), SP.eq (.agg #[.int .i64 b1, .int .i64 b2]), SP.eq (.agg #[.int .i64 c1, .int .i64 c2]), SP.eq (.int .i64 s1), SP.eq (.agg #[.int .i64 a1, .int .i64 a2]), SP.eq (.agg #[.int .i64 b1, .int .i64 b2]), SP.eq (.agg #[.int .i64 d1, .int .i64 d2]), SP.eq (.int .i64 s2), SP.eq (.int .i64 m1), SP.eq (.bool false), SP.eq (.bool false), SP.eq undef, SP.eq undef, SP.eq undef, SP.eq undef, SP.eq undef, SP.eq undef, SP.eq undef, SP.eq undef, SP.eq undef, SP.eq undef, SP.eq (.bool false), SP.eq (.bool false)] (by kernel_rfl) ?_ ?_
          · intro i hi a w2 FR DP BW DW
            have hc : i = 0 ∨ i = 1 ∨ i = 2 ∨ i = 3 ∨ i = 4 ∨ i = 5 ∨ i = 6 ∨ i = 7 ∨ i = 8 ∨ i = 9 ∨ i = 10 ∨ i = 11 ∨ i = 12 ∨ i = 13 ∨ i = 14 ∨ i = 15 ∨ i = 16 ∨ i = 17 ∨ i = 18 ∨ i = 19 ∨ i = 20 ∨ i = 21 ∨ i = 22 := by
              have hi2 : i < 23 := hi
              omega
            clear hi
            rcases hc with rfl | rfl | rfl | rfl | rfl | rfl | rfl | rfl | rfl | rfl | rfl | rfl | rfl | rfl | rfl | rfl | rfl | rfl | rfl | rfl | rfl | rfl | rfl
            · -- 0: Op.load 23 (Operand.tmp 4)
              have g4 : a.tmps[4]? = some _ := (FR 4 (by kernel_rfl)).trans rfl
              obtain ⟨ac0, ac1, bc0, bc1, cc0, cc1, dc0, dc1⟩ := K.out _ (HB.out.trans (BW.mono HB.out.size))
              refine wpOp_run rfl (wanted_none rfl) fun K2 hK => ?_
              clear FR DP
              go_simp
              exact hK _ _ ⟨_, 45, rfl, rfl, KR.refl _ _, rfl⟩
            · -- 1: Op.load 23 (Operand.tmp 5)
              have g5 : a.tmps[5]? = some _ := (FR 5 (by kernel_rfl)).trans rfl
              obtain ⟨ac0, ac1, bc0, bc1, cc0, cc1, dc0, dc1⟩ := K.out _ (HB.out.trans (BW.mono HB.out.size))
              refine wpOp_run rfl (wanted_none rfl) fun K2 hK => ?_
              clear FR DP
              go_simp
              exact hK _ _ ⟨_, 46, rfl, rfl, KR.refl _ _, rfl⟩
            · -- 2: Op.load 23 (Operand.tmp 6)
              have g6 : a.tmps[6]? = some _ := (FR 6 (by kernel_rfl)).trans rfl
              obtain ⟨ac0, ac1, bc0, bc1, cc0, cc1, dc0, dc1⟩ := K.out _ (HB.out.trans (BW.mono HB.out.size))
              refine wpOp_run rfl (wanted_none rfl) fun K2 hK => ?_
              clear FR DP
              go_simp
              exact hK _ _ ⟨_, 47, rfl, rfl, KR.refl _ _, rfl⟩
            · -- 3: Op.call { callee := Callee.value (Operand.func 40), args := #[Operand.
              obtain ⟨_, g45, rfl⟩ := DP 0 45 (by kernel_rfl) (by kernel_rfl)
              obtain ⟨_, g46, rfl⟩ := DP 1 46 (by kernel_rfl) (by kernel_rfl)
              obtain ⟨_, g47, rfl⟩ := DP 2 47 (by kernel_rfl) (by kernel_rfl)
              refine wpOp_run rfl (wanted_none rfl) fun K2 hK => ?_
              clear FR DP
              go_simp
              refine (t1 w2).mono ?_
              rintro _ w3 ⟨rfl, hb, hd⟩
              exact hK _ _ ⟨_, 48, rfl, rfl, KR.of BW.size hb hd, rfl⟩
            · -- 4: Op.load 23 (Operand.tmp 4)
              have g4 : a.tmps[4]? = some _ := (FR 4 (by kernel_rfl)).trans rfl
              obtain ⟨ac0, ac1, bc0, bc1, cc0, cc1, dc0, dc1⟩ := K.out _ (HB.out.trans (BW.mono HB.out.size))
              refine wpOp_run rfl (wanted_none rfl) fun K2 hK => ?_
              clear FR DP
              go_simp
              exact hK _ _ ⟨_, 49, rfl, rfl, KR.refl _ _, rfl⟩
            · -- 5: Op.load 23 (Operand.tmp 5)
              have g5 : a.tmps[5]? = some _ := (FR 5 (by kernel_rfl)).trans rfl
              obtain ⟨ac0, ac1, bc0, bc1, cc0, cc1, dc0, dc1⟩ := K.out _ (HB.out.trans (BW.mono HB.out.size))
              refine wpOp_run rfl (wanted_none rfl) fun K2 hK => ?_
              clear FR DP
              go_simp
              exact hK _ _ ⟨_, 50, rfl, rfl, KR.refl _ _, rfl⟩
            · -- 6: Op.load 23 (Operand.tmp 7)
              have g7 : a.tmps[7]? = some _ := (FR 7 (by kernel_rfl)).trans rfl
              obtain ⟨ac0, ac1, bc0, bc1, cc0, cc1, dc0, dc1⟩ := K.out _ (HB.out.trans (BW.mono HB.out.size))
              refine wpOp_run rfl (wanted_none rfl) fun K2 hK => ?_
              clear FR DP
              go_simp
              exact hK _ _ ⟨_, 51, rfl, rfl, KR.refl _ _, rfl⟩
            · -- 7: Op.call { callee := Callee.value (Operand.func 40), args := #[Operand.
              obtain ⟨_, g49, rfl⟩ := DP 4 49 (by kernel_rfl) (by kernel_rfl)
              obtain ⟨_, g50, rfl⟩ := DP 5 50 (by kernel_rfl) (by kernel_rfl)
              obtain ⟨_, g51, rfl⟩ := DP 6 51 (by kernel_rfl) (by kernel_rfl)
              refine wpOp_run rfl (wanted_none rfl) fun K2 hK => ?_
              clear FR DP
              go_simp
              refine (t2 w2).mono ?_
              rintro _ w3 ⟨rfl, hb, hd⟩
              exact hK _ _ ⟨_, 52, rfl, rfl, KR.of BW.size hb hd, rfl⟩
            · -- 8: Op.binOp BinOp.mul 3 (Operand.tmp 48) (Operand.tmp 52) 3
              obtain ⟨_, g48, rfl⟩ := DP 3 48 (by kernel_rfl) (by kernel_rfl)
              obtain ⟨_, g52, rfl⟩ := DP 7 52 (by kernel_rfl) (by kernel_rfl)
              refine wpOp_run rfl (wanted_none rfl) fun K2 hK => ?_
              clear FR DP
              go_simp
              exact hK _ _ ⟨_, 53, rfl, rfl, KR.refl _ _, rfl⟩
            · -- 9: Op.binOp BinOp.lss 3 (Operand.tmp 53) (Operand.const (Value.int IntKin
              obtain ⟨_, g53, rfl⟩ := DP 8 53 (by kernel_rfl) (by kernel_rfl)
              refine wpOp_run rfl (wanted_none rfl) fun K2 hK => ?_
              clear FR DP
              go_simp
              exact hK _ _ ⟨_, 54, rfl, rfl, KR.refl _ _, rfl⟩
            · -- 10: Op.move (Operand.tmp 54)
              obtain ⟨_, g54, rfl⟩ := DP 9 54 (by kernel_rfl) (by kernel_rfl)
              refine wpOp_run rfl (wanted_none rfl) fun K2 hK => ?_
              clear FR DP
              go_simp
              exact hK _ _ ⟨_, 55, rfl, rfl, KR.refl _ _, rfl⟩
            · -- 11: Op.load 23 (Operand.tmp 6)
              obtain ⟨_, g55, rfl⟩ := DP 10 55 (by kernel_rfl) (by kernel_rfl)
              refine wpOp_skip rfl (wanted_false rfl (by kernel_rfl) g55) fun K2 hK => ?_
              exact hK _ _ ⟨_, 56, rfl, rfl, KR.refl _ _, rfl⟩
            · -- 12: Op.load 23 (Operand.tmp 7)
              obtain ⟨_, g55, rfl⟩ := DP 10 55 (by kernel_rfl) (by kernel_rfl)
              refine wpOp_skip rfl (wanted_false rfl (by kernel_rfl) g55) fun K2 hK => ?_
              exact hK _ _ ⟨_, 57, rfl, rfl, KR.refl _ _, rfl⟩
            · -- 13: Op.load 23 (Operand.tmp 4)
              obtain ⟨_, g55, rfl⟩ := DP 10 55 (by kernel_rfl) (by kernel_rfl)
              refine wpOp_skip rfl (wanted_false rfl (by kernel_rfl) g55) fun K2 hK => ?_
              exact hK _ _ ⟨_, 58, rfl, rfl, KR.refl _ _, rfl⟩
            · -- 14: Op.call { callee := Callee.value (Operand.func 40), args := #[Operand.
              obtain ⟨_, g55, rfl⟩ := DP 10 55 (by kernel_rfl) (by kernel_rfl)
              refine wpOp_skip rfl (wanted_false rfl (by kernel_rfl) g55) fun K2 hK => ?_
              exact hK _ _ ⟨_, 59, rfl, rfl, KR.refl _ _, rfl⟩
            · -- 15: Op.load 23 (Operand.tmp 6)
              obtain ⟨_, g55, rfl⟩ := DP 10 55 (by kernel_rfl) (by kernel_rfl)
              refine wpOp_skip rfl (wanted_false rfl (by kernel_rfl) g55) fun K2 hK => ?_
              exact hK _ _ ⟨_, 60, rfl, rfl, KR.refl _ _, rfl⟩
            · -- 16: Op.load 23 (Operand.tmp 7)
              obtain ⟨_, g55, rfl⟩ := DP 10 55 (by kernel_rfl) (by kernel_rfl)
              refine wpOp_skip rfl (wanted_false rfl (by kernel_rfl) g55) fun K2 hK => ?_
              exact hK _ _ ⟨_, 61, rfl, rfl, KR.refl _ _, rfl⟩
            · -- 17: Op.load 23 (Operand.tmp 5)
              obtain ⟨_, g55, rfl⟩ := DP 10 55 (by kernel_rfl) (by kernel_rfl)
              refine wpOp_skip rfl (wanted_false rfl (by kernel_rfl) g55) fun K2 hK => ?_
              exact hK _ _ ⟨_, 62, rfl, rfl, KR.refl _ _, rfl⟩
            · -- 18: Op.call { callee := Callee.value (Operand.func 40), args := #[Operand.
              obtain ⟨_, g55, rfl⟩ := DP 10 55 (by kernel_rfl) (by kernel_rfl)
              refine wpOp_skip rfl (wanted_false rfl (by kernel_rfl) g55) fun K2 hK => ?_
              exact hK _ _ ⟨_, 63, rfl, rfl, KR.refl _ _, rfl⟩
            · -- 19: Op.binOp BinOp.mul 3 (Operand.tmp 59) (Operand.tmp 63) 3
              obtain ⟨_, g55, rfl⟩ := DP 10 55 (by kernel_rfl) (by kernel_rfl)
              refine wpOp_skip rfl (wanted_false rfl (by kernel_rfl) g55) fun K2 hK => ?_
              exact hK _ _ ⟨_, 64, rfl, rfl, KR.refl _ _, rfl⟩
            · -- 20: Op.binOp BinOp.lss 3 (Operand.tmp 64) (Operand.const (Value.int IntKin
              obtain ⟨_, g55, rfl⟩ := DP 10 55 (by kernel_rfl) (by kernel_rfl)
              refine wpOp_skip rfl (wanted_false rfl (by kernel_rfl) g55) fun K2 hK => ?_
              exact hK _ _ ⟨_, 65, rfl, rfl, KR.refl _ _, rfl⟩
            · -- 21: Op.pick (Operand.tmp 55) (Operand.tmp 65) (Operand.const (Value.bool f
              obtain ⟨_, g55, rfl⟩ := DP 10 55 (by kernel_rfl) (by kernel_rfl)
              obtain ⟨_, g65, rfl⟩ := DP 20 65 (by kernel_rfl) (by kernel_rfl)
              refine wpOp_run rfl (wanted_none rfl) fun K2 hK => ?_
              clear FR DP
              go_simp
              exact hK _ _ ⟨_, 66, rfl, rfl, KR.refl _ _, rfl⟩
            · -- 22: Op.assign (Operand.tmp 66)
              obtain ⟨_, g66, rfl⟩ := DP 21 66 (by kernel_rfl) (by kernel_rfl)
              refine wpOp_run rfl (wanted_none rfl) fun K2 hK => ?_
              clear FR DP
              go_simp
              exact hK _ _ ⟨_, 44, rfl, rfl, KR.refl _ _, rfl⟩
          · intro a w2 FR DP BW DW DF AZ
            obtain ⟨_, g44, rfl⟩ := DP 22 44 (by kernel_rfl)
            clear DP
            obtain ⟨xs, rfl⟩ := frame_xs [45, 46, 47, 48, 49, 50, 51, 52, 53, 54, 55, 56, 57, 58, 59, 60, 61, 62, 63, 64, 65, 66, 44] (by kernel_rfl) FR AZ DF
            clear FR AZ DF
            have B5 := hid BW
            clear BW DW
            have x44 : xs 44 = .bool false := by simpa [List.foldl] using g44
            clear g44
            simp only [List.foldl, List.setIfInBounds_toArray, List.set_cons_succ, List.set_cons_zero, Exit.inBlock, Exit.then]
            go_at_K
            go_wp2_with fail
            go_ret
            exact Gives.mk rfl (BN.out.trans (B5.out.mono BN.out.size))
      · have hR := HR.out
        rw [p0] at hR
        subst hR
        have hn : ((Maps.size (gset (l.filter f)) : Nat) : Int) = 1 := by omega
        clear p0 n0
        go_wp2_with (at_len; refine wpList_len_own _ rfl _ 72 rfl 23 4 Try.underlying72 _ (w.heap.size + 1 + 1 + 1 + 1) l.length _ rfl hown ?_)
        go_ret
        exact Gives.mk rfl BN.out
      · have hR := HR.out
        rw [p0] at hR
        subst hR
        have hn : (1 : Int) < ((Maps.size (gset (l.filter f)) : Nat) : Int) := by omega
        clear p0 n0
        go_wp2_with (at_len; refine wpList_len_own _ rfl _ 72 rfl 23 4 Try.underlying72 _ (w.heap.size + 1 + 1 + 1 + 1) l.length _ rfl hown ?_)
        go_ret
        exact Gives.mk rfl BN.out

end Go.Proofs.Ytfdnmlggemonhaa
