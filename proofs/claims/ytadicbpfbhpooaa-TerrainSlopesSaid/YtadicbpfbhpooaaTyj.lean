/-
  Layer 15: Classes of couperef15, by contract.
-/
import Derived.Test.YtadicbpfbhpooaaTyi
import Derived.Test.YtadicbpfbhpooaaTr
namespace Go.Proofs.Ytadicbpfbhpooaa
open Go.RowKit
set_option linter.unusedVariables false
set_option linter.unusedSimpArgs false
theorem countP_take (l : List Int) (S : Int) (i : Nat) (h : i < l.length) : (l.take (i + 1)).countP (fun x => decide (x < S)) = (l.take i).countP (fun x => decide (x < S)) + (if l[i] < S then 1 else 0) := by
  rw [List.take_succ_eq_append_getElem h, List.countP_append]
  simp [List.countP_cons, List.countP_nil]
set_option maxRecDepth 100000 in
set_option maxHeartbeats 4000000 in
theorem rcls_main (A : Option Addr) (cap : Nat) (c r k : Int) (z : List Int) (B : Option Addr) (bcap : Nat) (l : List Int) (E : Int) (D : Bool) (w : World) (hm : l.length ≤ 1000) (hB : Ints w B l) (hT : Ints w A z)
    (hE : E = 0 → (2 ≤ c ∧ c ≤ 16) ∧ (2 ≤ r ∧ r ≤ 16) ∧ (1 ≤ k ∧ k ≤ 1000) ∧ (z.length : Int) = c * r ∧ ∀ v ∈ z, 0 ≤ v ∧ v ≤ 50000)
    (hD : D = true ↔ ascP l 0)
    (CK : ∀ W, Below w.heap.size w W → Calls Try.prog 16 #[.agg #[.int .i64 c, .int .i64 r, .int .i64 k, .slice A z.length cap]] W (Gives (.int .i64 E) W)) :
    Calls Try.prog 23 #[.agg #[.int .i64 c, .int .i64 r, .int .i64 k, .slice A z.length cap], .slice B l.length bcap] w (IlPost w (if E ≠ 0 then E else if D = false then 9 else 0) (Sp.clsL c r k z l)) := by
  obtain ⟨R, hR⟩ : ∃ R : Int, (if E ≠ 0 then E else if D = false then 9 else 0) = R := ⟨_, rfl⟩
  rw [hR]
  have RR := hid hR
  clear hR
  obtain ⟨CL, hCL⟩ : ∃ CL, Sp.clsL c r k z l = CL := ⟨_, rfl⟩
  rw [hCL]
  have HCL := hid hCL
  clear hCL
  have VB := trAt_new w c r k A z.length cap
  have b0 : Below w.heap.size w (w.alloc (Obj.cells #[.int .i64 c, .int .i64 r, .int .i64 k, .slice A z.length cap] 24)) := balloc _ _
  have uz : w.heap.size + 1 ≤ (w.alloc (Obj.cells #[.int .i64 c, .int .i64 r, .int .i64 k, .slice A z.length cap] 24)).heap.size := by simp
  generalize hU : w.alloc (Obj.cells #[.int .i64 c, .int .i64 r, .int .i64 k, .slice A z.length cap] 24) = U at VB b0 uz
  have CK1 := hid (CK U b0)
  have HU := hid hU
  have HE := hid hE
  have HD := hid hD
  have HBB := hid hB
  have HTT := hid hT
  have HM := hid hm
  have HB0 := hid b0
  have HC := hid VB
  have UZ := hid uz
  have c0 := VB.c0
  have c1 := VB.c1
  have c2 := VB.c2
  have c3 := VB.c3
  have cl := VB.lt
  clear hU VB b0 uz CK hE hD hB hT hm
  go_enter Try.func23, Try.ntmps23
  go_upto_region 1 with fail
  rw [HU.out]
  go_wp2_with fail
  refine CK1.out.mono ?_
  rintro _ w5 ⟨rfl, hb⟩
  have B5 := hid (bthen HB0.out hb)
  have Q5 := hid (HC.out.below hb)
  have Z5 := hid (Nat.le_trans UZ.out hb.size)
  clear hb c0 c1 c2 c3 cl
  by_cases cE : E = 0
  · subst cE
    obtain ⟨g1, g2, g3, g4, g5⟩ := HE.out rfl
    obtain ⟨nc, hnc⟩ : ∃ nc : Nat, c - 1 = (nc : Int) := ⟨(c - 1).toNat, by omega⟩
    obtain ⟨nr, hnr⟩ : ∃ nr : Nat, r - 1 = (nr : Int) := ⟨(r - 1).toNat, by omega⟩
    have HNC := hid hnc
    have HNR := hid hnr
    have BC := hid (show nc ≤ 15 by omega)
    have BR := hid (show nr ≤ 15 by omega)
    have wc : wrap64 (c - 1) = (nc : Int) := by rw [pw64 _ (by omega)]; exact hnc
    have wr1 : wrap64 (r - 1) = (nr : Int) := by rw [pw64 _ (by omega)]; exact hnr
    have SLO := hid (fun (x y : Int) (W : World) (hb : Below w.heap.size w W) (hx : okC c r (x, y)) => rslope_any A cap c r k z x y W g1 g2 g3 g4 g5 hx.1.1 hx.1.2 hx.2.1 hx.2.2 (HTT.out.below hb))
    clear g1 g2 g3 g4 g5 hnc hnr HE
    go_wp2_with fail
    go_loopw [7] (fun t wr => ∃ j : Nat, t = .int .i64 ((j : Int) + 1) ∧ (D = true ↔ ascP l j) ∧ TrAt wr w.heap.size c r k A z.length cap ∧ Below w.heap.size w wr ∧ w.heap.size + 1 ≤ wr.heap.size) (fun t _ => ((l.length : Int) - intOf t).toNat)
    case atStart => exact ⟨0, rfl, HD.out, Q5.out, B5.out, Z5.out⟩
    case round =>
      obtain ⟨j, rfl, hd, hQ, hB, hZ⟩ := hrel
      have HDD := hid hd
      have HQ := hid hQ
      have HB := hid hB
      have HZ := hid hZ
      clear hd hQ hB hZ
      by_cases hlt : j + 1 < l.length
      · obtain ⟨b, off, rfl, bl, q⟩ := (HBB.out.below HB.out) (Nat.lt_of_le_of_lt (Nat.zero_le _) hlt)
        have q0 := q j (Nat.lt_of_succ_lt hlt)
        have q1 := q (j + 1) hlt
        have st := ascP_step hlt
        obtain ⟨u, hu⟩ : ∃ u, l[j]'(Nat.lt_of_succ_lt hlt) = u := ⟨_, rfl⟩
        obtain ⟨v, hv⟩ : ∃ v, l[j + 1]'hlt = v := ⟨_, rfl⟩
        rw [hu] at q0 st
        rw [hv] at q1 st
        have ST := hid st
        obtain ⟨i0, i1, i2, i3, wk, e2, eq, hm⟩ := aslf j l.length hlt (by have := HM.out; omega)
        have EQ := hid eq
        have HMM := hid hm
        have hD := hid HB.out.drew
        have hQ2 := hid (HQ.out.below (Below.refl _ _).drew)
        have hZ2 := hid (show w.heap.size + 1 ≤ wr.drew.heap.size from HZ.out)
        clear q hu hv st eq hm
        by_cases g : v ≤ u
        · have f1 : decide (v ≤ u) = true := decide_eq_true g
          have HR := hid (show D = false from Bool.eq_false_iff.mpr (fun e => by
            have := (ST.out.1 (HDD.out.1 e)).1
            omega))
          clear g
          go_wp2_with fail
          go_still (by rfl)
          refine (show ∀ (K : Act → World → Prop) a, K a wr.drew → K a { wr with drawn := wr.drawn + 1 } from fun K a h => h) _ _ ?_
          have hr := RR.out
          simp [HR.out] at hr
          go_wp2_with fail
          refine bodyPost_ret (v := .tuple #[.slice none 0 0, .int .i64 9]) (by simp [results, Try.results23, go_sem]) rfl ?_
          exact ⟨hD.out, .inl ⟨by omega, by rw [← hr]⟩⟩
        · have f1 : decide (v ≤ u) = false := decide_eq_false g
          have HR := hid (show D = true ↔ ascP l (j + 1) from ⟨fun e => (ST.out.1 (HDD.out.1 e)).2, fun e => HDD.out.2 (ST.out.2 ⟨Int.not_le.mp g, e⟩)⟩)
          clear g
          go_wp2_with fail
          go_still (by rfl)
          refine (show ∀ (K : Act → World → Prop) a, K a wr.drew → K a { wr with drawn := wr.drawn + 1 } from fun K a h => h) _ _ ?_
          go_wp2_with fail
          go_roundw
          case rel => exact ⟨j + 1, i64_eq (by first | exact EQ.out | exact e2.trans EQ.out), HR.out, hQ2.out, hD.out, hZ2.out⟩
          case measure => first | exact HMM.out | (rw [e2]; exact HMM.out)
      · have i1 : ¬ (j : Int) + 1 < (l.length : Int) := by omega
        have HR := hid (show D = true from HDD.out.2 (ascP_end hlt))
        have hr := RR.out
        simp [HR.out] at hr
        have HR0 := hid hr
        clear hr hlt
        go_wp2_with fail
        obtain ⟨V, hV⟩ : ∃ V, wr = V := ⟨_, rfl⟩
        go_loopw [9, 8] (fun t u wx => ∃ i : Nat, i ≤ nr ∧ t = .int .i64 (i : Int) ∧ OwnI wx (w.heap.size + 1) u ((cellU nc (i * nc)).map (Sp.clsG z c k l)) ∧ TrAt wx w.heap.size c r k A z.length cap ∧ Below w.heap.size w wx ∧ w.heap.size + 1 ≤ wx.heap.size) (fun t _ _ => nr - (intOf t).toNat)
        case atStart => exact ⟨0, Nat.zero_le _, rfl, by rw [Nat.zero_mul]; exact OwnI.nil _ _, HQ.out, HB.out, HZ.out⟩
        case round =>
          obtain ⟨i, hi, rfl, hO, hQ, hB, hZ⟩ := hrel
          obtain ⟨L1, hL1⟩ : ∃ L1, (cellU nc (i * nc)).map (Sp.clsG z c k l) = L1 := ⟨_, rfl⟩
          rw [hL1] at hO
          have HL1 := hid hL1
          have HO := hid hO
          have HQ1 := hid hQ
          have HB1 := hid hB
          have HZ1 := hid hZ
          obtain ⟨A1, q1, e1, -, -, -⟩ := hO.form
          subst e1
          have t0 := hQ.c0
          have t1 := hQ.c1
          have tl := hQ.lt
          clear hO hQ hB hZ hL1
          by_cases hlt : i < nr
          · obtain ⟨i0, i1, ei, eq⟩ := csf i nr hlt BR.out
            have EQ := hid eq
            have HI := hid hlt
            have HM1 := hid (pmeas nr i hlt)
            clear eq hlt
            go_wp2_with fail
            simp only [wr1]
            clear t0 t1 tl
            go_loopw [10, 8] (fun t u wx => ∃ j : Nat, j ≤ nc ∧ t = .int .i64 (j : Int) ∧ OwnI wx (w.heap.size + 1) u ((cellU nc (i * nc + j)).map (Sp.clsG z c k l)) ∧ TrAt wx w.heap.size c r k A z.length cap ∧ Below w.heap.size w wx ∧ w.heap.size + 1 ≤ wx.heap.size) (fun t _ _ => nc - (intOf t).toNat)
            case atStart => exact ⟨0, Nat.zero_le _, rfl, (by show OwnI _ _ _ (List.map (Sp.clsG z c k l) (cellU nc (i * nc))); rw [HL1.out]; exact HO.out), HQ1.out, HB1.out, HZ1.out⟩
            case round =>
              obtain ⟨j, hj, rfl, hO, hQ, hB, hZ⟩ := hrel
              obtain ⟨W1, rfl⟩ : ∃ W1, W1 = wr := ⟨_, rfl⟩
              obtain ⟨LS, hLS⟩ : ∃ LS, (cellU nc (i * nc + j)).map (Sp.clsG z c k l) = LS := ⟨_, rfl⟩
              rw [hLS] at hO
              have HLS := hid hLS
              have HO2 := hid hO
              have HQ2 := hid hQ
              have HB2 := hid hB
              have HZ2 := hid hZ
              obtain ⟨A2, q2, e2, -, -, -⟩ := hO.form
              subst e2
              have t0 := hQ.c0
              have tl := hQ.lt
              clear hO hQ hB hZ hLS
              by_cases hlt : j < nc
              · obtain ⟨j0, j1, ej, eq2⟩ := csf j nc hlt BC.out
                have EQ2 := hid eq2
                have HM2 := hid (pmeas nc j hlt)
                have cf := cellF_at (i := i) hlt
                have clt := cell_lt hlt HI.out
                have okc : okC c r ((j : Int), (i : Int)) := by rw [← cf]; exact cellF_ok HNC.out HNR.out clt
                obtain ⟨S, hS⟩ : ∃ S, Sp.sloS z c k (j : Int) (i : Int) = S := ⟨_, rfl⟩
                have SL1 := hid (fun (W : World) (hb : Below w.heap.size w W) => SLO.out (j : Int) (i : Int) W hb okc)
                simp only [hS] at SL1
                obtain ⟨CN, hCN⟩ : ∃ CN : Int, ((l.countP (fun v => decide (v < S)) : Nat) : Int) = CN := ⟨_, rfl⟩
                have SN := hid (show (cellU nc (i * nc + (j + 1))).map (Sp.clsG z c k l) = LS ++ [CN] by
                  rw [show i * nc + (j + 1) = i * nc + j + 1 from rfl, cellU_succ, cf, List.map_append, HLS.out, List.map_cons, List.map_nil]
                  unfold Sp.clsG
                  simp only [hS, hCN])
                have ll : Hid (LS.length ≤ 4000) := hid (by rw [← HLS.out, List.length_map, cellU_len]; exact Nat.le_trans (Nat.le_of_lt clt) (Nat.le_trans (Nat.mul_le_mul BR.out BC.out) (by decide)))
                have HCN := hid hCN
                have HL := hid hlt
                clear eq2 cf clt okc hS hCN hlt
                go_wp2_with fail
                simp only [wc]
                clear t0 tl
                go_loopw [12, 11] (fun t u wx => ∃ m : Nat, m ≤ l.length ∧ t = .int .i64 (m : Int) ∧ u = .int .i64 (((l.take m).countP (fun v => decide (v < S)) : Nat) : Int) ∧ Below W1.heap.size W1 wx) (fun t _ _ => l.length - (intOf t).toNat)
                case atStart => exact ⟨0, Nat.zero_le _, rfl, rfl, Below.refl _ _⟩
                case round =>
                  obtain ⟨m, hm, rfl, rfl, hB3⟩ := hrel
                  have HB3 := hid hB3
                  clear hB3
                  by_cases hlt : m < l.length
                  · obtain ⟨em, eqm, m0, m1⟩ := rjw m l.length hlt (Nat.le_trans HM.out (by decide))
                    have EQ3 := hid eqm
                    have HM3 := hid (pmeas l.length m hlt)
                    have HL3 := hid hlt
                    obtain ⟨b, off, eB, bl, q⟩ := (HBB.out.below (bthen HB2.out HB3.out)) (Nat.lt_of_le_of_lt (Nat.zero_le _) hlt)
                    have q0 := q m hlt
                    have ct := countP_take l S m hlt
                    obtain ⟨x, hx⟩ : ∃ x, l[m]'hlt = x := ⟨_, rfl⟩
                    rw [hx] at q0 ct
                    obtain ⟨n, hn⟩ : ∃ n : Nat, (l.take m).countP (fun v => decide (v < S)) = n := ⟨_, rfl⟩
                    have nb : n ≤ 1000 := by rw [← hn]; exact Nat.le_trans List.countP_le_length (Nat.le_trans (by rw [List.length_take]; exact Nat.min_le_right _ _) HM.out)
                    rw [hn] at ct
                    rw [hn]
                    have CT := hid ct
                    obtain ⟨en, eqn, -, -⟩ := rjw n 1001 (Nat.lt_succ_of_le nb) (by decide)
                    have EN := hid eqn
                    have QQ := HQ2.out.below HB3.out
                    have c0 := QQ.c0
                    have c1 := QQ.c1
                    have c2 := QQ.c2
                    have c3 := QQ.c3
                    have cl := QQ.lt
                    have SL2 := hid (fun (W : World) (hb : Below wr.heap.size wr W) => SL1.out W (bthen (bthen HB2.out HB3.out) hb))
                    subst eB
                    clear q hx eqm hlt hn nb ct eqn QQ
                    go_upto_region 20 with fail
                    go_cut [62] (fun v wx => v = .bool (decide (x < S)) ∧ Below wr.heap.size wr wx)
                    case first =>
                      go_region_with (go_at_call 49; (with_reducible refine (SL2.out _ (by first | exact Below.refl _ _ | exact (Below.refl _ _).drew)).mono ?_); rintro _ w9 ⟨rfl, hx⟩; have hb9 : Below wr.heap.size wr w9 := (bthen (Below.refl _ _).drew hx); have q9 := (hb9.cell (p := ⟨b, off + m, none⟩) bl).trans q0; clear hx)
                      all_goals
                        go_wp2_with fail
                        refine Met.intro ?_
                        go_step
                        (repeat apply Exists.intro)
                        refine ⟨?rel, ?frame⟩
                        case frame =>
                          simp only [Act.put, List.size_toArray, List.length_cons, List.length_nil, List.getElem_toArray, List.getElem_cons_succ, List.getElem_cons_zero, List.setIfInBounds_toArray, List.set_cons_succ, List.set_cons_zero]
                          rfl
                        case rel => exact ⟨rfl, hb9⟩
                    case rest =>
                      obtain ⟨rfl, hb⟩ := hcut
                      have HB4 := hid (bthen HB3.out hb)
                      clear hb c0 c1 c2 c3 cl q0
                      by_cases g : x < S
                      · have f1 : decide (x < S) = true := decide_eq_true g
                        have CT2 := hid (show (l.take (m + 1)).countP (fun v => decide (v < S)) = n + 1 by rw [CT.out, if_pos g])
                        clear g
                        rw [f1]
                        go_wp2_with fail
                        go_roundw
                        case rel => exact ⟨m + 1, HL3.out, (by first | exact i64_eq EQ3.out | exact i64_eq (em.trans EQ3.out) | exact EQ3.out | exact em.trans EQ3.out), (by rw [CT2.out]; exact (by first | exact i64_eq EN.out | exact i64_eq (en.trans EN.out) | exact EN.out | exact en.trans EN.out)), HB4.out⟩
                        case measure => first | exact HM3.out | (rw [em]; exact HM3.out)
                      · have f1 : decide (x < S) = false := decide_eq_false g
                        have CT2 := hid (show (l.take (m + 1)).countP (fun v => decide (v < S)) = n by rw [CT.out, if_neg g, Nat.add_zero])
                        clear g
                        rw [f1]
                        go_wp2_with fail
                        go_roundw
                        case rel => exact ⟨m + 1, HL3.out, (by first | exact i64_eq EQ3.out | exact i64_eq (em.trans EQ3.out) | exact EQ3.out | exact em.trans EQ3.out), (by rw [CT2.out]), HB4.out⟩
                        case measure => first | exact HM3.out | (rw [em]; exact HM3.out)
                  · have i1 : ¬ (m : Int) < (l.length : Int) := fun k => hlt (Int.ofNat_lt.mp k)
                    have et : l.take m = l := List.take_of_length_le (Nat.le_of_not_lt hlt)
                    rw [et, HCN.out]
                    have gb : w.heap.size + 1 ≤ (wr.alloc (.cells #[.int .i64 CN] 3)).heap.size := by
                      have h1 := HZ2.out
                      have h2 := HB3.out.size
                      exact Nat.le_trans h1 (Nat.le_trans h2 (balloc wr _).size)
                    have OL := hid (fun g h => ownI_lt HO2.out (g := g) h)
                    clear hlt et hm
                    go_wp2_with (at_builtin; refine appI rfl _ _ rfl (w.heap.size + 1) _ LS rfl ((HO2.out.below HB3.out).below (balloc _ _)) wr.heap.size rfl CN (by simp [go_sem]) ll gb ?_; intro v8 w8 how hgr)
                    have HOW := hid how
                    have GR := hid hgr
                    clear how hgr
                    go_roundw
                    case rel =>
                      refine ⟨j + 1, HL.out, (by first | exact i64_eq EQ2.out | exact i64_eq (ej.trans EQ2.out) | exact EQ2.out | exact ej.trans EQ2.out), by rw [SN.out]; exact HOW.out, ?_, ?_, Nat.le_trans gb GR.out.size⟩
                      · exact ((HQ2.out.below HB3.out).below (balloc _ _)).grown GR.out (fun b e => by have := (OL.out b e).1; omega)
                      · exact (bthen (bthen HB2.out HB3.out) (balloc _ _)).grown GR.out (Nat.le_of_succ_le gb) (fun b e => by have := (OL.out b e).1; omega)
                    case measure => first | exact HM2.out | (rw [ej]; exact HM2.out)
              · obtain rfl : j = nc := Nat.le_antisymm hj (Nat.le_of_not_lt hlt)
                have i1 : ¬ (j : Int) < (j : Int) := Int.lt_irrefl _
                go_wp2_with fail
                go_roundw
                case rel => exact ⟨i + 1, HI.out, i64_eq (by first | exact EQ.out | exact ei.trans EQ.out), (by rw [Nat.add_mul, Nat.one_mul, HLS.out]; exact HO2.out), HQ2.out, HB2.out, HZ2.out⟩
                case measure => first | exact HM1.out | (rw [ei]; exact HM1.out)
          · obtain rfl : i = nr := Nat.le_antisymm hi (Nat.le_of_not_lt hlt)
            have i1 : ¬ (i : Int) < (i : Int) := Int.lt_irrefl _
            obtain ⟨A3, q3, e3, -, F3, -⟩ := HO.out.form
            injection e3 with h1 h2 h3
            subst h1 h3
            have LE := hid (show L1 = CL by
              rw [← HL1.out, ← HCL.out]
              unfold Sp.clsL
              rw [HNC.out, HNR.out]
              simp)
            have F4 := hid F3
            clear h2 F3
            go_wp2_with fail
            refine bodyPost_ret (v := .tuple #[.slice A1 L1.length q1, .int .i64 0]) (by simp [results, Try.results23, go_sem]) rfl ?_
            rw [← LE.out]
            exact ⟨HB1.out, .inr ⟨HR0.out.symm, A1, q1, rfl, F4.out⟩⟩
  · have hn : (E == 0) = false := by simpa using cE
    have hr := RR.out
    rw [if_pos cE] at hr
    subst hr
    go_wp2_with fail
    refine bodyPost_ret (v := .tuple #[.slice none 0 0, .int .i64 E]) (by simp [results, Try.results23, go_sem]) rfl ?_
    exact ⟨B5.out, .inl ⟨cE, rfl⟩⟩
theorem rClasses_any (A : Option Addr) (cap : Nat) (c r k : Int) (z : List Int) (B : Option Addr) (bcap : Nat) (l : List Int) (w : World) (hl : z.length ≤ 140737488355328) (hm : l.length ≤ 1000) (hB : Ints w B l) (hT : Ints w A z) :
    Calls Try.prog 23 #[.agg #[.int .i64 c, .int .i64 r, .int .i64 k, .slice A z.length cap], .slice B l.length bcap] w (IlPost w (Sp.clsE c r k z l) (Sp.clsL c r k z l)) := by
  unfold Sp.clsE
  exact rcls_main A cap c r k z B bcap l _ (@decide (ascP l 0) (Classical.propDecidable _)) w hm hB hT (fun h => Sp.terE_zero h) (by simp) (fun W hb => rcheck_any A cap c r k z W hl (hT.below hb))
end Go.Proofs.Ytadicbpfbhpooaa
