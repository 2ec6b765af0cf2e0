/-
  Layer 15: Receiver and Catchment of couperef15, by contract.
-/
import Derived.Test.YtmdaanigkhikfaaTyb
namespace Go.Proofs.Ytmdaanigkhikfaa
open Go.RowKit
set_option linter.unusedVariables false
set_option linter.unusedSimpArgs false
set_option maxRecDepth 100000 in
set_option maxHeartbeats 1000000 in
theorem rReceiver_any (A : Option Addr) (cap : Nat) (c r k : Int) (z : List Int) (w : World) (hl : z.length ≤ 140737488355328) (hT : Ints w A z) :
    Calls Try.prog 26 #[.agg #[.int .i64 c, .int .i64 r, .int .i64 k, .slice A z.length cap]] w (IlPost w (Sp.terE c r k z) (Sp.tabL (Sp.rcvS z c r) z.length)) := by
  have VB := trAt_new w c r k A z.length cap
  have b0 : Below w.heap.size w (w.alloc (Obj.cells #[.int .i64 c, .int .i64 r, .int .i64 k, .slice A z.length cap] 24)) := balloc _ _
  have uz : w.heap.size + 1 ≤ (w.alloc (Obj.cells #[.int .i64 c, .int .i64 r, .int .i64 k, .slice A z.length cap] 24)).heap.size := by simp
  generalize hU : w.alloc (Obj.cells #[.int .i64 c, .int .i64 r, .int .i64 k, .slice A z.length cap] 24) = U at VB b0 uz
  have CK := hid (rcheck_any A cap c r k z U hl (hT.below b0))
  have GD := hid (fun (q : Sp.terE c r k z = 0) => Sp.terE_zero q)
  have RC := hid (fun (q : Sp.terE c r k z = 0) (i : Int) (bi : 0 ≤ i ∧ i < z.length) W (hb : Below w.heap.size w W) => by
    obtain ⟨h1, h2, h3, h4, h5⟩ := Sp.terE_zero q
    exact rrcv_any A cap c r k z i W h1 h2 h4 bi (hT.below hb))
  generalize Sp.terE c r k z = E at CK GD RC ⊢
  obtain ⟨g, hg⟩ : ∃ g, Sp.rcvS z c r = g := ⟨_, rfl⟩
  rw [hg]
  have RCG := hid (fun q i bi W hb => (congrArg (fun f => Calls Try.prog 54 #[.agg #[.int .i64 c, .int .i64 r, .int .i64 k, .slice A z.length cap], .int .i64 i] W (Gives (.int .i64 (f i)) W)) hg).mp (RC.out q i bi W hb))
  clear RC hg
  have RC := RCG
  clear RCG
  have HU := hid hU
  have HB := hid b0
  have HC := hid VB
  have UZ := hid uz
  have k0 := VB.c0
  have k1 := VB.c1
  have k2 := VB.c2
  have k3 := VB.c3
  have kl := VB.lt
  clear hT hU b0 VB hl uz
  go_enter Try.func26, Try.ntmps26
  go_upto_region 1 with fail
  rw [HU.out]
  go_wp2_with fail
  refine CK.out.mono ?_
  rintro _ w5 ⟨rfl, hb⟩
  have B5 := hid (bthen HB.out hb)
  have Q5 := hid (HC.out.below hb)
  have Z5 := hid (Nat.le_trans UZ.out hb.size)
  clear hb k0 k1 k2 k3 kl
  by_cases cE : E = 0
  · subst cE
    obtain ⟨g1, g2, g3, g4, -⟩ := GD.out rfl
    have zb : z.length ≤ 256 := by
      have : c * r ≤ 16 * 16 := Int.mul_le_mul g1.2 g2.2 (by omega) (by omega)
      omega
    have ZB := hid zb
    have RC2 := hid (RC.out (by first | rfl | trivial))
    have q3 := Q5.out.c3
    have ql := Q5.out.lt
    clear g1 g2 g3 g4 GD RC zb
    go_wp2_with fail
    go_loopw [6, 5] (fun t u wr => RcRel w c r k A z.length cap g z.length t u wr) (fun t _ _ => z.length - (intOf t).toNat)
    case atStart => exact ⟨0, rfl, Nat.zero_le _, OwnI.nil _ _, Q5.out, B5.out, Z5.out⟩
    case round =>
      obtain ⟨j, rfl, hj, hO, hQ, hB, hZ⟩ := hrel
      have HO := hid hO
      have HQ := hid hQ
      have HBB := hid hB
      have HZ := hid hZ
      obtain ⟨A1, q1, e1, -, -, -⟩ := hO.form
      subst e1
      have t0 := hQ.c0
      have t1 := hQ.c1
      have t2 := hQ.c2
      have t3 := hQ.c3
      have tl := hQ.lt
      clear hO hQ hB hZ ql q3
      by_cases hlt : j < z.length
      · obtain ⟨ej, eq, i0, i1⟩ := rjw j z.length hlt (by have := ZB.out; omega)
        have R1 := hid (fun W hb => RC2.out (j : Int) ⟨i0, i1⟩ W hb)
        have sn := Sp.tabL_snoc g j
        obtain ⟨x, hx⟩ : ∃ x, g (j : Int) = x := ⟨_, rfl⟩
        rw [hx] at sn
        simp only [hx] at R1
        have SN := hid sn
        have EQ := hid eq
        have HJ := hid hlt
        have HM := hid (pmeas z.length j hlt)
        have ll : Hid ((Sp.tabL g j).length ≤ 4000) := hid (by rw [Sp.tabL_len]; have := ZB.out; omega)
        clear sn hx eq hlt
        go_wp2_with (first
          | (go_at_call 54; refine (R1.out _ HBB.out).mono ?_; rintro _ w6 ⟨rfl, hb⟩; have HB6 := hid hb; have gb6 : w.heap.size + 1 ≤ (w6.alloc (.cells #[.int .i64 x] 3)).heap.size := (by have h1 := HZ.out; have h2 := hb.size; simp; omega); clear hb)
          | (at_builtin; refine appI rfl _ _ rfl (w.heap.size + 1) _ (Sp.tabL g j) rfl ((HO.out.below HB6.out).below (balloc _ _)) w6.heap.size rfl x (by simp [go_sem]) ll gb6 ?_; intro v8 w8 how hgr))
        have HOW := hid how
        have GR := hid hgr
        have OL := hid (fun g h => ownI_lt HO.out (g := g) h)
        clear how hgr
        go_roundw
        case rel =>
          refine ⟨j + 1, i64_eq (by first | exact EQ.out | exact ej.trans EQ.out), HJ.out, by rw [SN.out]; exact HOW.out, ?_, ?_, Nat.le_trans gb6 GR.out.size⟩
          · exact ((HQ.out.below HB6.out).below (balloc _ _)).grown GR.out (fun b e => by have := (OL.out b e).1; omega)
          · exact (bthen (bthen HBB.out HB6.out) (balloc _ _)).grown GR.out (Nat.le_of_succ_le gb6) (fun b e => by have := (OL.out b e).1; omega)
        case measure => first | exact HM.out | (rw [ej]; exact HM.out)
      · have i1 : ¬ (j : Int) < (z.length : Int) := fun k => hlt (Int.ofNat_lt.mp k)
        obtain rfl : j = z.length := by omega
        obtain ⟨A3, q4, e3, -, F3, -⟩ := HO.out.form
        injection e3 with h1 h2 h3
        subst h1 h3
        have F4 := hid F3
        clear h2 F3
        go_wp2_with fail
        refine bodyPost_ret (v := .tuple #[.slice A1 (Sp.tabL g z.length).length q1, .int .i64 0]) (by simp [results, Try.results26, go_sem]) rfl ?_
        exact ⟨HBB.out, .inr ⟨rfl, A1, q1, rfl, F4.out⟩⟩
  · have hn : (E == 0) = false := by simpa using cE
    clear GD RC
    go_wp2_with fail
    refine bodyPost_ret (v := .tuple #[.slice none 0 0, .int .i64 E]) (by simp [results, Try.results26, go_sem]) rfl ?_
    exact ⟨B5.out, .inl ⟨cE, rfl⟩⟩
set_option maxRecDepth 100000 in
set_option maxHeartbeats 2000000 in
theorem rcat_walk (A : Option Addr) (cap : Nat) (c r k : Int) (z : List Int) (rl : List Int) (w : World) (hn : rl.length ≤ 256) (E : Int)
    (hd : E = 0 → ∀ m : Nat, (h : m < rl.length) → rl[m] = -1 ∨ (0 ≤ rl[m] ∧ rl[m] < (rl.length : Int) ∧ Sp.hz z rl[m] < Sp.hz z (m : Int))) (hz : E = 0 → ∀ i, Sp.hz z i ≤ 50000 ∧ 0 ≤ Sp.hz z i)
    (RC : ∀ W, Below w.heap.size w W → Calls Try.prog 26 #[.agg #[.int .i64 c, .int .i64 r, .int .i64 k, .slice A z.length cap]] W (IlPost W E rl)) :
    Calls Try.prog 28 #[.agg #[.int .i64 c, .int .i64 r, .int .i64 k, .slice A z.length cap]] w (IlPost w E (Sp.catJ rl rl.length rl.length)) := by
  have VB := trAt_new w c r k A z.length cap
  have b0 : Below w.heap.size w (w.alloc (Obj.cells #[.int .i64 c, .int .i64 r, .int .i64 k, .slice A z.length cap] 24)) := balloc _ _
  generalize hU : w.alloc (Obj.cells #[.int .i64 c, .int .i64 r, .int .i64 k, .slice A z.length cap] 24) = U at VB b0
  have R1 := hid (RC U b0)
  have HU := hid hU
  have HB := hid b0
  have HD := hid hd
  have HZ := hid hz
  have HN := hid hn
  have k0 := VB.c0
  have k1 := VB.c1
  have k2 := VB.c2
  have k3 := VB.c3
  have kl := VB.lt
  have MK := fun (W : World) => run_make_row' (P := Try.prog) 22 3 (.int .i64 0) 8 Try.underlying22 info_int rfl .i64 .i64 rl.length (by omega) (by omega) W
  clear hU b0 VB RC hd hz hn
  go_enter Try.func28, Try.ntmps28
  go_upto_region 1 with fail
  rw [HU.out]
  go_wp2_with fail
  refine R1.out.mono ?_
  rintro _ w5 ⟨hb, ⟨hE, rfl⟩ | ⟨rfl, A5, k5, rfl, h5⟩⟩
  · have B5 := hid (bthen HB.out hb)
    have hn : (E == 0) = false := by simpa using hE
    clear hb k0 k1 k2 k3 kl MK
    go_wp2_with fail
    refine bodyPost_ret (v := .tuple #[.slice none 0 0, .int .i64 E]) (by simp [results, Try.results28, go_sem]) rfl ?_
    exact ⟨B5.out, .inl ⟨hE, rfl⟩⟩
  · have B5 := hid (bthen HB.out hb)
    have RD := hid (HD.out rfl)
    have ZD := hid (HZ.out rfl)
    have H5 := hid h5
    have mk := MK w5
    have W0 := rowI_made w5 rl.length
    have hb0 : Below w5.heap.size w5 (w5.alloc (.cells (madeCells #[.int .i64 0] rl.length) 3)) := balloc _ _
    clear hb h5 k0 k1 k2 k3 kl MK HD HZ
    generalize hV : w5.alloc (.cells (madeCells #[.int .i64 0] rl.length) 3) = V at mk W0 hb0
    have I5 := hid (fun W (hb : Below w5.heap.size V W) => H5.out.below (hb0.trans hb))
    have BB := hid (fun W (hb : Below w5.heap.size V W) => bthen B5.out (hb0.trans hb))
    have WV := hid W0
    have ZV := hid (show w5.heap.size ≤ V.heap.size from hb0.size)
    clear hV W0 hb0
    go_wp2_with fail
    go_loopw [7] (fun t wr => ∃ j : Nat, t = .int .i64 (j : Int) ∧ j ≤ rl.length ∧ (∀ v ∈ Sp.catJ rl rl.length j, 0 ≤ v ∧ v ≤ (j : Int) * 50001) ∧ RowI wr w5.heap.size (Sp.catJ rl rl.length j) ∧ Below w5.heap.size V wr) (fun t _ => rl.length - (intOf t).toNat)
    case atStart => exact ⟨0, rfl, Nat.zero_le _, by simp [Sp.catJ], WV.out, Below.refl _ _⟩
    case round =>
      obtain ⟨j, rfl, hj, hv, hR, hB⟩ := hrel
      have HV := hid hv
      have HR := hid hR
      have HBB := hid hB
      clear hv hR hB
      by_cases hlt : j < rl.length
      · obtain ⟨ej, eq, i0, i1⟩ := rjw j rl.length hlt (by have := HN.out; omega)
        have EQ := hid eq
        have HJ := hid hlt
        have HM := hid (pmeas rl.length j hlt)
        obtain ⟨T, hT⟩ : ∃ T, Sp.wayC rl 50001 (j : Int) (Sp.catJ rl rl.length j) = T := ⟨_, rfl⟩
        have HT := hid hT
        have TE := hid (show Sp.catJ rl rl.length (j + 1) = T from hT)
        clear eq hlt hT
        go_wp2_with fail
        go_loopw [8] (fun t wr => WyRel z rl w5.heap.size j T V t wr) (fun t _ => Sp.hm z (intOf t))
        case atStart =>
          refine ⟨50001, (j : Int), _, rfl, .inr ⟨i0, i1⟩, ?_, Nat.le_refl _, HT.out, ?_, Sp.catJ_len _ _ _, HR.out, HBB.out⟩
          · have h := ZD.out (j : Int)
            unfold Sp.hm
            split <;> omega
          · intro v hv
            have h := HV.out v hv
            omega
        case round =>
          obtain ⟨f, a, C, rfl, ha, hf, f1, hw, hC, cl, hR1, hB1⟩ := hrel
          have HW := hid hw
          have HC := hid hC
          have HR1 := hid hR1
          have HB1 := hid hB1
          clear hw hC hR1 hB1
          rcases ha with rfl | ⟨a0, a1⟩
          · have e1 := HW.out
            rw [wayC_stop] at e1
            have E1 := hid e1
            clear e1
            go_wp2_with fail
            go_roundw
            case rel =>
              refine ⟨j + 1, i64_eq (by first | exact EQ.out | exact ej.trans EQ.out), HJ.out, ?_, ?_, HB1.out⟩
              · rw [TE.out, ← E1.out]
                intro v hv
                have h := HC.out v hv
                push_cast
                omega
              · rw [TE.out, ← E1.out]; exact HR1.out
            case measure => first | exact HM.out | (rw [ej]; exact HM.out)
          · obtain ⟨m, rfl⟩ : ∃ m : Nat, a = (m : Int) := ⟨a.toNat, by omega⟩
            have hm : m < rl.length := by omega
            have mz : ¬ (m : Int) = -1 := by omega
            obtain ⟨f', rfl⟩ : ∃ f', f = f' + 1 := by
              refine ⟨f - 1, ?_⟩
              unfold Sp.hm at hf
              rw [if_neg mz] at hf
              omega
            have e1 := HW.out
            unfold Sp.wayC at e1
            rw [if_neg mz, Int.toNat_natCast, Sp.getD_at m hm, Sp.getD_at m (by omega)] at e1
            have q0 := HR1.out.c m (by omega)
            have qf := HR1.out.f
            have ql := HR1.out.lt
            obtain ⟨x, hx⟩ : ∃ x, C[m]'(by omega) = x := ⟨_, rfl⟩
            have xb := HC.out x (by rw [← hx]; exact List.getElem_mem _)
            have jb : (j : Int) ≤ 256 := by have := HJ.out; have := HN.out; omega
            have wx : wrap64 (x + 1) = x + 1 := pw64 _ (by omega)
            have RR := HR1.out.set m (x + 1) (by omega)
            have CB := hid (Sp.set_bound (m := m) (v := x) (f := (f' : Int)) (M := ((j : Int) + 1) * 50001) (by have := HC.out; push_cast at this; exact this) (by rw [← hx]; exact List.getElem_mem _))
            have CL := hid (show (C.set m (x + 1)).length = rl.length by rw [List.length_set]; exact cl)
            rw [hx] at q0 e1
            have E1 := hid e1
            have R2 := hid RR
            have rd := RD.out m hm
            have hb2 : Below w5.heap.size V (wr.setCell ⟨w5.heap.size, m, none⟩ (.int .i64 (x + 1))) := HB1.out.setCell (p := ⟨w5.heap.size, m, none⟩) (Nat.le_refl _) _
            obtain ⟨b, off, eA, bl, q⟩ := (I5.out _ hb2) (by omega)
            have q1 := q m hm
            obtain ⟨y, hy⟩ : ∃ y, rl[m]'hm = y := ⟨_, rfl⟩
            rw [hy] at q1 rd
            have E2 := hid (show Sp.wayC rl f' y (C.set m (x + 1)) = T by have := E1.out; rw [hy] at this; exact this)
            have F1 := hid f1
            have YD := hid (show (y = -1 ∨ (0 ≤ y ∧ y < (rl.length : Int))) ∧ Sp.hm z y ≤ f' ∧ Sp.hm z y < Sp.hm z (m : Int) by
              unfold Sp.hm at hf ⊢
              rw [if_neg mz] at hf ⊢
              rcases rd with rfl | ⟨y0, y1, y2⟩
              · simp
              · have yn : ¬ y = -1 := by omega
                have := (ZD.out y).2
                rw [if_neg yn]
                exact ⟨.inr ⟨y0, y1⟩, by omega, by omega⟩)
            have B2 := hid hb2
            have i0 : (0 : Int) ≤ (m : Int) := Int.natCast_nonneg m
            have i1 : (m : Int) < (rl.length : Int) := Int.ofNat_lt.mpr hm
            subst eA
            clear e1 RR xb jb rd q hf f1 hx hb2 a0 a1 hy E1
            go_wp2_with fail
            go_roundw
            case rel => exact ⟨f', y, C.set m (x + 1), rfl, YD.out.1, YD.out.2.1, Nat.le_of_succ_le F1.out, E2.out, CB.out, CL.out, R2.out, B2.out⟩
            case measure => exact YD.out.2.2
      · have i1 : ¬ (j : Int) < (rl.length : Int) := fun k => hlt (Int.ofNat_lt.mp k)
        obtain rfl : j = rl.length := by omega
        go_wp2_with fail
        refine bodyPost_ret (v := .tuple #[.slice (some ⟨w5.heap.size, 0, none⟩) (Sp.catJ rl rl.length rl.length).length rl.length, .int .i64 0]) (by simp [results, Try.results28, go_sem, Sp.catJ_len]) rfl ?_
        exact ⟨BB.out _ HBB.out, .inr ⟨rfl, _, _, rfl, HR.out.ints⟩⟩
theorem rCatchment_any (A : Option Addr) (cap : Nat) (c r k : Int) (z : List Int) (w : World) (hl : z.length ≤ 140737488355328) (hT : Ints w A z) :
    Calls Try.prog 28 #[.agg #[.int .i64 c, .int .i64 r, .int .i64 k, .slice A z.length cap]] w (IlPost w (Sp.terE c r k z) (Sp.catS z c r)) := by
  by_cases hE : Sp.terE c r k z = 0
  · obtain ⟨h1, h2, h3, h4, h5⟩ := Sp.terE_zero hE
    have P : c * r ≤ 16 * 16 := Int.mul_le_mul h1.2 h2.2 (by omega) (by omega)
    have hl2 : (Sp.tabL (Sp.rcvS z c r) z.length).length = z.length := Sp.tabL_len _ _
    have H := rcat_walk A cap c r k z (Sp.tabL (Sp.rcvS z c r) z.length) w (by omega) (Sp.terE c r k z) (fun _ m hm => by
      rw [Sp.tabL_get, hl2, h4]
      exact Sp.rcv_cases z h1.1 h2.1 (by omega) (by omega)) (fun _ i => ⟨(Sp.hz_in h5 i).2, (Sp.hz_in h5 i).1⟩) (fun W hb => rReceiver_any A cap c r k z W hl (hT.below hb))
    rw [hl2] at H
    exact H
  · have H : Calls Try.prog 28 #[.agg #[.int .i64 c, .int .i64 r, .int .i64 k, .slice A z.length cap]] w (IlPost w (Sp.terE c r k z) []) :=
      rcat_walk A cap c r k z [] w (by simp) (Sp.terE c r k z) (fun _ m hm => absurd hm (by simp)) (fun e => absurd e hE) (fun W hb => (rReceiver_any A cap c r k z W hl (hT.below hb)).mono (by
        rintro e w' ⟨h1, ⟨h2, h3⟩ | ⟨h2, -⟩⟩
        · exact ⟨h1, .inl ⟨h2, h3⟩⟩
        · exact absurd h2 hE))
    refine H.mono ?_
    rintro e w' ⟨h1, ⟨h2, h3⟩ | ⟨h2, -⟩⟩
    · exact ⟨h1, .inl ⟨h2, h3⟩⟩
    · exact absurd h2 hE
end Go.Proofs.Ytmdaanigkhikfaa
