/-
  Layer 16: the reference's Shares, by contract; the walk of TreelistShares.
-/
import Derived.Test.YtmdaanigkhikfabLn
namespace Go.Proofs.Ytmdaanigkhikfab
open Go.RowKit
set_option linter.unusedVariables false
set_option linter.unusedSimpArgs false
set_option maxRecDepth 100000 in
set_option maxHeartbeats 4000000 in
theorem rlshares_any (B : Option Addr) (bcap : Nat) (T : List Sp.Sc) (A : Option Addr) (cap : Nat) (l : List Sp.Te) (w : World) (hc : T.length ≤ bcap) (hS : Sized T) (hB : Tab w B T) (hl : l.length ≤ 140737488355328) (hT : Trs w A l) :
    Calls Try.prog 29 #[.slice B T.length bcap, .slice A l.length cap] w (IlPost w (Sp.shaE T l) (Sp.shaL T l)) := by
  obtain ⟨F, hF⟩ : ∃ F, Sp.shaE T l = F := ⟨_, rfl⟩
  have AP := hid (fun (h : F = 0) (W : World) (C : Option Addr) (c : Nat) (hI : Ints W C (Sp.wS T.length l)) => (by
    obtain ⟨h1, h2, h3⟩ := Sp.shaE_zero (hF.trans h)
    obtain ⟨n1, n2, -⟩ := Sp.sqS_ok h1
    obtain ⟨n3, n4⟩ := Sp.chkT_zero h2
    obtain ⟨n5, n6⟩ := Sp.wS_ok n4 n2
    obtain ⟨q1, q2⟩ := Sp.sumQ_in l n2
    have tl := (Sp.tabS_len n3).1
    have H := rlapp_any C c (Sp.wS T.length l) (Sp.sumQ l) W (by rw [Sp.wS_len]; omega) (fun p hp => by have := n6 p hp; omega) (by omega) (by omega) n5 hI
    rw [Sp.wS_len] at H
    exact H : Calls Try.prog 46 #[.int .i64 1000000, .slice C T.length c] W (fun e w' => Below W.heap.size W w' ∧ ∃ B c, e = .returned (.slice B T.length c) ∧ Ints w' B (Sp.shaL T l))))
  have TL := hid (fun (h : F = 0) => (by
    obtain ⟨h1, h2, h3⟩ := Sp.shaE_zero (hF.trans h)
    obtain ⟨n1, n2, n7⟩ := Sp.sqS_ok h1
    obtain ⟨n3, n4⟩ := Sp.chkT_zero h2
    exact ⟨(Sp.tabS_len n3).1, n1, n2, n4, n7⟩ : T.length ≤ 6 ∧ l.length ≤ 200 ∧ (∀ t ∈ l, 1 ≤ t.d ∧ t.d ≤ 3000) ∧ (∀ t ∈ l, 0 ≤ t.s ∧ t.s < (T.length : Int)) ∧ (Sp.sqS l).1 = Sp.sumQ l))
  have LL : (Sp.shaL T l).length = T.length := by unfold Sp.shaL; rw [Sp.apS_len, Sp.wS_len]
  rw [hF]
  unfold Sp.shaE at hF
  obtain ⟨S, hSS⟩ : ∃ S, (Sp.sqS l).1 = S := ⟨_, rfl⟩
  obtain ⟨E1, hE1⟩ : ∃ E1, (Sp.sqS l).2 = E1 := ⟨_, rfl⟩
  obtain ⟨I2, hI2⟩ : ∃ I2, (Sp.chkT T l).1 = I2 := ⟨_, rfl⟩
  obtain ⟨E2, hE2⟩ : ∃ E2, (Sp.chkT T l).2 = E2 := ⟨_, rfl⟩
  have SQ := hid (rlsquares_any A cap l S E1 w hl hT (by rw [← hSS, ← hE1]))
  have CK := hid (fun W (hb : Below w.heap.size w W) => rlcheck_any B bcap T A cap l I2 E2 W hc hS (hB.below hb) hl (hT.below hb) (by rw [← hI2, ← hE2]))
  rw [hE1, hE2] at hF
  rw [hSS] at TL
  have HF := hid hF
  have HT := hid hT
  obtain ⟨L, hL⟩ : ∃ L, Sp.shaL T l = L := ⟨_, rfl⟩
  rw [hL] at AP LL ⊢
  have HLL := hid LL
  have HLE := hid (show T.length ≤ 140737488355328 from hS.1)
  clear hF hSS hE1 hI2 hE2 hc hS hB hT hL LL
  go_enter Try.func29, Try.ntmps29
  go_wp2_with fail
  refine SQ.out.mono ?_
  rintro _ w5 ⟨rfl, hb⟩
  have B5 := hid hb
  clear hb
  have hF := HF.out
  by_cases c1 : E1 = 0
  · subst c1
    rw [if_neg (by simp)] at hF
    have HF2 := hid hF
    clear hF HF
    go_wp2_with fail
    refine (CK.out _ B5.out).mono ?_
    rintro _ w6 ⟨rfl, hb⟩
    have B6 := hid (bthen B5.out hb)
    clear hb
    have hF := HF2.out
    by_cases c2 : E2 = 0
    · subst c2
      rw [if_neg (by simp)] at hF
      by_cases cn : l.length = 0
      · rw [if_pos cn] at hF
        subst hF
        have e1 : l = [] := List.eq_nil_of_length_eq_zero cn
        have e0 : ((l.length : Int) == 0) = true := by rw [cn]; rfl
        go_wp2_with fail
        go_ret2
        exact ⟨B6.out, .inl ⟨by decide, rfl⟩⟩
      · rw [if_neg cn] at hF
        subst hF
        have en : ¬ l = [] := fun h => cn (by rw [h]; rfl)
        have e0 : ((l.length : Int) == 0) = false := by simpa using en
        obtain ⟨t1, t2, t3, t4, t5⟩ := TL.out (by first | rfl | trivial)
        subst t5
        have AP1 := hid (AP.out (by first | rfl | trivial))
        have T1 := hid t1
        have T2 := hid t2
        have T3 := hid t3
        have T4 := hid t4
        have mk := run_make_row' (P := Try.prog) 31 3 (.int .i64 0) 8 Try.underlying31 info_int rfl .i64 .i64 T.length (by omega) (by omega) w6
        have W0 := rowI_made w6 T.length
        have hb0 : Below w6.heap.size w6 (w6.alloc (.cells (madeCells #[.int .i64 0] T.length) 3)) := balloc _ _
        generalize hV : w6.alloc (.cells (madeCells #[.int .i64 0] T.length) 3) = V at mk W0 hb0
        have HW0 := hid W0
        have HB0 := hid hb0
        clear hV W0 hb0 t1 t2 t3 t4 hl AP TL HF2
        go_wp2_with fail
        clear mk
        go_loopw [38] (fun t wr => ∃ (j : Nat) (M : List Int), t = .int .i64 (j : Int) ∧ j ≤ l.length ∧ M.length = T.length ∧ Sp.wts M (l.drop j) = Sp.wS T.length l ∧ (∀ v ∈ M, 0 ≤ v ∧ v ≤ 9000000 * (j : Int)) ∧ RowI wr w6.heap.size M ∧ Below w6.heap.size w6 wr) (fun t _ => l.length - (intOf t).toNat)
        case atStart => exact ⟨0, List.replicate T.length 0, rfl, Nat.zero_le _, List.length_replicate, rfl, fun v hv => by rw [List.mem_replicate] at hv; omega, HW0.out, HB0.out⟩
        case round =>
          obtain ⟨j, M, rfl, hj, hM, hw, hv, hR, hB⟩ := hrel
          have HR := hid hR
          have HB := hid hB
          have B7 := hid (bthen B6.out hB)
          clear hR hB
          by_cases hlt : j < l.length
          · obtain ⟨b, off, rfl, bl, q0, q1, q2, q3⟩ := HT.out.at_ B7.out hlt
            rw [List.drop_eq_getElem_cons hlt] at hw
            unfold Sp.wts at hw
            have tm := List.getElem_mem hlt
            have d3 := T3.out _ tm
            have s4 := T4.out _ tm
            obtain ⟨t, ht⟩ : ∃ t, l[j]'hlt = t := ⟨_, rfl⟩
            rw [ht] at q0 q1 q2 q3 hw d3 s4
            obtain ⟨ej, eq, i0, i1⟩ := rjw j l.length hlt (by have := T2.out; omega)
            obtain ⟨ts, td, th, tq⟩ := t
            simp only at q0 q1 q2 q3 hw d3 s4
            obtain ⟨p, rfl⟩ : ∃ p : Nat, ts = (p : Int) := ⟨ts.toNat, by omega⟩
            have pl : p < M.length := by omega
            rw [Int.toNat_natCast, Sp.getD_at p pl] at hw
            have pd := Sp.pmul (a := td) (b := td) (m := 3000) (n := 3000) (by omega) (by omega) (by omega) (by omega) (by omega)
            obtain ⟨D2, hD2⟩ : ∃ D2, td * td = D2 := ⟨_, rfl⟩
            rw [hD2] at hw pd
            have vb := hv _ (List.getElem_mem pl)
            have HSET := hid (fun (W : World) (hb : Below wr.heap.size wr W) (x : Int) => (HR.out.below hb).set p x pl)
            obtain ⟨x, hx⟩ : ∃ x, M[p]'pl = x := ⟨_, rfl⟩
            rw [hx] at hw vb
            obtain ⟨V2, hV⟩ : ∃ V2, wr.alloc (Obj.cells #[.int .i64 (p : Int), .int .i64 td, .int .i64 th, .int .i64 tq] 43) = V2 := ⟨_, rfl⟩
            have kV : Below wr.heap.size wr V2 := by rw [← hV]; exact balloc _ _
            have vz : wr.heap.size < V2.heap.size := by rw [← hV]; simp
            have v0 : V2.cell? ⟨wr.heap.size, 0, none⟩ = some (.int .i64 (p : Int)) := by rw [← hV]; simp [go_sem]
            have v1 : V2.cell? ⟨wr.heap.size, 1, none⟩ = some (.int .i64 td) := by rw [← hV]; simp [go_sem]
            have rc := (HR.out.below kV).c p pl
            rw [hx] at rc
            have rf := (HR.out.below kV).f
            have rl := (HR.out.below kV).lt
            have RS : RowI (V2.setCell ⟨w6.heap.size, p, none⟩ (.int .i64 (x + D2))).drew w6.heap.size (M.set p (x + D2)) := (HSET.out V2 kV (x + D2)).below (Below.refl _ _).drew
            have BS : Below w6.heap.size w6 (V2.setCell ⟨w6.heap.size, p, none⟩ (.int .i64 (x + D2))).drew := ((HB.out.trans (kV.mono HB.out.size)).setCell (p := ⟨w6.heap.size, p, none⟩) (Nat.le_refl _) _).drew
            have nw : ¬ wr.heap.size = w6.heap.size := by have := HR.out.lt; omega
            have nw2 : ¬ w6.heap.size = wr.heap.size := by have := HR.out.lt; omega
            obtain ⟨Z, hZ⟩ : ∃ Z, (V2.setCell ⟨w6.heap.size, p, none⟩ (.int .i64 (x + D2))).drew = Z := ⟨_, rfl⟩
            rw [hZ] at RS BS
            have HZ := hid hZ
            have RSH := hid RS
            have BSH := hid BS
            have jb : (j : Int) ≤ 200 := by have := T2.out; omega
            have wx : IntKind.i64.wrap (x + D2) = x + D2 := pi64 _ (by omega)
            have wd : IntKind.i64.wrap D2 = D2 := pi64 _ (by omega)
            have wd2 : wrap64 D2 = D2 := pw64 _ (by omega)
            have VB := hid (Sp.wset_le (p := p) (D := D2) hv vb (by omega))
            have f1 : decide ((p : Int) < 0) = false := decide_eq_false (by omega)
            have f2 : decide ((T.length : Int) ≤ (p : Int)) = false := decide_eq_false (by omega)
            have HV2 := hid hV
            have EQ := hid eq
            have HJ := hid hlt
            have HM := hid (pmeas l.length j hlt)
            have HW := hid hw
            have p0 : (0 : Int) ≤ (p : Int) := by omega
            have p1 : (p : Int) < (T.length : Int) := by omega
            have ML := hid (show (M.set p (x + D2)).length = T.length by rw [List.length_set]; exact hM)
            clear hV ht eq hlt hw hv d3 s4 pd vb hx jb tm hj pl hM kV RS BS hZ
            go_upto_region 13 with fail
            rw [HV2.out]
            clear q0 q1 q2 q3 bl
            go_still_tail 12, (by rfl)
            go_wp2_with fail
            rw [HZ.out]
            clear v0 v1 vz rc rf rl f1 f2 nw nw2 wx wd
            go_wp2_with fail
            go_roundw
            case rel => exact ⟨j + 1, _, i64_eq (by first | exact EQ.out | exact ej.trans EQ.out), HJ.out, ML.out, HW.out, VB.out, RSH.out, BSH.out⟩
            case measure => first | exact HM.out | (rw [ej]; exact HM.out)
          · have i1 : ¬ (j : Int) < (l.length : Int) := fun k => hlt (Int.ofNat_lt.mp k)
            rw [List.drop_eq_nil_of_le (Nat.le_of_not_lt hlt)] at hw
            have hw2 : M = Sp.wS T.length l := hw
            subst hw2
            have AP2 := hid (AP1.out wr _ T.length HR.out.ints)
            clear hlt hj hv hw
            go_wp2_with fail
            refine AP2.out.mono ?_
            rintro _ w8 ⟨hb, C, c, rfl, hI⟩
            have B8 := hid (bthen B7.out hb)
            have HI := hid hI
            clear hb hI
            go_wp2_with fail
            go_ret2
            exact ⟨B8.out, .inr ⟨rfl, C, c, by rw [HLL.out]; rfl, HI.out⟩⟩
    · have hn : (E2 == 0) = false := by simpa using c2
      rw [if_pos c2] at hF
      subst hF
      go_wp2_with fail
      go_ret2
      exact ⟨B6.out, .inl ⟨c2, rfl⟩⟩
  · have hn : (E1 == 0) = false := by simpa using c1
    rw [if_pos c1] at hF
    subst hF
    go_wp2_with fail
    go_ret2
    exact ⟨B5.out, .inl ⟨c1, rfl⟩⟩
set_option maxRecDepth 100000 in
set_option maxHeartbeats 4000000 in
theorem lshas_as (B : Option Addr) (bcap : Nat) (T : List Sp.Sc) (A : Option Addr) (cap : Nat) (l : List Sp.Te) (w : World) (hc : T.length ≤ bcap) (hS : Sized T) (hB : Tab w B T) (_ : l.length ≤ cap) (hSl : TeSized l) (hT : Trs w A l) :
    Calls Try.prog 6 #[.slice B T.length bcap, .slice A l.length cap] w (Gives (.bool true) w) := by
  obtain ⟨E, hE⟩ : ∃ E, Sp.shaE T l = E := ⟨_, rfl⟩
  have FT := hid (sfew_any B bcap T w hB)
  have FL := hid (fun W => lfew_any A cap l.length W hSl.1)
  have C1 := hid (fun W (hb : Below w.heap.size w W) => lshares_any B bcap T A cap l W hc hS (hB.below hb) hSl.1 (hT.below hb))
  have C2 := hid (fun W (hb : Below w.heap.size w W) => rlshares_any B bcap T A cap l W hc hS (hB.below hb) hSl.1 (hT.below hb))
  rw [hE] at C1 C2
  have LL := hid (fun (h : E = 0) => (by
    obtain ⟨h1, h2, h3⟩ := Sp.shaE_zero (hE.trans h)
    obtain ⟨n3, n4⟩ := Sp.chkT_zero h2
    have tl := (Sp.tabS_len n3).1
    unfold Sp.shaL
    rw [Sp.apS_len, Sp.wS_len]
    omega : (Sp.shaL T l).length ≤ 1000000))
  have LQ := hid (fun (L : List Int) (A B : Option Addr) (ca cb : Nat) (W : World) (h : L.length ≤ 1000000) (hA : Ints W A L) (hB : Ints W B L) => leq_any A B ca cb L W h hA hB)
  have LN := hid (fun (ca cb : Nat) (W : World) => leq_any none none 0 0 [] W (by simp) (fun h => absurd h (Nat.not_lt_zero _)) (fun h => absurd h (Nat.not_lt_zero _)))
  generalize Sp.shaL T l = L at C1 C2 LL
  generalize (decide (l.length ≤ 30) || (decide (200 < l.length) && decide (l.length < 210))) = Q at FL
  clear hc hS hB hSl hT hE
  go_enter Try.func6, Try.ntmps6
  go_wp2_with fail
  refine FT.out.mono ?_
  rintro _ w5 ⟨b, rfl, hb⟩
  have B5 := hid hb
  clear hb
  cases b
  · go_wp2_with fail
    refine (lawake_any _).mono ?_
    rintro _ w6 ⟨rfl, hb⟩
    have B6 := hid (bthen B5.out hb)
    clear hb
    go_wp2_with fail
    go_ret
    exact Gives.mk rfl B6.out
  · go_wp2_with fail
    refine (FL.out _).mono ?_
    rintro _ w6 ⟨rfl, hb⟩
    have B6 := hid (bthen B5.out hb)
    clear hb
    cases Q
    · go_wp2_with fail
      refine (lawake_any _).mono ?_
      rintro _ w7 ⟨rfl, hb⟩
      have B7 := hid (bthen B6.out hb)
      clear hb
      go_wp2_with fail
      go_ret
      exact Gives.mk rfl B7.out
    · go_wp2_with fail
      refine (C1.out _ B6.out).mono ?_
      rintro _ w7 ⟨hb, ⟨hn, rfl⟩ | ⟨rfl, D, dc, rfl, hD⟩⟩
      · have B7 := hid (bthen B6.out hb)
        clear hb
        go_wp2_with fail
        refine (C2.out _ B7.out).mono ?_
        rintro _ w8 ⟨hb, ⟨-, rfl⟩ | ⟨h0, -⟩⟩
        · have B8 := hid (bthen B7.out hb)
          have eN : ∀ W, Calls Try.prog 26 #[.slice none 0 0, .slice none 0 0] W (Gives (.bool true) W) := fun W => LN.out 0 0 W
          clear hb
          go_wp2_with fail
          refine (eN _).mono ?_
          rintro _ w9 ⟨rfl, hb⟩
          have B9 := hid (bthen B8.out hb)
          clear hb eN
          go_wp2_with fail
          refine (lawake_any _).mono ?_
          rintro _ w10 ⟨rfl, hb⟩
          have B10 := hid (bthen B9.out hb)
          clear hb
          go_wp2_with fail
          go_ret
          exact Gives.mk rfl B10.out
        · exact absurd h0 hn
      · have B7 := hid (bthen B6.out hb)
        have ID := hid (fun W (k : Below w7.heap.size w7 W) => hD.below k)
        have LL1 := hid (LL.out (by first | rfl | trivial))
        clear hb hD LL
        go_wp2_with fail
        refine (C2.out _ B7.out).mono ?_
        rintro _ w8 ⟨hb, ⟨hn, -⟩ | ⟨-, C, cc, rfl, hC⟩⟩
        · exact absurd rfl hn
        · have B8 := hid (bthen B7.out hb)
          have Q1 := hid (LQ.out L D C dc cc w8 LL1.out (ID.out _ hb) hC)
          clear hb hC
          go_wp2_with fail
          refine Q1.out.mono ?_
          rintro _ w9 ⟨rfl, hb⟩
          have B9 := hid (bthen B8.out hb)
          clear hb
          go_wp2_with fail
          refine (lawake_any _).mono ?_
          rintro _ w10 ⟨rfl, hb⟩
          have B10 := hid (bthen B9.out hb)
          clear hb
          go_wp2_with fail
          go_ret
          exact Gives.mk rfl B10.out
end Go.Proofs.Ytmdaanigkhikfab
