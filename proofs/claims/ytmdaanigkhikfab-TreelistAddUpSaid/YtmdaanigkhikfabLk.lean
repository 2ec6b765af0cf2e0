/-
  Layer 16: the walk of TreelistAddUp.
-/
import Derived.Test.YtmdaanigkhikfabLh
import Derived.Test.YtmdaanigkhikfabLm
import Derived.Test.YtmdaanigkhikfabLpar
namespace Go.Proofs.Ytmdaanigkhikfab
open Go.RowKit
set_option linter.unusedVariables false
set_option linter.unusedSimpArgs false
theorem Sp.le_sum : ∀ L : List Int, (∀ v ∈ L, 0 ≤ v) → 0 ≤ L.sum ∧ ∀ v ∈ L, v ≤ L.sum
  | [], _ => ⟨by simp, fun v h => by simp at h⟩
  | a :: L, h => by
    obtain ⟨h1, h2⟩ := Sp.le_sum L (fun v hv => h v (List.mem_cons_of_mem _ hv))
    have a0 := h a List.mem_cons_self
    rw [List.sum_cons]
    refine ⟨by omega, fun v hv => ?_⟩
    rcases List.mem_cons.1 hv with rfl | hv
    · omega
    · have := h2 v hv; omega
/-- What the law asks of each share. -/
def Sp.shOk (T : Int) (P s : List Int) : Prop := s.length = P.length ∧ s.sum = 1000000 ∧ ∀ i, (hi : i < P.length) → (hs : i < s.length) → 0 ≤ s[i] ∧ s[i] ≤ 1000000 ∧ 1000000 * P[i] - T < s[i] * T ∧ s[i] * T < 1000000 * P[i] + T
theorem Sp.sha_ok {T : List Sp.Sc} {l : List Sp.Te} (h : Sp.shaE T l = 0) : Sp.shOk (Sp.sumQ l) (Sp.wS T.length l) (Sp.shaL T l) := by
  obtain ⟨h1, h2, h3⟩ := Sp.shaE_zero h
  obtain ⟨n1, n2, -⟩ := Sp.sqS_ok h1
  obtain ⟨n3, n4⟩ := Sp.chkT_zero h2
  obtain ⟨n5, n6⟩ := Sp.wS_ok n4 n2
  obtain ⟨q1, q2⟩ := Sp.sumQ_in l n2
  obtain ⟨s1, s2⟩ := Sp.apS_ok (T := Sp.sumQ l) (P := Sp.wS T.length l) (by omega) (fun p hp => (n6 p hp).1) n5
  have ln : (Sp.shaL T l).length = (Sp.wS T.length l).length := Sp.apS_len _ _
  have each : ∀ i, (hi : i < (Sp.wS T.length l).length) → (hs : i < (Sp.shaL T l).length) → (Sp.shaL T l)[i] = (Sp.apS (Sp.sumQ l) (Sp.wS T.length l))[i]?.getD 0 := fun i hi hs => by
    unfold Sp.shaL at hs ⊢
    rw [Sp.getD_at i hs]
  have nn : ∀ v ∈ Sp.shaL T l, 0 ≤ v := fun v hv => by
    obtain ⟨i, hi, rfl⟩ := List.getElem_of_mem hv
    rw [each i (by omega) hi]
    exact (s2 i (by omega)).1
  refine ⟨ln, s1, fun i hi hs => ?_⟩
  have le := (Sp.le_sum _ nn).2 _ (List.getElem_mem hs)
  have e1 : (Sp.shaL T l).sum = 1000000 := s1
  have e := each i hi hs
  obtain ⟨a, b, c⟩ := s2 i hi
  rw [← e] at a b c
  exact ⟨a, by omega, b, c⟩
theorem Sp.take_sum (L : List Int) (j : Nat) (h : j < L.length) : (L.take (j + 1)).sum = (L.take j).sum + L[j] := by
  rw [List.take_succ_eq_append_getElem h, List.sum_append]
  simp
theorem Sp.take_sum_in {L : List Int} (h : ∀ v ∈ L, 0 ≤ v) (j : Nat) : 0 ≤ (L.take j).sum ∧ (L.take j).sum ≤ L.sum := by
  have a := (Sp.le_sum (L.take j) (fun v hv => h v (List.mem_of_mem_take hv))).1
  have b := (Sp.le_sum (L.drop j) (fun v hv => h v (List.mem_of_mem_drop hv))).1
  have c : (L.take j).sum + (L.drop j).sum = L.sum := by rw [← List.sum_append, List.take_append_drop]
  omega
set_option maxRecDepth 100000 in
set_option maxHeartbeats 4000000 in
theorem laddup_as (B : Option Addr) (bcap : Nat) (T : List Sp.Sc) (A : Option Addr) (cap : Nat) (l : List Sp.Te) (w : World) (hc : T.length ≤ bcap) (hS : Sized T) (hB : Tab w B T) (_ : l.length ≤ cap) (hSl : TeSized l) (hT : Trs w A l) :
    Calls Try.prog 8 #[.slice B T.length bcap, .slice A l.length cap] w (Gives (.bool true) w) := by
  obtain ⟨E, hE⟩ : ∃ E, Sp.shaE T l = E := ⟨_, rfl⟩
  have FT := hid (sfew_any B bcap T w hB)
  have SH := hid (fun W (hb : Below w.heap.size w W) => lshares_any B bcap T A cap l W hc hS (hB.below hb) hSl.1 (hT.below hb))
  rw [hE] at SH
  have OK := hid (fun (h : E = 0) => Sp.sha_ok (hE.trans h))
  have TL := hid (fun (h : E = 0) => (by
    obtain ⟨h1, h2, h3⟩ := Sp.shaE_zero (hE.trans h)
    obtain ⟨n1, n2, n7⟩ := Sp.sqS_ok h1
    obtain ⟨n3, n4⟩ := Sp.chkT_zero h2
    exact ⟨(Sp.tabS_len n3).1, n1, n2, n4⟩ : T.length ≤ 6 ∧ l.length ≤ 200 ∧ (∀ t ∈ l, 1 ≤ t.d ∧ t.d ≤ 3000) ∧ (∀ t ∈ l, 0 ≤ t.s ∧ t.s < (T.length : Int))))
  have WO := hid (fun (h : E = 0) => (by
    obtain ⟨h1, h2, h3⟩ := Sp.shaE_zero (hE.trans h)
    obtain ⟨n1, n2, n7⟩ := Sp.sqS_ok h1
    obtain ⟨n3, n4⟩ := Sp.chkT_zero h2
    obtain ⟨n5, n6⟩ := Sp.wS_ok n4 n2
    obtain ⟨q1, q2⟩ := Sp.sumQ_in l n2
    exact ⟨fun v hv => by have := n6 v hv; omega, by omega, by omega⟩ : (∀ v ∈ Sp.wS T.length l, 0 ≤ v ∧ v ≤ 1800000000) ∧ 0 ≤ Sp.sumQ l ∧ Sp.sumQ l ≤ 1800000000))
  have HT := hid hT
  have HLN := hid (⟨hS.1, hSl.1⟩ : T.length ≤ 140737488355328 ∧ l.length ≤ 140737488355328)
  have WL := hid (Sp.wS_len T.length l)
  obtain ⟨L, hL⟩ : ∃ L, Sp.shaL T l = L := ⟨_, rfl⟩
  rw [hL] at SH OK
  clear hc hS hB hSl hT hE hL
  go_enter Try.func8, Try.ntmps8
  go_wp2_with fail
  refine FT.out.mono ?_
  rintro _ w5 ⟨b, rfl, hb⟩
  have B5 := hid hb
  clear hb
  cases b
  · go_wp2_with fail
    refine (lawake_any _).mono ?_
    rintro _ w6 ⟨rfl, hb⟩
    have B6 := hid (bthen B5.out hb)
    clear hb
    go_wp2_with fail
    go_ret
    exact Gives.mk rfl B6.out
  · by_cases c60 : (60 : Int) < (l.length : Int)
    · go_wp2_with fail
      refine (lawake_any _).mono ?_
      rintro _ w6 ⟨rfl, hb⟩
      have B6 := hid (bthen B5.out hb)
      clear hb
      go_wp2_with fail
      go_ret
      exact Gives.mk rfl B6.out
    · go_wp2_with fail
      refine (SH.out _ B5.out).mono ?_
      rintro _ w6 ⟨hb, ⟨hn, rfl⟩ | ⟨rfl, D, dc, rfl, hD⟩⟩
      · have B6 := hid (bthen B5.out hb)
        have h0 : (E == 0) = false := by simpa using hn
        clear hb
        go_wp2_with fail
        refine (lawake_any _).mono ?_
        rintro _ w7 ⟨rfl, hb⟩
        have B7 := hid (bthen B6.out hb)
        clear hb
        go_wp2_with fail
        go_ret
        exact Gives.mk rfl B7.out
      · have B6 := hid (bthen B5.out hb)
        have ID := hid hD
        clear hb hD
        obtain ⟨t1, t2, t3, t4⟩ := TL.out (by first | rfl | trivial)
        obtain ⟨o1, o2, o3⟩ := OK.out (by first | rfl | trivial)
        obtain ⟨u1, u2, u3⟩ := WO.out (by first | rfl | trivial)
        have ln : L.length = T.length := o1.trans WL.out
        rw [ln]
        have T1 := hid t1
        have T2 := hid t2
        have T3 := hid t3
        have T4 := hid t4
        have O2 := hid o2
        have O3 := hid o3
        have U1 := hid u1
        have U2 := hid (⟨u2, u3⟩ : 0 ≤ Sp.sumQ l ∧ Sp.sumQ l ≤ 1800000000)
        have LN := hid ln
        have mk := run_make_row' (P := Try.prog) 31 3 (.int .i64 0) 8 Try.underlying31 info_int rfl .i64 .i64 T.length (by omega) (by omega) w6
        have W0 := rowI_made w6 T.length
        have hb0 : Below w6.heap.size w6 (w6.alloc (.cells (madeCells #[.int .i64 0] T.length) 3)) := balloc _ _
        generalize hV : w6.alloc (.cells (madeCells #[.int .i64 0] T.length) 3) = V at mk W0 hb0
        have HW0 := hid W0
        have HB0 := hid hb0
        clear hV W0 hb0 t1 t2 t3 t4 o1 o2 o3 u1 u2 u3 ln OK TL WO SH
        go_wp2_with fail
        clear mk
        go_loopw [37, 8] (fun t u wr => ∃ (j : Nat) (M : List Int) (q : Int), t = .int .i64 (j : Int) ∧ j ≤ l.length ∧ u = .int .i64 q ∧ q + Sp.sumQ (l.drop j) = Sp.sumQ l ∧ 0 ≤ q ∧ q ≤ 9000000 * (j : Int) ∧ M.length = T.length ∧ Sp.wts M (l.drop j) = Sp.wS T.length l ∧ (∀ v ∈ M, 0 ≤ v ∧ v ≤ 9000000 * (j : Int)) ∧ RowI wr w6.heap.size M ∧ Below w6.heap.size w6 wr) (fun t _ _ => l.length - (intOf t).toNat)
        case atStart => exact ⟨0, List.replicate T.length 0, 0, rfl, Nat.zero_le _, rfl, by rw [List.drop_zero]; omega, Int.le_refl _, by omega, List.length_replicate, rfl, fun v hv => by rw [List.mem_replicate] at hv; omega, HW0.out, HB0.out⟩
        case round =>
          obtain ⟨j, M, q, rfl, hj, rfl, hq, qa, qb, hM, hw, hv, hR, hB⟩ := hrel
          have HR := hid hR
          have HB := hid hB
          have B7 := hid (bthen B6.out hB)
          clear hR hB
          by_cases hlt : j < l.length
          · obtain ⟨b, off, rfl, bl, q0, q1, q2, q3⟩ := HT.out.at_ B7.out hlt
            rw [List.drop_eq_getElem_cons hlt] at hw hq
            unfold Sp.wts at hw
            have sc : ∀ (t : Sp.Te) (m : List Sp.Te), Sp.sumQ (t :: m) = t.d * t.d + Sp.sumQ m := fun t m => by simp [Sp.sumQ]
            rw [sc] at hq
            have tm := List.getElem_mem hlt
            have d3 := T3.out _ tm
            have s4 := T4.out _ tm
            obtain ⟨t, ht⟩ : ∃ t, l[j]'hlt = t := ⟨_, rfl⟩
            rw [ht] at q0 q1 q2 q3 hw d3 s4 hq
            obtain ⟨ej, eq, i0, i1⟩ := rjw j l.length hlt (by have := T2.out; omega)
            obtain ⟨ts, td, th, tq⟩ := t
            simp only at q0 q1 q2 q3 hw d3 s4 hq
            obtain ⟨p, rfl⟩ : ∃ p : Nat, ts = (p : Int) := ⟨ts.toNat, by omega⟩
            have pl : p < M.length := by omega
            rw [Int.toNat_natCast, Sp.getD_at p pl] at hw
            have pd := Sp.pmul (a := td) (b := td) (m := 3000) (n := 3000) (by omega) (by omega) (by omega) (by omega) (by omega)
            obtain ⟨D2, hD2⟩ : ∃ D2, td * td = D2 := ⟨_, rfl⟩
            rw [hD2] at hw pd hq
            have vb := hv _ (List.getElem_mem pl)
            have HSET := hid (fun (W : World) (hb : Below wr.heap.size wr W) (x : Int) => (HR.out.below hb).set p x pl)
            obtain ⟨x, hx⟩ : ∃ x, M[p]'pl = x := ⟨_, rfl⟩
            rw [hx] at hw vb
            obtain ⟨V2, hV⟩ : ∃ V2, wr.alloc (Obj.cells #[.int .i64 (p : Int), .int .i64 td, .int .i64 th, .int .i64 tq] 43) = V2 := ⟨_, rfl⟩
            have kV : Below wr.heap.size wr V2 := by rw [← hV]; exact balloc _ _
            have vz : wr.heap.size < V2.heap.size := by rw [← hV]; simp
            have v0 : V2.cell? ⟨wr.heap.size, 0, none⟩ = some (.int .i64 (p : Int)) := by rw [← hV]; simp [go_sem]
            have v1 : V2.cell? ⟨wr.heap.size, 1, none⟩ = some (.int .i64 td) := by rw [← hV]; simp [go_sem]
            have rc := (HR.out.below kV).c p pl
            rw [hx] at rc
            have rf := (HR.out.below kV).f
            have rl := (HR.out.below kV).lt
            have RS : RowI (V2.setCell ⟨w6.heap.size, p, none⟩ (.int .i64 (x + D2))).drew w6.heap.size (M.set p (x + D2)) := (HSET.out V2 kV (x + D2)).below (Below.refl _ _).drew
            have BS : Below w6.heap.size w6 (V2.setCell ⟨w6.heap.size, p, none⟩ (.int .i64 (x + D2))).drew := ((HB.out.trans (kV.mono HB.out.size)).setCell (p := ⟨w6.heap.size, p, none⟩) (Nat.le_refl _) _).drew
            have nw : ¬ wr.heap.size = w6.heap.size := by have := HR.out.lt; omega
            have nw2 : ¬ w6.heap.size = wr.heap.size := by have := HR.out.lt; omega
            have x0 : (V2.setCell ⟨w6.heap.size, p, none⟩ (.int .i64 (x + D2))).drew.cell? ⟨wr.heap.size, 1, none⟩ = some (.int .i64 td) := by
              have e : (V2.setCell ⟨w6.heap.size, p, none⟩ (.int .i64 (x + D2))).cell? ⟨wr.heap.size, 1, none⟩ = some (.int .i64 td) := by
                rw [World.cell?_setCell_other _ _ _ _ (by simp [nw, nw2])]
                exact v1
              simpa using e
            obtain ⟨Z, hZ⟩ : ∃ Z, (V2.setCell ⟨w6.heap.size, p, none⟩ (.int .i64 (x + D2))).drew = Z := ⟨_, rfl⟩
            rw [hZ] at RS BS x0
            have HZ := hid hZ
            have RSH := hid RS
            have BSH := hid BS
            have HX0 := hid x0
            have jb : (j : Int) ≤ 200 := by have := T2.out; omega
            have wx : IntKind.i64.wrap (x + D2) = x + D2 := pi64 _ (by omega)
            have wd : IntKind.i64.wrap D2 = D2 := pi64 _ (by omega)
            have wd2 : wrap64 D2 = D2 := pw64 _ (by omega)
            have wq : wrap64 (q + D2) = q + D2 := pw64 _ (by omega)
            have VB := hid (Sp.wset_le (p := p) (D := D2) hv vb (by omega))
            have QQ := hid (⟨by omega, by omega, by omega⟩ : q + D2 + Sp.sumQ (l.drop (j + 1)) = Sp.sumQ l ∧ 0 ≤ q + D2 ∧ q + D2 ≤ 9000000 * ((j + 1 : Nat) : Int))
            have f1 : decide ((p : Int) < 0) = false := decide_eq_false (by omega)
            have f2 : decide ((T.length : Int) ≤ (p : Int)) = false := decide_eq_false (by omega)
            have HV2 := hid hV
            have EQ := hid eq
            have HJ := hid hlt
            have HM := hid (pmeas l.length j hlt)
            have HW := hid hw
            have p0 : (0 : Int) ≤ (p : Int) := by omega
            have p1 : (p : Int) < (T.length : Int) := by omega
            have ML := hid (show (M.set p (x + D2)).length = T.length by rw [List.length_set]; exact hM)
            clear hV ht eq hlt hw hv d3 s4 pd vb hx jb tm hj pl hM kV RS BS x0 hZ hq qa qb sc
            go_upto_region 11 with fail
            rw [HV2.out]
            clear q0 q1 q2 q3 bl
            go_upto_region 13 with fail
            go_still_tail 12, (by rfl)
            go_upto_region 14 with fail
            rw [HZ.out]
            clear v0 v1 vz rc rf rl f1 f2 nw nw2 wx wd
            have x0 := HX0.out
            go_wp2_with fail
            go_roundw
            case rel => exact ⟨j + 1, _, q + D2, i64_eq (by first | exact EQ.out | exact ej.trans EQ.out), HJ.out, (by first | rfl | exact i64_eq wq), QQ.out.1, QQ.out.2.1, QQ.out.2.2, ML.out, HW.out, VB.out, RSH.out, BSH.out⟩
            case measure => first | exact HM.out | (rw [ej]; exact HM.out)
          · have i1 : ¬ (j : Int) < (l.length : Int) := fun k => hlt (Int.ofNat_lt.mp k)
            rw [List.drop_eq_nil_of_le (Nat.le_of_not_lt hlt)] at hw hq
            have hw2 : M = Sp.wS T.length l := hw
            have hq2 : q = Sp.sumQ l := by simp [Sp.sumQ] at hq ⊢; omega
            subst hw2
            subst hq2
            have IDW := hid (ID.out.below HB.out)
            have O3' := O3.out
            have U1' := U1.out
            obtain ⟨P, hP⟩ : ∃ P, Sp.wS T.length l = P := ⟨_, rfl⟩
            obtain ⟨TQ, hTQ⟩ : ∃ TQ, Sp.sumQ l = TQ := ⟨_, rfl⟩
            have HRW := HR.out
            have hM2 := hM
            rw [hP] at O3' U1' HRW hM2
            have U2' := U2.out
            rw [hTQ] at O3' U2' ⊢
            have OO := hid O3'
            have UU := hid U1'
            have UT := hid U2'
            have RW := hid HRW
            have PL := hid hM2
            have LN2 := LN.out
            have nn : ∀ v ∈ L, 0 ≤ v := fun v hv => by
              obtain ⟨i, hi, rfl⟩ := List.getElem_of_mem hv
              exact (O3' i (by omega) hi).1
            have SB := hid (fun k => Sp.take_sum_in nn k)
            obtain ⟨W9, rfl⟩ : ∃ W9, W9 = wr := ⟨_, rfl⟩
            clear hlt hj hv hw hq qa qb hP hTQ O3' U1' U2' HRW hM hM2 nn LN2 O3 U1 U2 HR
            go_wp2_with fail
            go_loopw [78, 9] (fun t u wx => wx = W9 ∧ ∃ k : Nat, t = .int .i64 (k : Int) ∧ k ≤ T.length ∧ u = .int .i64 ((L.take k).sum)) (fun t _ _ => T.length - (intOf t).toNat)
            case atStart => exact ⟨rfl, 0, rfl, Nat.zero_le _, by simp⟩
            case round =>
              obtain ⟨rfl, k, rfl, hk, rfl⟩ := hrel
              by_cases hlt : k < T.length
              · have kl : k < L.length := by rw [LN.out]; exact hlt
                have kp : k < P.length := by rw [PL.out]; exact hlt
                obtain ⟨b, off, rfl, bl, q⟩ := IDW.out (by omega)
                have q0 := q k kl
                have rc := RW.out.c k kp
                obtain ⟨a1, a2, a3, a4⟩ := OO.out k kp kl
                have ub := UU.out _ (List.getElem_mem kp)
                have ts := Sp.take_sum L k kl
                have sb := SB.out (k + 1)
                rw [ts, O2.out] at sb
                have sb0 := SB.out k
                obtain ⟨p, hp⟩ : ∃ p, L[k]'kl = p := ⟨_, rfl⟩
                obtain ⟨x, hx⟩ : ∃ x, P[k]'kp = x := ⟨_, rfl⟩
                rw [hp] at q0 a1 a2 a3 a4 ts sb
                rw [hx] at rc a3 a4 ub
                have ut := UT.out
                have pm := Sp.pmul (a := p) (b := TQ) (m := 1000000) (n := 1800000000) a1 a2 ut.1 ut.2 (by omega)
                obtain ⟨X, hX⟩ : ∃ X, p * TQ = X := ⟨_, rfl⟩
                rw [hX] at a3 a4 pm
                obtain ⟨Y, hY⟩ : ∃ Y, 1000000 * x = Y := ⟨_, rfl⟩
                rw [hY] at a3 a4
                have TS := hid ts
                generalize (L.take k).sum = S0 at sb sb0 TS ⊢
                have g1 : decide (p < 0) = false := decide_eq_false (by omega)
                have g2 : decide (1000000 < p) = false := decide_eq_false (by omega)
                have g3 : decide (X ≤ Y - TQ) = false := decide_eq_false (by omega)
                have g4 : decide (Y + TQ ≤ X) = false := decide_eq_false (by omega)
                have w1 : wrap64 X = X := pw64 _ (by omega)
                have w2 : wrap64 Y = Y := pw64 _ (by omega)
                have w3 : wrap64 (Y - TQ) = Y - TQ := pw64 _ (by omega)
                have w4 : wrap64 (Y + TQ) = Y + TQ := pw64 _ (by omega)
                have w5 : wrap64 (S0 + p) = S0 + p := pw64 _ (by omega)
                obtain ⟨ek, eq, k0, k1⟩ := rjw k T.length hlt (by have := T1.out; omega)
                have EQ := hid eq
                have HJ := hid hlt
                have HM := hid (pmeas T.length k hlt)
                clear q a1 a2 a3 a4 ub ts sb sb0 ut pm hp hx eq hlt bl kl kp hk
                go_wp2_with fail
                go_roundw
                case rel => exact ⟨by trivial, k + 1, i64_eq (by first | exact EQ.out | exact ek.trans EQ.out), HJ.out, by rw [TS.out]; first | rfl | exact i64_eq w5⟩
                case measure => first | exact HM.out | (rw [ek]; exact HM.out)
              · obtain rfl : k = T.length := Nat.le_antisymm hk (Nat.le_of_not_lt hlt)
                have i1 : ¬ (T.length : Int) < (T.length : Int) := Int.lt_irrefl _
                rw [List.take_of_length_le (by rw [LN.out]; exact Nat.le_refl _), O2.out]
                clear hlt hk
                go_wp2_with fail
                refine (lawake_any _).mono ?_
                rintro _ w10 ⟨rfl, hb⟩
                have B10 := hid (bthen B7.out hb)
                clear hb
                go_wp2_with fail
                go_ret
                exact Gives.mk rfl B10.out
end Go.Proofs.Ytmdaanigkhikfab
