/-
  Layer 15: the walk of TerrainDown.
-/
import Derived.Test.YtmdaanigkhikfaaTyn
import Derived.Test.YtmdaanigkhikfaaTyc
import Derived.Test.YtmdaanigkhikfaaTw
import Derived.Test.YtmdaanigkhikfaaTpar
import Derived.StillTactics
namespace Go.Proofs.Ytmdaanigkhikfaa
open Go.RowKit
set_option linter.unusedVariables false
set_option linter.unusedSimpArgs false
/-- A list that holds a number is found to hold it. -/
theorem tcon_any (B : Option Addr) (bcap : Nat) (L : List Int) (x : Int) (w : World) (ll : L.length ≤ 1000000) (hB : Ints w B L) (hx : x ∈ L) :
    Calls Try.prog 38 #[.slice B L.length bcap, .int .i64 x] w (fun e w' => e = .returned (.bool true) ∧ w' = w) := by
  obtain ⟨b, off, rfl, bl, q⟩ := hB (List.length_pos_of_mem hx)
  have H := Try.slices_Contains_int b off L.length bcap L x w (Nat.le_refl _) (by omega) (fun j hj => by rw [q j hj]; simp [List.getD, List.getElem?_eq_getElem hj])
  refine H.mono ?_
  rintro e w' ⟨rfl, rfl⟩
  exact ⟨by simp [hx], rfl⟩
set_option maxRecDepth 100000 in
set_option maxHeartbeats 4000000 in
theorem tdown_walk (A : Option Addr) (cap : Nat) (c r k : Int) (z : List Int) (F : Bool) (E : Int) (L C : List Int) (PJ : Nat → Nat) (w : World) (hT : Ints w A z)
    (AW : ∀ W, Calls Try.prog 12 #[] W (Gives (.bool true) W))
    (FW : ∀ W, Calls Try.prog 11 #[.agg #[.int .i64 c, .int .i64 r, .int .i64 k, .slice A z.length cap]] W (Gives (.bool F) W))
    (CK : ∀ W, Below w.heap.size w W → Calls Try.prog 16 #[.agg #[.int .i64 c, .int .i64 r, .int .i64 k, .slice A z.length cap]] W (Gives (.int .i64 E) W))
    (hE : E = 0 → (2 ≤ c ∧ c ≤ 16) ∧ (2 ≤ r ∧ r ≤ 16) ∧ (z.length : Int) = c * r ∧ z.length ≤ 256 ∧ L.length = z.length ∧ C.length = z.length ∧ (∀ i, i < z.length → Sp.nodeOk c r z L C i) ∧
      (∀ i, i < z.length → L[i]?.getD (-1) = -1 → (PJ (i + 1) : Int) = PJ i + C[i]?.getD 0) ∧ (∀ i, i < z.length → ¬ L[i]?.getD (-1) = -1 → PJ (i + 1) = PJ i) ∧ (∀ i, i ≤ z.length → PJ i ≤ z.length) ∧ PJ z.length = z.length ∧ PJ 0 = 0)
    (R1 : E = 0 → ∀ W, Below w.heap.size w W → Calls Try.prog 25 #[.agg #[.int .i64 c, .int .i64 r, .int .i64 k, .slice A z.length cap]] W (fun e w' => Below W.heap.size W w' ∧ ∃ A cap, e = .returned (.tuple #[.slice A z.length cap, .int .i64 0]) ∧ Ints w' A L))
    (R3 : E = 0 → ∀ W, Below w.heap.size w W → Calls Try.prog 27 #[.agg #[.int .i64 c, .int .i64 r, .int .i64 k, .slice A z.length cap]] W (fun e w' => Below W.heap.size W w' ∧ ∃ A cap, e = .returned (.tuple #[.slice A z.length cap, .int .i64 0]) ∧ Ints w' A C)) :
    Calls Try.prog 9 #[.agg #[.int .i64 c, .int .i64 r, .int .i64 k, .slice A z.length cap]] w (Gives (.bool true) w) := by
  have VB := trAt_new w c r k A z.length cap
  have b0 : Below w.heap.size w (w.alloc (Obj.cells #[.int .i64 c, .int .i64 r, .int .i64 k, .slice A z.length cap] 24)) := balloc _ _
  generalize hU : w.alloc (Obj.cells #[.int .i64 c, .int .i64 r, .int .i64 k, .slice A z.length cap] 24) = U at VB b0
  have HAW := hid AW
  have HFW := hid FW
  have HCK := hid CK
  have HE := hid hE
  have H1 := hid R1
  have H3 := hid R3
  have HU := hid hU
  have HB := hid b0
  have HC := hid VB
  have HTT := hid hT
  clear hU b0 VB AW FW CK hE R1 R3 hT
  go_enter Try.func9, Try.ntmps9
  go_upto_region 1 with fail
  rw [HU.out]
  have k0 := HC.out.c0
  have k1 := HC.out.c1
  have k2 := HC.out.c2
  have k3 := HC.out.c3
  have kl := HC.out.lt
  go_wp2_with fail
  refine (HFW.out _).mono ?_
  rintro _ w5 ⟨rfl, hb⟩
  have B5 := hid (bthen HB.out hb)
  have Q5 := hid (HC.out.below hb)
  clear hb k0 k1 k2 k3 kl
  cases F
  · go_wp2_with fail
    refine (HAW.out _).mono ?_
    rintro _ w6 ⟨rfl, hb⟩
    have B6 := hid (bthen B5.out hb)
    clear hb
    go_wp2_with fail
    go_ret
    exact Gives.mk rfl B6.out
  · have k0 := Q5.out.c0
    have k1 := Q5.out.c1
    have k2 := Q5.out.c2
    have k3 := Q5.out.c3
    have kl := Q5.out.lt
    go_wp2_with fail
    refine (HCK.out _ B5.out).mono ?_
    rintro _ w6 ⟨rfl, hb⟩
    have B6 := hid (bthen B5.out hb)
    have Q6 := hid (Q5.out.below hb)
    clear hb k0 k1 k2 k3 kl
    by_cases cE : E = 0
    · subst cE
      have GG := hid (HE.out rfl)
      have R1 := hid (H1.out rfl)
      have R3 := hid (H3.out rfl)
      clear HE H1 H3
      have k0 := Q6.out.c0
      have k1 := Q6.out.c1
      have k2 := Q6.out.c2
      have k3 := Q6.out.c3
      have kl := Q6.out.lt
      go_wp2_with fail
      refine (R1.out _ B6.out).mono ?_
      rintro _ w7 ⟨hb, A1, q1, rfl, t1⟩
      have B7 := hid (bthen B6.out hb)
      have Q7 := hid (Q6.out.below hb)
      have T1 := hid t1
      clear hb k0 k1 k2 k3 kl t1
      have k0 := Q7.out.c0
      have k1 := Q7.out.c1
      have k2 := Q7.out.c2
      have k3 := Q7.out.c3
      have kl := Q7.out.lt
      go_wp2_with fail
      refine (R3.out _ B7.out).mono ?_
      rintro _ w8 ⟨hb, A3, q3, rfl, t3⟩
      have B8 := hid (bthen B7.out hb)
      have Q8 := hid (Q7.out.below hb)
      have T18 := hid (T1.out.below hb)
      have T38 := hid t3
      clear hb k0 k1 k2 k3 kl t3
      have k0 := Q8.out.c0
      have k1 := Q8.out.c1
      have k2 := Q8.out.c2
      have k3 := Q8.out.c3
      have kl := Q8.out.lt
      have ln : L.length = z.length := GG.out.2.2.2.2.1
      have cn : C.length = z.length := GG.out.2.2.2.2.2.1
      have LN := hid ln
      have CN := hid cn
      clear ln cn
      go_wp2_with fail
      clear k0 k1 k2 k3 kl
      go_loopw [55, 7] (fun t u wr => ∃ j : Nat, t = .int .i64 (j : Int) ∧ j ≤ z.length ∧ u = .int .i64 (PJ j : Int) ∧ Below w8.heap.size w8 wr) (fun t _ _ => z.length - (intOf t).toNat)
      case atStart => exact ⟨0, rfl, Nat.zero_le _, by rw [GG.out.2.2.2.2.2.2.2.2.2.2.2]; rfl, Below.refl _ _⟩
      case round =>
        obtain ⟨j, rfl, hj, rfl, hb⟩ := hrel
        have HBB := hid hb
        clear hb
        by_cases hlt : j < z.length
        · obtain ⟨g1, g2, g4, zl, -, -, no, p1, p2, p3, -, -⟩ := GG.out
          have hl : j < L.length := by rw [LN.out]; exact hlt
          have hc : j < C.length := by rw [CN.out]; exact hlt
          obtain ⟨ej, eq, i0, i1⟩ := rjw j z.length hlt (by omega)
          have EQ := hid eq
          have HJ := hid hlt
          have HM := hid (pmeas z.length j hlt)
          have NO := hid (no j hlt)
          have pj0 := p3 j hj
          have pj1 := p3 (j + 1) hlt
          have P1 := hid (p1 j hlt)
          have P2 := hid (p2 j hlt)
          have ZL := hid zl
          have NB := hid (fun W => rneigh_any A cap c r k z (j : Int) W g1 g2 ⟨i0, by omega⟩)
          have NL := hid (Sp.nbS_len c r (j : Int))
          have NM := hid (fun v (hv : v ∈ Sp.nbS c r (j : Int)) => (show 0 ≤ v ∧ v < z.length by rw [g4]; exact Sp.nbS_mem g1.1 g2.1 i0 (by omega) hv))
          obtain ⟨b, off, eA, bl, q⟩ := (T18.out.below HBB.out) (Nat.lt_of_le_of_lt (Nat.zero_le _) hl)
          have q0 := q j hl
          obtain ⟨K, hK⟩ : ∃ K, L[j]'hl = K := ⟨_, rfl⟩
          rw [hK] at q0
          have HK := hid (show L[j]?.getD (-1) = K by rw [Sp.getD_at j hl]; exact hK)
          obtain ⟨PN, hPN⟩ : ∃ PN, PJ j = PN := ⟨_, rfl⟩
          rw [hPN] at pj0 ⊢
          have HPN := hid hPN
          subst eA
          clear g1 g2 g4 zl no p1 p2 p3 q hK hPN eq hlt hl hc pj0 pj1
          obtain ⟨V, hV⟩ : ∃ V, wr.alloc (.cells #[.int .i64 (j : Int)] 3) = V := ⟨_, rfl⟩
          have bV : Below wr.heap.size wr V := by rw [← hV]; exact balloc _ _
          have iV : V.cell? ⟨wr.heap.size, 0, none⟩ = some (.int .i64 (j : Int)) := by rw [← hV]; simp [go_sem]
          have zV : wr.heap.size < V.heap.size := by rw [← hV]; simp
          have HV := hid hV
          have BV := hid (bthen HBB.out bV)
          have QV := hid (Q8.out.below BV.out)
          have IV := hid iV
          have ZV := hid zV
          clear hV bV iV zV
          go_upto_region 11 with fail
          rw [HV.out]
          clear q0
          have k0 := QV.out.c0
          have k1 := QV.out.c1
          have k2 := QV.out.c2
          have k3 := QV.out.c3
          have kl := QV.out.lt
          have iV := IV.out
          go_wp2_with fail
          refine (NB.out _).mono ?_
          rintro _ w9 ⟨hb, A9, q9, rfl, t9⟩
          have T9 := hid t9
          have Z9 := hid (Nat.lt_of_lt_of_le ZV.out hb.size)
          have I9 := hid ((hb.cell (p := ⟨wr.heap.size, 0, none⟩) ZV.out).trans IV.out)
          have Q9 := hid (QV.out.below hb)
          have B9 := hid (bthen BV.out hb)
          clear hb t9 k0 k1 k2 k3 kl iV
          have CF := hid (tcf_any A cap c r k z w.heap.size wr.heap.size j A9 q9 _ w9 ZL.out NL.out HJ.out NM.out T9.out (HTT.out.below (bthen B8.out B9.out)) Q9.out I9.out Z9.out)
          obtain ⟨NS, hNS⟩ : ∃ NS, Sp.nbS c r (j : Int) = NS := ⟨_, rfl⟩
          have NO2 := NO.out
          unfold Sp.nodeOk at NO2
          rw [hNS] at NO2
          have NO3 := hid NO2
          have CF2 := CF.out
          have T92 := T9.out
          have NL2 := NL.out
          rw [hNS] at CF2 T92 NL2
          rw [hNS]
          obtain ⟨LW, hLW⟩ : ∃ LW, NS.any (Sp.lwB z (j : Int)) = LW := ⟨_, rfl⟩
          rw [hLW] at CF2
          have HLW := hid hLW
          have CF3 := hid CF2
          have T93 := hid T92
          have NL3 := hid NL2
          clear hNS NO2 CF2 CF T9 T92 NL NL2 hLW NO NM NB
          go_wp2_with fail
          refine CF3.out.mono ?_
          rintro _ w10 ⟨rfl, hb⟩
          have B10 := hid (bthen B9.out hb)
          have Q10 := hid (Q9.out.below hb)
          have I10 := hid ((hb.cell (p := ⟨wr.heap.size, 0, none⟩) Z9.out).trans I9.out)
          have T10 := hid (T93.out.below hb)
          clear hb CF3 T93 Q9 I9
          by_cases cK : K = -1
          · subst cK
            have lwf : LW = false := by
              rcases NO3.out with ⟨-, h⟩ | ⟨m, h, -⟩
              · rw [← HLW.out]; exact h
              · rw [HK.out] at h; omega
            subst lwf
            have pe := P1.out HK.out
            rw [HPN.out] at pe
            have hc : j < C.length := by rw [CN.out]; exact HJ.out
            obtain ⟨b3, off3, e3, bl3, q3'⟩ := (T38.out.below B10.out) (Nat.lt_of_le_of_lt (Nat.zero_le _) hc)
            have qc := q3' j hc
            rw [Sp.getD_at j hc] at pe
            obtain ⟨x, hx⟩ : ∃ x, C[j]'hc = x := ⟨_, rfl⟩
            rw [hx] at qc pe
            have bnd := GG.out.2.2.2.2.2.2.2.2.2.1 (j + 1) HJ.out
            have zl := ZL.out
            have wx : wrap64 ((PN : Int) + x) = (PN : Int) + x := pw64 _ (by omega)
            have PE := hid pe
            have i10 := I10.out
            subst e3
            clear pe q3' hx bnd zl hc
            go_wp2_with fail
            go_roundw
            case rel => exact ⟨j + 1, i64_eq (by first | exact EQ.out | exact ej.trans EQ.out), HJ.out, i64_eq (by first | exact PE.out.symm | exact wx.trans PE.out.symm), B10.out⟩
            case measure => first | exact HM.out | (rw [ej]; exact HM.out)
          · have kn : (K == -1) = false := by simpa using cK
            obtain ⟨m, h1, ml, h2, h3, h4, h5⟩ : ∃ m : Nat, K = (m : Int) ∧ m < L.length ∧ (m : Int) ∈ NS ∧ Sp.hz z (m : Int) < Sp.hz z (j : Int) ∧ 1 ≤ C[j]?.getD 0 ∧ C[j]?.getD 0 < C[m]?.getD 0 := by
              rcases NO3.out with ⟨h, -⟩ | ⟨m, h1, h2⟩
              · rw [HK.out] at h; exact absurd h cK
              · rw [HK.out] at h1; exact ⟨m, h1, h2⟩
            have pe := P2.out (by rw [HK.out]; exact cK)
            rw [HPN.out] at pe
            have PE := hid pe
            subst h1
            have hc : j < C.length := by rw [CN.out]; exact HJ.out
            have hcm : m < C.length := by rw [CN.out, ← LN.out]; exact ml
            have hz' : m < z.length := by rw [← LN.out]; exact ml
            have CT := hid (fun W (hb : Below w10.heap.size w10 W) => tcon_any A9 q9 NS (m : Int) W (by have := NL3.out; omega) (T10.out.below hb) h2)
            obtain ⟨b3, off3, e3, bl3, q3'⟩ := (T38.out.below B10.out) (Nat.lt_of_le_of_lt (Nat.zero_le _) hc)
            have qc := q3' j hc
            have qd := q3' m hcm
            rw [Sp.getD_at j hc] at h4 h5
            rw [Sp.getD_at m hcm] at h5
            obtain ⟨x, hx⟩ : ∃ x, C[j]'hc = x := ⟨_, rfl⟩
            obtain ⟨y, hy⟩ : ∃ y, C[m]'hcm = y := ⟨_, rfl⟩
            rw [hx] at qc h4 h5
            rw [hy] at qd h5
            rw [Sp.hz_at z m hz', Sp.hz_at z j HJ.out] at h3
            obtain ⟨bz, offz, ez, blz, qz⟩ := (HTT.out.below (bthen B8.out B10.out)) (Nat.lt_of_le_of_lt (Nat.zero_le _) hz')
            have qzm := qz m hz'
            have qzj := qz j HJ.out
            obtain ⟨zm, hzm⟩ : ∃ zm, z[m]'hz' = zm := ⟨_, rfl⟩
            obtain ⟨zj, hzj⟩ : ∃ zj, z[j]'HJ.out = zj := ⟨_, rfl⟩
            rw [hzm] at qzm h3
            rw [hzj] at qzj h3
            have f1 : decide (zj ≤ zm) = false := decide_eq_false (by omega)
            have f2 : decide (x < 1) = false := decide_eq_false (by omega)
            have f3 : decide (y ≤ x) = false := decide_eq_false (by omega)
            have i10 := I10.out
            have t3 := Q10.out.c3
            have j0 : (0 : Int) ≤ (j : Int) := Int.natCast_nonneg j
            have j1 : (j : Int) < (z.length : Int) := Int.ofNat_lt.mpr HJ.out
            have m0 : (0 : Int) ≤ (m : Int) := Int.natCast_nonneg m
            have m1 : (m : Int) < (z.length : Int) := Int.ofNat_lt.mpr hz'
            have D10 := hid B10.out.drew
            subst e3
            subst ez
            clear pe q3' qz hx hy hzm hzj h2 h3 h4 h5 ml hc hcm hz' cK i1 ej
            go_upto_region 17 with fail
            refine wp_region_still_lit (by rfl) (by kernel_rfl) ?_
            still_step
            still_step
            still_call (CT.out _ (Below.refl _ _).drew)
            repeat still_step
            refine wpStill_nil ?_
            refine (show ∀ (K : Act → World → Prop) a, K a w10.drew → K a { w10 with drawn := w10.drawn + 1 } from fun K a h => h) _ _ ?_
            have ej2 := (rjw j z.length HJ.out (by have := ZL.out; omega)).1
            go_wp2_with fail
            go_roundw
            case rel => exact ⟨j + 1, i64_eq (by first | exact EQ.out | exact ej2.trans EQ.out), HJ.out, by rw [PE.out], D10.out⟩
            case measure => first | exact HM.out | (rw [ej2]; exact HM.out)
        · obtain rfl : j = z.length := Nat.le_antisymm hj (Nat.le_of_not_lt hlt)
          have i1 : ¬ (z.length : Int) < (z.length : Int) := Int.lt_irrefl _
          rw [GG.out.2.2.2.2.2.2.2.2.2.2.1]
          have Q11 := Q8.out.below HBB.out
          have t3 := Q11.c3
          clear Q11
          go_wp2_with fail
          refine (HAW.out _).mono ?_
          rintro _ w9 ⟨rfl, hb⟩
          have B9 := hid (bthen B8.out (bthen HBB.out hb))
          clear hb
          go_wp2_with fail
          go_ret
          exact Gives.mk rfl B9.out
    · have hn : (E == 0) = false := by simpa using cE
      go_wp2_with fail
      refine (HAW.out _).mono ?_
      rintro _ w7 ⟨rfl, hb⟩
      have B7 := hid (bthen B6.out hb)
      clear hb
      go_wp2_with fail
      go_ret
      exact Gives.mk rfl B7.out
theorem IlPost.good {w : World} {E : Int} {L : List Int} {e : Ending} {w' : World} (h : IlPost w E L e w') (hE : E = 0) :
    Below w.heap.size w w' ∧ ∃ A cap, e = .returned (.tuple #[.slice A L.length cap, .int .i64 0]) ∧ Ints w' A L := by
  obtain ⟨hb, ⟨h1, rfl⟩ | ⟨-, A, cap, rfl, h2⟩⟩ := h
  · exact absurd hE h1
  · exact ⟨hb, A, cap, rfl, h2⟩
theorem tdown_as (A : Option Addr) (cap : Nat) (c r k : Int) (z : List Int) (w : World) (hl : z.length ≤ 140737488355328) (hT : Ints w A z) :
    Calls Try.prog 9 #[.agg #[.int .i64 c, .int .i64 r, .int .i64 k, .slice A z.length cap]] w (Gives (.bool true) w) := by
  refine tdown_walk A cap c r k z (decide ((z.length : Int) ≤ 300)) (Sp.terE c r k z) (Sp.tabL (Sp.rcvS z c r) z.length) (Sp.catS z c r) (Sp.pitsJ (Sp.tabL (Sp.rcvS z c r) z.length)) w hT tawake_any (fun W => rfew_any A cap c r k z W) (fun W hb => rcheck_any A cap c r k z W hl (hT.below hb)) ?_ ?_ ?_
  · intro h
    obtain ⟨h1, h2, h3, h4, h5⟩ := Sp.terE_zero h
    have P : c * r ≤ 16 * 16 := Int.mul_le_mul h1.2 h2.2 (by omega) (by omega)
    obtain ⟨d1, d2, d3, d4, d5⟩ := Sp.down_ok h1.1 h2.1 h4 h5
    exact ⟨h1, h2, h4, by omega, Sp.tabL_len _ _, by unfold Sp.catS; rw [Sp.catJ_len], d1, d2, d3, d4, d5, by simp [Sp.pitsJ]⟩
  · intro h W hb
    refine (tReceiver_any A cap c r k z W hl (hT.below hb)).mono fun e w' q => ?_
    have q := q.good h
    rw [Sp.tabL_len] at q
    exact q
  · intro h W hb
    refine (tCatchment_any A cap c r k z W hl (hT.below hb)).mono fun e w' q => ?_
    have q := q.good h
    have ln : (Sp.catS z c r).length = z.length := by unfold Sp.catS; rw [Sp.catJ_len]
    rw [ln] at q
    exact q
end Go.Proofs.Ytmdaanigkhikfaa
