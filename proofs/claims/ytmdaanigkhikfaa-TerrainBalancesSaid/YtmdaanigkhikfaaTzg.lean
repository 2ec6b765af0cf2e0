/-
  Layer 15: the walk of TerrainBalances.
-/
import Derived.Test.YtmdaanigkhikfaaTyo
import Derived.Test.YtmdaanigkhikfaaTx
import Derived.Test.YtmdaanigkhikfaaTw
import Derived.Test.YtmdaanigkhikfaaTpar
import Derived.StillTactics
namespace Go.Proofs.Ytmdaanigkhikfaa
open Go.RowKit
set_option linter.unusedVariables false
set_option linter.unusedSimpArgs false
theorem foldl_min_le : ∀ (L : List Int) (a : Int), L.foldl min a ≤ a ∧ ∀ v ∈ L, L.foldl min a ≤ v
  | [], a => ⟨Int.le_refl _, fun v h => by simp at h⟩
  | x :: L, a => by
    obtain ⟨h1, h2⟩ := foldl_min_le L (min a x)
    rw [List.foldl_cons]
    refine ⟨by omega, fun v h => ?_⟩
    rcases List.mem_cons.1 h with rfl | h
    · omega
    · exact h2 v h
/-- The least of a list that is not empty. -/
theorem tmin_any (B : Option Addr) (bcap : Nat) (L : List Int) (w : World) (ll : L.length ≤ 1000000) (h0 : 0 < L.length) (hB : Ints w B L) :
    Calls Try.prog 39 #[.slice B L.length bcap] w (fun e w' => e = .returned (.int .i64 (Lib.minOf L)) ∧ w' = w) := by
  obtain ⟨b, off, rfl, bl, q⟩ := hB h0
  have H := Try.slices_Min_int b off L.length bcap L w h0 (Nat.le_refl _) (by omega) (fun j hj => by rw [q j hj]; simp [List.getD, List.getElem?_eq_getElem hj])
  refine H.mono ?_
  rintro e w' ⟨rfl, rfl⟩
  exact ⟨by simp, rfl⟩
set_option maxRecDepth 100000 in
set_option maxHeartbeats 8000000 in
theorem tbal_walk (A : Option Addr) (cap : Nat) (c r k : Int) (z : List Int) (lv E cl ch fl fh ul uh dl dh S SK four mn : Int) (F : Bool) (w : World) (hT : Ints w A z) (hS : Sp.sumS (Sp.ovG lv) c r z = S) (hSK : S * k = SK) (h4 : SK * k = four)
    (AW : ∀ W, Calls Try.prog 12 #[] W (Gives (.bool true) W))
    (FW : ∀ W, Calls Try.prog 11 #[.agg #[.int .i64 c, .int .i64 r, .int .i64 k, .slice A z.length cap]] W (Gives (.bool F) W))
    (CK : ∀ W, Below w.heap.size w W → Calls Try.prog 16 #[.agg #[.int .i64 c, .int .i64 r, .int .i64 k, .slice A z.length cap]] W (Gives (.int .i64 E) W))
    (hE : E = 0 → (2 ≤ c ∧ c ≤ 16) ∧ (2 ≤ r ∧ r ≤ 16) ∧ (1 ≤ k ∧ k ≤ 1000) ∧ (z.length : Int) = c * r ∧ ∀ v ∈ z, 0 ≤ v ∧ v ≤ 50000)
    (MN : E = 0 → ∀ W, Below w.heap.size w W → Calls Try.prog 39 #[.slice A z.length cap] W (fun e w' => e = .returned (.int .i64 mn) ∧ w' = W))
    (R1 : E = 0 → (0 ≤ lv ∧ lv < 50000) → ∀ W, Below w.heap.size w W → Calls Try.prog 29 #[.agg #[.int .i64 c, .int .i64 r, .int .i64 k, .slice A z.length cap], .int .i64 lv] W (Gives (.tuple #[.agg #[.int .i64 cl, .int .i64 ch], .agg #[.int .i64 fl, .int .i64 fh], .int .i64 0]) W))
    (R2 : E = 0 → (0 ≤ lv ∧ lv < 50000) → ∀ W, Below w.heap.size w W → Calls Try.prog 29 #[.agg #[.int .i64 c, .int .i64 r, .int .i64 k, .slice A z.length cap], .int .i64 (lv + 1)] W (Gives (.tuple #[.agg #[.int .i64 ul, .int .i64 uh], .agg #[.int .i64 dl, .int .i64 dh], .int .i64 0]) W))
    (NUM : E = 0 → (0 ≤ lv ∧ lv < 50000) → ((0 ≤ cl ∧ cl ≤ ch ∧ ch ≤ 1000000000000000) ∧ (0 ≤ fl ∧ fl ≤ fh ∧ fh ≤ 1000000000000000) ∧ (-100000000 ≤ S ∧ S ≤ 100000000) ∧ (-1000000000000000 ≤ SK ∧ SK ≤ 1000000000000000) ∧ (-1000000000000000 ≤ four ∧ four ≤ 1000000000000000)) ∧ uh ≤ ch ∧ ul ≤ cl ∧ fh ≤ dh ∧ 4 * (cl - fh) ≤ four ∧ four ≤ 4 * (ch - fl) ∧ (lv ≤ mn → fl = 0 ∧ fh = 0 ∧ ch - cl ≤ 1))
    (SB : E = 0 → (0 ≤ lv ∧ lv < 50000) → ∀ n m, m ≤ 225 → -100000000 ≤ Sp.sumG (Sp.ovG lv) z c (cellU n m) ∧ Sp.sumG (Sp.ovG lv) z c (cellU n m) ≤ 100000000) :
    Calls Try.prog 10 #[.agg #[.int .i64 c, .int .i64 r, .int .i64 k, .slice A z.length cap], .int .i64 lv] w (Gives (.bool true) w) := by
  have VB := trAt_new w c r k A z.length cap
  have b0 : Below w.heap.size w (w.alloc (Obj.cells #[.int .i64 c, .int .i64 r, .int .i64 k, .slice A z.length cap] 24)) := balloc _ _
  generalize hU : w.alloc (Obj.cells #[.int .i64 c, .int .i64 r, .int .i64 k, .slice A z.length cap] 24) = U at VB b0
  have HAW := hid AW
  have HFW := hid FW
  have HCK := hid CK
  have HE := hid hE
  have HMN := hid MN
  have H1 := hid R1
  have H2 := hid R2
  have HN := hid NUM
  have HSB := hid SB
  have HS := hid hS
  have HSK := hid hSK
  have H4 := hid h4
  have HU := hid hU
  have HB := hid b0
  have HC := hid VB
  have HTT := hid hT
  clear hU b0 VB AW FW CK hE MN R1 R2 NUM hT hS hSK h4 SB
  go_enter Try.func10, Try.ntmps10
  go_upto_region 1 with fail
  rw [HU.out]
  have k0 := HC.out.c0
  have k1 := HC.out.c1
  have k2 := HC.out.c2
  have k3 := HC.out.c3
  have kl := HC.out.lt
  go_wp2_with fail
  refine (HFW.out _).mono ?_
  rintro _ w5 ⟨rfl, hb⟩
  have B5 := hid (bthen HB.out hb)
  have Q5 := hid (HC.out.below hb)
  clear hb k0 k1 k2 k3 kl
  cases F
  · go_wp2_with fail
    refine (HAW.out _).mono ?_
    rintro _ w6 ⟨rfl, hb⟩
    have B6 := hid (bthen B5.out hb)
    clear hb
    go_wp2_with fail
    go_ret
    exact Gives.mk rfl B6.out
  · have k0 := Q5.out.c0
    have k1 := Q5.out.c1
    have k2 := Q5.out.c2
    have k3 := Q5.out.c3
    have kl := Q5.out.lt
    go_wp2_with fail
    refine (HCK.out _ B5.out).mono ?_
    rintro _ w6 ⟨rfl, hb⟩
    have B6 := hid (bthen B5.out hb)
    have Q6 := hid (Q5.out.below hb)
    clear hb k0 k1 k2 k3 kl
    by_cases cE : E = 0
    · subst cE
      by_cases cL : 0 ≤ lv ∧ lv < 50000
      · have NN := hid (HN.out rfl cL)
        have R1 := hid (H1.out rfl cL)
        have R2 := hid (H2.out rfl cL)
        have SB := hid (HSB.out rfl cL)
        have MM := hid (HMN.out rfl)
        have f1 : decide (lv < 0) = false := decide_eq_false (by omega)
        have f2 : decide (50000 ≤ lv) = false := decide_eq_false (by omega)
        have wl : wrap64 (lv + 1) = lv + 1 := pw64 _ (by omega)
        have GG := hid (HE.out rfl)
        have CL := hid cL
        clear HN H1 H2 HSB HE HMN cL
        have k0 := Q6.out.c0
        have k1 := Q6.out.c1
        have k2 := Q6.out.c2
        have k3 := Q6.out.c3
        have kl := Q6.out.lt
        go_wp2_with fail
        refine (R1.out _ B6.out).mono ?_
        rintro _ w7 ⟨rfl, hb⟩
        obtain ⟨V7, hV7⟩ : ∃ V7, (w7.alloc (Obj.cells #[.int .i64 cl, .int .i64 ch] 50)).alloc (Obj.cells #[.int .i64 fl, .int .i64 fh] 50) = V7 := ⟨_, rfl⟩
        have kb7 : Below w7.heap.size w7 V7 := by rw [← hV7]; exact bthen (balloc _ _) (balloc _ _)
        have F7 := hid (show V7.cell? ⟨w7.heap.size, 0, none⟩ = some (.int .i64 cl) ∧ V7.cell? ⟨w7.heap.size, 1, none⟩ = some (.int .i64 ch) ∧ V7.cell? ⟨w7.heap.size + 1, 0, none⟩ = some (.int .i64 fl) ∧ V7.cell? ⟨w7.heap.size + 1, 1, none⟩ = some (.int .i64 fh) ∧ w7.heap.size + 1 < V7.heap.size from by rw [← hV7]; exact ⟨by simp [go_sem], by simp [go_sem], by simp [go_sem], by simp [go_sem], by simp⟩)
        have B7 := hid (bthen B6.out (bthen hb kb7))
        have Q7 := hid (Q6.out.below (bthen hb kb7))
        have HV7 := hid hV7
        clear hb k0 k1 k2 k3 kl hV7 kb7 f1 f2
        have k0 := Q7.out.c0
        have k1 := Q7.out.c1
        have k2 := Q7.out.c2
        have k3 := Q7.out.c3
        have kl := Q7.out.lt
        go_upto_region 4 with fail
        rw [HV7.out]
        go_wp2_with fail
        refine (R2.out _ B7.out).mono ?_
        rintro _ w8 ⟨rfl, hb⟩
        obtain ⟨V8, hV8⟩ : ∃ V8, (w8.alloc (Obj.cells #[.int .i64 ul, .int .i64 uh] 50)).alloc (Obj.cells #[.int .i64 dl, .int .i64 dh] 50) = V8 := ⟨_, rfl⟩
        have kb8 : Below w8.heap.size w8 V8 := by rw [← hV8]; exact bthen (balloc _ _) (balloc _ _)
        have F8 := hid (show V8.cell? ⟨w8.heap.size, 0, none⟩ = some (.int .i64 ul) ∧ V8.cell? ⟨w8.heap.size, 1, none⟩ = some (.int .i64 uh) ∧ V8.cell? ⟨w8.heap.size + 1, 0, none⟩ = some (.int .i64 dl) ∧ V8.cell? ⟨w8.heap.size + 1, 1, none⟩ = some (.int .i64 dh) ∧ w8.heap.size + 1 < V8.heap.size from by rw [← hV8]; exact ⟨by simp [go_sem], by simp [go_sem], by simp [go_sem], by simp [go_sem], by simp⟩)
        have kb : Below V7.heap.size V7 V8 := bthen hb kb8
        have fz := F7.out.2.2.2.2
        have G7 := hid (fun (W : World) (hw : Below V8.heap.size V8 W) => (show W.cell? ⟨w7.heap.size, 0, none⟩ = some (.int .i64 cl) ∧ W.cell? ⟨w7.heap.size, 1, none⟩ = some (.int .i64 ch) ∧ W.cell? ⟨w7.heap.size + 1, 0, none⟩ = some (.int .i64 fl) ∧ W.cell? ⟨w7.heap.size + 1, 1, none⟩ = some (.int .i64 fh) ∧ w7.heap.size + 1 < W.heap.size from
          ⟨((bthen kb hw).cell (p := ⟨w7.heap.size, 0, none⟩) (Nat.lt_of_succ_lt fz)).trans F7.out.1, ((bthen kb hw).cell (p := ⟨w7.heap.size, 1, none⟩) (Nat.lt_of_succ_lt fz)).trans F7.out.2.1, ((bthen kb hw).cell (p := ⟨w7.heap.size + 1, 0, none⟩) fz).trans F7.out.2.2.1, ((bthen kb hw).cell (p := ⟨w7.heap.size + 1, 1, none⟩) fz).trans F7.out.2.2.2.1, Nat.lt_of_lt_of_le fz (bthen kb hw).size⟩))
        have B8 := hid (bthen B7.out kb)
        have Q8 := hid (Q7.out.below kb)
        have HV8 := hid hV8
        clear hb k0 k1 k2 k3 kl hV8 kb8 kb fz wl
        go_upto_region 5 with fail
        rw [HV8.out]
        obtain ⟨g0, g1, g2, g3, gz⟩ := G7.out _ (Below.refl _ _)
        obtain ⟨f0, f1, f2, f3, fz⟩ := F8.out
        obtain ⟨⟨⟨n1, n2, n3⟩, ⟨n4, n5, n6⟩, n7, n8, n9⟩, n10, n11, n12, n13, n14, n15⟩ := NN.out
        have d1 : decide (cl < 0) = false := decide_eq_false (by omega)
        have d2 : decide (ch < cl) = false := decide_eq_false (by omega)
        have d3 : decide (fl < 0) = false := decide_eq_false (by omega)
        have d4 : decide (fh < fl) = false := decide_eq_false (by omega)
        have d5 : decide (ch < uh) = false := decide_eq_false (by omega)
        have d6 : decide (cl < ul) = false := decide_eq_false (by omega)
        have d7 : decide (dh < fh) = false := decide_eq_false (by omega)
        have k0 := Q8.out.c0
        have k1 := Q8.out.c1
        have k2 := Q8.out.c2
        have k3 := Q8.out.c3
        have kl := Q8.out.lt
        obtain ⟨b1, b2, b3, b4, b5⟩ := GG.out
        obtain ⟨nc, hnc⟩ : ∃ nc : Nat, c - 1 = (nc : Int) := ⟨(c - 1).toNat, by omega⟩
        obtain ⟨nr, hnr⟩ : ∃ nr : Nat, r - 1 = (nr : Int) := ⟨(r - 1).toNat, by omega⟩
        have HNC := hid hnc
        have HNR := hid hnr
        have BC := hid (show nc ≤ 15 by omega)
        have BR := hid (show nr ≤ 15 by omega)
        have wc : wrap64 (c - 1) = (nc : Int) := by rw [pw64 _ (by omega)]; exact hnc
        have wr1 : wrap64 (r - 1) = (nr : Int) := by rw [pw64 _ (by omega)]; exact hnr
        have WC := hid wc
        clear n1 n2 n3 n4 n5 n6 n7 n8 n9 n10 n11 n12 n13 n14 n15 b1 b2 b3 b4 b5 hnc hnr wc
        go_wp2_with fail
        simp only [wr1]
        clear k0 k1 k2 k3 kl f0 f1 f2 f3 fz g0 g1 g2 g3 gz d1 d2 d3 d4 d5 d6 d7 wr1
        go_loopw [102, 11] (fun t u wx => ∃ i : Nat, i ≤ nr ∧ t = .int .i64 (i : Int) ∧ u = .int .i64 (Sp.sumG (Sp.ovG lv) z c (cellU nc (i * nc))) ∧ Below V8.heap.size V8 wx) (fun t _ _ => nr - (intOf t).toNat)
        case atStart => exact ⟨0, Nat.zero_le _, rfl, by rw [Nat.zero_mul]; rfl, Below.refl _ _⟩
        case round =>
          obtain ⟨i, hi, rfl, rfl, hB⟩ := hrel
          obtain ⟨P1, hP1⟩ : ∃ P1, Sp.sumG (Sp.ovG lv) z c (cellU nc (i * nc)) = P1 := ⟨_, rfl⟩
          rw [hP1]
          have HP1 := hid hP1
          have HB1 := hid hB
          have hQ := Q8.out.below hB
          have t0 := hQ.c0
          have tl := hQ.lt
          have t2 := hQ.c2
          have t3 := hQ.c3
          clear hQ hB hP1
          by_cases hlt : i < nr
          · obtain ⟨i0, i1, ei, eq⟩ := csf i nr hlt BR.out
            have EQ := hid eq
            have HI := hid hlt
            have HM1 := hid (pmeas nr i hlt)
            have wc := WC.out
            clear eq hlt
            go_wp2_with fail
            simp only [wc]
            clear t0 tl wc t2 t3
            go_loopw [108, 11] (fun t u wx => ∃ j : Nat, j ≤ nc ∧ t = .int .i64 (j : Int) ∧ u = .int .i64 (Sp.sumG (Sp.ovG lv) z c (cellU nc (i * nc + j))) ∧ Below V8.heap.size V8 wx) (fun t _ _ => nc - (intOf t).toNat)
            case atStart => exact ⟨0, Nat.zero_le _, rfl, by rw [Nat.add_zero, HP1.out], HB1.out⟩
            case round =>
              obtain ⟨j, hj, rfl, rfl, hB⟩ := hrel
              obtain ⟨PS, hPS⟩ : ∃ PS, Sp.sumG (Sp.ovG lv) z c (cellU nc (i * nc + j)) = PS := ⟨_, rfl⟩
              rw [hPS]
              have HPS := hid hPS
              have HB2 := hid hB
              have hQ := Q8.out.below hB
              have t0 := hQ.c0
              have t3 := hQ.c3
              have tl := hQ.lt
              clear hB hPS hQ
              by_cases hlt : j < nc
              · obtain ⟨j0, j1, ej, eq2⟩ := csf j nc hlt BC.out
                have EQ2 := hid eq2
                have HM2 := hid (pmeas nc j hlt)
                have cf := cellF_at (i := i) hlt
                have clt := cell_lt hlt HI.out
                have okc : okC c r ((j : Int), (i : Int)) := by rw [← cf]; exact cellF_ok HNC.out HNR.out clt
                have cm : i * nc + j < 225 := Nat.lt_of_lt_of_le clt (Nat.mul_le_mul BR.out BC.out)
                have HL2 := hid hlt
                have pb := SB.out nc (i * nc + j) (Nat.le_of_lt cm)
                have pb2 := SB.out nc (i * nc + (j + 1)) cm
                rw [HPS.out] at pb
                have SU : Sp.sumG (Sp.ovG lv) z c (cellU nc (i * nc + (j + 1))) = PS + Sp.celG (Sp.ovG lv) z c ((j : Int), (i : Int)) := by rw [show i * nc + (j + 1) = i * nc + j + 1 from rfl, cellU_succ, Sp.sumG_snoc, HPS.out, cf]
                unfold Sp.celG at SU
                simp only at SU
                obtain ⟨b1, b2, b3, b4, b5⟩ := GG.out
                obtain ⟨e0, e1⟩ := Sp.cell_nodes b1.1 b2.1 b4 okc.1.1 okc.1.2 okc.2.1 okc.2.2
                simp only at e0 e1
                obtain ⟨M, hM⟩ : ∃ M, (i : Int) * c = M := ⟨_, rfl⟩
                rw [hM] at e0 e1 SU
                have M0 : 0 ≤ M := by rw [← hM]; exact Int.mul_nonneg i0 (by omega)
                have P : c * r ≤ 16 * 16 := Int.mul_le_mul b1.2 b2.2 (by omega) (by omega)
                obtain ⟨l, hl⟩ : ∃ l : Nat, M + (j : Int) = (l : Int) := ⟨(M + (j : Int)).toNat, by omega⟩
                rw [hl] at e0 e1 SU
                obtain ⟨u, hu⟩ : ∃ u : Nat, (l : Int) + c = (u : Int) := ⟨((l : Int) + c).toNat, by omega⟩
                rw [hu] at e1 SU
                have ul2 : l < u := by omega
                have uz : u + 1 < z.length := by omega
                have s0 := Sp.hz_at z l (by omega)
                have s1 := Sp.hz_at z (l + 1) (by omega)
                have s2 := Sp.hz_at z u (by omega)
                have s3 := Sp.hz_at z (u + 1) (by omega)
                rw [Int.natCast_add] at s1 s3
                rw [s0, s2, show ((l : Int) + 1) = (l : Int) + ((1 : Nat) : Int) from rfl, show ((u : Int) + 1) = (u : Int) + ((1 : Nat) : Int) from rfl, s1, s3] at SU
                obtain ⟨b, off, eA, bl, q⟩ := (HTT.out.below (bthen B8.out HB2.out)) (by omega)
                have q0 := q l (by omega)
                have q1 := q (l + 1) (by omega)
                have q2 := q u (by omega)
                have q3 := q (u + 1) (by omega)
                have v0b := b5 _ (List.getElem_mem (l := z) (n := l) (by omega))
                have v1b := b5 _ (List.getElem_mem (l := z) (n := l + 1) (by omega))
                have v2b := b5 _ (List.getElem_mem (l := z) (n := u) (by omega))
                have v3b := b5 _ (List.getElem_mem (l := z) (n := u + 1) (by omega))
                obtain ⟨v0, hv0⟩ : ∃ v0, z[l]'(by omega) = v0 := ⟨_, rfl⟩
                obtain ⟨v1, hv1⟩ : ∃ v1, z[l + 1]'(by omega) = v1 := ⟨_, rfl⟩
                obtain ⟨v2, hv2⟩ : ∃ v2, z[u]'(by omega) = v2 := ⟨_, rfl⟩
                obtain ⟨v3, hv3⟩ : ∃ v3, z[u + 1]'(by omega) = v3 := ⟨_, rfl⟩
                rw [hv0] at q0 v0b SU
                rw [hv1] at q1 v1b SU
                rw [hv2] at q2 v2b SU
                rw [hv3] at q3 v3b SU
                unfold Sp.ovG at SU
                have lb := CL.out
                have NXT := hid (show Sp.sumG (Sp.ovG lv) z c (cellU nc (i * nc + (j + 1))) = PS + (v0 + v1 + v2 + v3 - 4 * lv) by unfold Sp.ovG; rw [SU]; omega)
                have HD := hid HB2.out.drew
                have ib : (i : Int) ≤ 15 := by have := HI.out; have := BR.out; omega
                have jb : (j : Int) ≤ 15 := by have := HL2.out; have := BC.out; omega
                have zl : (z.length : Int) ≤ 256 := by omega
                have a0 : (0 : Int) ≤ (l : Int) := Int.natCast_nonneg l
                have a1 : (l : Int) < (z.length : Int) := by omega
                have a2 : (0 : Int) ≤ (l : Int) + 1 := by omega
                have a3 : (l : Int) + 1 < (z.length : Int) := by omega
                have a4 : (0 : Int) ≤ (u : Int) := Int.natCast_nonneg u
                have a5 : (u : Int) < (z.length : Int) := by omega
                have a6 : (0 : Int) ≤ (u : Int) + 1 := by omega
                have a7 : (u : Int) + 1 < (z.length : Int) := by omega
                have x0 : IntKind.i64.wrap (l : Int) = (l : Int) := pi64 _ (by omega)
                have x1 : IntKind.i64.wrap ((l : Int) + 1) = (l : Int) + 1 := pi64 _ (by omega)
                have x2 : IntKind.i64.wrap ((u : Int) + 1) = (u : Int) + 1 := pi64 _ (by omega)
                have x3 : IntKind.i64.wrap (u : Int) = (u : Int) := pi64 _ (by omega)
                have y1 : IntKind.i64.wrap (v0 + v1) = v0 + v1 := pi64 _ (by omega)
                have y2 : IntKind.i64.wrap (v0 + v1 + v2) = v0 + v1 + v2 := pi64 _ (by omega)
                have y3 : IntKind.i64.wrap (v0 + v1 + v2 + v3) = v0 + v1 + v2 + v3 := pi64 _ (by omega)
                have y4 : IntKind.i64.wrap (4 * lv) = 4 * lv := pi64 _ (by omega)
                have y5 : IntKind.i64.wrap (v0 + v1 + v2 + v3 - 4 * lv) = v0 + v1 + v2 + v3 - 4 * lv := pi64 _ (by omega)
                have y6 : IntKind.i64.wrap (PS + (v0 + v1 + v2 + v3 - 4 * lv)) = PS + (v0 + v1 + v2 + v3 - 4 * lv) := pi64 _ (by omega)
                have wM : wrap64 M = M := pw64 _ (by omega)
                have wL : wrap64 (l : Int) = (l : Int) := pw64 _ (by omega)
                subst eA
                clear eq2 cf clt okc hlt cm pb pb2 SU b1 b2 b3 b4 b5 e0 e1 M0 P ul2 uz s0 s1 s2 s3 q hv0 hv1 hv2 hv3 v0b v1b v2b v3b lb ib jb zl bl
                go_wp2_with fail
                go_still (by rfl)
                refine (show ∀ (K : Act → World → Prop) a, K a wr.drew → K a { wr with drawn := wr.drawn + 1 } from fun K a h => h) _ _ ?_
                clear x0 x1 x2 x3 y1 y2 y3 y4 y5 y6 wM wL hM hl hu a0 a1 a2 a3 a4 a5 a6 a7 q0 q1 q2 q3 t0 t3 tl
                go_wp2_with fail
                go_roundw
                case rel => exact ⟨j + 1, HL2.out, i64_eq (by first | exact EQ2.out | exact ej.trans EQ2.out), by rw [NXT.out], HD.out⟩
                case measure => first | exact HM2.out | (rw [ej]; exact HM2.out)
              · obtain rfl : j = nc := Nat.le_antisymm hj (Nat.le_of_not_lt hlt)
                have i1 : ¬ (j : Int) < (j : Int) := Int.lt_irrefl _
                clear t0 t3 tl
                go_wp2_with fail
                go_roundw
                case rel => exact ⟨i + 1, HI.out, i64_eq (by first | exact EQ.out | exact ei.trans EQ.out), by rw [Nat.add_mul, Nat.one_mul, HPS.out], HB2.out⟩
                case measure => first | exact HM1.out | (rw [ei]; exact HM1.out)
          · obtain rfl : i = nr := Nat.le_antisymm hi (Nat.le_of_not_lt hlt)
            have i1 : ¬ (i : Int) < (i : Int) := Int.lt_irrefl _
            have e1 : P1 = S := by
              rw [← HP1.out, ← HS.out]
              unfold Sp.sumS
              rw [HNC.out, HNR.out]
              simp
            rw [e1]
            obtain ⟨g0, g1, g2, g3, gz⟩ := G7.out _ HB1.out
            obtain ⟨⟨⟨n1, n2, n3⟩, ⟨n4, n5, n6⟩, n7, n8, n9⟩, n10, n11, n12, n13, n14, n15⟩ := NN.out
            have hSK := HSK.out
            have h4 := H4.out
            have y1 : wrap64 SK = SK := pw64 _ (by omega)
            have y2 : wrap64 four = four := pw64 _ (by omega)
            have y3 : wrap64 (cl - fh) = cl - fh := pw64 _ (by omega)
            have y4 : wrap64 (4 * (cl - fh)) = 4 * (cl - fh) := pw64 _ (by omega)
            have y5 : wrap64 (ch - fl) = ch - fl := pw64 _ (by omega)
            have y6 : wrap64 (4 * (ch - fl)) = 4 * (ch - fl) := pw64 _ (by omega)
            have y7 : wrap64 (ch - cl) = ch - cl := pw64 _ (by omega)
            have d1 : decide (four < 4 * (cl - fh)) = false := decide_eq_false (by omega)
            have d2 : decide (4 * (ch - fl) < four) = false := decide_eq_false (by omega)
            have M1 := hid (MM.out _ (bthen B8.out HB1.out))
            have BF := hid (bthen B8.out HB1.out)
            have N15 := hid n15
            clear n1 n2 n3 n4 n5 n6 n7 n8 n9 n10 n11 n12 n13 n14 n15 e1 hi hlt
            go_wp2_with fail
            refine M1.out.mono ?_
            rintro _ w9 ⟨rfl, rfl⟩
            by_cases cM : lv ≤ mn
            · obtain ⟨rfl, rfl, d3⟩ := N15.out cM
              have f3 : decide (lv ≤ mn) = true := decide_eq_true cM
              have f4 : decide (1 < ch - cl) = false := decide_eq_false (by omega)
              clear d3
              go_wp2_with fail
              refine (HAW.out _).mono ?_
              rintro _ w10 ⟨rfl, hb⟩
              have B10 := hid (bthen BF.out hb)
              clear hb
              go_wp2_with fail
              go_ret
              exact Gives.mk rfl B10.out
            · have f3 : decide (lv ≤ mn) = false := decide_eq_false cM
              go_wp2_with fail
              refine (HAW.out _).mono ?_
              rintro _ w10 ⟨rfl, hb⟩
              have B10 := hid (bthen BF.out hb)
              clear hb
              go_wp2_with fail
              go_ret
              exact Gives.mk rfl B10.out
      · by_cases a : lv < 0
        · have f1 : decide (lv < 0) = true := decide_eq_true a
          go_wp2_with fail
          refine (HAW.out _).mono ?_
          rintro _ w7 ⟨rfl, hb⟩
          have B7 := hid (bthen B6.out hb)
          clear hb
          go_wp2_with fail
          go_ret
          exact Gives.mk rfl B7.out
        · have f1 : decide (lv < 0) = false := decide_eq_false a
          have f2 : decide (50000 ≤ lv) = true := decide_eq_true (by omega)
          go_wp2_with fail
          refine (HAW.out _).mono ?_
          rintro _ w7 ⟨rfl, hb⟩
          have B7 := hid (bthen B6.out hb)
          clear hb
          go_wp2_with fail
          go_ret
          exact Gives.mk rfl B7.out
    · have hn : (E == 0) = false := by simpa using cE
      go_wp2_with fail
      refine (HAW.out _).mono ?_
      rintro _ w7 ⟨rfl, hb⟩
      have B7 := hid (bthen B6.out hb)
      clear hb
      go_wp2_with fail
      go_ret
      exact Gives.mk rfl B7.out
theorem volS_in {c r k lv : Int} {z : List Int} (hE : Sp.terE c r k z = 0) (h : 0 ≤ lv ∧ lv ≤ 50000) :
    Sp.volS c r k z lv = (Sp.spaS k (max 0 (Sp.sumS (Sp.upG lv) c r z - Sp.sumS (Sp.dnG lv) c r z)) (Sp.sumS (Sp.upG lv) c r z), Sp.spaS k (max 0 (Sp.sumS (Sp.dnG lv) c r z - Sp.sumS (Sp.upG lv) c r z)) (Sp.sumS (Sp.dnG lv) c r z), 0) := by
  unfold Sp.volS
  rw [if_neg (by simp [hE]), if_neg (by simp [h.1, h.2])]
theorem Sp.ov_in {lv : Int} {z : List Int} (c : Int) (hv : 0 ≤ lv ∧ lv < 50000) (h5 : ∀ v ∈ z, 0 ≤ v ∧ v ≤ 50000) (n m : Nat) (hm : m ≤ 225) : -100000000 ≤ Sp.sumG (Sp.ovG lv) z c (cellU n m) ∧ Sp.sumG (Sp.ovG lv) z c (cellU n m) ≤ 100000000 := by
  have e := Sp.sumG_sub (fun v => Sp.up_dn lv v) z c (cellU n m)
  have a := Sp.sumG_in (Sp.upG_in (lv := lv) ⟨hv.1, by omega⟩) h5 c (cellU n m)
  have b := Sp.sumG_in (Sp.dnG_in (lv := lv) ⟨hv.1, by omega⟩) h5 c (cellU n m)
  rw [cellU_len] at a b
  omega
theorem tbal_as (lv : Int) (_ : -9223372036854775808 ≤ lv) (_ : lv ≤ 9223372036854775807) (A : Option Addr) (cap : Nat) (c r k : Int) (z : List Int) (w : World) (hl : z.length ≤ 140737488355328) (hT : Ints w A z) :
    Calls Try.prog 10 #[.agg #[.int .i64 c, .int .i64 r, .int .i64 k, .slice A z.length cap], .int .i64 lv] w (Gives (.bool true) w) := by
  refine tbal_walk A cap c r k z lv (Sp.terE c r k z) (Sp.volS c r k z lv).1.1 (Sp.volS c r k z lv).1.2 (Sp.volS c r k z lv).2.1.1 (Sp.volS c r k z lv).2.1.2 (Sp.volS c r k z (lv + 1)).1.1 (Sp.volS c r k z (lv + 1)).1.2 (Sp.volS c r k z (lv + 1)).2.1.1 (Sp.volS c r k z (lv + 1)).2.1.2 (Sp.sumS (Sp.ovG lv) c r z) _ _ (Lib.minOf z) (decide ((z.length : Int) ≤ 300)) w hT rfl rfl rfl
    tawake_any (fun W => rfew_any A cap c r k z W) (fun W hb => rcheck_any A cap c r k z W hl (hT.below hb)) (fun h => Sp.terE_zero h) ?_ ?_ ?_ ?_ ?_
  · intro h W hb
    obtain ⟨h1, h2, h3, h4, h5⟩ := Sp.terE_zero h
    have P : c * r ≤ 16 * 16 := Int.mul_le_mul h1.2 h2.2 (by omega) (by omega)
    have P2 : 2 * 2 ≤ c * r := Int.mul_le_mul h1.1 h2.1 (by omega) (by omega)
    exact tmin_any A cap z W (by omega) (by omega) (hT.below hb)
  · intro h hv W hb
    have H := tVolume_any A cap c r k z lv W hl (hT.below hb)
    have e : (Sp.volS c r k z lv).2.2 = 0 := by rw [volS_in h ⟨hv.1, by omega⟩]
    rw [e] at H
    exact H
  · intro h hv W hb
    have H := tVolume_any A cap c r k z (lv + 1) W hl (hT.below hb)
    have e : (Sp.volS c r k z (lv + 1)).2.2 = 0 := by rw [volS_in h ⟨by omega, by omega⟩]
    rw [e] at H
    exact H
  · intro h hv
    obtain ⟨h1, h2, h3, h4, h5⟩ := Sp.terE_zero h
    obtain ⟨o1, o2, o3, o4, o5, o6, o7⟩ := Sp.bal_ok (k := k) h1 h2 h5 ⟨hv.1, show lv + 1 ≤ 50000 by omega⟩
    have N := Sp.bal_num (k := k) o1.1 o2.1 o3.1 o4.1 o5 o6 (cl := _) (ch := _) (fl := _) (fh := _) (ul := _) (uh := _) (dl := _) (dh := _) rfl rfl rfl rfl
    have mz : lv ≤ Lib.minOf z → Sp.sumS (Sp.dnG lv) c r z = 0 := fun hm => Sp.sumS_dn_zero h1.1 h2.1 h4 (fun v hv => by
      have := (foldl_min_le z (z.headD 0)).2 v hv
      unfold Lib.minOf at hm
      omega)
    have dd := Sp.pmul (a := k) (b := k) (m := 1000) (n := 1000) (by omega) (by omega) (by omega) (by omega) (by omega)
    have c1 := Sp.pmul (a := Sp.sumS (Sp.upG lv) c r z) (b := k * k) (m := 100000000) (n := 1000000) o1.1 o1.2 dd.1 (by omega) (by omega)
    have c2 := Sp.pmul (a := Sp.sumS (Sp.dnG lv) c r z) (b := k * k) (m := 100000000) (n := 1000000) o2.1 o2.2 dd.1 (by omega) (by omega)
    have k1 := Sp.pmul (a := Sp.sumS (Sp.upG lv) c r z) (b := k) (m := 100000000) (n := 1000) o1.1 o1.2 (by omega) (by omega) (by omega)
    have k2 := Sp.pmul (a := Sp.sumS (Sp.dnG lv) c r z) (b := k) (m := 100000000) (n := 1000) o2.1 o2.2 (by omega) (by omega) (by omega)
    have e1 : Sp.sumS (Sp.ovG lv) c r z * k = Sp.sumS (Sp.upG lv) c r z * k - Sp.sumS (Sp.dnG lv) c r z * k := by rw [← o7, Int.sub_mul]
    have e2 : Sp.sumS (Sp.ovG lv) c r z * k * k = Sp.sumS (Sp.upG lv) c r z * (k * k) - Sp.sumS (Sp.dnG lv) c r z * (k * k) := by rw [e1, Int.sub_mul, Int.mul_assoc, Int.mul_assoc]
    rw [volS_in h ⟨hv.1, by omega⟩, volS_in h (lv := lv + 1) ⟨by omega, by omega⟩]
    have t1 : (Sp.spaS k (max 0 (Sp.sumS (Sp.upG lv) c r z - Sp.sumS (Sp.dnG lv) c r z)) (Sp.sumS (Sp.upG lv) c r z)).2 ≤ 1000000000000000 := by
      unfold Sp.spaS
      simp only
      rw [Int.tdiv_eq_ediv_of_nonneg (by omega)]
      omega
    have t2 : (Sp.spaS k (max 0 (Sp.sumS (Sp.dnG lv) c r z - Sp.sumS (Sp.upG lv) c r z)) (Sp.sumS (Sp.dnG lv) c r z)).2 ≤ 1000000000000000 := by
      unfold Sp.spaS
      simp only
      rw [Int.tdiv_eq_ediv_of_nonneg (by omega)]
      omega
    obtain ⟨m1, m2, m3, m4, m5, m6, m7, m8, m9, m10⟩ := N
    exact ⟨⟨⟨m1, m2, t1⟩, ⟨m3, m4, t2⟩, by omega, by omega, by omega⟩, m5, m6, m7, by rw [← o7]; exact m8, by rw [← o7]; exact m9, fun hm => m10 (mz hm)⟩
  · intro h hv n m hm
    obtain ⟨h1, h2, h3, h4, h5⟩ := Sp.terE_zero h
    exact Sp.ov_in c hv h5 n m hm
end Go.Proofs.Ytmdaanigkhikfaa
