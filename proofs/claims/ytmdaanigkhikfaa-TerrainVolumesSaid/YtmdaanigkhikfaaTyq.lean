/-
  Layer 15: Volume of couperef15, by contract.
-/
import Derived.Test.YtmdaanigkhikfaaTyk
import Derived.Test.YtmdaanigkhikfaaTu
namespace Go.Proofs.Ytmdaanigkhikfaa
open Go.RowKit
set_option linter.unusedVariables false
set_option linter.unusedSimpArgs false
namespace Sp
theorem celG_in' {g : Int → Int} {z : List Int} (hg : ∀ v, 0 ≤ v → v ≤ 50000 → 0 ≤ g v ∧ g v ≤ 50000) (hz5 : ∀ v ∈ z, 0 ≤ v ∧ v ≤ 50000) (c : Int) (n m : Nat) (hm : m ≤ 225) : 0 ≤ sumG g z c (cellU n m) ∧ sumG g z c (cellU n m) ≤ 45000000 := by
  have h := sumG_in hg hz5 c (cellU n m)
  rw [cellU_len] at h
  omega
end Sp
set_option maxRecDepth 100000 in
set_option maxHeartbeats 20000000 in
theorem rvol_walk (A : Option Addr) (cap : Nat) (c r k : Int) (z : List Int) (lv E S1 S2 M1 M2 x1 x2 y1 y2 : Int) (V : (Int × Int) × (Int × Int) × Int) (w : World) (hT : Ints w A z)
    (hV : V = if E ≠ 0 then ((0, 0), (0, 0), E) else if (decide (0 ≤ lv) && decide (lv ≤ 50000)) = false then ((0, 0), (0, 0), 2) else ((x1, x2), (y1, y2), 0))
    (hM1 : max 0 (S1 - S2) = M1) (hM2 : max 0 (S2 - S1) = M2) (hS1 : Sp.sumS (Sp.upG lv) c r z = S1) (hS2 : Sp.sumS (Sp.dnG lv) c r z = S2)
    (CK : ∀ W, Below w.heap.size w W → Calls Try.prog 16 #[.agg #[.int .i64 c, .int .i64 r, .int .i64 k, .slice A z.length cap]] W (Gives (.int .i64 E) W))
    (hE : E = 0 → (2 ≤ c ∧ c ≤ 16) ∧ (2 ≤ r ∧ r ≤ 16) ∧ (1 ≤ k ∧ k ≤ 1000) ∧ (z.length : Int) = c * r ∧ ∀ v ∈ z, 0 ≤ v ∧ v ≤ 50000)
    (B1 : E = 0 → (0 ≤ lv ∧ lv ≤ 50000) → (0 ≤ S1 ∧ S1 ≤ 100000000) ∧ (0 ≤ S2 ∧ S2 ≤ 100000000))
    (P1 : E = 0 → (0 ≤ lv ∧ lv ≤ 50000) → ∀ W, Calls Try.prog 61 #[.agg #[.int .i64 c, .int .i64 r, .int .i64 k, .slice A z.length cap], .int .i64 M1, .int .i64 S1] W (Gives (.agg #[.int .i64 x1, .int .i64 x2]) W))
    (P2 : E = 0 → (0 ≤ lv ∧ lv ≤ 50000) → ∀ W, Calls Try.prog 61 #[.agg #[.int .i64 c, .int .i64 r, .int .i64 k, .slice A z.length cap], .int .i64 M2, .int .i64 S2] W (Gives (.agg #[.int .i64 y1, .int .i64 y2]) W)) :
    Calls Try.prog 30 #[.agg #[.int .i64 c, .int .i64 r, .int .i64 k, .slice A z.length cap], .int .i64 lv] w (Gives (.tuple #[.agg #[.int .i64 V.1.1, .int .i64 V.1.2], .agg #[.int .i64 V.2.1.1, .int .i64 V.2.1.2], .int .i64 V.2.2]) w) := by
  obtain ⟨⟨a1, a2⟩, ⟨a3, a4⟩, a5⟩ := V
  simp only
  obtain ⟨U, hU⟩ : ∃ U, ((w.alloc (Obj.cells #[.int .i64 c, .int .i64 r, .int .i64 k, .slice A z.length cap] 24)).alloc (Obj.cells #[.int .i64 0, .int .i64 0] 50)).alloc (Obj.cells #[.int .i64 0, .int .i64 0] 50) = U := ⟨_, rfl⟩
  have T0 : TrAt U w.heap.size c r k A z.length cap := by rw [← hU]; exact (trAt_new w c r k A z.length cap).below (bthen (balloc _ _) (balloc _ _))
  have b0 : Below w.heap.size w U := by rw [← hU]; exact bthen (balloc _ _) (bthen (balloc _ _) (balloc _ _))
  have r0 : U.cell? ⟨w.heap.size + 1, 0, none⟩ = some (.int .i64 0) := by rw [← hU]; simp [go_sem]
  have r1 : U.cell? ⟨w.heap.size + 1, 1, none⟩ = some (.int .i64 0) := by rw [← hU]; simp [go_sem]
  have rf : ∀ o, U.frozen? ⟨w.heap.size + 1, o, none⟩ = false := fun o => by rw [← hU]; simp [go_sem]
  have s0 : U.cell? ⟨w.heap.size + 1 + 1, 0, none⟩ = some (.int .i64 0) := by rw [← hU]; simp [go_sem]
  have s1 : U.cell? ⟨w.heap.size + 1 + 1, 1, none⟩ = some (.int .i64 0) := by rw [← hU]; simp [go_sem]
  have sf : ∀ o, U.frozen? ⟨w.heap.size + 1 + 1, o, none⟩ = false := fun o => by rw [← hU]; simp [go_sem]
  have uz : U.heap.size = w.heap.size + 3 := by rw [← hU]; simp
  have KK := hid (fun (W : World) (hb : Below U.heap.size U W) => (⟨bthen b0 hb, T0.below hb⟩ : Below w.heap.size w W ∧ TrAt W w.heap.size c r k A z.length cap))
  have KR := hid (fun (W : World) (hb : Below U.heap.size U W) => (⟨(hb.cell (p := ⟨w.heap.size + 1, 0, none⟩) (by simp only; omega)).trans r0, (hb.cell (p := ⟨w.heap.size + 1, 1, none⟩) (by simp only; omega)).trans r1, fun o => (hb.frozen (p := ⟨w.heap.size + 1, o, none⟩) (by simp only; omega)).trans (rf o),
    (hb.cell (p := ⟨w.heap.size + 1 + 1, 0, none⟩) (by simp only; omega)).trans s0, (hb.cell (p := ⟨w.heap.size + 1 + 1, 1, none⟩) (by simp only; omega)).trans s1, fun o => (hb.frozen (p := ⟨w.heap.size + 1 + 1, o, none⟩) (by simp only; omega)).trans (sf o), by have := hb.size; omega, by have := hb.size; omega⟩ :
    W.cell? ⟨w.heap.size + 1, 0, none⟩ = some (.int .i64 0) ∧ W.cell? ⟨w.heap.size + 1, 1, none⟩ = some (.int .i64 0) ∧ (∀ o, W.frozen? ⟨w.heap.size + 1, o, none⟩ = false) ∧ W.cell? ⟨w.heap.size + 1 + 1, 0, none⟩ = some (.int .i64 0) ∧ W.cell? ⟨w.heap.size + 1 + 1, 1, none⟩ = some (.int .i64 0) ∧ (∀ o, W.frozen? ⟨w.heap.size + 1 + 1, o, none⟩ = false) ∧ w.heap.size + 1 < W.heap.size ∧ w.heap.size + 1 + 1 < W.heap.size))
  have CK1 := hid (CK U b0)
  have HV := hid hV
  have HE := hid hE
  have HB1 := hid B1
  have HP1 := hid P1
  have HP2 := hid P2
  have HU := hid hU
  have HM1 := hid hM1
  have HM2 := hid hM2
  have HS1 := hid hS1
  have HS2 := hid hS2
  have HTT := hid hT
  have c0 := T0.c0
  have c1 := T0.c1
  have c2 := T0.c2
  have c3 := T0.c3
  have cl := T0.lt
  clear hU T0 b0 CK hE B1 P1 P2 hV uz r0 r1 rf s0 s1 sf hM1 hM2 hS1 hS2 hT
  go_enter Try.func30, Try.ntmps30
  go_upto_region 1 with fail
  rw [HU.out]
  go_wp2_with fail
  refine CK1.out.mono ?_
  rintro _ w5 ⟨rfl, hb⟩
  have B5 := hid hb
  clear hb c0 c1 c2 c3 cl
  by_cases cE : E = 0
  · subst cE
    obtain ⟨g1, g2, g3, g4, g5⟩ := HE.out rfl
    by_cases cL : 0 ≤ lv ∧ lv ≤ 50000
    · have f1 : decide (lv < 0) = false := decide_eq_false (by omega)
      have f2 : decide (lv > 50000) = false := decide_eq_false (by omega)
      have f3 : decide (50000 < lv) = false := decide_eq_false (by omega)
      have hv := HV.out
      rw [if_neg (by simp), if_neg (by simp [cL.1, cL.2])] at hv
      simp only [Prod.mk.injEq] at hv
      obtain ⟨⟨rfl, rfl⟩, ⟨rfl, rfl⟩, rfl⟩ := hv
      have b1 := HB1.out rfl cL
      have PR1 := hid (HP1.out rfl cL)
      have PR2 := hid (HP2.out rfl cL)
      obtain ⟨nc, hnc⟩ : ∃ nc : Nat, c - 1 = (nc : Int) := ⟨(c - 1).toNat, by omega⟩
      obtain ⟨nr, hnr⟩ : ∃ nr : Nat, r - 1 = (nr : Int) := ⟨(r - 1).toNat, by omega⟩
      have HNC := hid hnc
      have HNR := hid hnr
      have BC := hid (show nc ≤ 15 by omega)
      have BR := hid (show nr ≤ 15 by omega)
      have wc : wrap64 (c - 1) = (nc : Int) := by rw [pw64 _ (by omega)]; exact hnc
      have wr1 : wrap64 (r - 1) = (nr : Int) := by rw [pw64 _ (by omega)]; exact hnr
      have BB1 := hid b1
      have CO := hid (fun (x y : Int) (W : World) (hb : Below w.heap.size w W) (hx : okC c r (x, y)) => rcorners_any A cap c r k z x y W g1 g2 g4 hx.1.1 hx.1.2 hx.2.1 hx.2.2 (HTT.out.below hb))
      have HL := hid cL
      have UB := hid (fun m (hm : m ≤ 225) => Sp.celG_in' (Sp.upG_in cL) g5 c nc m hm)
      have DB := hid (fun m (hm : m ≤ 225) => Sp.celG_in' (Sp.dnG_in cL) g5 c nc m hm)
      have ZI := hid (fun i => Sp.hz_in g5 i)
      clear g1 g2 g3 g4 g5 hnc hnr HE HB1 HP1 HP2 HV b1 cL
      go_wp2_with fail
      go_loopw [10, 8, 9] (fun t u v wx => ∃ i : Nat, i ≤ nr ∧ t = .int .i64 (i : Int) ∧ u = .int .i64 (Sp.sumG (Sp.upG lv) z c (cellU nc (i * nc))) ∧ v = .int .i64 (Sp.sumG (Sp.dnG lv) z c (cellU nc (i * nc))) ∧ Below U.heap.size U wx) (fun t _ _ _ => nr - (intOf t).toNat)
      case atStart => exact ⟨0, Nat.zero_le _, rfl, by rw [Nat.zero_mul]; rfl, by rw [Nat.zero_mul]; rfl, B5.out⟩
      case round =>
        obtain ⟨i, hi, rfl, rfl, rfl, hB⟩ := hrel
        obtain ⟨P1, hP1⟩ : ∃ P1, Sp.sumG (Sp.upG lv) z c (cellU nc (i * nc)) = P1 := ⟨_, rfl⟩
        obtain ⟨Q1, hQ1⟩ : ∃ Q1, Sp.sumG (Sp.dnG lv) z c (cellU nc (i * nc)) = Q1 := ⟨_, rfl⟩
        rw [hP1, hQ1]
        have HP1 := hid hP1
        have HQ1 := hid hQ1
        have HB1 := hid hB
        have hQ := (KK.out _ hB).2
        have t0 := hQ.c0
        have t1 := hQ.c1
        have tl := hQ.lt
        clear hQ hB hP1 hQ1
        by_cases hlt : i < nr
        · obtain ⟨i0, i1, ei, eq⟩ := csf i nr hlt BR.out
          have EQ := hid eq
          have HI := hid hlt
          have HM1' := hid (pmeas nr i hlt)
          clear eq hlt
          go_wp2_with fail
          simp only [wr1]
          clear t0 t1 tl
          go_loopw [11, 8, 9] (fun t u v wx => ∃ j : Nat, j ≤ nc ∧ t = .int .i64 (j : Int) ∧ u = .int .i64 (Sp.sumG (Sp.upG lv) z c (cellU nc (i * nc + j))) ∧ v = .int .i64 (Sp.sumG (Sp.dnG lv) z c (cellU nc (i * nc + j))) ∧ Below U.heap.size U wx) (fun t _ _ _ => nc - (intOf t).toNat)
          case atStart => exact ⟨0, Nat.zero_le _, rfl, by rw [Nat.add_zero, HP1.out], by rw [Nat.add_zero, HQ1.out], HB1.out⟩
          case round =>
            obtain ⟨j, hj, rfl, rfl, rfl, hB⟩ := hrel
            obtain ⟨W1, rfl⟩ : ∃ W1, W1 = wr := ⟨_, rfl⟩
            obtain ⟨PS, hPS⟩ : ∃ PS, Sp.sumG (Sp.upG lv) z c (cellU nc (i * nc + j)) = PS := ⟨_, rfl⟩
            obtain ⟨QS, hQS⟩ : ∃ QS, Sp.sumG (Sp.dnG lv) z c (cellU nc (i * nc + j)) = QS := ⟨_, rfl⟩
            rw [hPS, hQS]
            have HPS := hid hPS
            have HQS := hid hQS
            have HB2 := hid hB
            have hQ := (KK.out _ hB).2
            have HQ2 := hid hQ
            have t0 := hQ.c0
            have t1 := hQ.c1
            have t2 := hQ.c2
            have t3 := hQ.c3
            have tl := hQ.lt
            clear hB hPS hQS hQ
            by_cases hlt : j < nc
            · obtain ⟨j0, j1, ej, eq2⟩ := csf j nc hlt BC.out
              have EQ2 := hid eq2
              have HM2' := hid (pmeas nc j hlt)
              have cf := cellF_at (i := i) hlt
              have clt := cell_lt hlt HI.out
              have okc : okC c r ((j : Int), (i : Int)) := by rw [← cf]; exact cellF_ok HNC.out HNR.out clt
              have cm : i * nc + j < 225 := Nat.lt_of_lt_of_le clt (Nat.mul_le_mul BR.out BC.out)
              have HL2 := hid hlt
              have pb := UB.out (i * nc + j) (Nat.le_of_lt cm)
              have qb := DB.out (i * nc + j) (Nat.le_of_lt cm)
              rw [HPS.out] at pb
              rw [HQS.out] at qb
              have SU : Sp.sumG (Sp.upG lv) z c (cellU nc (i * nc + (j + 1))) = PS + Sp.celG (Sp.upG lv) z c ((j : Int), (i : Int)) := by rw [show i * nc + (j + 1) = i * nc + j + 1 from rfl, cellU_succ, Sp.sumG_snoc, HPS.out, cf]
              have SD : Sp.sumG (Sp.dnG lv) z c (cellU nc (i * nc + (j + 1))) = QS + Sp.celG (Sp.dnG lv) z c ((j : Int), (i : Int)) := by rw [show i * nc + (j + 1) = i * nc + j + 1 from rfl, cellU_succ, Sp.sumG_snoc, HQS.out, cf]
              unfold Sp.celG at SU SD
              simp only at SU SD
              have z0 := ZI.out ((i : Int) * c + (j : Int))
              have z1 := ZI.out ((i : Int) * c + (j : Int) + 1)
              have z2 := ZI.out ((i : Int) * c + (j : Int) + c)
              have z3 := ZI.out ((i : Int) * c + (j : Int) + c + 1)
              have CO1 := hid (fun (W : World) (hb : Below w.heap.size w W) => CO.out (j : Int) (i : Int) W hb okc)
              obtain ⟨v0, hv0⟩ : ∃ v0, Sp.hz z ((i : Int) * c + (j : Int)) = v0 := ⟨_, rfl⟩
              obtain ⟨v1, hv1⟩ : ∃ v1, Sp.hz z ((i : Int) * c + (j : Int) + 1) = v1 := ⟨_, rfl⟩
              obtain ⟨v2, hv2⟩ : ∃ v2, Sp.hz z ((i : Int) * c + (j : Int) + c) = v2 := ⟨_, rfl⟩
              obtain ⟨v3, hv3⟩ : ∃ v3, Sp.hz z ((i : Int) * c + (j : Int) + c + 1) = v3 := ⟨_, rfl⟩
              have CO2 := CO1.out
              simp only [hv0, hv1, hv2, hv3] at CO2
              rw [hv0, hv1, hv2, hv3] at SU SD
              rw [hv0] at z0
              rw [hv1] at z1
              rw [hv2] at z2
              rw [hv3] at z3
              have CO3 := hid CO2
              have lvb := HL.out
              obtain ⟨a0, ha0⟩ : ∃ a0 : Int, max 0 (v0 - lv) = a0 := ⟨_, rfl⟩
              obtain ⟨b0, hb0⟩ : ∃ b0 : Int, max 0 (lv - v0) = b0 := ⟨_, rfl⟩
              have ab0 : 0 ≤ a0 ∧ a0 ≤ 50000 ∧ 0 ≤ b0 ∧ b0 ≤ 50000 := by omega
              obtain ⟨a1, ha1⟩ : ∃ a1 : Int, max 0 (v1 - lv) = a1 := ⟨_, rfl⟩
              obtain ⟨b1, hb1⟩ : ∃ b1 : Int, max 0 (lv - v1) = b1 := ⟨_, rfl⟩
              have ab1 : 0 ≤ a1 ∧ a1 ≤ 50000 ∧ 0 ≤ b1 ∧ b1 ≤ 50000 := by omega
              obtain ⟨a2, ha2⟩ : ∃ a2 : Int, max 0 (v2 - lv) = a2 := ⟨_, rfl⟩
              obtain ⟨b2, hb2⟩ : ∃ b2 : Int, max 0 (lv - v2) = b2 := ⟨_, rfl⟩
              have ab2 : 0 ≤ a2 ∧ a2 ≤ 50000 ∧ 0 ≤ b2 ∧ b2 ≤ 50000 := by omega
              obtain ⟨a3, ha3⟩ : ∃ a3 : Int, max 0 (v3 - lv) = a3 := ⟨_, rfl⟩
              obtain ⟨b3, hb3⟩ : ∃ b3 : Int, max 0 (lv - v3) = b3 := ⟨_, rfl⟩
              have ab3 : 0 ≤ a3 ∧ a3 ≤ 50000 ∧ 0 ≤ b3 ∧ b3 ≤ 50000 := by omega
              rw [show Sp.upG lv v0 = a0 from ha0, show Sp.upG lv v1 = a1 from ha1, show Sp.upG lv v2 = a2 from ha2, show Sp.upG lv v3 = a3 from ha3] at SU
              rw [show Sp.dnG lv v0 = b0 from hb0, show Sp.dnG lv v1 = b1 from hb1, show Sp.dnG lv v2 = b2 from hb2, show Sp.dnG lv v3 = b3 from hb3] at SD
              have MX := hid (show (max 0 (v0 - lv) = a0 ∧ max 0 (lv - v0) = b0) ∧ (max 0 (v1 - lv) = a1 ∧ max 0 (lv - v1) = b1) ∧ (max 0 (v2 - lv) = a2 ∧ max 0 (lv - v2) = b2) ∧ (max 0 (v3 - lv) = a3 ∧ max 0 (lv - v3) = b3) from ⟨⟨ha0, hb0⟩, ⟨ha1, hb1⟩, ⟨ha2, hb2⟩, ⟨ha3, hb3⟩⟩)
              have PF := hid (show Sp.sumG (Sp.upG lv) z c (cellU nc (i * nc + (j + 1))) = PS + a0 + a1 + a2 + a3 by rw [SU]; omega)
              have QF := hid (show Sp.sumG (Sp.dnG lv) z c (cellU nc (i * nc + (j + 1))) = QS + b0 + b1 + b2 + b3 by rw [SD]; omega)
              have WF := hid (show (wrap64 (v0 - lv) = v0 - lv ∧ wrap64 (lv - v0) = lv - v0 ∧ wrap64 (PS + a0) = PS + a0 ∧ wrap64 (QS + b0) = QS + b0) ∧ (wrap64 (v1 - lv) = v1 - lv ∧ wrap64 (lv - v1) = lv - v1 ∧ wrap64 (PS + a0 + a1) = PS + a0 + a1 ∧ wrap64 (QS + b0 + b1) = QS + b0 + b1) ∧
                (wrap64 (v2 - lv) = v2 - lv ∧ wrap64 (lv - v2) = lv - v2 ∧ wrap64 (PS + a0 + a1 + a2) = PS + a0 + a1 + a2 ∧ wrap64 (QS + b0 + b1 + b2) = QS + b0 + b1 + b2) ∧ (wrap64 (v3 - lv) = v3 - lv ∧ wrap64 (lv - v3) = lv - v3 ∧ wrap64 (PS + a0 + a1 + a2 + a3) = PS + a0 + a1 + a2 + a3 ∧ wrap64 (QS + b0 + b1 + b2 + b3) = QS + b0 + b1 + b2 + b3) from
                ⟨⟨pw64 _ (by omega), pw64 _ (by omega), pw64 _ (by omega), pw64 _ (by omega)⟩, ⟨pw64 _ (by omega), pw64 _ (by omega), pw64 _ (by omega), pw64 _ (by omega)⟩, ⟨pw64 _ (by omega), pw64 _ (by omega), pw64 _ (by omega), pw64 _ (by omega)⟩, ⟨pw64 _ (by omega), pw64 _ (by omega), pw64 _ (by omega), pw64 _ (by omega)⟩⟩)
              clear eq2 cf clt okc hlt cm pb qb SU SD z0 z1 z2 z3 CO1 CO2 CO hv0 hv1 hv2 hv3 lvb ha0 hb0 ab0 ha1 hb1 ab1 ha2 hb2 ab2 ha3 hb3 ab3
              go_wp2_with fail
              refine (CO3.out _ (KK.out _ HB2.out).1).mono ?_
              rintro _ w6 ⟨rfl, hb⟩
              obtain ⟨V6, hV6⟩ : ∃ V6, w6.alloc (.cells #[.int .i64 v0, .int .i64 v1, .int .i64 v2, .int .i64 v3] 76) = V6 := ⟨_, rfl⟩
              have k6 : Below w6.heap.size w6 V6 := by rw [← hV6]; exact balloc _ _
              have B6 := hid (bthen HB2.out (bthen hb k6))
              have F6 := hid (show V6.cell? ⟨w6.heap.size, 0, none⟩ = some (.int .i64 v0) ∧ V6.cell? ⟨w6.heap.size, 1, none⟩ = some (.int .i64 v1) ∧ V6.cell? ⟨w6.heap.size, 2, none⟩ = some (.int .i64 v2) ∧ V6.cell? ⟨w6.heap.size, 3, none⟩ = some (.int .i64 v3) ∧ w6.heap.size < V6.heap.size from by rw [← hV6]; exact ⟨by simp [go_sem], by simp [go_sem], by simp [go_sem], by simp [go_sem], by simp⟩)
              have HV6 := hid hV6
              clear hb t0 t1 t2 t3 tl hV6 k6
              go_upto_region 14 with fail
              rw [HV6.out]
              go_wp2_with fail
              try simp only [wc]
              go_loopw [13, 8, 9] (fun t u v wx => wx = V6 ∧ ((t = .int .i64 0 ∧ u = .int .i64 PS ∧ v = .int .i64 QS) ∨ (t = .int .i64 1 ∧ u = .int .i64 (PS + a0) ∧ v = .int .i64 (QS + b0)) ∨ (t = .int .i64 2 ∧ u = .int .i64 (PS + a0 + a1) ∧ v = .int .i64 (QS + b0 + b1)) ∨ (t = .int .i64 3 ∧ u = .int .i64 (PS + a0 + a1 + a2) ∧ v = .int .i64 (QS + b0 + b1 + b2)) ∨ (t = .int .i64 4 ∧ u = .int .i64 (PS + a0 + a1 + a2 + a3) ∧ v = .int .i64 (QS + b0 + b1 + b2 + b3)))) (fun t _ _ _ => 4 - (intOf t).toNat)
              case atStart => exact ⟨rfl, .inl ⟨rfl, rfl, rfl⟩⟩
              case round =>
                obtain ⟨rfl, ⟨rfl, rfl, rfl⟩ | ⟨rfl, rfl, rfl⟩ | ⟨rfl, rfl, rfl⟩ | ⟨rfl, rfl, rfl⟩ | ⟨rfl, rfl, rfl⟩⟩ := hrel
                · obtain ⟨x1, x2, x3, x4⟩ := WF.out.1
                  obtain ⟨m1, m2⟩ := MX.out.1
                  have f0 := F6.out.1
                  have fz := F6.out.2.2.2.2
                  go_wp2_with fail
                  go_roundw
                  case rel => exact ⟨by trivial, .inr (.inl ⟨by trivial, by first | rfl | exact i64_eq x3, by first | rfl | exact i64_eq x4⟩)⟩
                  case measure => decide
                · obtain ⟨x1, x2, x3, x4⟩ := WF.out.2.1
                  obtain ⟨m1, m2⟩ := MX.out.2.1
                  have f0 := F6.out.2.1
                  have fz := F6.out.2.2.2.2
                  go_wp2_with fail
                  go_roundw
                  case rel => exact ⟨by trivial, .inr (.inr (.inl ⟨by trivial, by first | rfl | exact i64_eq x3, by first | rfl | exact i64_eq x4⟩))⟩
                  case measure => decide
                · obtain ⟨x1, x2, x3, x4⟩ := WF.out.2.2.1
                  obtain ⟨m1, m2⟩ := MX.out.2.2.1
                  have f0 := F6.out.2.2.1
                  have fz := F6.out.2.2.2.2
                  go_wp2_with fail
                  go_roundw
                  case rel => exact ⟨by trivial, .inr (.inr (.inr (.inl ⟨by trivial, by first | rfl | exact i64_eq x3, by first | rfl | exact i64_eq x4⟩)))⟩
                  case measure => decide
                · obtain ⟨x1, x2, x3, x4⟩ := WF.out.2.2.2
                  obtain ⟨m1, m2⟩ := MX.out.2.2.2
                  have f0 := F6.out.2.2.2.1
                  have fz := F6.out.2.2.2.2
                  go_wp2_with fail
                  go_roundw
                  case rel => exact ⟨by trivial, .inr (.inr (.inr (.inr ⟨by trivial, by first | rfl | exact i64_eq x3, by first | rfl | exact i64_eq x4⟩)))⟩
                  case measure => decide
                · have f4 : decide ((4 : Int) < 4) = false := by decide
                  go_wp2_with fail
                  go_roundw
                  case rel => exact ⟨j + 1, HL2.out, i64_eq (by first | exact EQ2.out | exact ej.trans EQ2.out), by rw [PF.out], by rw [QF.out], B6.out⟩
                  case measure => first | exact HM2'.out | (rw [ej]; exact HM2'.out)
            · obtain rfl : j = nc := Nat.le_antisymm hj (Nat.le_of_not_lt hlt)
              have i1 : ¬ (j : Int) < (j : Int) := Int.lt_irrefl _
              go_wp2_with fail
              go_roundw
              case rel => exact ⟨i + 1, HI.out, i64_eq (by first | exact EQ.out | exact ei.trans EQ.out), by rw [Nat.add_mul, Nat.one_mul, HPS.out], by rw [Nat.add_mul, Nat.one_mul, HQS.out], HB2.out⟩
              case measure => first | exact HM1'.out | (rw [ei]; exact HM1'.out)
        · obtain rfl : i = nr := Nat.le_antisymm hi (Nat.le_of_not_lt hlt)
          have i1 : ¬ (i : Int) < (i : Int) := Int.lt_irrefl _
          have e1 : P1 = S1 := by
            rw [← HP1.out, ← HS1.out]
            unfold Sp.sumS
            rw [HNC.out, HNR.out]
            simp
          have e2 : Q1 = S2 := by
            rw [← HQ1.out, ← HS2.out]
            unfold Sp.sumS
            rw [HNC.out, HNR.out]
            simp
          rw [e1, e2]
          have v1 : IntKind.i64.wrap (S1 - S2) = S1 - S2 := pi64 _ (by have := BB1.out; omega)
          have v2 : IntKind.i64.wrap (S2 - S1) = S2 - S1 := pi64 _ (by have := BB1.out; omega)
          have m1 := HM1.out
          have m2 := HM2.out
          have KA := hid (fun (W : World) (hb : Below U.heap.size U W) => (⟨(KK.out W hb).2.c0, (KK.out W hb).2.c1, (KK.out W hb).2.c2, (KK.out W hb).2.c3, KR.out W hb⟩ : W.cell? ⟨w.heap.size, 0, none⟩ = some (.int .i64 c) ∧ W.cell? ⟨w.heap.size, 1, none⟩ = some (.int .i64 r) ∧ W.cell? ⟨w.heap.size, 2, none⟩ = some (.int .i64 k) ∧ W.cell? ⟨w.heap.size, 3, none⟩ = some (.slice A z.length cap) ∧
            W.cell? ⟨w.heap.size + 1, 0, none⟩ = some (.int .i64 0) ∧ W.cell? ⟨w.heap.size + 1, 1, none⟩ = some (.int .i64 0) ∧ (∀ o, W.frozen? ⟨w.heap.size + 1, o, none⟩ = false) ∧ W.cell? ⟨w.heap.size + 1 + 1, 0, none⟩ = some (.int .i64 0) ∧ W.cell? ⟨w.heap.size + 1 + 1, 1, none⟩ = some (.int .i64 0) ∧ (∀ o, W.frozen? ⟨w.heap.size + 1 + 1, o, none⟩ = false) ∧ w.heap.size + 1 < W.heap.size ∧ w.heap.size + 1 + 1 < W.heap.size))
          have KW := hid (fun (W : World) (hb : Below U.heap.size U W) => (KK.out W hb).1)
          have hb8 := HB1.out
          clear hi hlt e1 e2 HP1 HQ1 HB1 HM1 HM2 CK1 HU B5 KR KK HS1 HS2 HNC HNR BC BR CO HL UB DB ZI BB1 HTT wc
          go_wp2_with fail
          clear t0 t1 tl i1 wr1
          obtain ⟨c0, c1, c2, c3, r0, r1, rf, s0, s1, sf, rz, sz⟩ := KA.out _ hb8
          refine Code.wp_mono (Q := fun e a' W' => match e with | .normal => bodyPost Try.prog Try.f30 (Gives (.tuple #[.agg #[.int .i64 a1, .int .i64 a2], .agg #[.int .i64 a3, .int .i64 a4], .int .i64 0]) w) .ret a' W' | _ => False) ?rest ?region
          case rest =>
            intro e a' W' h
            cases e
            case normal =>
              clear hb8 c0 c1 c2 c3 r0 r1 rf s0 s1 sf rz sz
              go_wp2_with fail
              all_goals exact h
            all_goals exact h.elim
          case region =>
            clear c1 c2 c3 r0 r1 rf s0 s1 sf rz sz c0
            obtain ⟨c0, c1, c2, c3, -, -, -, -, -, -, -, -⟩ := KA.out _ hb8
            go_region_with (go_at_call 61; (first | (with_reducible refine (PR1.out _).mono ?_) | (with_reducible refine (PR2.out _).mono ?_)); rintro _ w9 ⟨rfl, hx⟩; have hb9 : Below U.heap.size U w9 := (by first | exact bthen (by assumption) hx | exact bthen (Below.drew (by assumption)) hx | exact bthen (Below.drew hb8) hx); clear hx; obtain ⟨q0, q1, q2, q3, q4, q5, q6, q7, q8, q9, qr, qs⟩ := KA.out _ hb9)
            all_goals
              have KB := KW.out _ hb9
              refine bodyPost_ret (v := .tuple #[.agg #[.int .i64 a1, .int .i64 a2], .agg #[.int .i64 a3, .int .i64 a4], .int .i64 0]) (by simp [results, Try.results30, go_sem, q4, q5, q6, q7, q8, q9, qr, qs]) rfl ?_
              exact Gives.mk rfl (by repeat' (first | (with_reducible exact Below.refl _ _) | (with_reducible refine Below.alloc ?_ ?_ _) | (with_reducible refine Below.setCell ?_ ?_ _) | (with_reducible refine Below.drew ?_) | (with_reducible refine below_dn ?_ _) | (with_reducible refine Below.trans ?_ (Below.mono (by assumption) ?_)) | (simp; done) | (simp; omega) | omega))
    · have hv := HV.out
      have D : (decide (0 ≤ lv) && decide (lv ≤ 50000)) = false := by
        by_cases a : 0 ≤ lv
        · have : ¬ lv ≤ 50000 := fun b => cL ⟨a, b⟩
          simp [this]
        · simp [a]
      rw [if_neg (by simp), if_pos D] at hv
      simp only [Prod.mk.injEq] at hv
      obtain ⟨⟨rfl, rfl⟩, ⟨rfl, rfl⟩, rfl⟩ := hv
      obtain ⟨r0, r1, rf, s0, s1, sf, rz, sz⟩ := KR.out _ B5.out
      have KB := hid (KK.out _ B5.out).1
      by_cases a : lv < 0
      · have f1 : decide (lv < 0) = true := decide_eq_true a
        clear g1 g2 g3 g4 g5 cL D
        go_wp2_with fail
        refine bodyPost_ret (v := .tuple #[.agg #[.int .i64 0, .int .i64 0], .agg #[.int .i64 0, .int .i64 0], .int .i64 2]) (by simp [results, Try.results30, go_sem, r0, r1, rf, s0, s1, sf, rz, sz]) rfl ?_
        exact Gives.mk rfl (by have hB := KB.out; repeat' (first | (with_reducible exact Below.refl _ _) | (with_reducible refine Below.alloc ?_ ?_ _) | (with_reducible refine Below.setCell ?_ ?_ _) | (with_reducible refine Below.drew ?_) | (with_reducible refine below_dn ?_ _) | (with_reducible refine Below.trans ?_ (Below.mono (by assumption) ?_)) | (simp; done) | (simp; omega) | omega))
      · have b : 50000 < lv := by omega
        have f1 : decide (lv < 0) = false := decide_eq_false a
        have f2 : decide (50000 < lv) = true := decide_eq_true b
        clear g1 g2 g3 g4 g5 cL D
        go_wp2_with fail
        refine bodyPost_ret (v := .tuple #[.agg #[.int .i64 0, .int .i64 0], .agg #[.int .i64 0, .int .i64 0], .int .i64 2]) (by simp [results, Try.results30, go_sem, r0, r1, rf, s0, s1, sf, rz, sz]) rfl ?_
        exact Gives.mk rfl (by have hB := KB.out; repeat' (first | (with_reducible exact Below.refl _ _) | (with_reducible refine Below.alloc ?_ ?_ _) | (with_reducible refine Below.setCell ?_ ?_ _) | (with_reducible refine Below.drew ?_) | (with_reducible refine below_dn ?_ _) | (with_reducible refine Below.trans ?_ (Below.mono (by assumption) ?_)) | (simp; done) | (simp; omega) | omega))
  · have hn : (E == 0) = false := by simpa using cE
    have hv := HV.out
    rw [if_pos cE] at hv
    simp only [Prod.mk.injEq] at hv
    obtain ⟨⟨rfl, rfl⟩, ⟨rfl, rfl⟩, rfl⟩ := hv
    obtain ⟨r0, r1, rf, s0, s1, sf, rz, sz⟩ := KR.out _ B5.out
    have KB := hid (KK.out _ B5.out).1
    go_wp2_with fail
    refine bodyPost_ret (v := .tuple #[.agg #[.int .i64 0, .int .i64 0], .agg #[.int .i64 0, .int .i64 0], .int .i64 a5]) (by simp [results, Try.results30, go_sem, r0, r1, rf, s0, s1, sf, rz, sz]) rfl ?_
    exact Gives.mk rfl (by have hB := KB.out; repeat' (first | (with_reducible exact Below.refl _ _) | (with_reducible refine Below.alloc ?_ ?_ _) | (with_reducible refine Below.setCell ?_ ?_ _) | (with_reducible refine Below.drew ?_) | (with_reducible refine below_dn ?_ _) | (with_reducible refine Below.trans ?_ (Below.mono (by assumption) ?_)) | (simp; done) | (simp; omega) | omega))
theorem rVolume_any (A : Option Addr) (cap : Nat) (c r k : Int) (z : List Int) (lv : Int) (w : World) (hl : z.length ≤ 140737488355328) (hT : Ints w A z) :
    Calls Try.prog 30 #[.agg #[.int .i64 c, .int .i64 r, .int .i64 k, .slice A z.length cap], .int .i64 lv] w (Gives (.tuple #[.agg #[.int .i64 (Sp.volS c r k z lv).1.1, .int .i64 (Sp.volS c r k z lv).1.2], .agg #[.int .i64 (Sp.volS c r k z lv).2.1.1, .int .i64 (Sp.volS c r k z lv).2.1.2], .int .i64 (Sp.volS c r k z lv).2.2]) w) := by
  refine rvol_walk A cap c r k z lv (Sp.terE c r k z) _ _ _ _ _ _ _ _ _ w hT rfl rfl rfl rfl rfl (fun W hb => rcheck_any A cap c r k z W hl (hT.below hb)) (fun h => Sp.terE_zero h) ?_ ?_ ?_
  · intro h hv
    obtain ⟨h1, h2, h3, h4, h5⟩ := Sp.terE_zero h
    exact ⟨Sp.sumS_in h1 h2 (Sp.upG_in hv) h5, Sp.sumS_in h1 h2 (Sp.dnG_in hv) h5⟩
  · intro h hv W
    obtain ⟨h1, h2, h3, h4, h5⟩ := Sp.terE_zero h
    have a := Sp.sumS_in h1 h2 (Sp.upG_in hv) h5
    have b := Sp.sumS_in h1 h2 (Sp.dnG_in hv) h5
    exact rquarter_any A cap c r k z _ _ W h3 (by omega) a
  · intro h hv W
    obtain ⟨h1, h2, h3, h4, h5⟩ := Sp.terE_zero h
    have a := Sp.sumS_in h1 h2 (Sp.upG_in hv) h5
    have b := Sp.sumS_in h1 h2 (Sp.dnG_in hv) h5
    exact rquarter_any A cap c r k z _ _ W h3 (by omega) b
end Go.Proofs.Ytmdaanigkhikfaa
