/-
  Layer 15: receiver of couperef15, by contract.
-/
import Derived.Test.YtmdaanigkhikfaaTya
import Derived.Deep.QuietTactic
import Derived.BigQuiet
namespace Go.Proofs.Ytmdaanigkhikfaa
open Go.RowKit
set_option linter.unusedVariables false
set_option linter.unusedSimpArgs false
set_option maxRecDepth 100000 in
set_option maxHeartbeats 1000000 in
theorem rrcv_walk (A : Option Addr) (cap : Nat) (c r k : Int) (z : List Int) (i F R : Int) (L : List Int) (w : World) (hT : Ints w A z) (zl : z.length ≤ 256) (ll : L.length ≤ 4) (hL : ∀ x ∈ L, 0 ≤ x ∧ x < z.length) (bi : 0 ≤ i ∧ i < z.length)
    (hF : Sp.lowF z i L = F) (hR : (if F = i then -1 else F) = R)
    (nb : ∀ W, Below w.heap.size w W → Calls Try.prog 35 #[.agg #[.int .i64 c, .int .i64 r, .int .i64 k, .slice A z.length cap], .int .i64 i] W (IntsPost W L)) :
    Calls Try.prog 54 #[.agg #[.int .i64 c, .int .i64 r, .int .i64 k, .slice A z.length cap], .int .i64 i] w (Gives (.int .i64 R) w) := by
  have VB := trAt_new w c r k A z.length cap
  have b0 : Below w.heap.size w (w.alloc (Obj.cells #[.int .i64 c, .int .i64 r, .int .i64 k, .slice A z.length cap] 24)) := balloc _ _
  generalize hU : w.alloc (Obj.cells #[.int .i64 c, .int .i64 r, .int .i64 k, .slice A z.length cap] 24) = U at VB b0
  have NB := hid (nb U b0)
  have HU := hid hU
  have HB := hid b0
  have HV := hid VB
  have HT := hid hT
  have HL := hid hL
  have HF := hid hF
  have HR := hid hR
  have ZL := hid zl
  have LL := hid ll
  have BI := hid bi
  have c0 := VB.c0
  have c1 := VB.c1
  have c2 := VB.c2
  have c3 := VB.c3
  have cl := VB.lt
  clear hU b0 VB hT nb hL hF hR zl ll bi
  go_enter Try.func54, Try.ntmps54
  go_upto_region 1 with fail
  rw [HU.out]
  go_wp2_with fail
  refine NB.out.mono ?_
  rintro _ w5 ⟨hb, A5, k5, rfl, h5⟩
  have B5 := hid (bthen HB.out hb)
  have V5 := hid (HV.out.below hb)
  have H5 := hid h5
  clear hb h5 c0 c1 c2 c3 cl
  go_wp2_with fail
  obtain ⟨bi1, bi2⟩ := BI.out
  obtain ⟨I, hI⟩ : ∃ I : Nat, i = (I : Int) := ⟨i.toNat, by omega⟩
  have iz : I < z.length := by omega
  subst hI
  have HIZ := hid iz
  clear bi1 bi2 iz
  go_loopw [7, 5] (fun t u wr => ∃ (j p : Nat) (b : Int), t = .int .i64 (j : Int) ∧ u = .int .i64 b ∧ j ≤ L.length ∧ p < z.length ∧ ((b = -1 ∧ p = I) ∨ (b = (p : Int) ∧ Sp.hz z (p : Int) < Sp.hz z (I : Int))) ∧ Sp.lowF z (p : Int) (L.drop j) = F ∧ Below w5.heap.size w5 wr) (fun t _ _ => L.length - (intOf t).toNat)
  case atStart => exact ⟨0, I, -1, rfl, rfl, Nat.zero_le _, HIZ.out, .inl ⟨rfl, rfl⟩, HF.out, Below.refl _ _⟩
  case round =>
    obtain ⟨j, p, b0, rfl, rfl, hj, hp, hbp, hd, hB⟩ := hrel
    have HD := hid hd
    have HBB := hid hB
    have HP := hid hp
    have V := V5.out.below HBB.out
    have c3 := V.c3
    have cl := V.lt
    have hbw := hbp
    clear hd hB V
    by_cases hlt : j < L.length
    · obtain ⟨b, off, rfl, bl, q⟩ := (H5.out.below HBB.out) (Nat.lt_of_le_of_lt (Nat.zero_le _) hlt)
      have q0 := q j hlt
      obtain ⟨b', off', rfl, bl', q'⟩ := (HT.out.below (bthen B5.out HBB.out)) (Nat.lt_of_le_of_lt (Nat.zero_le _) hp)
      have g := HL.out _ (List.getElem_mem hlt)
      obtain ⟨v, hv⟩ : ∃ v, L[j]'hlt = v := ⟨_, rfl⟩
      have hd := HD.out
      rw [List.drop_eq_getElem_cons hlt] at hd
      unfold Sp.lowF at hd
      rw [hv] at q0 g hd
      obtain ⟨n, rfl⟩ : ∃ n : Nat, v = (n : Int) := ⟨v.toNat, by omega⟩
      have gn : n < z.length := by omega
      rw [Sp.hz_at z n gn, Sp.hz_at z p hp] at hd
      rw [Sp.hz_at z p hp, Sp.hz_at z I HIZ.out] at hbp
      have q1 := q' n gn
      have q2 := q' p hp
      have q3 := q' I HIZ.out
      have hzn := Sp.hz_at z n gn
      have hzi := Sp.hz_at z I HIZ.out
      have hpi : p = I → z[p]'hp = z[I]'HIZ.out := fun e => by subst e; rfl
      obtain ⟨x, hx⟩ : ∃ x, z[n]'gn = x := ⟨_, rfl⟩
      obtain ⟨y, hy⟩ : ∃ y, z[p]'hp = y := ⟨_, rfl⟩
      obtain ⟨yi, hyi⟩ : ∃ y, z[I]'HIZ.out = y := ⟨_, rfl⟩
      rw [hx] at q1 hd hzn
      rw [hy] at q2 hd hbp hpi
      rw [hyi] at q3 hbp hpi hzi
      obtain ⟨ej, eq, i0, i1⟩ := rjw j L.length hlt (by have := LL.out; omega)
      obtain ⟨-, -, n0, n1⟩ := rjw n z.length gn (by have := ZL.out; omega)
      obtain ⟨-, -, p0, p1⟩ := rjw p z.length hp (by have := ZL.out; omega)
      obtain ⟨-, -, I0, I1⟩ := rjw I z.length HIZ.out (by have := ZL.out; omega)
      have EQ := hid eq
      have HJ := hid hlt
      have GN := hid gn
      have hD := HBB.out.drew
      have HM := hid (pmeas L.length j hlt)
      have ZN := hid hzn
      have ZI := hid hzi
      clear q q' hv eq g gn hx hy hyi hp hlt bl bl' hzn hzi
      have bl0 : ¬ (p : Int) < 0 := by omega
      by_cases f : x < y
      · rw [if_pos f] at hd
        have HD2 := hid hd
        have fi : x < yi := by
          rcases hbp with ⟨-, e⟩ | ⟨-, e⟩
          · have := hpi e; omega
          · omega
        have f1 : decide (x < yi) = true := decide_eq_true fi
        have f2 : decide (x < y) = true := decide_eq_true f
        have NI := hid (show Sp.hz z (n : Int) < Sp.hz z (I : Int) by rw [ZN.out, ZI.out]; exact fi)
        clear hd f fi hpi
        rcases hbp with ⟨rfl, hpI⟩ | ⟨rfl, -⟩
        · clear hpI
          go_wp2_with fail
          go_quiet (fail)
          go_wp2_with fail
          go_roundw
          case rel => exact ⟨j + 1, n, (n : Int), i64_eq (by first | exact EQ.out | exact ej.trans EQ.out), rfl, HJ.out, GN.out, .inr ⟨rfl, NI.out⟩, HD2.out, below_dn HBB.out _⟩
          case measure => first | exact HM.out | (rw [ej]; exact HM.out)
        · have f3 : decide ((p : Int) < 0) = false := decide_eq_false bl0
          go_wp2_with fail
          go_quiet (fail)
          go_wp2_with fail
          go_roundw
          case rel => exact ⟨j + 1, n, (n : Int), i64_eq (by first | exact EQ.out | exact ej.trans EQ.out), rfl, HJ.out, GN.out, .inr ⟨rfl, NI.out⟩, HD2.out, below_dn HBB.out _⟩
          case measure => first | exact HM.out | (rw [ej]; exact HM.out)
      · rw [if_neg f] at hd
        have HD2 := hid hd
        have f2 : decide (x < y) = false := decide_eq_false f
        by_cases fi : x < yi
        · have f1 : decide (x < yi) = true := decide_eq_true fi
          rcases hbp with ⟨-, hpI⟩ | ⟨rfl, hpy⟩
          · exact absurd fi (by have := hpi hpI; omega)
          · have f3 : decide ((p : Int) < 0) = false := decide_eq_false bl0
            have PI := hid (show Sp.hz z (p : Int) < Sp.hz z (I : Int) by rcases hbw with ⟨e1, e2⟩ | ⟨-, e2⟩ <;> first | omega | exact e2)
            clear hd f fi hpi hpy
            go_wp2_with fail
            go_quiet (fail)
            go_wp2_with fail
            go_roundw
            case rel => exact ⟨j + 1, p, (p : Int), i64_eq (by first | exact EQ.out | exact ej.trans EQ.out), rfl, HJ.out, HP.out, .inr ⟨rfl, PI.out⟩, HD2.out, below_dn HBB.out _⟩
            case measure => first | exact HM.out | (rw [ej]; exact HM.out)
        · have f1 : decide (x < yi) = false := decide_eq_false fi
          have BP := hid hbw
          clear hd f fi hpi hbp
          go_wp2_with fail
          go_quiet (fail)
          go_wp2_with fail
          go_roundw
          case rel => exact ⟨j + 1, p, b0, i64_eq (by first | exact EQ.out | exact ej.trans EQ.out), rfl, HJ.out, HP.out, BP.out, HD2.out, below_dn HBB.out _⟩
          case measure => first | exact HM.out | (rw [ej]; exact HM.out)
    · have i1 : ¬ (j : Int) < (L.length : Int) := fun k => hlt (Int.ofNat_lt.mp k)
      have hd := HD.out
      rw [List.drop_eq_nil_of_le (Nat.le_of_not_lt hlt)] at hd
      have HR2 := hid (show b0 = R by
        have h1 : (p : Int) = F := hd
        have h2 := HR.out
        rw [← h1] at h2
        rcases hbp with ⟨e1, e2⟩ | ⟨e1, e2⟩
        · subst e2; rw [if_pos rfl] at h2; omega
        · rw [if_neg (fun e => by rw [e] at e2; omega)] at h2; omega)
      clear hd hbp
      go_wp2_with fail
      go_ret
      exact Gives.mk (i64_eq (by first | exact HR2.out | exact HR2.out.symm)) (bthen B5.out HBB.out)
theorem rrcv_any (A : Option Addr) (cap : Nat) (c r k : Int) (z : List Int) (i : Int) (w : World) (bc : 2 ≤ c ∧ c ≤ 16) (br : 2 ≤ r ∧ r ≤ 16) (hl : (z.length : Int) = c * r) (bi : 0 ≤ i ∧ i < z.length) (hT : Ints w A z) :
    Calls Try.prog 54 #[.agg #[.int .i64 c, .int .i64 r, .int .i64 k, .slice A z.length cap], .int .i64 i] w (Gives (.int .i64 (Sp.rcvS z c r i)) w) := by
  have P : c * r ≤ 16 * 16 := Int.mul_le_mul bc.2 br.2 (by omega) (by omega)
  exact rrcv_walk A cap c r k z i _ _ (Sp.nbS c r i) w hT (by omega) (Sp.nbS_len _ _ _) (fun x hx => by rw [hl]; exact Sp.nbS_mem bc.1 br.1 bi.1 (by omega) hx) bi rfl rfl (fun W hb => rneigh_any A cap c r k z i W bc br ⟨bi.1, by omega⟩)
end Go.Proofs.Ytmdaanigkhikfaa
