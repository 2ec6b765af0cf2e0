/-
  Layer 15: Volume of package terrain, by contract.
-/
import Derived.Test.YtmdaanigkhikfaaTs
namespace Go.Proofs.Ytmdaanigkhikfaa
open Go.RowKit
set_option linter.unusedVariables false
set_option linter.unusedSimpArgs false
namespace Sp
/-- A span between two sums of heights, times a quarter of the area of a cell. -/
def spaS (k lo hi : Int) : Int × Int := ((lo * (k * k)).tdiv 4, (hi * (k * k) + 3).tdiv 4)
/-- What Volume answers. -/
def volS (c r k : Int) (z : List Int) (lv : Int) : (Int × Int) × (Int × Int) × Int :=
  if terE c r k z ≠ 0 then ((0, 0), (0, 0), terE c r k z) else if (decide (0 ≤ lv) && decide (lv ≤ 50000)) = false then ((0, 0), (0, 0), 2)
  else (spaS k (max 0 (sumS (upG lv) c r z - sumS (dnG lv) c r z)) (sumS (upG lv) c r z), spaS k (max 0 (sumS (dnG lv) c r z - sumS (upG lv) c r z)) (sumS (dnG lv) c r z), 0)
theorem upG_in {lv : Int} (h : 0 ≤ lv ∧ lv ≤ 50000) (v : Int) (h0 : 0 ≤ v) (h1 : v ≤ 50000) : 0 ≤ upG lv v ∧ upG lv v ≤ 50000 := by unfold upG; omega
theorem dnG_in {lv : Int} (h : 0 ≤ lv ∧ lv ≤ 50000) (v : Int) (h0 : 0 ≤ v) (h1 : v ≤ 50000) : 0 ≤ dnG lv v ∧ dnG lv v ≤ 50000 := by unfold dnG; omega
theorem sumS_in {g : Int → Int} {z : List Int} {c r : Int} (bc : 2 ≤ c ∧ c ≤ 16) (br : 2 ≤ r ∧ r ≤ 16) (hg : ∀ v, 0 ≤ v → v ≤ 50000 → 0 ≤ g v ∧ g v ≤ 50000) (hz5 : ∀ v ∈ z, 0 ≤ v ∧ v ≤ 50000) : 0 ≤ sumS g c r z ∧ sumS g c r z ≤ 100000000 := by
  have h := sumG_in hg hz5 c (cellU (c - 1).toNat ((r - 1).toNat * (c - 1).toNat))
  rw [cellU_len] at h
  have e : (r - 1).toNat * (c - 1).toNat ≤ 15 * 15 := Nat.mul_le_mul (by omega) (by omega)
  unfold sumS
  omega
end Sp
set_option maxRecDepth 100000 in
set_option maxHeartbeats 20000000 in
theorem tvol_walk (A : Option Addr) (cap : Nat) (c r k : Int) (z : List Int) (lv E S1 S2 M1 M2 x1 x2 y1 y2 : Int) (V : (Int × Int) × (Int × Int) × Int) (w : World)
    (hV : V = if E ≠ 0 then ((0, 0), (0, 0), E) else if (decide (0 ≤ lv) && decide (lv ≤ 50000)) = false then ((0, 0), (0, 0), 2) else ((x1, x2), (y1, y2), 0))
    (hM1 : max 0 (S1 - S2) = M1) (hM2 : max 0 (S2 - S1) = M2) (CK : ∀ W, Below w.heap.size w W → Calls Try.prog 15 #[.agg #[.int .i64 c, .int .i64 r, .int .i64 k, .slice A z.length cap]] W (Gives (.int .i64 E) W))
    (B1 : E = 0 → (0 ≤ lv ∧ lv ≤ 50000) → (0 ≤ S1 ∧ S1 ≤ 100000000) ∧ (0 ≤ S2 ∧ S2 ≤ 100000000))
    (UP : E = 0 → (0 ≤ lv ∧ lv ≤ 50000) → ∀ (T L : Nat) W, Below w.heap.size w W → TrAt W T c r k A z.length cap → W.cell? ⟨L, 0, none⟩ = some (.int .i64 lv) → L < W.heap.size → Calls Try.prog 55 #[.func (.func 57) #[] #[.pointer (some ⟨L, 0, none⟩)], .pointer (some ⟨T, 0, none⟩)] W (Gives (.int .i64 S1) W))
    (DN : E = 0 → (0 ≤ lv ∧ lv ≤ 50000) → ∀ (T L : Nat) W, Below w.heap.size w W → TrAt W T c r k A z.length cap → W.cell? ⟨L, 0, none⟩ = some (.int .i64 lv) → L < W.heap.size → Calls Try.prog 55 #[.func (.func 58) #[] #[.pointer (some ⟨L, 0, none⟩)], .pointer (some ⟨T, 0, none⟩)] W (Gives (.int .i64 S2) W))
    (P1 : E = 0 → (0 ≤ lv ∧ lv ≤ 50000) → ∀ W, Calls Try.prog 59 #[.agg #[.int .i64 c, .int .i64 r, .int .i64 k, .slice A z.length cap], .int .i64 M1, .int .i64 S1] W (Gives (.agg #[.int .i64 x1, .int .i64 x2]) W))
    (P2 : E = 0 → (0 ≤ lv ∧ lv ≤ 50000) → ∀ W, Calls Try.prog 59 #[.agg #[.int .i64 c, .int .i64 r, .int .i64 k, .slice A z.length cap], .int .i64 M2, .int .i64 S2] W (Gives (.agg #[.int .i64 y1, .int .i64 y2]) W)) :
    Calls Try.prog 29 #[.agg #[.int .i64 c, .int .i64 r, .int .i64 k, .slice A z.length cap], .int .i64 lv] w (Gives (.tuple #[.agg #[.int .i64 V.1.1, .int .i64 V.1.2], .agg #[.int .i64 V.2.1.1, .int .i64 V.2.1.2], .int .i64 V.2.2]) w) := by
  obtain ⟨⟨a1, a2⟩, ⟨a3, a4⟩, a5⟩ := V
  simp only
  obtain ⟨U, hU⟩ : ∃ U, (((w.alloc (Obj.cells #[.int .i64 c, .int .i64 r, .int .i64 k, .slice A z.length cap] 24)).alloc (.cells #[.int .i64 lv] 3)).alloc (Obj.cells #[.int .i64 0, .int .i64 0] 50)).alloc (Obj.cells #[.int .i64 0, .int .i64 0] 50) = U := ⟨_, rfl⟩
  have T0 : TrAt U w.heap.size c r k A z.length cap := by rw [← hU]; exact (trAt_new w c r k A z.length cap).below (bthen (balloc _ _) (bthen (balloc _ _) (balloc _ _)))
  have b0 : Below w.heap.size w U := by rw [← hU]; exact bthen (balloc _ _) (bthen (balloc _ _) (bthen (balloc _ _) (balloc _ _)))
  have l0 : U.cell? ⟨w.heap.size + 1, 0, none⟩ = some (.int .i64 lv) := by rw [← hU]; simp [go_sem]
  have r0 : U.cell? ⟨w.heap.size + 1 + 1, 0, none⟩ = some (.int .i64 0) := by rw [← hU]; simp [go_sem]
  have r1 : U.cell? ⟨w.heap.size + 1 + 1, 1, none⟩ = some (.int .i64 0) := by rw [← hU]; simp [go_sem]
  have rf : ∀ o, U.frozen? ⟨w.heap.size + 1 + 1, o, none⟩ = false := fun o => by rw [← hU]; simp [go_sem]
  have s0 : U.cell? ⟨w.heap.size + 1 + 1 + 1, 0, none⟩ = some (.int .i64 0) := by rw [← hU]; simp [go_sem]
  have s1 : U.cell? ⟨w.heap.size + 1 + 1 + 1, 1, none⟩ = some (.int .i64 0) := by rw [← hU]; simp [go_sem]
  have sf : ∀ o, U.frozen? ⟨w.heap.size + 1 + 1 + 1, o, none⟩ = false := fun o => by rw [← hU]; simp [go_sem]
  have uz : U.heap.size = w.heap.size + 4 := by rw [← hU]; simp
  have KK := hid (fun (W : World) (hb : Below U.heap.size U W) => (⟨bthen b0 hb, T0.below hb, (hb.cell (p := ⟨w.heap.size + 1, 0, none⟩) (by simp only; omega)).trans l0, by have := hb.size; omega⟩ : Below w.heap.size w W ∧ TrAt W w.heap.size c r k A z.length cap ∧ W.cell? ⟨w.heap.size + 1, 0, none⟩ = some (.int .i64 lv) ∧ w.heap.size + 1 < W.heap.size))
  have KR := hid (fun (W : World) (hb : Below U.heap.size U W) => (⟨(hb.cell (p := ⟨w.heap.size + 1 + 1, 0, none⟩) (by simp only; omega)).trans r0, (hb.cell (p := ⟨w.heap.size + 1 + 1, 1, none⟩) (by simp only; omega)).trans r1, fun o => (hb.frozen (p := ⟨w.heap.size + 1 + 1, o, none⟩) (by simp only; omega)).trans (rf o),
    (hb.cell (p := ⟨w.heap.size + 1 + 1 + 1, 0, none⟩) (by simp only; omega)).trans s0, (hb.cell (p := ⟨w.heap.size + 1 + 1 + 1, 1, none⟩) (by simp only; omega)).trans s1, fun o => (hb.frozen (p := ⟨w.heap.size + 1 + 1 + 1, o, none⟩) (by simp only; omega)).trans (sf o), by have := hb.size; omega, by have := hb.size; omega⟩ :
    W.cell? ⟨w.heap.size + 1 + 1, 0, none⟩ = some (.int .i64 0) ∧ W.cell? ⟨w.heap.size + 1 + 1, 1, none⟩ = some (.int .i64 0) ∧ (∀ o, W.frozen? ⟨w.heap.size + 1 + 1, o, none⟩ = false) ∧ W.cell? ⟨w.heap.size + 1 + 1 + 1, 0, none⟩ = some (.int .i64 0) ∧ W.cell? ⟨w.heap.size + 1 + 1 + 1, 1, none⟩ = some (.int .i64 0) ∧ (∀ o, W.frozen? ⟨w.heap.size + 1 + 1 + 1, o, none⟩ = false) ∧ w.heap.size + 1 + 1 < W.heap.size ∧ w.heap.size + 1 + 1 + 1 < W.heap.size))
  have CK1 := hid (CK U b0)
  have IH := hid (fun W => tisheight_any lv W)
  obtain ⟨D, hD⟩ : ∃ D, (decide (0 ≤ lv) && decide (lv ≤ 50000)) = D := ⟨_, rfl⟩
  rw [hD] at IH hV
  have HD := hid hD
  have HV := hid hV
  have HB1 := hid B1
  have HUP := hid UP
  have HDN := hid DN
  have HP1 := hid P1
  have HP2 := hid P2
  have HU := hid hU
  have HM1 := hid hM1
  have HM2 := hid hM2
  have c0 := T0.c0
  have c1 := T0.c1
  have c2 := T0.c2
  have c3 := T0.c3
  have cl := T0.lt
  clear hU T0 b0 l0 CK B1 UP DN P1 P2 hV hD uz r0 r1 rf s0 s1 sf hM1 hM2
  go_enter Try.func29, Try.ntmps29
  go_upto_region 1 with fail
  rw [HU.out]
  go_wp2_with fail
  refine CK1.out.mono ?_
  rintro _ w5 ⟨rfl, hb⟩
  have B5 := hid hb
  clear hb c0 c1 c2 c3 cl
  by_cases cE : E = 0
  · subst cE
    obtain ⟨kb, kt, kl, kz⟩ := KK.out _ B5.out
    clear kb kt
    go_wp2_with fail
    refine (IH.out _).mono ?_
    rintro _ w6 ⟨rfl, hb⟩
    have B6 := hid (bthen B5.out hb)
    clear hb kl kz
    cases D
    · obtain ⟨r0, r1, rf, s0, s1, sf, rz, sz⟩ := KR.out _ B6.out
      obtain ⟨kb, -, -, -⟩ := KK.out _ B6.out
      have KB := hid kb
      have hv := HV.out
      simp at hv
      obtain ⟨⟨rfl, rfl⟩, ⟨rfl, rfl⟩, rfl⟩ := hv
      clear kb
      go_wp2_with fail
      refine bodyPost_ret (v := .tuple #[.agg #[.int .i64 0, .int .i64 0], .agg #[.int .i64 0, .int .i64 0], .int .i64 2]) (by simp [results, Try.results29, go_sem, r0, r1, rf, s0, s1, sf, rz, sz]) rfl ?_
      exact Gives.mk rfl (by have hB := KB.out; repeat' (first | (with_reducible exact Below.refl _ _) | (with_reducible refine Below.alloc ?_ ?_ _) | (with_reducible refine Below.setCell ?_ ?_ _) | (with_reducible refine Below.drew ?_) | (with_reducible refine below_dn ?_ _) | (with_reducible refine Below.trans ?_ (Below.mono (by assumption) ?_)) | (simp; done) | (simp; omega) | omega))
    · have hd := HD.out
      simp at hd
      have hv := HV.out
      simp at hv
      obtain ⟨⟨rfl, rfl⟩, ⟨rfl, rfl⟩, rfl⟩ := hv
      have b1 := HB1.out (by first | rfl | trivial) hd
      have UP1 := hid (HUP.out (by first | rfl | trivial) hd)
      have DN1 := hid (HDN.out (by first | rfl | trivial) hd)
      have PR1 := hid (HP1.out (by first | rfl | trivial) hd)
      have PR2 := hid (HP2.out (by first | rfl | trivial) hd)
      obtain ⟨kb, kt, kl, kz⟩ := KK.out _ B6.out
      have U6 := hid (UP1.out w.heap.size (w.heap.size + 1) w6 kb kt kl kz)
      clear HB1 HUP HDN HP1 HP2 HV hd kb kt kl kz
      go_wp2_with fail
      refine U6.out.mono ?_
      rintro _ w7 ⟨rfl, hb⟩
      have B7 := hid (bthen B6.out hb)
      clear hb
      obtain ⟨kb, kt, kl, kz⟩ := KK.out _ B7.out
      have D7 := hid (DN1.out w.heap.size (w.heap.size + 1) w7 kb kt kl kz)
      clear kb kt kl kz
      go_wp2_with fail
      refine D7.out.mono ?_
      rintro _ w8 ⟨rfl, hb⟩
      have B8 := hid (bthen B7.out hb)
      clear hb
      have v1 : IntKind.i64.wrap (S1 - S2) = S1 - S2 := pi64 _ (by omega)
      have v2 : IntKind.i64.wrap (S2 - S1) = S2 - S1 := pi64 _ (by omega)
      have m1 := HM1.out
      have m2 := HM2.out
      have KA := hid (fun (W : World) (hb : Below U.heap.size U W) => (⟨(KK.out W hb).2.1.c0, (KK.out W hb).2.1.c1, (KK.out W hb).2.1.c2, (KK.out W hb).2.1.c3, KR.out W hb⟩ : W.cell? ⟨w.heap.size, 0, none⟩ = some (.int .i64 c) ∧ W.cell? ⟨w.heap.size, 1, none⟩ = some (.int .i64 r) ∧ W.cell? ⟨w.heap.size, 2, none⟩ = some (.int .i64 k) ∧ W.cell? ⟨w.heap.size, 3, none⟩ = some (.slice A z.length cap) ∧
        W.cell? ⟨w.heap.size + 1 + 1, 0, none⟩ = some (.int .i64 0) ∧ W.cell? ⟨w.heap.size + 1 + 1, 1, none⟩ = some (.int .i64 0) ∧ (∀ o, W.frozen? ⟨w.heap.size + 1 + 1, o, none⟩ = false) ∧ W.cell? ⟨w.heap.size + 1 + 1 + 1, 0, none⟩ = some (.int .i64 0) ∧ W.cell? ⟨w.heap.size + 1 + 1 + 1, 1, none⟩ = some (.int .i64 0) ∧ (∀ o, W.frozen? ⟨w.heap.size + 1 + 1 + 1, o, none⟩ = false) ∧ w.heap.size + 1 + 1 < W.heap.size ∧ w.heap.size + 1 + 1 + 1 < W.heap.size))
      have KW := hid (fun (W : World) (hb : Below U.heap.size U W) => (KK.out W hb).1)
      have hb8 := B8.out
      clear b1 U6 D7 UP1 DN1 HM1 HM2 HD IH CK1 HU B5 B6 B7 B8 KR KK
      go_wp2_with fail
      obtain ⟨c0, c1, c2, c3, r0, r1, rf, s0, s1, sf, rz, sz⟩ := KA.out _ hb8
      refine Code.wp_mono (Q := fun e a' W' => match e with | .normal => bodyPost Try.prog Try.f29 (Gives (.tuple #[.agg #[.int .i64 a1, .int .i64 a2], .agg #[.int .i64 a3, .int .i64 a4], .int .i64 0]) w) .ret a' W' | _ => False) ?rest ?region
      case rest =>
        intro e a' W' h
        cases e
        case normal =>
          clear hb8 c0 c1 c2 c3 r0 r1 rf s0 s1 sf rz sz
          go_wp2_with fail
          all_goals exact h
        all_goals exact h.elim
      case region =>
        clear c1 c2 c3 r0 r1 rf s0 s1 sf rz sz c0
        obtain ⟨c0, c1, c2, c3, -, -, -, -, -, -, -, -⟩ := KA.out _ hb8
        go_region_with (go_at_call 59; (first | (with_reducible refine (PR1.out _).mono ?_) | (with_reducible refine (PR2.out _).mono ?_)); rintro _ w9 ⟨rfl, hx⟩; have hb9 : Below U.heap.size U w9 := (by first | exact bthen (by assumption) hx | exact bthen (Below.drew (by assumption)) hx | exact bthen (Below.drew hb8) hx); clear hx; obtain ⟨q0, q1, q2, q3, q4, q5, q6, q7, q8, q9, qr, qs⟩ := KA.out _ hb9)
        all_goals
          have KB := KW.out _ hb9
          refine bodyPost_ret (v := .tuple #[.agg #[.int .i64 a1, .int .i64 a2], .agg #[.int .i64 a3, .int .i64 a4], .int .i64 0]) (by simp [results, Try.results29, go_sem, q4, q5, q6, q7, q8, q9, qr, qs]) rfl ?_
          exact Gives.mk rfl (by repeat' (first | (with_reducible exact Below.refl _ _) | (with_reducible refine Below.alloc ?_ ?_ _) | (with_reducible refine Below.setCell ?_ ?_ _) | (with_reducible refine Below.drew ?_) | (with_reducible refine below_dn ?_ _) | (with_reducible refine Below.trans ?_ (Below.mono (by assumption) ?_)) | (simp; done) | (simp; omega) | omega))
  · have hn : (E == 0) = false := by simpa using cE
    have hv := HV.out
    rw [if_pos cE] at hv
    simp only [Prod.mk.injEq] at hv
    obtain ⟨⟨rfl, rfl⟩, ⟨rfl, rfl⟩, rfl⟩ := hv
    obtain ⟨r0, r1, rf, s0, s1, sf, rz, sz⟩ := KR.out _ B5.out
    obtain ⟨kb, -, -, -⟩ := KK.out _ B5.out
    have KB := hid kb
    clear kb
    go_wp2_with fail
    refine bodyPost_ret (v := .tuple #[.agg #[.int .i64 0, .int .i64 0], .agg #[.int .i64 0, .int .i64 0], .int .i64 a5]) (by simp [results, Try.results29, go_sem, r0, r1, rf, s0, s1, sf, rz, sz]) rfl ?_
    exact Gives.mk rfl (by have hB := KB.out; repeat' (first | (with_reducible exact Below.refl _ _) | (with_reducible refine Below.alloc ?_ ?_ _) | (with_reducible refine Below.setCell ?_ ?_ _) | (with_reducible refine Below.drew ?_) | (with_reducible refine below_dn ?_ _) | (with_reducible refine Below.trans ?_ (Below.mono (by assumption) ?_)) | (simp; done) | (simp; omega) | omega))
theorem tVolume_any (A : Option Addr) (cap : Nat) (c r k : Int) (z : List Int) (lv : Int) (w : World) (hl : z.length ≤ 140737488355328) (hT : Ints w A z) :
    Calls Try.prog 29 #[.agg #[.int .i64 c, .int .i64 r, .int .i64 k, .slice A z.length cap], .int .i64 lv] w (Gives (.tuple #[.agg #[.int .i64 (Sp.volS c r k z lv).1.1, .int .i64 (Sp.volS c r k z lv).1.2], .agg #[.int .i64 (Sp.volS c r k z lv).2.1.1, .int .i64 (Sp.volS c r k z lv).2.1.2], .int .i64 (Sp.volS c r k z lv).2.2]) w) := by
  refine tvol_walk A cap c r k z lv (Sp.terE c r k z) (Sp.sumS (Sp.upG lv) c r z) (Sp.sumS (Sp.dnG lv) c r z) _ _ _ _ _ _ _ w rfl rfl rfl (fun W hb => tcheck_any A cap c r k z W hl (hT.below hb)) ?_ ?_ ?_ ?_ ?_
  · intro h hv
    obtain ⟨h1, h2, h3, h4, h5⟩ := Sp.terE_zero h
    exact ⟨Sp.sumS_in h1 h2 (Sp.upG_in hv) h5, Sp.sumS_in h1 h2 (Sp.dnG_in hv) h5⟩
  · intro h hv T L W hb tr lc ll
    obtain ⟨h1, h2, h3, h4, h5⟩ := Sp.terE_zero h
    exact tsum2_any A cap c r k z T L lv W h1 h2 h3 h4 h5 hv (hT.below hb) tr lc ll
  · intro h hv T L W hb tr lc ll
    obtain ⟨h1, h2, h3, h4, h5⟩ := Sp.terE_zero h
    exact tsum3_any A cap c r k z T L lv W h1 h2 h3 h4 h5 hv (hT.below hb) tr lc ll
  · intro h hv W
    obtain ⟨h1, h2, h3, h4, h5⟩ := Sp.terE_zero h
    have a := Sp.sumS_in h1 h2 (Sp.upG_in hv) h5
    have b := Sp.sumS_in h1 h2 (Sp.dnG_in hv) h5
    exact tprisms_any A cap c r k z _ _ W h3 (by omega) a
  · intro h hv W
    obtain ⟨h1, h2, h3, h4, h5⟩ := Sp.terE_zero h
    have a := Sp.sumS_in h1 h2 (Sp.upG_in hv) h5
    have b := Sp.sumS_in h1 h2 (Sp.dnG_in hv) h5
    exact tprisms_any A cap c r k z _ _ W h3 (by omega) b
end Go.Proofs.Ytmdaanigkhikfaa
