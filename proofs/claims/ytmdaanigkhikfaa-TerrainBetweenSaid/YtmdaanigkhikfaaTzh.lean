/-
  Layer 15: the walk of TerrainBetween.
-/
import Derived.Test.YtmdaanigkhikfaaTyp
import Derived.Test.YtmdaanigkhikfaaTx
import Derived.Test.YtmdaanigkhikfaaQtb
import Derived.Test.YtmdaanigkhikfaaTw
import Derived.Test.YtmdaanigkhikfaaTpar
import Derived.StillTactics
namespace Go.Proofs.Ytmdaanigkhikfaa
open Go.RowKit
set_option linter.unusedVariables false
set_option linter.unusedSimpArgs false
theorem min2_run (a b : Int) (W : World) : Sem.run Try.prog (Builtin.min2 (.int .i64 a) (.int .i64 b)) W = .ok (.int .i64 (min a b)) W := by
  by_cases h : b < a
  · have e : min a b = b := by omega
    rw [e]; simp [Builtin.min2, go_sem, h]
  · have e : min a b = a := by omega
    rw [e]; simp [Builtin.min2, go_sem, h]
theorem min4_run (a b c d : Int) (W : World) : Sem.run Try.prog (Builtin.min_ #[3, 3, 3, 3] 3 #[.int .i64 a, .int .i64 b, .int .i64 c, .int .i64 d]) W = .ok (.int .i64 (min (min (min a b) c) d)) W := by
  have e : Sem.run Try.prog (Builtin.min_ #[3, 3, 3, 3] 3 #[.int .i64 a, .int .i64 b, .int .i64 c, .int .i64 d]) W = ((Sem.run Try.prog (Builtin.min2 (.int .i64 a) (.int .i64 b)) W).andThen fun x w' => (Sem.run Try.prog (Builtin.min2 x (.int .i64 c)) w').andThen fun y w'' => Sem.run Try.prog (Builtin.min2 y (.int .i64 d)) w'') := by
    simp [Builtin.min_, go_sem]
  rw [e, min2_run, Result.andThen_ok, min2_run, Result.andThen_ok]
  exact min2_run _ _ _
theorem max4b_run (a b c d : Int) (W : World) : Sem.run Try.prog (Builtin.max_ #[3, 3, 3, 3] 3 #[.int .i64 a, .int .i64 b, .int .i64 c, .int .i64 d]) W = .ok (.int .i64 (max (max (max a b) c) d)) W := by
  have e : Sem.run Try.prog (Builtin.max_ #[3, 3, 3, 3] 3 #[.int .i64 a, .int .i64 b, .int .i64 c, .int .i64 d]) W = ((Sem.run Try.prog (Builtin.max2 (.int .i64 a) (.int .i64 b)) W).andThen fun x w' => (Sem.run Try.prog (Builtin.max2 x (.int .i64 c)) w').andThen fun y w'' => Sem.run Try.prog (Builtin.max2 y (.int .i64 d)) w'') := by
    simp [Builtin.max_, go_sem]
  rw [e, max2_run, Result.andThen_ok, max2_run, Result.andThen_ok]
  exact max2_run _ _ _
set_option maxRecDepth 100000 in
/-- The closure: a node's height. -/
theorem tat_any (A : Option Addr) (cap : Nat) (c r k : Int) (z : List Int) (T : Nat) (x y M : Int) (l : Nat) (v : Int) (W : World) (h1 : y * c = M) (h2 : M + x = (l : Int)) (hM : 0 ≤ M ∧ M ≤ 256) (zl : z.length ≤ 256) (hl : l < z.length) (hv : Sp.hz z (l : Int) = v) (hT : Ints W A z) (tr : TrAt W T c r k A z.length cap) :
    Calls Try.prog 31 #[.int .i64 x, .int .i64 y, .pointer (some ⟨T, 0, none⟩)] W (fun e w' => e = .returned (.int .i64 v) ∧ w' = W) := by
  rw [Sp.hz_at z l hl] at hv
  obtain ⟨b, off, rfl, bl, q⟩ := hT (Nat.lt_of_le_of_lt (Nat.zero_le _) hl)
  have q0 := q l hl
  rw [hv] at q0
  have c0 := tr.c0
  have c3 := tr.c3
  have i0 : (0 : Int) ≤ (l : Int) := Int.natCast_nonneg l
  have i1 : (l : Int) < (z.length : Int) := Int.ofNat_lt.mpr hl
  have w1 : wrap64 M = M := pw64 _ (by omega)
  have w2 : wrap64 (l : Int) = (l : Int) := pw64 _ (by omega)
  clear q hv tr hT hM zl hl bl
  go_enter Try.func31, Try.ntmps31
  go_wp2_with fail
  go_ret
  exact ⟨rfl, rfl⟩
set_option maxRecDepth 100000 in
set_option maxHeartbeats 8000000 in
theorem tbtw_walk (A : Option Addr) (cap : Nat) (c r k : Int) (z : List Int) (px py n d e E q1 q2 C R C1 R1 m1 m2 m X2 Y2 v0 v1 v2 v3 lo hi a b ρ : Int) (F : Bool) (w : World)
    (AW : ∀ W, Calls Try.prog 12 #[] W (Gives (.bool true) W))
    (FW : ∀ W, Calls Try.prog 11 #[.agg #[.int .i64 c, .int .i64 r, .int .i64 k, .slice A z.length cap]] W (Gives (.bool F) W))
    (CK : ∀ W, Below w.heap.size w W → Calls Try.prog 16 #[.agg #[.int .i64 c, .int .i64 r, .int .i64 k, .slice A z.length cap]] W (Gives (.int .i64 E) W))
    (HH : E = 0 → ∀ W, Below w.heap.size w W → Calls Try.prog 13 #[.agg #[.int .i64 c, .int .i64 r, .int .i64 k, .slice A z.length cap], .agg #[.int .i64 px, .int .i64 py]] W (Gives (.tuple #[.agg #[.int .i64 n, .int .i64 d], .int .i64 e]) W))
    (NUM : E = 0 → e = 0 → (max px 0 = px ∧ max py 0 = py ∧ px.tdiv k = q1 ∧ py.tdiv k = q2 ∧ min q1 (c - 2) = C ∧ min q2 (r - 2) = R ∧ C + 1 = C1 ∧ R + 1 = R1 ∧ C * k = m1 ∧ R * k = m2 ∧ k.tdiv 2 = m ∧ m1 + m = X2 ∧ R1 * k = Y2 ∧ k.tmod 2 = ρ) ∧
      ((2 ≤ c ∧ c ≤ 16) ∧ (2 ≤ r ∧ r ≤ 16) ∧ (1 ≤ k ∧ k ≤ 1000) ∧ (0 ≤ q1 ∧ q1 ≤ 20000) ∧ (0 ≤ q2 ∧ q2 ≤ 20000) ∧ (0 ≤ C ∧ C ≤ 20) ∧ (0 ≤ R ∧ R ≤ 20) ∧ (0 ≤ m1 ∧ m1 ≤ 20000) ∧ (0 ≤ m2 ∧ m2 ≤ 20000) ∧ (0 ≤ m ∧ m ≤ 500) ∧ (0 ≤ Y2 ∧ Y2 ≤ 40000) ∧ (ρ = 0 ∨ ρ = 1)) ∧
      ((0 ≤ v0 ∧ v0 ≤ 50000) ∧ (0 ≤ v1 ∧ v1 ≤ 50000) ∧ (0 ≤ v2 ∧ v2 ≤ 50000) ∧ (0 ≤ v3 ∧ v3 ≤ 50000)) ∧ (min (min (min v0 v1) v3) v2 = lo ∧ max (max (max v0 v1) v3) v2 = hi) ∧ Sp.fchk n d = 0 ∧ lo ≤ n / d ∧ -((-n) / d) ≤ hi)
    (A00 : E = 0 → e = 0 → ∀ (W : World), Below w.heap.size w W → TrAt W w.heap.size c r k A z.length cap → Calls Try.prog 31 #[.int .i64 C, .int .i64 R, .pointer (some ⟨w.heap.size, 0, none⟩)] W (fun e w' => e = .returned (.int .i64 v0) ∧ w' = W))
    (A10 : E = 0 → e = 0 → ∀ (W : World), Below w.heap.size w W → TrAt W w.heap.size c r k A z.length cap → Calls Try.prog 31 #[.int .i64 C1, .int .i64 R, .pointer (some ⟨w.heap.size, 0, none⟩)] W (fun e w' => e = .returned (.int .i64 v1) ∧ w' = W))
    (A01 : E = 0 → e = 0 → ∀ (W : World), Below w.heap.size w W → TrAt W w.heap.size c r k A z.length cap → Calls Try.prog 31 #[.int .i64 C, .int .i64 R1, .pointer (some ⟨w.heap.size, 0, none⟩)] W (fun e w' => e = .returned (.int .i64 v3) ∧ w' = W))
    (A11 : E = 0 → e = 0 → ∀ (W : World), Below w.heap.size w W → TrAt W w.heap.size c r k A z.length cap → Calls Try.prog 31 #[.int .i64 C1, .int .i64 R1, .pointer (some ⟨w.heap.size, 0, none⟩)] W (fun e w' => e = .returned (.int .i64 v2) ∧ w' = W))
    (N1 : E = 0 → e = 0 → ∀ W, Below w.heap.size w W → Calls Try.prog 13 #[.agg #[.int .i64 c, .int .i64 r, .int .i64 k, .slice A z.length cap], .agg #[.int .i64 m1, .int .i64 m2]] W (Gives (.tuple #[.agg #[.int .i64 v0, .int .i64 1], .int .i64 0]) W))
    (N2 : E = 0 → e = 0 → ρ = 0 → ∀ W, Below w.heap.size w W → Calls Try.prog 13 #[.agg #[.int .i64 c, .int .i64 r, .int .i64 k, .slice A z.length cap], .agg #[.int .i64 X2, .int .i64 Y2]] W (Gives (.tuple #[.agg #[.int .i64 a, .int .i64 b], .int .i64 0]) W))
    (N3 : E = 0 → e = 0 → ∀ W, Calls Try.prog 34 #[.int .i64 (v3 + v2), .int .i64 2] W (Gives (.tuple #[.agg #[.int .i64 a, .int .i64 b], .int .i64 0]) W)) :
    Calls Try.prog 8 #[.agg #[.int .i64 c, .int .i64 r, .int .i64 k, .slice A z.length cap], .agg #[.int .i64 px, .int .i64 py]] w (Gives (.bool true) w) := by
  obtain ⟨U, hU⟩ : ∃ U, (w.alloc (Obj.cells #[.int .i64 c, .int .i64 r, .int .i64 k, .slice A z.length cap] 24)).alloc (.cells #[.int .i64 px, .int .i64 py] 26) = U := ⟨_, rfl⟩
  have T0 : TrAt U w.heap.size c r k A z.length cap := by rw [← hU]; exact (trAt_new w c r k A z.length cap).below (balloc _ _)
  have b0 : Below w.heap.size w U := by rw [← hU]; exact bthen (balloc _ _) (balloc _ _)
  have p0 : U.cell? ⟨w.heap.size + 1, 0, none⟩ = some (.int .i64 px) := by rw [← hU]; simp [go_sem]
  have p1 : U.cell? ⟨w.heap.size + 1, 1, none⟩ = some (.int .i64 py) := by rw [← hU]; simp [go_sem]
  have pz : w.heap.size + 1 < U.heap.size := by rw [← hU]; simp
  have KK := hid (fun (W : World) (hb : Below U.heap.size U W) => (⟨bthen b0 hb, T0.below hb, (hb.cell (p := ⟨w.heap.size + 1, 0, none⟩) pz).trans p0, (hb.cell (p := ⟨w.heap.size + 1, 1, none⟩) pz).trans p1, Nat.lt_of_lt_of_le pz hb.size⟩ : Below w.heap.size w W ∧ TrAt W w.heap.size c r k A z.length cap ∧ W.cell? ⟨w.heap.size + 1, 0, none⟩ = some (.int .i64 px) ∧ W.cell? ⟨w.heap.size + 1, 1, none⟩ = some (.int .i64 py) ∧ w.heap.size + 1 < W.heap.size))
  have HAW := hid AW
  have HFW := hid FW
  have HCK := hid CK
  have HHH := hid HH
  have HN := hid NUM
  have HA0 := hid A00
  have HA1 := hid A10
  have HA2 := hid A01
  have HA3 := hid A11
  have HN1 := hid N1
  have HN2 := hid N2
  have HN3 := hid N3
  have HU := hid hU
  have k0 := T0.c0
  have k1 := T0.c1
  have k2 := T0.c2
  have k3 := T0.c3
  have kl := T0.lt
  clear hU b0 T0 AW FW CK HH NUM A00 A10 A01 A11 N1 N2 N3 p0 p1 pz
  go_enter Try.func8, Try.ntmps8
  go_upto_region 1 with fail
  rw [HU.out]
  go_wp2_with fail
  refine (HFW.out _).mono ?_
  rintro _ w5 ⟨rfl, hb⟩
  have B5 := hid hb
  clear hb k0 k1 k2 k3 kl
  cases F
  · go_wp2_with fail
    refine (HAW.out _).mono ?_
    rintro _ w6 ⟨rfl, hb⟩
    have B6 := hid (bthen B5.out hb)
    clear hb
    go_wp2_with fail
    go_ret
    exact Gives.mk rfl (KK.out _ B6.out).1
  · obtain ⟨kb, kt, p0, p1, pz⟩ := KK.out _ B5.out
    have k0 := kt.c0
    have k1 := kt.c1
    have k2 := kt.c2
    have k3 := kt.c3
    have kl := kt.lt
    have R5 := hid (HCK.out _ kb)
    clear kb kt
    go_wp2_with fail
    refine R5.out.mono ?_
    rintro _ w6 ⟨rfl, hb⟩
    have B6 := hid (bthen B5.out hb)
    clear hb k0 k1 k2 k3 kl p0 p1 pz R5
    by_cases cE : E = 0
    · subst cE
      obtain ⟨kb, kt, p0, p1, pz⟩ := KK.out _ B6.out
      have k0 := kt.c0
      have k1 := kt.c1
      have k2 := kt.c2
      have k3 := kt.c3
      have kl := kt.lt
      have R6 := hid (HHH.out (by first | rfl | trivial) _ kb)
      clear kb kt
      go_wp2_with fail
      refine R6.out.mono ?_
      rintro _ w7 ⟨rfl, hb⟩
      obtain ⟨V7, hV7⟩ : ∃ V7, w7.alloc (Obj.cells #[.int .i64 n, .int .i64 d] 30) = V7 := ⟨_, rfl⟩
      have B7 : Below U.heap.size U V7 := bthen B6.out (bthen hb (by rw [← hV7]; exact balloc _ _))
      have f0 : V7.cell? ⟨w7.heap.size, 0, none⟩ = some (.int .i64 n) := by rw [← hV7]; simp [go_sem]
      have f1 : V7.cell? ⟨w7.heap.size, 1, none⟩ = some (.int .i64 d) := by rw [← hV7]; simp [go_sem]
      have fz : w7.heap.size < V7.heap.size := by rw [← hV7]; simp
      have KF := hid (fun (W : World) (hw : Below V7.heap.size V7 W) => (⟨(KK.out W (bthen B7 hw)).1, (KK.out W (bthen B7 hw)).2.1, (KK.out W (bthen B7 hw)).2.2.1, (KK.out W (bthen B7 hw)).2.2.2.1, (hw.cell (p := ⟨w7.heap.size, 0, none⟩) fz).trans f0, (hw.cell (p := ⟨w7.heap.size, 1, none⟩) fz).trans f1⟩ :
        Below w.heap.size w W ∧ TrAt W w.heap.size c r k A z.length cap ∧ W.cell? ⟨w.heap.size + 1, 0, none⟩ = some (.int .i64 px) ∧ W.cell? ⟨w.heap.size + 1, 1, none⟩ = some (.int .i64 py) ∧ W.cell? ⟨w7.heap.size, 0, none⟩ = some (.int .i64 n) ∧ W.cell? ⟨w7.heap.size, 1, none⟩ = some (.int .i64 d)))
      have HV7 := hid hV7
      have HB7 := hid B7
      clear hb k0 k1 k2 k3 kl p0 p1 pz hV7 B7 f0 f1 fz
      go_upto_region 4 with fail
      rw [HV7.out]
      by_cases ce : e = 0
      · subst ce
        obtain ⟨⟨e1, e2, e3, e4, e5, e6, e7, e8, e9, e10, e11, e12, e13, e14⟩, ⟨g1, g2, g3, g4, g5, g6, g7, g8, g9, g10, g11, g12⟩, ⟨u0, u1, u2, u3⟩, ⟨mlo, mhi⟩, fk, flo, fhi⟩ := HN.out (by first | rfl | trivial) (by first | rfl | trivial)
        have A00 := hid (HA0.out (by first | rfl | trivial) (by first | rfl | trivial))
        have A10 := hid (HA1.out (by first | rfl | trivial) (by first | rfl | trivial))
        have A01 := hid (HA2.out (by first | rfl | trivial) (by first | rfl | trivial))
        have A11 := hid (HA3.out (by first | rfl | trivial) (by first | rfl | trivial))
        have N1 := hid (HN1.out (by first | rfl | trivial) (by first | rfl | trivial))
        have N2 := hid (HN2.out (by first | rfl | trivial) (by first | rfl | trivial))
        have N3 := hid (HN3.out (by first | rfl | trivial) (by first | rfl | trivial))
        have FL := hid (fun W => ffloor_any n d fk W)
        have CE := hid (fun W => fceil_any n d fk W)
        have HFL := hid flo
        have HCE := hid fhi
        have HR := hid g12
        have kz : ¬ k = 0 := by omega
        have ky : (k == 0) = false := by simp; omega
        have x1 : IntKind.i64.wrap q1 = q1 := pi64 _ (by omega)
        have x2 : IntKind.i64.wrap q2 = q2 := pi64 _ (by omega)
        have x3 : IntKind.i64.wrap (c - 2) = c - 2 := pi64 _ (by omega)
        have x4 : IntKind.i64.wrap (r - 2) = r - 2 := pi64 _ (by omega)
        have y1 : wrap64 C1 = C1 := pw64 _ (by omega)
        have y2 : wrap64 R1 = R1 := pw64 _ (by omega)
        have y3 : wrap64 m1 = m1 := pw64 _ (by omega)
        have y4 : wrap64 m2 = m2 := pw64 _ (by omega)
        have y5 : wrap64 m = m := pw64 _ (by omega)
        have y6 : wrap64 X2 = X2 := pw64 _ (by omega)
        have y7 : wrap64 Y2 = Y2 := pw64 _ (by omega)
        have y8 : wrap64 (v3 + v2) = v3 + v2 := pw64 _ (by omega)
        have y9 : wrap64 ρ = ρ := pw64 _ (by omega)
        have YY := hid (⟨⟨e7, e8, e9, e10, e11⟩, ⟨e12, e13, e14⟩, ⟨y1, y2, y3, y4, y5⟩, y6, y7, y8, y9⟩ : (C + 1 = C1 ∧ R + 1 = R1 ∧ C * k = m1 ∧ R * k = m2 ∧ k.tdiv 2 = m) ∧ (m1 + m = X2 ∧ R1 * k = Y2 ∧ k.tmod 2 = ρ) ∧ (wrap64 C1 = C1 ∧ wrap64 R1 = R1 ∧ wrap64 m1 = m1 ∧ wrap64 m2 = m2 ∧ wrap64 m = m) ∧ wrap64 X2 = X2 ∧ wrap64 Y2 = Y2 ∧ wrap64 (v3 + v2) = v3 + v2 ∧ wrap64 ρ = ρ)
        have ML := hid mlo
        have MH := hid mhi
        clear HN HA0 HA1 HA2 HA3 HN1 HN2 HN3 g1 g2 g3 g4 g5 g6 g7 g8 g9 g10 g11 g12 u0 u1 u2 u3 mlo mhi fk flo fhi y1 y2 y3 y4 y5 y6 y7 y8 y9 e7 e8 e9 e10 e11 e12 e13 e14 HHH HCK R6
        obtain ⟨kb, kt, p0, p1, f0, f1⟩ := KF.out _ (Below.refl _ _)
        have k0 := kt.c0
        have k1 := kt.c1
        have k2 := kt.c2
        clear kb kt f0 f1
        go_upto_region 6 with fail
        go_still (by rfl)
        refine (show ∀ (K : Act → World → Prop) a, K a V7.drew → K a { V7 with drawn := V7.drawn + 1 } from fun K a h => h) _ _ ?_
        have hD : Below V7.heap.size V7 V7.drew := (Below.refl _ _).drew
        have BD := hid hD
        clear k0 k1 k2 p0 p1 e1 e2 e3 e4 e5 e6 x1 x2 x3 x4 hD
        generalize V7.drew = X at BD ⊢
        obtain ⟨kb, kt, p0, p1, f0, f1⟩ := KF.out _ BD.out
        have C00 := hid (A00.out X kb kt)
        have C10 := hid (A10.out X kb kt)
        have C01 := hid (A01.out X kb kt)
        have C11 := hid (A11.out X kb kt)
        obtain ⟨⟨e7, e8, -, -, -⟩, -, ⟨y1, y2, -, -, -⟩, -⟩ := YY.out
        have MI := fun W => min4_run v0 v1 v3 v2 W
        have MA := fun W => max4b_run v0 v1 v3 v2 W
        simp only [ML.out] at MI
        simp only [MH.out] at MA
        clear kb kt p0 p1
        go_wp2_with fail
        refine C00.out.mono ?_
        rintro _ _ ⟨rfl, rfl⟩
        go_wp2_with fail
        refine C10.out.mono ?_
        rintro _ _ ⟨rfl, rfl⟩
        go_wp2_with fail
        refine C01.out.mono ?_
        rintro _ _ ⟨rfl, rfl⟩
        go_wp2_with fail
        refine C11.out.mono ?_
        rintro _ _ ⟨rfl, rfl⟩
        go_wp2_with fail
        refine C00.out.mono ?_
        rintro _ _ ⟨rfl, rfl⟩
        go_wp2_with fail
        refine C10.out.mono ?_
        rintro _ _ ⟨rfl, rfl⟩
        go_wp2_with fail
        refine C01.out.mono ?_
        rintro _ _ ⟨rfl, rfl⟩
        go_wp2_with fail
        refine C11.out.mono ?_
        rintro _ _ ⟨rfl, rfl⟩
        clear C00 C10 C01 C11 e7 e8 y1 y2
        go_wp2_with fail
        refine (FL.out _).mono ?_
        rintro _ w8 ⟨rfl, hb⟩
        have B8 := hid (bthen BD.out hb)
        clear hb f0 f1 MI MA
        have dl : decide (n / d < lo) = false := decide_eq_false (by have := HFL.out; omega)
        have dh : decide (hi < -((-n) / d)) = false := decide_eq_false (by have := HCE.out; omega)
        obtain ⟨fv, hfv⟩ : ∃ fv, n / d = fv := ⟨_, rfl⟩
        obtain ⟨cv, hcv⟩ : ∃ cv, -((-n) / d) = cv := ⟨_, rfl⟩
        rw [hfv] at dl ⊢
        have CE2 := CE.out
        simp only [hcv] at CE2
        rw [hcv] at dh
        have CE3 := hid CE2
        obtain ⟨kb, kt, p0, p1, f0, f1⟩ := KF.out _ B8.out
        clear hfv hcv CE2 CE kb kt p0 p1
        go_wp2_with fail
        refine (CE3.out _).mono ?_
        rintro _ w9 ⟨rfl, hb⟩
        have B9 := hid (bthen B8.out hb)
        clear hb f0 f1
        obtain ⟨kb, kt, p0, p1, f0, f1⟩ := KF.out _ B9.out
        have H9 := hid (N1.out w9 kb)
        have k0 := kt.c0
        have k1 := kt.c1
        have k2 := kt.c2
        have k3 := kt.c3
        have kl := kt.lt
        obtain ⟨⟨-, -, e9, e10, -⟩, -, ⟨-, -, y3, y4, -⟩, -⟩ := YY.out
        clear kb kt p0 p1 f0 f1
        go_wp2_with fail
        refine H9.out.mono ?_
        rintro _ w10 ⟨rfl, hb⟩
        obtain ⟨V10, hV10⟩ : ∃ V10, w10.alloc (Obj.cells #[.int .i64 v0, .int .i64 1] 30) = V10 := ⟨_, rfl⟩
        have B10 := hid (show Below V7.heap.size V7 V10 from bthen B9.out (bthen hb (by rw [← hV10]; exact balloc _ _)))
        have h0 : V10.cell? ⟨w10.heap.size, 0, none⟩ = some (.int .i64 v0) := by rw [← hV10]; simp [go_sem]
        have h1 : V10.cell? ⟨w10.heap.size, 1, none⟩ = some (.int .i64 1) := by rw [← hV10]; simp [go_sem]
        have hz : w10.heap.size < V10.heap.size := by rw [← hV10]; simp
        have HV10 := hid hV10
        clear hb k0 k1 k2 k3 kl e9 e10 y3 y4 hV10 H9
        have BX := hid (B10.out.drew)
        have C00 := hid (A00.out V10.drew (KF.out _ BX.out).1 (KF.out _ BX.out).2.1)
        go_upto_region 12 with fail
        rw [HV10.out]
        refine wp_region_still_lit (by rfl) (by kernel_rfl) ?_
        still_step
        still_step
        still_step
        still_step
        still_step
        still_step
        still_step
        still_call C00.out
        repeat still_step
        refine wpStill_nil ?_
        refine (show ∀ (K : Act → World → Prop) a, K a V10.drew → K a { V10 with drawn := V10.drawn + 1 } from fun K a h => h) _ _ ?_
        clear h0 h1 hz C00
        generalize V10.drew = Y at BX ⊢
        obtain ⟨kb, kt, p0, p1, f0, f1⟩ := KF.out _ BX.out
        have k0 := kt.c0
        have k1 := kt.c1
        have k2 := kt.c2
        have k3 := kt.c3
        have kl := kt.lt
        have KB := hid kb
        obtain ⟨⟨e7, e8, e9, -, e11⟩, ⟨e12, e13, e14⟩, ⟨y1, y2, y3, -, y5⟩, y6, y7, y8, y9⟩ := YY.out
        clear kb p0 p1 f0 f1
        rcases HR.out with hr | hr
        · have r1 : (ρ == 1) = false := by simp; omega
          have H11 := hid (N2.out hr Y KB.out)
          have T11 := hid kt
          clear kt hr HR
          go_wp2_with fail
          refine H11.out.mono ?_
          rintro _ w11 ⟨rfl, hb⟩
          obtain ⟨V11, hV11⟩ : ∃ V11, w11.alloc (Obj.cells #[.int .i64 a, .int .i64 b] 30) = V11 := ⟨_, rfl⟩
          have B11 := hid (show Below V7.heap.size V7 V11 from bthen BX.out (bthen hb (by rw [← hV11]; exact balloc _ _)))
          have h0 : V11.cell? ⟨w11.heap.size, 0, none⟩ = some (.int .i64 a) := by rw [← hV11]; simp [go_sem]
          have h1 : V11.cell? ⟨w11.heap.size, 1, none⟩ = some (.int .i64 b) := by rw [← hV11]; simp [go_sem]
          have hz : w11.heap.size < V11.heap.size := by rw [← hV11]; simp
          have HV11 := hid hV11
          clear hb k0 k1 k2 k3 kl e9 e11 e12 e13 e14 y3 y5 y6 y7 y9 hV11 H11 T11 KB r1
          have C01 := hid (A01.out V11 (KF.out _ B11.out).1 (KF.out _ B11.out).2.1)
          have C11 := hid (A11.out V11 (KF.out _ B11.out).1 (KF.out _ B11.out).2.1)
          have HZ := hid hz
          have H0 := hid h0
          have H1 := hid h1
          clear hz h0 h1
          go_upto_region 17 with fail
          rw [HV11.out]
          go_wp2_with fail
          refine C01.out.mono fun _ wq q => ?_
          obtain ⟨rfl, hq⟩ := q
          rw [hq]
          clear hq wq
          go_wp2_with fail
          refine C11.out.mono fun _ wq q => ?_
          obtain ⟨rfl, hq⟩ := q
          rw [hq]
          clear hq wq
          go_wp2_with fail
          refine (N3.out _).mono ?_
          rintro _ w12 ⟨rfl, hb⟩
          obtain ⟨V12, hV12⟩ : ∃ V12, w12.alloc (Obj.cells #[.int .i64 a, .int .i64 b] 30) = V12 := ⟨_, rfl⟩
          have kb : Below V11.heap.size V11 V12 := bthen hb (by rw [← hV12]; exact balloc _ _)
          have B12 := hid (bthen B11.out kb)
          have g0 : V12.cell? ⟨w11.heap.size, 0, none⟩ = some (.int .i64 a) := (kb.cell (p := ⟨w11.heap.size, 0, none⟩) HZ.out).trans H0.out
          have g1 : V12.cell? ⟨w11.heap.size, 1, none⟩ = some (.int .i64 b) := (kb.cell (p := ⟨w11.heap.size, 1, none⟩) HZ.out).trans H1.out
          have h0 : V12.cell? ⟨w12.heap.size, 0, none⟩ = some (.int .i64 a) := by rw [← hV12]; simp [go_sem]
          have h1 : V12.cell? ⟨w12.heap.size, 1, none⟩ = some (.int .i64 b) := by rw [← hV12]; simp [go_sem]
          have HV12 := hid hV12
          clear hb hV12 kb e7 e8 y1 y2 y8
          go_upto_region 18 with fail
          rw [HV12.out]
          go_wp2_with fail
          refine (HAW.out _).mono ?_
          rintro _ w13 ⟨rfl, hb⟩
          have B13 := hid (bthen B12.out hb)
          clear hb g0 g1 h0 h1
          go_wp2_with fail
          go_ret
          exact Gives.mk rfl (KF.out _ B13.out).1
        · have r1 : (ρ == 1) = true := by simp; omega
          clear kt hr HR
          go_wp2_with fail
          refine (HAW.out _).mono ?_
          rintro _ w11 ⟨rfl, hb⟩
          have B11 := hid (bthen BX.out hb)
          clear hb
          go_wp2_with fail
          go_ret
          exact Gives.mk rfl (KF.out _ B11.out).1
      · have hn : (e == 0) = false := by simpa using ce
        go_wp2_with fail
        refine (HAW.out _).mono ?_
        rintro _ w8 ⟨rfl, hb⟩
        have B8 := hid (bthen HB7.out hb)
        clear hb
        go_wp2_with fail
        go_ret
        exact Gives.mk rfl (KK.out _ B8.out).1
    · have hn : (E == 0) = false := by simpa using cE
      go_wp2_with fail
      refine (HAW.out _).mono ?_
      rintro _ w7 ⟨rfl, hb⟩
      have B7 := hid (bthen B6.out hb)
      clear hb
      go_wp2_with fail
      go_ret
      exact Gives.mk rfl (KK.out _ B7.out).1
/-- What the law needs to know about a point of the grid. -/
theorem Sp.btw {c r k px py : Int} {z : List Int} (hE : Sp.terE c r k z = 0) (he : (Sp.heightS c r k z px py).2.2 = 0) :
    ((2 ≤ c ∧ c ≤ 16) ∧ (2 ≤ r ∧ r ≤ 16) ∧ (1 ≤ k ∧ k ≤ 1000) ∧ (z.length : Int) = c * r ∧ ∀ v ∈ z, 0 ≤ v ∧ v ≤ 50000) ∧ (0 ≤ px ∧ px ≤ (c - 1) * k) ∧ (0 ≤ py ∧ py ≤ (r - 1) * k) ∧ (Sp.heightS c r k z px py).1 = (Sp.hgt z c r k px py).1 ∧ (Sp.heightS c r k z px py).2.1 = (Sp.hgt z c r k px py).2.1 := by
  have g := Sp.terE_zero hE
  unfold Sp.heightS at he ⊢
  by_cases h : Sp.ptsE c r k z [(px, py)] = 0
  · obtain ⟨-, h1, h2⟩ := Sp.ptsE_one h
    rw [if_neg (by simp [h])]
    exact ⟨g, h1, h2, rfl, rfl⟩
  · rw [if_pos h] at he
    exact absurd he h
theorem Sp.onE_in {X Y px py : Int} (h0 : 0 ≤ px) (h1 : px ≤ X) (h2 : 0 ≤ py) (h3 : py ≤ Y) : Sp.onE X Y [(px, py)] = 0 := by
  unfold Sp.onE
  rw [if_neg (by simp [h0, h1]), if_neg (by simp [h2, h3])]
  rfl
theorem Sp.heightS_on {c r k px py x y : Int} {z : List Int} (hE : Sp.terE c r k z = 0) (h0 : 0 ≤ px) (h1 : px ≤ (c - 1) * k) (h2 : 0 ≤ py) (h3 : py ≤ (r - 1) * k) (h : Sp.hgt z c r k px py = (x, y, 0)) : Sp.heightS c r k z px py = (x, y, 0) := by
  unfold Sp.heightS Sp.ptsE
  rw [if_neg (by simp [hE, Sp.onE_in h0 h1 h2 h3]), h]
theorem tbtw_as (px py : Int) (_ : -9223372036854775808 ≤ px) (_ : px ≤ 9223372036854775807) (_ : -9223372036854775808 ≤ py) (_ : py ≤ 9223372036854775807) (A : Option Addr) (cap : Nat) (c r k : Int) (z : List Int) (w : World) (hl : z.length ≤ 140737488355328) (hT : Ints w A z) :
    Calls Try.prog 8 #[.agg #[.int .i64 c, .int .i64 r, .int .i64 k, .slice A z.length cap], .agg #[.int .i64 px, .int .i64 py]] w (Gives (.bool true) w) := by
  obtain ⟨q1, hq1⟩ : ∃ q1, px.tdiv k = q1 := ⟨_, rfl⟩
  obtain ⟨q2, hq2⟩ : ∃ q2, py.tdiv k = q2 := ⟨_, rfl⟩
  obtain ⟨C, hC⟩ : ∃ C, min q1 (c - 2) = C := ⟨_, rfl⟩
  obtain ⟨R, hR⟩ : ∃ R, min q2 (r - 2) = R := ⟨_, rfl⟩
  obtain ⟨m, hm⟩ : ∃ m, k.tdiv 2 = m := ⟨_, rfl⟩
  obtain ⟨v0, hv0⟩ : ∃ v0, Sp.hz z (R * c + C) = v0 := ⟨_, rfl⟩
  obtain ⟨v1, hv1⟩ : ∃ v1, Sp.hz z (R * c + C + 1) = v1 := ⟨_, rfl⟩
  obtain ⟨v2, hv2⟩ : ∃ v2, Sp.hz z (R * c + C + c + 1) = v2 := ⟨_, rfl⟩
  obtain ⟨v3, hv3⟩ : ∃ v3, Sp.hz z (R * c + C + c) = v3 := ⟨_, rfl⟩
  obtain ⟨lo, hlo⟩ : ∃ lo, min (min (min v0 v1) v3) v2 = lo := ⟨_, rfl⟩
  obtain ⟨hi, hhi⟩ : ∃ hi, max (max (max v0 v1) v3) v2 = hi := ⟨_, rfl⟩
  have FC := fun (hE : Sp.terE c r k z = 0) (he : (Sp.heightS c r k z px py).2.2 = 0) => (show (0 ≤ q1 ∧ q1 ≤ 20000) ∧ (0 ≤ q2 ∧ q2 ≤ 20000) ∧ (0 ≤ C ∧ C ≤ c - 2) ∧ (0 ≤ R ∧ R ≤ r - 2) ∧ (0 ≤ C * k ∧ C * k ≤ 20000) ∧ (0 ≤ R * k ∧ R * k ≤ 20000) from by
    obtain ⟨⟨g1, g2, g3, g4, g5⟩, ⟨x0, x1⟩, ⟨y0, y1⟩, -, -⟩ := Sp.btw hE he
    obtain ⟨a1, a2, a3, a4, a5⟩ := Sp.cell1 g3.1 g3.2 g1.1 g1.2 x0 x1
    obtain ⟨b1, b2, b3, b4, b5⟩ := Sp.cell1 g3.1 g3.2 g2.1 g2.2 y0 y1
    rw [hq1] at a1 a2 a3 a4
    rw [hq2] at b1 b2 b3 b4
    rw [hC] at a2 a3 a4
    rw [hR] at b2 b3 b4
    exact ⟨a1, b1, ⟨a2, a3⟩, ⟨b2, b3⟩, a4, b4⟩)
  have AT := fun (hE : Sp.terE c r k z = 0) (he : (Sp.heightS c r k z px py).2.2 = 0) (x y v : Int) (hx : 0 ≤ x ∧ x ≤ c - 1) (hy : 0 ≤ y ∧ y ≤ r - 1) (hv : Sp.hz z (y * c + x) = v) (W : World) (hb : Below w.heap.size w W) (tr : TrAt W w.heap.size c r k A z.length cap) => (show Calls Try.prog 31 #[.int .i64 x, .int .i64 y, .pointer (some ⟨w.heap.size, 0, none⟩)] W (fun e w' => e = .returned (.int .i64 v) ∧ w' = W) from by
    obtain ⟨⟨g1, g2, g3, g4, g5⟩, -⟩ := Sp.btw hE he
    have P : c * r ≤ 16 * 16 := Int.mul_le_mul g1.2 g2.2 (by omega) (by omega)
    have M0 : 0 ≤ y * c := Int.mul_nonneg hy.1 (by omega)
    have M1 : (y + 1) * c ≤ r * c := Int.mul_le_mul_of_nonneg_right (by omega) (by omega)
    rw [Int.add_mul, Int.one_mul, Int.mul_comm r c] at M1
    exact tat_any A cap c r k z w.heap.size x y (y * c) (y * c + x).toNat v W rfl (by omega) ⟨M0, by omega⟩ (by omega) (by omega) (by rw [← hv]; congr 1; omega) (hT.below hb) tr)
  have nw : ∃ a b : Int, Sp.terE c r k z = 0 → (Sp.heightS c r k z px py).2.2 = 0 → Sp.newS (v3 + v2) 2 = (a, b, 0) := by
    by_cases q : 0 ≤ v3 + v2 ∧ v3 + v2 ≤ 1000000000000000
    · obtain ⟨g, x, y, e, -⟩ := Sp.newS_nn q.1 q.2 (show (1 : Int) ≤ 2 by omega) (by omega)
      exact ⟨x, y, fun _ _ => e⟩
    · refine ⟨0, 0, fun hE he => ?_⟩
      obtain ⟨⟨g1, g2, g3, g4, g5⟩, -⟩ := Sp.btw hE he
      have z2 := Sp.hz_in g5 (R * c + C + c + 1)
      have z3 := Sp.hz_in g5 (R * c + C + c)
      omega
  obtain ⟨a, b, hab⟩ := nw
  refine tbtw_walk A cap c r k z px py _ _ _ (Sp.terE c r k z) q1 q2 C R (C + 1) (R + 1) (C * k) (R * k) m (C * k + m) ((R + 1) * k) v0 v1 v2 v3 lo hi a b (k.tmod 2) (decide ((z.length : Int) ≤ 300)) w
    tawake_any (fun W => rfew_any A cap c r k z W) (fun W hb => rcheck_any A cap c r k z W hl (hT.below hb)) (fun hE W hb => tHeight_any A cap c r k z px py (Sp.heightS c r k z px py).1 (Sp.heightS c r k z px py).2.1 (Sp.heightS c r k z px py).2.2 W hl (hT.below hb) rfl) ?_ ?_ ?_ ?_ ?_ ?_ ?_ ?_
  · intro hE he
    obtain ⟨⟨g1, g2, g3, g4, g5⟩, ⟨x0, x1⟩, ⟨y0, y1⟩, n1, n2⟩ := Sp.btw hE he
    obtain ⟨f1, f2, f3, f4, f5, f6⟩ := FC hE he
    have z0 := Sp.hz_in g5 (R * c + C)
    have z1 := Sp.hz_in g5 (R * c + C + 1)
    have z2 := Sp.hz_in g5 (R * c + C + c + 1)
    have z3 := Sp.hz_in g5 (R * c + C + c)
    rw [hv0] at z0
    rw [hv1] at z1
    rw [hv2] at z2
    rw [hv3] at z3
    obtain ⟨x, y, q1', q2', -, -, q5, q6⟩ := Sp.hgt_between (lo := lo) (hi := hi) g1 g2 g3 g5 x0 x1 y0 y1 (by rw [hq1]; exact hC) (by rw [hq2]; exact hR) hv0 hv1 hv2 hv3 (by omega) (by omega) (by omega) (by omega) (by omega) (by omega) (by omega) (by omega)
    rw [n1, n2, q1']
    simp only
    unfold Sp.floorF at q5
    unfold Sp.ceilF at q6
    rw [if_neg (by omega)] at q5 q6
    have e1 : (R + 1) * k = R * k + k := by rw [Int.add_mul, Int.one_mul]
    have md : k.tmod 2 = k % 2 := Int.tmod_eq_emod_of_nonneg (by omega)
    have dv : k.tdiv 2 = k / 2 := Int.tdiv_eq_ediv_of_nonneg (by omega)
    exact ⟨⟨by omega, by omega, hq1, hq2, hC, hR, by trivial, by trivial, by trivial, by trivial, hm, by trivial, by trivial, by trivial⟩, ⟨g1, g2, g3, f1, f2, ⟨f3.1, by omega⟩, ⟨f4.1, by omega⟩, f5, f6, by omega, by omega, by omega⟩, ⟨z0, z1, z2, z3⟩, ⟨hlo, hhi⟩, q2', q5, q6⟩
  · intro hE he W hb tr
    obtain ⟨f1, f2, f3, f4, f5, f6⟩ := FC hE he
    exact AT hE he C R v0 ⟨f3.1, by omega⟩ ⟨f4.1, by omega⟩ hv0 W hb tr
  · intro hE he W hb tr
    obtain ⟨f1, f2, f3, f4, f5, f6⟩ := FC hE he
    exact AT hE he (C + 1) R v1 ⟨by omega, by omega⟩ ⟨f4.1, by omega⟩ (by rw [← hv1]; congr 1; omega) W hb tr
  · intro hE he W hb tr
    obtain ⟨f1, f2, f3, f4, f5, f6⟩ := FC hE he
    exact AT hE he C (R + 1) v3 ⟨f3.1, by omega⟩ ⟨by omega, by omega⟩ (by rw [← hv3, Int.add_mul, Int.one_mul]; congr 1; omega) W hb tr
  · intro hE he W hb tr
    obtain ⟨f1, f2, f3, f4, f5, f6⟩ := FC hE he
    exact AT hE he (C + 1) (R + 1) v2 ⟨by omega, by omega⟩ ⟨by omega, by omega⟩ (by rw [← hv2, Int.add_mul, Int.one_mul]; congr 1; omega) W hb tr
  · intro hE he W hb
    obtain ⟨⟨g1, g2, g3, g4, g5⟩, -⟩ := Sp.btw hE he
    obtain ⟨f1, f2, f3, f4, f5, f6⟩ := FC hE he
    have c1 : C * k ≤ (c - 1) * k := Int.mul_le_mul_of_nonneg_right (by omega) (by omega)
    have c2 : R * k ≤ (r - 1) * k := Int.mul_le_mul_of_nonneg_right (by omega) (by omega)
    exact tHeight_any A cap c r k z (C * k) (R * k) v0 1 0 W hl (hT.below hb) (Sp.heightS_on hE f5.1 c1 f6.1 c2 (Sp.hgt_node g1 g2 g3 g5 f3.1 f3.2 f4.1 f4.2 hv0))
  · intro hE he hr W hb
    obtain ⟨⟨g1, g2, g3, g4, g5⟩, -⟩ := Sp.btw hE he
    obtain ⟨f1, f2, f3, f4, f5, f6⟩ := FC hE he
    have md : k.tmod 2 = k % 2 := Int.tmod_eq_emod_of_nonneg (by omega)
    have dv : k.tdiv 2 = k / 2 := Int.tdiv_eq_ediv_of_nonneg (by omega)
    have c1 : (C + 1) * k ≤ (c - 1) * k := Int.mul_le_mul_of_nonneg_right (by omega) (by omega)
    have c2 : (R + 1) * k ≤ (r - 1) * k := Int.mul_le_mul_of_nonneg_right (by omega) (by omega)
    have c3 : (C + 1) * k = C * k + k := by rw [Int.add_mul, Int.one_mul]
    have c4 : 0 ≤ (R + 1) * k := Int.mul_nonneg (by omega) (by omega)
    exact tHeight_any A cap c r k z (C * k + m) ((R + 1) * k) a b 0 W hl (hT.below hb) (Sp.heightS_on hE (by omega) (by omega) c4 c2 ((Sp.hgt_half g1 g2 g3 (by omega) g5 f3.1 f3.2 f4.1 f4.2 hv2 hv3).trans (hab hE he)))
  · intro hE he W
    obtain ⟨⟨g1, g2, g3, g4, g5⟩, -⟩ := Sp.btw hE he
    have z2 := Sp.hz_in g5 (R * c + C + c + 1)
    have z3 := Sp.hz_in g5 (R * c + C + c)
    exact fnew_any (v3 + v2) 2 (by omega) (by omega) (by omega) (by omega) a b 0 (hab hE he) W
end Go.Proofs.Ytmdaanigkhikfaa
