/-
  Layer 15: height of couperef15, by contract.
-/
import Derived.Test.YtadicbpfbhpooaaTyd
import Derived.Test.YtadicbpfbhpooaaFnewsa
namespace Go.Proofs.Ytadicbpfbhpooaa
open Go.RowKit
set_option linter.unusedVariables false
set_option linter.unusedSimpArgs false
set_option maxRecDepth 100000 in
set_option maxHeartbeats 1000000 in
theorem rheight_walk (A : Option Addr) (cap : Nat) (c r k : Int) (z : List Int) (px py q1 q2 col row m1 m2 u v a b v0 v1 v2 v3 t1 t2 t3 t4 t5 t6 t7 t8 N D n d e : Int) (w : World)
    (h1 : px.tdiv k = q1) (h2 : min q1 (c - 2) = col) (h3 : py.tdiv k = q2) (h4 : min q2 (r - 2) = row) (h5 : col * k = m1) (h6 : px - m1 = u) (h7 : row * k = m2) (h8 : py - m2 = v) (h9 : k - u = a) (h10 : k - v = b)
    (g1 : v0 * a = t1) (g2 : t1 * b = t2) (g3 : v1 * u = t3) (g4 : t3 * b = t4) (g5 : v2 * a = t5) (g6 : t5 * v = t6) (g7 : v3 * u = t7) (g8 : t7 * v = t8) (g9 : t2 + t4 + t6 + t8 = N) (g10 : k * k = D)
    (bc : 2 ≤ c ∧ c ≤ 16) (br : 2 ≤ r ∧ r ≤ 16) (bk : 1 ≤ k ∧ k ≤ 1000) (bq1 : 0 ≤ q1 ∧ q1 ≤ 20000) (bq2 : 0 ≤ q2 ∧ q2 ≤ 20000) (bm1 : 0 ≤ m1 ∧ m1 ≤ 20000) (bm2 : 0 ≤ m2 ∧ m2 ≤ 20000) (bu : 0 ≤ u ∧ u ≤ k) (bv : 0 ≤ v ∧ v ≤ k)
    (a1 : 0 ≤ t1 ∧ t1 ≤ 100000000) (a2 : 0 ≤ t2 ∧ t2 ≤ 1000000000000) (a3 : 0 ≤ t3 ∧ t3 ≤ 100000000) (a4 : 0 ≤ t4 ∧ t4 ≤ 1000000000000) (a5 : 0 ≤ t5 ∧ t5 ≤ 100000000) (a6 : 0 ≤ t6 ∧ t6 ≤ 1000000000000) (a7 : 0 ≤ t7 ∧ t7 ≤ 100000000) (a8 : 0 ≤ t8 ∧ t8 ≤ 1000000000000) (a9 : 0 ≤ D ∧ D ≤ 1000000)
    (co : ∀ W, Below w.heap.size w W → Calls Try.prog 60 #[.agg #[.int .i64 c, .int .i64 r, .int .i64 k, .slice A z.length cap], .int .i64 col, .int .i64 row] W (Gives (.agg #[.int .i64 v0, .int .i64 v1, .int .i64 v2, .int .i64 v3]) W))
    (ne : ∀ W, Calls Try.prog 68 #[.int .i64 N, .int .i64 D] W (Gives (.tuple #[.agg #[.int .i64 n, .int .i64 d], .int .i64 e]) W)) :
    Calls Try.prog 44 #[.agg #[.int .i64 c, .int .i64 r, .int .i64 k, .slice A z.length cap], .agg #[.int .i64 px, .int .i64 py]] w (Gives (.agg #[.int .i64 n, .int .i64 d]) w) := by
  have VB : TrAt (((w.alloc (Obj.cells #[.int .i64 c, .int .i64 r, .int .i64 k, .slice A z.length cap] 24)).alloc (.cells #[.int .i64 px, .int .i64 py] 26)).alloc (Obj.cells #[.int .i64 0, .int .i64 0] 30)) w.heap.size c r k A z.length cap := (trAt_new w c r k A z.length cap).below (bthen (balloc _ _) (balloc _ _))
  have bU : Below w.heap.size w (((w.alloc (Obj.cells #[.int .i64 c, .int .i64 r, .int .i64 k, .slice A z.length cap] 24)).alloc (.cells #[.int .i64 px, .int .i64 py] 26)).alloc (Obj.cells #[.int .i64 0, .int .i64 0] 30)) := bthen (balloc _ _) (bthen (balloc _ _) (balloc _ _))
  have p0 : (((w.alloc (Obj.cells #[.int .i64 c, .int .i64 r, .int .i64 k, .slice A z.length cap] 24)).alloc (.cells #[.int .i64 px, .int .i64 py] 26)).alloc (Obj.cells #[.int .i64 0, .int .i64 0] 30)).cell? ⟨w.heap.size + 1, 0, none⟩ = some (.int .i64 px) := by simp [go_sem]
  have p1 : (((w.alloc (Obj.cells #[.int .i64 c, .int .i64 r, .int .i64 k, .slice A z.length cap] 24)).alloc (.cells #[.int .i64 px, .int .i64 py] 26)).alloc (Obj.cells #[.int .i64 0, .int .i64 0] 30)).cell? ⟨w.heap.size + 1, 1, none⟩ = some (.int .i64 py) := by simp [go_sem]
  have r0 : (((w.alloc (Obj.cells #[.int .i64 c, .int .i64 r, .int .i64 k, .slice A z.length cap] 24)).alloc (.cells #[.int .i64 px, .int .i64 py] 26)).alloc (Obj.cells #[.int .i64 0, .int .i64 0] 30)).cell? ⟨w.heap.size + 1 + 1, 0, none⟩ = some (.int .i64 0) := by simp [go_sem]
  have r1 : (((w.alloc (Obj.cells #[.int .i64 c, .int .i64 r, .int .i64 k, .slice A z.length cap] 24)).alloc (.cells #[.int .i64 px, .int .i64 py] 26)).alloc (Obj.cells #[.int .i64 0, .int .i64 0] 30)).cell? ⟨w.heap.size + 1 + 1, 1, none⟩ = some (.int .i64 0) := by simp [go_sem]
  have rf : ∀ o, (((w.alloc (Obj.cells #[.int .i64 c, .int .i64 r, .int .i64 k, .slice A z.length cap] 24)).alloc (.cells #[.int .i64 px, .int .i64 py] 26)).alloc (Obj.cells #[.int .i64 0, .int .i64 0] 30)).frozen? ⟨w.heap.size + 1 + 1, o, none⟩ = false := fun o => by simp [go_sem]
  have rz : w.heap.size + 1 + 1 < (((w.alloc (Obj.cells #[.int .i64 c, .int .i64 r, .int .i64 k, .slice A z.length cap] 24)).alloc (.cells #[.int .i64 px, .int .i64 py] 26)).alloc (Obj.cells #[.int .i64 0, .int .i64 0] 30)).heap.size := by simp
  generalize hU : ((w.alloc (Obj.cells #[.int .i64 c, .int .i64 r, .int .i64 k, .slice A z.length cap] 24)).alloc (.cells #[.int .i64 px, .int .i64 py] 26)).alloc (Obj.cells #[.int .i64 0, .int .i64 0] 30) = U at VB bU p0 p1 r0 r1 rf rz
  have KK := hid (fun (W : World) (hb : Below U.heap.size U W) => (⟨bthen bU hb, VB.below hb, (hb.cell (p := ⟨w.heap.size + 1 + 1, 0, none⟩) rz).trans r0, (hb.cell (p := ⟨w.heap.size + 1 + 1, 1, none⟩) rz).trans r1, fun o => (hb.frozen (p := ⟨w.heap.size + 1 + 1, o, none⟩) rz).trans (rf o), Nat.lt_of_lt_of_le rz hb.size⟩ : Below w.heap.size w W ∧ TrAt W w.heap.size c r k A z.length cap ∧ W.cell? ⟨w.heap.size + 1 + 1, 0, none⟩ = some (.int .i64 0) ∧ W.cell? ⟨w.heap.size + 1 + 1, 1, none⟩ = some (.int .i64 0) ∧ (∀ o, W.frozen? ⟨w.heap.size + 1 + 1, o, none⟩ = false) ∧ w.heap.size + 1 + 1 < W.heap.size))
  have PP := hid (fun (W : World) (hb : Below U.heap.size U W) => (⟨(hb.cell (p := ⟨w.heap.size + 1, 0, none⟩) (by simp only; omega)).trans p0, (hb.cell (p := ⟨w.heap.size + 1, 1, none⟩) (by simp only; omega)).trans p1⟩ : W.cell? ⟨w.heap.size + 1, 0, none⟩ = some (.int .i64 px) ∧ W.cell? ⟨w.heap.size + 1, 1, none⟩ = some (.int .i64 py)))
  have CO := hid co
  have NE := hid ne
  have HU := hid hU
  have BU := hid bU
  have c0 := VB.c0
  have c1 := VB.c1
  have c2 := VB.c2
  have c3 := VB.c3
  have cl := VB.lt
  have kz : ¬ k = 0 := by omega
  have ky : (k == 0) = false := by simp; omega
  have x1 : IntKind.i64.wrap q1 = q1 := pi64 _ (by omega)
  have x2 : IntKind.i64.wrap q2 = q2 := pi64 _ (by omega)
  have x3 : IntKind.i64.wrap (c - 2) = c - 2 := pi64 _ (by omega)
  have x4 : IntKind.i64.wrap (r - 2) = r - 2 := pi64 _ (by omega)
  have x5 : IntKind.i64.wrap m1 = m1 := pi64 _ (by omega)
  have x6 : IntKind.i64.wrap m2 = m2 := pi64 _ (by omega)
  have x7 : IntKind.i64.wrap u = u := pi64 _ (by omega)
  have x8 : IntKind.i64.wrap v = v := pi64 _ (by omega)
  have x9 : IntKind.i64.wrap a = a := pi64 _ (by omega)
  have x10 : IntKind.i64.wrap b = b := pi64 _ (by omega)
  have y1 : wrap64 a = a := pw64 _ (by omega)
  have y2 : wrap64 b = b := pw64 _ (by omega)
  have z1 : wrap64 t1 = t1 := pw64 _ (by omega)
  have z2 : wrap64 t2 = t2 := pw64 _ (by omega)
  have z3 : wrap64 t3 = t3 := pw64 _ (by omega)
  have z4 : wrap64 t4 = t4 := pw64 _ (by omega)
  have z5 : wrap64 t5 = t5 := pw64 _ (by omega)
  have z6 : wrap64 t6 = t6 := pw64 _ (by omega)
  have z7 : wrap64 t7 = t7 := pw64 _ (by omega)
  have z8 : wrap64 t8 = t8 := pw64 _ (by omega)
  have z9 : wrap64 (t2 + t4) = t2 + t4 := pw64 _ (by omega)
  have z10 : wrap64 (t2 + t4 + t6) = t2 + t4 + t6 := pw64 _ (by omega)
  have z11 : wrap64 N = N := pw64 _ (by omega)
  have y12 : wrap64 D = D := pw64 _ (by omega)
  clear hU VB bU co ne bc br bk bq1 bq2 bm1 bm2 bu bv a1 a2 a3 a4 a5 a6 a7 a8 a9
  go_enter Try.func44, Try.ntmps44
  go_upto_region 1 with fail
  rw [HU.out]
  go_still (by rfl)
  refine (show ∀ (K : Act → World → Prop) a, K a U.drew → K a { U with drawn := U.drawn + 1 } from fun K a h => h) _ _ ?_
  have hD : Below U.heap.size U U.drew := (Below.refl _ _).drew
  obtain ⟨kb, kt, kr0, kr1, krf, krz⟩ := KK.out _ hD
  obtain ⟨kp0, kp1⟩ := PP.out _ hD
  have BV := hid hD
  clear c0 c1 c2 c3 cl p0 p1 r0 r1 rf rz hD
  generalize U.drew = V at BV kb kt kr0 kr1 krf krz kp0 kp1 ⊢
  have c0 := kt.c0
  have c1 := kt.c1
  have c2 := kt.c2
  have c3 := kt.c3
  have cl := kt.lt
  clear kt kb kr0 kr1 krf krz
  go_wp2_with fail
  go_still (by rfl)
  refine (show ∀ (K : Act → World → Prop) a, K a V.drew → K a { V with drawn := V.drawn + 1 } from fun K a h => h) _ _ ?_
  have hD : Below U.heap.size U V.drew := BV.out.drew
  obtain ⟨kb, kt, kr0, kr1, krf, krz⟩ := KK.out _ hD
  have BW := hid hD
  clear c0 c1 c2 c3 cl kp0 kp1 hD BV
  generalize V.drew = Y at BW kb kt kr0 kr1 krf krz ⊢
  have c0 := kt.c0
  have c1 := kt.c1
  have c2 := kt.c2
  have c3 := kt.c3
  have cl := kt.lt
  have KB := hid kb
  clear kt kb kr0 kr1 krf krz
  go_wp2_with fail
  refine (CO.out _ KB.out).mono ?_
  rintro _ w5 ⟨rfl, hb⟩
  have B5 := hid (bthen BW.out hb)
  clear hb c0 c1 c2 c3 cl
  obtain ⟨V5, hV5⟩ : ∃ V5, w5.alloc (.cells #[.int .i64 v0, .int .i64 v1, .int .i64 v2, .int .i64 v3] 76) = V5 := ⟨_, rfl⟩
  have f0 : V5.cell? ⟨w5.heap.size, 0, none⟩ = some (.int .i64 v0) := by rw [← hV5]; simp [go_sem]
  have f1 : V5.cell? ⟨w5.heap.size, 1, none⟩ = some (.int .i64 v1) := by rw [← hV5]; simp [go_sem]
  have f2 : V5.cell? ⟨w5.heap.size, 2, none⟩ = some (.int .i64 v2) := by rw [← hV5]; simp [go_sem]
  have f3 : V5.cell? ⟨w5.heap.size, 3, none⟩ = some (.int .i64 v3) := by rw [← hV5]; simp [go_sem]
  have fz : w5.heap.size < V5.heap.size := by rw [← hV5]; simp
  have HV5 := hid hV5
  have B6 := hid (show Below U.heap.size U V5 by rw [← hV5]; exact bthen B5.out (balloc _ _))
  clear hV5
  obtain ⟨-, kt, -, -, -, -⟩ := KK.out _ B6.out
  have c2 := kt.c2
  have cl := kt.lt
  clear kt
  go_upto_region 4 with fail
  rw [HV5.out]
  go_still (by rfl)
  refine (show ∀ (K : Act → World → Prop) a, K a V5.drew → K a { V5 with drawn := V5.drawn + 1 } from fun K a h => h) _ _ ?_
  have hD : Below V5.heap.size V5 V5.drew := (Below.refl _ _).drew
  have d0 := (hD.cell (p := ⟨w5.heap.size, 0, none⟩) fz).trans f0
  have d1 := (hD.cell (p := ⟨w5.heap.size, 1, none⟩) fz).trans f1
  have d2 := (hD.cell (p := ⟨w5.heap.size, 2, none⟩) fz).trans f2
  have d3 := (hD.cell (p := ⟨w5.heap.size, 3, none⟩) fz).trans f3
  have dz : w5.heap.size < V5.drew.heap.size := fz
  have B7 := hid (bthen B6.out hD)
  clear hD f0 f1 f2 f3 fz c2 cl
  generalize V5.drew = X at B7 d0 d1 d2 d3 dz ⊢
  obtain ⟨-, kt, -, -, -, -⟩ := KK.out _ B7.out
  have c2 := kt.c2
  have cl := kt.lt
  clear kt
  go_wp2_with fail
  refine (NE.out _).mono ?_
  rintro _ w6 ⟨rfl, hb⟩
  have B8 := hid (bthen B7.out hb)
  clear hb c2 cl d0 d1 d2 d3 dz
  obtain ⟨kb, -, r0, r1, rf, rz⟩ := KK.out _ B8.out
  have KB6 := hid kb
  have rn : ¬ w.heap.size + 1 + 1 = w6.heap.size := by omega
  clear kb
  go_wp2_with fail
  refine bodyPost_ret (v := .agg #[.int .i64 n, .int .i64 d]) (by simp [results, Try.results44, go_sem, r0, r1, rf, rz, rn]) rfl ?_
  exact Gives.mk rfl (by have hB := KB6.out; repeat' (first | (with_reducible exact Below.refl _ _) | (with_reducible refine Below.alloc ?_ ?_ _) | (with_reducible refine Below.setCell ?_ ?_ _) | (with_reducible refine Below.drew ?_) | (with_reducible refine below_dn ?_ _) | (with_reducible refine Below.trans ?_ (Below.mono (by assumption) ?_)) | (simp; done) | (simp; omega) | omega))
theorem rheight_any (A : Option Addr) (cap : Nat) (c r k : Int) (z : List Int) (px py n d e : Int) (w : World) (bc : 2 ≤ c ∧ c ≤ 16) (br : 2 ≤ r ∧ r ≤ 16) (bk : 1 ≤ k ∧ k ≤ 1000) (hl : (z.length : Int) = c * r) (hz : ∀ v ∈ z, 0 ≤ v ∧ v ≤ 50000) (x0 : 0 ≤ px) (x1 : px ≤ (c - 1) * k) (y0 : 0 ≤ py) (y1 : py ≤ (r - 1) * k) (hT : Ints w A z)
    (hv : Sp.hgt z c r k px py = (n, d, e)) : Calls Try.prog 44 #[.agg #[.int .i64 c, .int .i64 r, .int .i64 k, .slice A z.length cap], .agg #[.int .i64 px, .int .i64 py]] w (Gives (.agg #[.int .i64 n, .int .i64 d]) w) := by
  obtain ⟨a1, a2, a3, a4, a5⟩ := Sp.cell1 bk.1 bk.2 bc.1 bc.2 x0 x1
  obtain ⟨b1, b2, b3, b4, b5⟩ := Sp.cell1 bk.1 bk.2 br.1 br.2 y0 y1
  have CO := fun W (hb : Below w.heap.size w W) => rcorners_any A cap c r k z (min (px.tdiv k) (c - 2)) (min (py.tdiv k) (r - 2)) W bc br hl a2 a3 b2 b3 (hT.below hb)
  unfold Sp.hgt at hv
  have z0 := Sp.hz_in hz (min (py.tdiv k) (r - 2) * c + min (px.tdiv k) (c - 2))
  have z1 := Sp.hz_in hz (min (py.tdiv k) (r - 2) * c + min (px.tdiv k) (c - 2) + 1)
  have z2 := Sp.hz_in hz (min (py.tdiv k) (r - 2) * c + min (px.tdiv k) (c - 2) + c + 1)
  have z3 := Sp.hz_in hz (min (py.tdiv k) (r - 2) * c + min (px.tdiv k) (c - 2) + c)
  generalize Sp.hz z (min (py.tdiv k) (r - 2) * c + min (px.tdiv k) (c - 2)) = v0 at z0 CO hv
  generalize Sp.hz z (min (py.tdiv k) (r - 2) * c + min (px.tdiv k) (c - 2) + 1) = v1 at z1 CO hv
  generalize Sp.hz z (min (py.tdiv k) (r - 2) * c + min (px.tdiv k) (c - 2) + c + 1) = v2 at z2 CO hv
  generalize Sp.hz z (min (py.tdiv k) (r - 2) * c + min (px.tdiv k) (c - 2) + c) = v3 at z3 CO hv
  obtain ⟨u, hu⟩ : ∃ u, px - min (px.tdiv k) (c - 2) * k = u := ⟨_, rfl⟩
  obtain ⟨v, hv2⟩ : ∃ v, py - min (py.tdiv k) (r - 2) * k = v := ⟨_, rfl⟩
  rw [hu] at a5 hv
  rw [hv2] at b5 hv
  have s1 := Sp.pmul (a := v0) (b := k - u) (m := 50000) (n := 1000) z0.1 z0.2 (by omega) (by omega) (by omega)
  have s2 := Sp.pmul (a := v1) (b := u) (m := 50000) (n := 1000) z1.1 z1.2 (by omega) (by omega) (by omega)
  have s3 := Sp.pmul (a := v3) (b := k - u) (m := 50000) (n := 1000) z3.1 z3.2 (by omega) (by omega) (by omega)
  have s4 := Sp.pmul (a := v2) (b := u) (m := 50000) (n := 1000) z2.1 z2.2 (by omega) (by omega) (by omega)
  have t1 := Sp.pmul (a := v0 * (k - u)) (b := k - v) (m := 50000000) (n := 1000) (by omega) (by omega) (by omega) (by omega) (by omega)
  have t2 := Sp.pmul (a := v1 * u) (b := k - v) (m := 50000000) (n := 1000) (by omega) (by omega) (by omega) (by omega) (by omega)
  have t3 := Sp.pmul (a := v3 * (k - u)) (b := v) (m := 50000000) (n := 1000) (by omega) (by omega) (by omega) (by omega) (by omega)
  have t4 := Sp.pmul (a := v2 * u) (b := v) (m := 50000000) (n := 1000) (by omega) (by omega) (by omega) (by omega) (by omega)
  have dd := Sp.pmul (a := k) (b := k) (m := 1000) (n := 1000) (by omega) (by omega) (by omega) (by omega) (by omega)
  have ee : (v0 * (k - u) + v1 * u) * (k - v) + (v3 * (k - u) + v2 * u) * v = v0 * (k - u) * (k - v) + v1 * u * (k - v) + v3 * (k - u) * v + v2 * u * v := by
    rw [Int.add_mul, Int.add_mul (v3 * (k - u)), ← Int.add_assoc]
  rw [ee] at hv
  exact rheight_walk A cap c r k z px py _ _ _ _ _ _ u v _ _ v0 v1 v3 v2 _ _ _ _ _ _ _ _ _ _ n d e w rfl rfl rfl rfl rfl hu rfl hv2 rfl rfl rfl rfl rfl rfl rfl rfl rfl rfl rfl rfl bc br bk a1 b1 a4 b4 a5 b5
    ⟨s1.1, by omega⟩ ⟨t1.1, by omega⟩ ⟨s2.1, by omega⟩ ⟨t2.1, by omega⟩ ⟨s3.1, by omega⟩ ⟨t3.1, by omega⟩ ⟨s4.1, by omega⟩ ⟨t4.1, by omega⟩ ⟨dd.1, by omega⟩ CO
    (fun W => rnew_any _ _ (by omega) (by omega) (by omega) (by omega) n d e hv W)
end Go.Proofs.Ytadicbpfbhpooaa
