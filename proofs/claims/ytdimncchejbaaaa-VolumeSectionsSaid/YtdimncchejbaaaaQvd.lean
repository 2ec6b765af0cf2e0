/-
  Layer 14: the reference Volume, Diameter and Section, and the walks of VolumeHeights and VolumeStems.
-/
import Derived.Test.YtdimncchejbaaaaQvc
import Derived.Deep.RegionHeld3
namespace Go.Proofs.Ytdimncchejbaaaa
open Go.RowKit
set_option linter.unusedVariables false
set_option linter.unusedSimpArgs false
theorem r14vol_any (A A' : Option Addr) (cap cap' : Nat) (h t : List Sp.Pd) (f : Int) (d x lo hi e : Int) (w : World) (hz : PcSized h) (tz : PcSized t) (hT : Pcs w A h) (tT : Pcs w A' t) (hv : Sp.volE h f t d x = (lo, hi, e)) :
    Calls Try.prog 16 #[.agg #[.slice A h.length cap, .int .i64 f, .slice A' t.length cap'], .int .i64 d, .int .i64 x] w (Gives (.tuple #[.agg #[.int .i64 lo, .int .i64 hi], .int .i64 e]) w) := by
  have VB := VBox.new w A h.length cap f A' t.length cap'
  generalize hU : (w.alloc (Obj.cells #[.slice A h.length cap, .int .i64 f, .slice A' t.length cap'] 24)).alloc (Obj.cells #[.int .i64 0, .int .i64 0] 32) = U at VB
  have CK := hid (r14check_any A A' cap cap' h t f U hz tz (hT.below VB.bl) (tT.below VB.bl))
  have DI := hid (fun W => r14thick_any d W)
  have HE := hid (fun W => r14tall_any x W)
  have GD := hid (fun (k : Sp.stemE h f t d x = 0) => (show ((1 ≤ f ∧ f ≤ 1000) ∧ (1 ≤ d ∧ d ≤ 3000) ∧ (1 ≤ x ∧ x ≤ 1000)) from by
    obtain ⟨k0, k1, k2, k3, k4⟩ := Sp.stemE_zero k
    obtain ⟨y0, y1, y2, -⟩ := Sp.curE_zero k0
    exact ⟨⟨y1, y2⟩, ⟨k1, k2⟩, k3, k4⟩))
  unfold Sp.volE at hv
  unfold Sp.stemE at hv GD
  generalize Sp.curE h f t = E at CK hv GD
  generalize (decide (1 ≤ d) && decide (d ≤ 3000)) = B1 at DI hv GD
  generalize (decide (1 ≤ x) && decide (x ≤ 1000)) = B2 at HE hv GD
  have HU := hid hU
  have HB := hid VB
  have HV := hid hv
  have k0 := VB.cu.c0
  have k1 := VB.cu.c1
  have k2 := VB.cu.c2
  clear hz tz hT tT hU VB hv
  go_enter Try.func16, Try.ntmps16
  go_upto_region 1 with fail
  rw [HU.out]
  go_wp2_with fail
  refine CK.out.mono ?_
  rintro _ w5 ⟨rfl, hb⟩
  have V5 := hid (HB.out.below hb)
  clear hb k0 k1 k2
  by_cases c1 : E = 0
  · subst c1
    go_wp2_with fail
    refine (DI.out _).mono ?_
    rintro _ w6 ⟨rfl, hb⟩
    have V6 := hid (V5.out.below hb)
    have z0 := V6.out.z0
    have z1 := V6.out.z1
    have zf := V6.out.zf
    have zz := V6.out.zz
    clear hb
    cases B1
    · obtain ⟨rfl, rfl, rfl⟩ : 0 = lo ∧ 0 = hi ∧ 2 = e := by simpa using HV.out
      go_wp2_with fail
      refine bodyPost_ret (v := .tuple #[.agg #[.int .i64 0, .int .i64 0], .int .i64 2]) (by simp [results, Try.results16, go_sem, z0, z1, zf, zz]) rfl ?_
      exact Gives.mk rfl (by have hB := V6.out.bl; repeat' (first | (with_reducible exact Below.refl _ _) | (with_reducible refine Below.alloc ?_ ?_ _) | (with_reducible refine Below.setCell ?_ ?_ _) | (with_reducible refine Below.drew ?_) | (with_reducible refine Below.trans ?_ (Below.mono (by assumption) ?_)) | (simp; done) | (simp; omega) | omega))
    · clear z0 z1 zf zz
      go_wp2_with fail
      refine (HE.out _).mono ?_
      rintro _ w7 ⟨rfl, hb⟩
      have V7 := hid (V6.out.below hb)
      have z0 := V7.out.z0
      have z1 := V7.out.z1
      have zf := V7.out.zf
      have zz := V7.out.zz
      clear hb
      cases B2
      · obtain ⟨rfl, rfl, rfl⟩ : 0 = lo ∧ 0 = hi ∧ 2 = e := by simpa using HV.out
        go_wp2_with fail
        refine bodyPost_ret (v := .tuple #[.agg #[.int .i64 0, .int .i64 0], .int .i64 2]) (by simp [results, Try.results16, go_sem, z0, z1, zf, zz]) rfl ?_
        exact Gives.mk rfl (by have hB := V7.out.bl; repeat' (first | (with_reducible exact Below.refl _ _) | (with_reducible refine Below.alloc ?_ ?_ _) | (with_reducible refine Below.setCell ?_ ?_ _) | (with_reducible refine Below.drew ?_) | (with_reducible refine Below.trans ?_ (Below.mono (by assumption) ?_)) | (simp; done) | (simp; omega) | omega))
      · obtain ⟨⟨f0, f1⟩, ⟨d0, d1⟩, x0, x1⟩ := GD.out (by simp)
        obtain ⟨h1, h2, h3⟩ : (Sp.volS f d x).1 = lo ∧ (Sp.volS f d x).2 = hi ∧ 0 = e := by simpa using HV.out
        subst h3
        unfold Sp.volS at h1 h2
        simp only at h1 h2
        obtain ⟨p1, p2, p3⟩ := vol_prod f0 f1 d0 d1 x0 x1
        obtain ⟨n1, hn1⟩ : ∃ n, f * d = n := ⟨_, rfl⟩
        rw [hn1] at p1 p2 p3 h1 h2
        obtain ⟨n2, hn2⟩ : ∃ n, n1 * d = n := ⟨_, rfl⟩
        rw [hn2] at p2 p3 h1 h2
        obtain ⟨n, hn⟩ : ∃ n, n2 * x = n := ⟨_, rfl⟩
        rw [hn] at p3 h1 h2
        have EN := hid (fun W => r14enc_any n n 10000000000000 p3.1 p3.2 p3.1 p3.2 (by omega) (by omega) W)
        rw [h1, h2] at EN
        have w1 : wrap64 n1 = n1 := pw64 _ (by omega)
        have w2 : wrap64 n2 = n2 := pw64 _ (by omega)
        have w3 : wrap64 n = n := pw64 _ (by omega)
        have q1 := V7.out.cu.c1
        have ql := V7.out.cu.lt
        clear z0 z1 zf zz h1 h2 p1 p2 p3 f0 f1 d0 d1 x0 x1 HV GD
        go_wp2_with fail
        refine (EN.out _).mono ?_
        rintro _ w8 ⟨rfl, hb⟩
        have V8 := hid (V7.out.below hb)
        have z0 := V8.out.z0
        have z1 := V8.out.z1
        have zf := V8.out.zf
        have zz := V8.out.zz
        clear hb q1 ql
        go_wp2_with fail
        refine bodyPost_ret (v := .tuple #[.agg #[.int .i64 lo, .int .i64 hi], .int .i64 0]) (by simp [results, Try.results16, go_sem, z0, z1, zf, zz]) rfl ?_
        exact Gives.mk rfl (by have hB := V8.out.bl; repeat' (first | (with_reducible exact Below.refl _ _) | (with_reducible refine Below.alloc ?_ ?_ _) | (with_reducible refine Below.setCell ?_ ?_ _) | (with_reducible refine Below.drew ?_) | (with_reducible refine Below.trans ?_ (Below.mono (by assumption) ?_)) | (simp; done) | (simp; omega) | omega))
  · have z0 := V5.out.z0
    have z1 := V5.out.z1
    have zf := V5.out.zf
    have zz := V5.out.zz
    obtain ⟨rfl, rfl, rfl⟩ : 0 = lo ∧ 0 = hi ∧ E = e := by simpa [c1] using HV.out
    have hn : (E == 0) = false := by simpa using c1
    go_wp2_with fail
    refine bodyPost_ret (v := .tuple #[.agg #[.int .i64 0, .int .i64 0], .int .i64 E]) (by simp [results, Try.results16, go_sem, z0, z1, zf, zz]) rfl ?_
    exact Gives.mk rfl (by have hB := V5.out.bl; repeat' (first | (with_reducible exact Below.refl _ _) | (with_reducible refine Below.alloc ?_ ?_ _) | (with_reducible refine Below.setCell ?_ ?_ _) | (with_reducible refine Below.drew ?_) | (with_reducible refine Below.trans ?_ (Below.mono (by assumption) ?_)) | (simp; done) | (simp; omega) | omega))
/-- The boxes of a law's parameters: a curve, a stem. -/
structure CS (w W : World) (A : Option Addr) (n cap : Nat) (f : Int) (A' : Option Addr) (n' cap' : Nat) (d x : Int) : Prop where
  bl : Below w.heap.size w W
  cu : CurAt W w.heap.size A n cap f A' n' cap'
  st : StemAt W (w.heap.size + 1) d x
theorem CS.new (w : World) (A : Option Addr) (n cap : Nat) (f : Int) (A' : Option Addr) (n' cap' : Nat) (d x : Int) :
    CS w ((w.alloc (.cells #[.slice A n cap, .int .i64 f, .slice A' n' cap'] 24)).alloc (.cells #[.int .i64 d, .int .i64 x] 26)) A n cap f A' n' cap' d x :=
  ⟨bthen (balloc _ _) (balloc _ _), (curAt_new w A A' n cap n' cap' f).below (balloc _ _), by
    have h := stemAt_new (w.alloc (.cells #[.slice A n cap, .int .i64 f, .slice A' n' cap'] 24)) d x
    have e : (w.alloc (.cells #[.slice A n cap, .int .i64 f, .slice A' n' cap'] 24)).heap.size = w.heap.size + 1 := by simp
    rw [e] at h
    exact h⟩
theorem CS.below {w W W' : World} {A A' : Option Addr} {n cap n' cap' : Nat} {f d x : Int} (h : CS w W A n cap f A' n' cap' d x) (hb : Below W.heap.size W W') : CS w W' A n cap f A' n' cap' d x := ⟨bthen h.bl hb, h.cu.below hb, h.st.below hb⟩
/-- The error of Diameter, as the reference goes through it. -/
theorem Sp.stemP_one (h : List Sp.Pd) (f : Int) (t : List Sp.Pd) (d x a : Int) : Sp.stemP h f t d x [a] =
    (if Sp.curE h f t ≠ 0 then Sp.curE h f t else if (decide (1 ≤ d) && decide (d ≤ 3000)) = false then 2 else if (decide (1 ≤ x) && decide (x ≤ 1000)) = false then 2 else if a < 0 then 2 else if x < a then 2 else 0) := by
  unfold Sp.stemP Sp.stemE Sp.plE
  by_cases c : Sp.curE h f t = 0
  · rw [c]
    simp only [ne_eq, not_true_eq_false, if_false]
    by_cases c1 : (decide (1 ≤ d) && decide (d ≤ 3000)) = false
    · rw [if_pos c1, if_pos c1]; rfl
    · rw [if_neg c1, if_neg c1]
      by_cases c2 : (decide (1 ≤ x) && decide (x ≤ 1000)) = false
      · rw [if_pos c2, if_pos c2]; rfl
      · rw [if_neg c2, if_neg c2]
        simp only [not_true_eq_false, if_false]
        by_cases c3 : a < 0
        · rw [if_pos c3, if_pos (by simp; omega)]
        · rw [if_neg c3]
          by_cases c4 : x < a
          · rw [if_pos c4, if_pos (by simp; omega)]
          · rw [if_neg c4, if_neg (by simp; omega)]; rfl
  · rw [if_pos c, if_pos c, if_pos c]
set_option maxRecDepth 100000 in
set_option maxHeartbeats 2000000 in
theorem vheights_any (d x : Int) (d0 : -9223372036854775808 ≤ d) (d1 : d ≤ 9223372036854775807) (x0 : -9223372036854775808 ≤ x) (x1 : x ≤ 9223372036854775807)
    (A A' : Option Addr) (cap cap' : Nat) (h t : List Sp.Pd) (f : Int) (w : World) (bf : -9223372036854775808 ≤ f ∧ f ≤ 9223372036854775807) (hz : PcSized h) (tz : PcSized t) (hT : Pcs w A h) (tT : Pcs w A' t) :
    Calls Try.prog 3 #[.agg #[.slice A h.length cap, .int .i64 f, .slice A' t.length cap'], .agg #[.int .i64 d, .int .i64 x]] w (Gives (.bool true) w) := by
  have AW := hid vawake_any
  have VB := CS.new w A h.length cap f A' t.length cap' d x
  generalize hU : (w.alloc (Obj.cells #[.slice A h.length cap, .int .i64 f, .slice A' t.length cap'] 24)).alloc (.cells #[.int .i64 d, .int .i64 x] 26) = U at VB
  have FE := hid (r14few_any A A' cap cap' h t f U hz tz (hT.below VB.bl) (tT.below VB.bl))
  generalize (fewS h 3000 && fewS t 3000) = BB at FE
  obtain ⟨⟨r, y⟩, he⟩ : ∃ z, Sp.heiS h f t d = z := ⟨_, rfl⟩
  obtain ⟨⟨lo, hi, e⟩, hv⟩ : ∃ z, Sp.volE h f t d x = z := ⟨_, rfl⟩
  have H1 := hid (fun W (hb : Below w.heap.size w W) => vhei_any A A' cap cap' h t f d r y W hz tz (hT.below hb) (tT.below hb) he)
  have H2 := hid (fun W (hb : Below w.heap.size w W) => r14hei_any A A' cap cap' h t f d r y W hz tz (hT.below hb) (tT.below hb) he)
  have V1 := hid (fun W (hb : Below w.heap.size w W) => vvol_any A A' cap cap' h t f d x lo hi e W hz tz (hT.below hb) (tT.below hb) hv)
  have V2 := hid (fun W (hb : Below w.heap.size w W) => r14vol_any A A' cap cap' h t f d x lo hi e W hz tz (hT.below hb) (tT.below hb) hv)
  have C1 := hid (fun W (hb : Below w.heap.size w W) => vcheck_any A A' cap cap' h t f W hz tz (hT.below hb) (tT.below hb))
  have C2 := hid (fun W (hb : Below w.heap.size w W) => r14check_any A A' cap cap' h t f W hz tz (hT.below hb) (tT.below hb))
  generalize Sp.curE h f t = E at C1 C2
  have HU := hid hU
  have HV := hid VB
  have k0 := VB.cu.c0
  have k1 := VB.cu.c1
  have k2 := VB.cu.c2
  have kl := VB.cu.lt
  clear hz tz hT tT hU VB he hv d0 d1 x0 x1 bf
  go_enter Try.func3, Try.ntmps3
  go_upto_region 1 with fail
  rw [HU.out]
  go_wp2_with fail
  refine FE.out.mono ?_
  rintro _ w5 ⟨rfl, hb⟩
  have V5 := hid (HV.out.below hb)
  clear hb k0 k1 k2 kl
  cases BB
  · go_wp2_with fail
    refine (AW.out _).mono ?_
    rintro _ w6 ⟨rfl, hb⟩
    have B6 := hid hb
    clear hb
    go_wp2_with fail
    go_ret
    exact Gives.mk rfl (bthen V5.out.bl B6.out)
  · have k0 := V5.out.cu.c0
    have k1 := V5.out.cu.c1
    have k2 := V5.out.cu.c2
    have kl := V5.out.cu.lt
    have s0 := V5.out.st.c0
    have s1 := V5.out.st.c1
    have sl := V5.out.st.lt
    go_wp2_with fail
    refine (H1.out _ V5.out.bl).mono ?_
    rintro _ w6 ⟨rfl, hb⟩
    have V6 := hid (V5.out.below hb)
    clear hb k0 k1 k2 kl s0 s1 sl
    have k0 := V6.out.cu.c0
    have k1 := V6.out.cu.c1
    have k2 := V6.out.cu.c2
    have kl := V6.out.cu.lt
    have s0 := V6.out.st.c0
    have s1 := V6.out.st.c1
    have sl := V6.out.st.lt
    go_wp2_with fail
    refine (H2.out _ V6.out.bl).mono ?_
    rintro _ w7 ⟨rfl, hb⟩
    have V7 := hid (V6.out.below hb)
    clear hb k0 k1 k2 kl s0 s1 sl
    have k0 := V7.out.cu.c0
    have k1 := V7.out.cu.c1
    have k2 := V7.out.cu.c2
    have kl := V7.out.cu.lt
    have s0 := V7.out.st.c0
    have s1 := V7.out.st.c1
    have sl := V7.out.st.lt
    go_wp2_with fail
    refine (V1.out _ V7.out.bl).mono ?_
    rintro _ w8 ⟨rfl, hb⟩
    have V8 := hid (V7.out.below hb)
    have V8a := hid (V8.out.below (balloc w8 (Obj.cells #[.int .i64 lo, .int .i64 hi] 32)))
    clear hb k0 k1 k2 kl s0 s1 sl
    have k0 := V8.out.cu.c0
    have k1 := V8.out.cu.c1
    have k2 := V8.out.cu.c2
    have kl := V8.out.cu.lt
    have s0 := V8.out.st.c0
    have s1 := V8.out.st.c1
    have sl := V8.out.st.lt
    go_wp2_with fail
    refine (V2.out _ V8a.out.bl).mono ?_
    rintro _ w9 ⟨rfl, hb⟩
    have V9 := hid (V8a.out.below hb)
    have a0 : w9.cell? ⟨w8.heap.size, 0, none⟩ = some (.int .i64 lo) := (hb.cell (p := ⟨w8.heap.size, 0, none⟩) (by simp)).trans (by simp [go_sem])
    have a1 : w9.cell? ⟨w8.heap.size, 1, none⟩ = some (.int .i64 hi) := (hb.cell (p := ⟨w8.heap.size, 1, none⟩) (by simp)).trans (by simp [go_sem])
    have al : w8.heap.size < w9.heap.size := by have := hb.size; simp at this; omega
    have an : ¬ w8.heap.size = w9.heap.size := by omega
    clear hb k0 k1 k2 kl s0 s1 sl
    obtain ⟨V, hV⟩ : ∃ V, w9.alloc (Obj.cells #[.int .i64 lo, .int .i64 hi] 32) = V := ⟨_, rfl⟩
    have VV : CS w V A h.length cap f A' t.length cap' d x := by rw [← hV]; exact V9.out.below (balloc _ _)
    have b0 : V.cell? ⟨w8.heap.size, 0, none⟩ = some (.int .i64 lo) := by rw [← hV]; simp [go_sem, a0, al, an]
    have b1 : V.cell? ⟨w8.heap.size, 1, none⟩ = some (.int .i64 hi) := by rw [← hV]; simp [go_sem, a1, al, an]
    have b2 : V.cell? ⟨w9.heap.size, 0, none⟩ = some (.int .i64 lo) := by rw [← hV]; simp [go_sem]
    have b3 : V.cell? ⟨w9.heap.size, 1, none⟩ = some (.int .i64 hi) := by rw [← hV]; simp [go_sem]
    have bl2 : w8.heap.size < V.heap.size := by rw [← hV]; simp; omega
    have bl3 : w9.heap.size < V.heap.size := by rw [← hV]; simp
    have K : Hid (∀ w', Below V.heap.size V w' → (Below V.heap.size V w' ∧ w'.cell? ⟨w.heap.size, 0, none⟩ = some (.slice A h.length cap) ∧ w'.cell? ⟨w.heap.size, 1, none⟩ = some (.int .i64 f) ∧ w'.cell? ⟨w.heap.size, 2, none⟩ = some (.slice A' t.length cap') ∧ w'.cell? ⟨w8.heap.size, 0, none⟩ = some (.int .i64 lo) ∧ w'.cell? ⟨w8.heap.size, 1, none⟩ = some (.int .i64 hi) ∧ w'.cell? ⟨w9.heap.size, 0, none⟩ = some (.int .i64 lo) ∧ w'.cell? ⟨w9.heap.size, 1, none⟩ = some (.int .i64 hi))) := hid (fun W hb => ⟨hb, (VV.below hb).cu.c0, (VV.below hb).cu.c1, (VV.below hb).cu.c2, (hb.cell (p := ⟨w8.heap.size, 0, none⟩) bl2).trans b0, (hb.cell (p := ⟨w8.heap.size, 1, none⟩) bl2).trans b1, (hb.cell (p := ⟨w9.heap.size, 0, none⟩) bl3).trans b2, (hb.cell (p := ⟨w9.heap.size, 1, none⟩) bl3).trans b3⟩)
    have D1 := hid (fun W (hb : Below V.heap.size V W) => C1.out W (bthen VV.bl hb))
    have D2 := hid (fun W (hb : Below V.heap.size V W) => C2.out W (bthen VV.bl hb))
    have vz : w.heap.size < V.heap.size := VV.cu.lt
    have HVV := hid hV
    have VL := hid VV.bl
    clear a0 a1 al an hV b0 b1 b2 b3 bl2 bl3 VV C1 C2 H1 H2 V1 V2 FE V5 V6 V7 V8 V8a V9 HV HU
    go_upto_region 7 with fail
    rw [HVV.out]
    go_region_held3 (fun w' => Below V.heap.size V w' ∧ w'.cell? ⟨w.heap.size, 0, none⟩ = some (.slice A h.length cap) ∧ w'.cell? ⟨w.heap.size, 1, none⟩ = some (.int .i64 f) ∧ w'.cell? ⟨w.heap.size, 2, none⟩ = some (.slice A' t.length cap') ∧ w'.cell? ⟨w8.heap.size, 0, none⟩ = some (.int .i64 lo) ∧ w'.cell? ⟨w8.heap.size, 1, none⟩ = some (.int .i64 hi) ∧ w'.cell? ⟨w9.heap.size, 0, none⟩ = some (.int .i64 lo) ∧ w'.cell? ⟨w9.heap.size, 1, none⟩ = some (.int .i64 hi)) ((exact K.out _ (by repeat' (first | (with_reducible exact Below.refl _ _) | (with_reducible refine Below.alloc ?_ ?_ _) | (with_reducible refine Below.setCell ?_ ?_ _) | (with_reducible refine Below.drew ?_) | (with_reducible refine Below.trans ?_ (Below.mono (by assumption) ?_)) | (simp; done) | (simp; omega) | omega))))
      (first
        | (go_at_call 17; (with_reducible refine (D1.out _ (by repeat' (first | (with_reducible exact Below.refl _ _) | (with_reducible refine Below.alloc ?_ ?_ _) | (with_reducible refine Below.setCell ?_ ?_ _) | (with_reducible refine Below.drew ?_) | (with_reducible refine Below.trans ?_ (Below.mono (by assumption) ?_)) | (simp; done) | (simp; omega) | omega))).mono ?_); rintro e w10 ⟨rfl, hx⟩; have hb10 : Below V.heap.size V w10 := (by repeat' (first | (with_reducible exact Below.refl _ _) | (with_reducible refine Below.alloc ?_ ?_ _) | (with_reducible refine Below.setCell ?_ ?_ _) | (with_reducible refine Below.drew ?_) | (with_reducible refine Below.trans ?_ (Below.mono (by assumption) ?_)) | (simp; done) | (simp; omega) | omega)); clear hx; have hz10 : V.heap.size ≤ w10.heap.size := hb10.size)
        | (go_at_call 18; (with_reducible refine (D2.out _ (by repeat' (first | (with_reducible exact Below.refl _ _) | (with_reducible refine Below.alloc ?_ ?_ _) | (with_reducible refine Below.setCell ?_ ?_ _) | (with_reducible refine Below.drew ?_) | (with_reducible refine Below.trans ?_ (Below.mono (by assumption) ?_)) | (simp; done) | (simp; omega) | omega))).mono ?_); rintro e w11 ⟨rfl, hx⟩; have hb11 : Below V.heap.size V w11 := (by repeat' (first | (with_reducible exact Below.refl _ _) | (with_reducible refine Below.alloc ?_ ?_ _) | (with_reducible refine Below.setCell ?_ ?_ _) | (with_reducible refine Below.drew ?_) | (with_reducible refine Below.trans ?_ (Below.mono (by assumption) ?_)) | (simp; done) | (simp; omega) | omega)); clear hx; have hz11 : V.heap.size ≤ w11.heap.size := hb11.size)
        | (go_at_call 12; (with_reducible refine (AW.out _).mono ?_); rintro e w12 ⟨rfl, hx⟩; have hb12 : Below V.heap.size V w12 := (by repeat' (first | (with_reducible exact Below.refl _ _) | (with_reducible refine Below.alloc ?_ ?_ _) | (with_reducible refine Below.setCell ?_ ?_ _) | (with_reducible refine Below.drew ?_) | (with_reducible refine Below.trans ?_ (Below.mono (by assumption) ?_)) | (simp; done) | (simp; omega) | omega)); clear hx; have hz12 : V.heap.size ≤ w12.heap.size := hb12.size))
    all_goals
      go_wp2_with fail
      go_ret
      exact Gives.mk rfl (bthen VL.out (by repeat' (first | (with_reducible exact Below.refl _ _) | (with_reducible refine Below.alloc ?_ ?_ _) | (with_reducible refine Below.setCell ?_ ?_ _) | (with_reducible refine Below.drew ?_) | (with_reducible refine Below.trans ?_ (Below.mono (by assumption) ?_)) | (simp; done) | (simp; omega) | omega)))
set_option maxRecDepth 100000 in
theorem r14diam_any (A A' : Option Addr) (cap cap' : Nat) (h t : List Sp.Pd) (f : Int) (d x a r e : Int) (w : World) (hz : PcSized h) (tz : PcSized t) (hT : Pcs w A h) (tT : Pcs w A' t) (hv : Sp.diamS h f t d x a = (r, e)) :
    Calls Try.prog 22 #[.agg #[.slice A h.length cap, .int .i64 f, .slice A' t.length cap'], .int .i64 d, .int .i64 x, .int .i64 a] w (Gives (.tuple #[.int .i64 r, .int .i64 e]) w) := by
  have b0 : Below w.heap.size w (w.alloc (Obj.cells #[.slice A h.length cap, .int .i64 f, .slice A' t.length cap'] 24)) := balloc _ _
  have VB := curAt_new w A A' h.length cap t.length cap' f
  generalize hU : w.alloc (Obj.cells #[.slice A h.length cap, .int .i64 f, .slice A' t.length cap'] 24) = U at VB b0
  have CK := hid (r14check_any A A' cap cap' h t f U hz tz (hT.below b0) (tT.below b0))
  have DI := hid (fun W => r14thick_any d W)
  have HE := hid (fun W => r14tall_any x W)
  have SM := hid (fun (k : (1 ≤ d ∧ d ≤ 3000) ∧ (1 ≤ x ∧ x ≤ 1000) ∧ 0 ≤ a ∧ a ≤ x) (r e : Int) hq W (hb : Below w.heap.size w W) => r14stem_any A A' cap cap' h t f d x a r e W tz (tT.below hb) k.1.1 k.1.2 k.2.1.1 k.2.1.2 k.2.2.1 (by omega) hq)
  unfold Sp.diamS at hv
  rw [Sp.stemP_one] at hv
  generalize Sp.curE h f t = E at CK hv
  obtain ⟨B1, hB1⟩ : ∃ B, (decide (1 ≤ d) && decide (d ≤ 3000)) = B := ⟨_, rfl⟩
  obtain ⟨B2, hB2⟩ : ∃ B, (decide (1 ≤ x) && decide (x ≤ 1000)) = B := ⟨_, rfl⟩
  rw [hB1] at DI hv
  rw [hB2] at HE hv
  have J1 := hid hB1
  have J2 := hid hB2
  have HU := hid hU
  have HB := hid b0
  have HC := hid VB
  have HV := hid hv
  have k0 := VB.c0
  have k1 := VB.c1
  have k2 := VB.c2
  clear hz tz hT tT hU b0 VB hv hB1 hB2
  go_enter Try.func22, Try.ntmps22
  go_upto_region 1 with fail
  rw [HU.out]
  go_wp2_with fail
  refine CK.out.mono ?_
  rintro _ w5 ⟨rfl, hb⟩
  have B5 := hid (bthen HB.out hb)
  have Q5 := hid (HC.out.below hb)
  clear hb k0 k1 k2
  by_cases c1 : E = 0
  · subst c1
    go_wp2_with fail
    refine (DI.out _).mono ?_
    rintro _ w6 ⟨rfl, hb⟩
    have B6 := hid (bthen B5.out hb)
    have Q6 := hid (Q5.out.below hb)
    clear hb
    cases B1
    · obtain ⟨rfl, rfl⟩ : 0 = r ∧ 2 = e := by simpa using HV.out
      go_wp2_with fail
      refine bodyPost_ret (v := .tuple #[.int .i64 0, .int .i64 2]) (by simp [results, Try.results22, go_sem]) rfl ?_
      exact Gives.mk rfl B6.out
    · go_wp2_with fail
      refine (HE.out _).mono ?_
      rintro _ w7 ⟨rfl, hb⟩
      have B7 := hid (bthen B6.out hb)
      have Q7 := hid (Q6.out.below hb)
      clear hb
      cases B2
      · obtain ⟨rfl, rfl⟩ : 0 = r ∧ 2 = e := by simpa using HV.out
        go_wp2_with fail
        refine bodyPost_ret (v := .tuple #[.int .i64 0, .int .i64 2]) (by simp [results, Try.results22, go_sem]) rfl ?_
        exact Gives.mk rfl B7.out
      · by_cases c2 : a < 0
        · have f1 : decide (a < 0) = true := decide_eq_true c2
          obtain ⟨rfl, rfl⟩ : 0 = r ∧ 2 = e := by simpa [c2] using HV.out
          clear c2
          go_wp2_with fail
          refine bodyPost_ret (v := .tuple #[.int .i64 0, .int .i64 2]) (by simp [results, Try.results22, go_sem]) rfl ?_
          exact Gives.mk rfl B7.out
        · have f1 : decide (a < 0) = false := decide_eq_false c2
          by_cases c3 : x < a
          · have f2 : decide (x < a) = true := decide_eq_true c3
            obtain ⟨rfl, rfl⟩ : 0 = r ∧ 2 = e := by simpa [c2, c3] using HV.out
            clear c2 c3
            go_wp2_with fail
            refine bodyPost_ret (v := .tuple #[.int .i64 0, .int .i64 2]) (by simp [results, Try.results22, go_sem]) rfl ?_
            exact Gives.mk rfl B7.out
          · have f2 : decide (x < a) = false := decide_eq_false c3
            have hq : Sp.diaS t d x a = (r, e) := by simpa [c2, c3] using HV.out
            have j1 := J1.out
            have j2 := J2.out
            simp at j1 j2
            have ST := hid (SM.out ⟨j1, j2, by omega, by omega⟩ r e hq w7 B7.out)
            have q0 := Q7.out.c0
            have q1 := Q7.out.c1
            have q2 := Q7.out.c2
            have ql := Q7.out.lt
            clear hq HV SM j1 j2 c2 c3
            go_wp2_with fail
            refine ST.out.mono ?_
            rintro _ w8 ⟨rfl, hb⟩
            have B8 := hid (bthen B7.out hb)
            clear hb
            go_wp2_with fail
            refine bodyPost_ret (v := .tuple #[.int .i64 r, .int .i64 e]) (by simp [results, Try.results22, go_sem]) rfl ?_
            exact Gives.mk rfl B8.out
  · obtain ⟨rfl, rfl⟩ : 0 = r ∧ E = e := by simpa [c1] using HV.out
    have hn : (E == 0) = false := by simpa using c1
    go_wp2_with fail
    refine bodyPost_ret (v := .tuple #[.int .i64 0, .int .i64 E]) (by simp [results, Try.results22, go_sem]) rfl ?_
    exact Gives.mk rfl B5.out
set_option maxRecDepth 100000 in
theorem vstems_any (d x a : Int) (d0 : -9223372036854775808 ≤ d) (d1 : d ≤ 9223372036854775807) (x0 : -9223372036854775808 ≤ x) (x1 : x ≤ 9223372036854775807) (a0 : -9223372036854775808 ≤ a) (a1 : a ≤ 9223372036854775807)
    (A A' : Option Addr) (cap cap' : Nat) (h t : List Sp.Pd) (f : Int) (w : World) (bf : -9223372036854775808 ≤ f ∧ f ≤ 9223372036854775807) (hz : PcSized h) (tz : PcSized t) (hT : Pcs w A h) (tT : Pcs w A' t) :
    Calls Try.prog 5 #[.agg #[.slice A h.length cap, .int .i64 f, .slice A' t.length cap'], .agg #[.int .i64 d, .int .i64 x], .int .i64 a] w (Gives (.bool true) w) := by
  have AW := hid vawake_any
  have VB := CS.new w A h.length cap f A' t.length cap' d x
  generalize hU : (w.alloc (Obj.cells #[.slice A h.length cap, .int .i64 f, .slice A' t.length cap'] 24)).alloc (.cells #[.int .i64 d, .int .i64 x] 26) = U at VB
  have FE := hid (r14few_any A A' cap cap' h t f U hz tz (hT.below VB.bl) (tT.below VB.bl))
  generalize (fewS h 3000 && fewS t 3000) = BB at FE
  obtain ⟨⟨r, y⟩, he⟩ : ∃ z, Sp.diamS h f t d x a = z := ⟨_, rfl⟩
  have H1 := hid (fun W (hb : Below w.heap.size w W) => vdiam2_any A A' cap cap' h t f d x a r y W hz tz (hT.below hb) (tT.below hb) he)
  have H2 := hid (fun W (hb : Below w.heap.size w W) => r14diam_any A A' cap cap' h t f d x a r y W hz tz (hT.below hb) (tT.below hb) he)
  have HU := hid hU
  have HV := hid VB
  have k0 := VB.cu.c0
  have k1 := VB.cu.c1
  have k2 := VB.cu.c2
  have kl := VB.cu.lt
  clear hz tz hT tT hU VB he d0 d1 x0 x1 bf a0 a1
  go_enter Try.func5, Try.ntmps5
  go_upto_region 1 with fail
  rw [HU.out]
  go_wp2_with fail
  refine FE.out.mono ?_
  rintro _ w5 ⟨rfl, hb⟩
  have V5 := hid (HV.out.below hb)
  clear hb k0 k1 k2 kl
  cases BB
  · go_wp2_with fail
    refine (AW.out _).mono ?_
    rintro _ w6 ⟨rfl, hb⟩
    have B6 := hid hb
    clear hb
    go_wp2_with fail
    go_ret
    exact Gives.mk rfl (bthen V5.out.bl B6.out)
  · have k0 := V5.out.cu.c0
    have k1 := V5.out.cu.c1
    have k2 := V5.out.cu.c2
    have kl := V5.out.cu.lt
    have s0 := V5.out.st.c0
    have s1 := V5.out.st.c1
    have sl := V5.out.st.lt
    go_wp2_with fail
    refine (H1.out _ V5.out.bl).mono ?_
    rintro _ w6 ⟨rfl, hb⟩
    have V6 := hid (V5.out.below hb)
    clear hb k0 k1 k2 kl s0 s1 sl
    have k0 := V6.out.cu.c0
    have k1 := V6.out.cu.c1
    have k2 := V6.out.cu.c2
    have kl := V6.out.cu.lt
    have s0 := V6.out.st.c0
    have s1 := V6.out.st.c1
    have sl := V6.out.st.lt
    go_wp2_with fail
    refine (H2.out _ V6.out.bl).mono ?_
    rintro _ w7 ⟨rfl, hb⟩
    have V7 := hid (V6.out.below hb)
    clear hb k0 k1 k2 kl s0 s1 sl
    go_wp2_with fail
    refine (AW.out _).mono ?_
    rintro _ w8 ⟨rfl, hb⟩
    have B8 := hid (bthen V7.out.bl hb)
    clear hb
    go_wp2_with fail
    go_ret
    exact Gives.mk rfl B8.out
theorem Sp.stemP_two (h : List Sp.Pd) (f : Int) (t : List Sp.Pd) (d x a b : Int) : Sp.stemP h f t d x [a, b] =
    (if Sp.curE h f t ≠ 0 then Sp.curE h f t else if (decide (1 ≤ d) && decide (d ≤ 3000)) = false then 2 else if (decide (1 ≤ x) && decide (x ≤ 1000)) = false then 2 else if a < 0 then 2 else if x < a then 2 else if b < 0 then 2 else if x < b then 2 else 0) := by
  unfold Sp.stemP Sp.stemE
  by_cases c : Sp.curE h f t = 0
  · rw [c]
    simp only [ne_eq, not_true_eq_false, if_false]
    by_cases c1 : (decide (1 ≤ d) && decide (d ≤ 3000)) = false
    · rw [if_pos c1, if_pos c1]; rfl
    · rw [if_neg c1, if_neg c1]
      by_cases c2 : (decide (1 ≤ x) && decide (x ≤ 1000)) = false
      · rw [if_pos c2, if_pos c2]; rfl
      · rw [if_neg c2, if_neg c2]
        simp only [not_true_eq_false, if_false]
        unfold Sp.plE
        by_cases c3 : a < 0
        · rw [if_pos c3, if_pos (by simp; omega)]
        · rw [if_neg c3]
          by_cases c4 : x < a
          · rw [if_pos c4, if_pos (by simp; omega)]
          · rw [if_neg c4, if_neg (by simp; omega)]
            unfold Sp.plE
            by_cases c5 : b < 0
            · rw [if_pos c5, if_pos (by simp; omega)]
            · rw [if_neg c5]
              by_cases c6 : x < b
              · rw [if_pos c6, if_pos (by simp; omega)]
              · rw [if_neg c6, if_neg (by simp; omega)]; rfl
  · rw [if_pos c, if_pos c, if_pos c]
theorem fl_get (g : Int → Int × Int) (n : Nat) (a : Int) {j : Nat} (h : j < n) : (Sp.fl g n a)[j]?.getD 0 = (g (a + (j : Int))).1 := by
  rw [List.getElem?_eq_getElem (by rw [Sp.fl_len]; exact h)]
  simp [Sp.fl]
theorem pr_ok {l : List Int} (h : ∀ v ∈ l, 0 ≤ v ∧ v ≤ 3000) (j : Nat) : ∀ p ∈ prU l j, okB p := by
  intro p hp
  simp only [prU, List.mem_map] at hp
  obtain ⟨i, -, rfl⟩ := hp
  exact ⟨getD_in h _, getD_in h _⟩
/-- What holds at the head of the reference's loop. -/
def RRel (w : World) (A : Option Addr) (n0 cap : Nat) (f : Int) (A' : Option Addr) (n' cap' : Nat) (g : Int → Int × Int) (a : Int) (n : Nat) (E : Int) (i p lo hi : Value) (wr : World) : Prop :=
  ∃ j : Nat, i = .int .i64 (a + j) ∧ j ≤ n ∧ p = .int .i64 (g (a + j)).1 ∧ lo = .int .i64 (Sp.loS (prU (Sp.fl g (n + 1) a) j)) ∧ hi = .int .i64 (Sp.hiS (prU (Sp.fl g (n + 1) a) j)) ∧ Sp.fe g (n - j) (a + j + 1) = E ∧ VBox w wr A n0 cap f A' n' cap'
theorem rmeas (n j : Nat) (a : Int) (a0 : 0 ≤ a) (h : j < n) : (a + n - intOf (.int .i64 (a + j + 1))).toNat < (a + n - intOf (.int .i64 (a + j))).toNat := by simp [intOf]; omega
set_option maxRecDepth 100000 in
set_option maxHeartbeats 4000000 in
theorem r14sec_any (A A' : Option Addr) (cap cap' : Nat) (h t : List Sp.Pd) (f : Int) (d x a b lo hi e : Int) (w : World) (hz : PcSized h) (tz : PcSized t) (hT : Pcs w A h) (tT : Pcs w A' t) (hv : Sp.secS h f t d x a b = (lo, hi, e)) :
    Calls Try.prog 24 #[.agg #[.slice A h.length cap, .int .i64 f, .slice A' t.length cap'], .int .i64 d, .int .i64 x, .int .i64 a, .int .i64 b] w (Gives (.tuple #[.agg #[.int .i64 lo, .int .i64 hi], .int .i64 e]) w) := by
  have VB := VBox.new w A h.length cap f A' t.length cap'
  generalize hU : (w.alloc (Obj.cells #[.slice A h.length cap, .int .i64 f, .slice A' t.length cap'] 24)).alloc (Obj.cells #[.int .i64 0, .int .i64 0] 32) = U at VB
  have CK := hid (r14check_any A A' cap cap' h t f U hz tz (hT.below VB.bl) (tT.below VB.bl))
  have DI := hid (fun W => r14thick_any d W)
  have HE := hid (fun W => r14tall_any x W)
  have SM := hid (fun (k : (1 ≤ d ∧ d ≤ 3000) ∧ (1 ≤ x ∧ x ≤ 1000)) (z : Int) (z0 : 0 ≤ z) (z1 : z ≤ x) W (hb : Below w.heap.size w W) => r14stem_any A A' cap cap' h t f d x z (Sp.diaS t d x z).1 (Sp.diaS t d x z).2 W tz (tT.below hb) k.1.1 k.1.2 k.2.1 k.2.2 z0 (by omega) rfl)
  have GI := hid (Sp.diaS_in t d x)
  unfold Sp.secS at hv
  rw [Sp.stemP_two] at hv
  generalize Sp.curE h f t = E at CK hv
  obtain ⟨B1, hB1⟩ : ∃ B, (decide (1 ≤ d) && decide (d ≤ 3000)) = B := ⟨_, rfl⟩
  obtain ⟨B2, hB2⟩ : ∃ B, (decide (1 ≤ x) && decide (x ≤ 1000)) = B := ⟨_, rfl⟩
  rw [hB1] at DI hv
  rw [hB2] at HE hv
  generalize Sp.diaS t d x = g at SM GI hv
  have J1 := hid hB1
  have J2 := hid hB2
  have HU := hid hU
  have HB := hid VB
  have HV := hid hv
  have k0 := VB.cu.c0
  have k1 := VB.cu.c1
  have k2 := VB.cu.c2
  clear hz tz hT tT hU VB hv hB1 hB2
  go_enter Try.func24, Try.ntmps24
  go_upto_region 1 with fail
  rw [HU.out]
  go_wp2_with fail
  refine CK.out.mono ?_
  rintro _ w5 ⟨rfl, hb⟩
  have V5 := hid (HB.out.below hb)
  clear hb k0 k1 k2
  by_cases c1 : E = 0
  · subst c1
    go_wp2_with fail
    refine (DI.out _).mono ?_
    rintro _ w6 ⟨rfl, hb⟩
    have V6 := hid (V5.out.below hb)
    clear hb
    cases B1
    · have z0 := V6.out.z0
      have z1 := V6.out.z1
      have zf := V6.out.zf
      have zz := V6.out.zz
      obtain ⟨rfl, rfl, rfl⟩ : 0 = lo ∧ 0 = hi ∧ 2 = e := by simpa using HV.out
      go_wp2_with fail
      refine bodyPost_ret (v := .tuple #[.agg #[.int .i64 0, .int .i64 0], .int .i64 2]) (by simp [results, Try.results24, go_sem, z0, z1, zf, zz]) rfl ?_
      exact Gives.mk rfl (by have hB := V6.out.bl; repeat' (first | (with_reducible exact Below.refl _ _) | (with_reducible refine Below.alloc ?_ ?_ _) | (with_reducible refine Below.setCell ?_ ?_ _) | (with_reducible refine Below.drew ?_) | (with_reducible refine Below.trans ?_ (Below.mono (by assumption) ?_)) | (simp; done) | (simp; omega) | omega))
    · go_wp2_with fail
      refine (HE.out _).mono ?_
      rintro _ w7 ⟨rfl, hb⟩
      have V7 := hid (V6.out.below hb)
      clear hb
      have z0 := V7.out.z0
      have z1 := V7.out.z1
      have zf := V7.out.zf
      have zz := V7.out.zz
      cases B2
      · skip
        obtain ⟨rfl, rfl, rfl⟩ : 0 = lo ∧ 0 = hi ∧ 2 = e := by simpa using HV.out
        go_wp2_with fail
        refine bodyPost_ret (v := .tuple #[.agg #[.int .i64 0, .int .i64 0], .int .i64 2]) (by simp [results, Try.results24, go_sem, z0, z1, zf, zz]) rfl ?_
        exact Gives.mk rfl (by have hB := V7.out.bl; repeat' (first | (with_reducible exact Below.refl _ _) | (with_reducible refine Below.alloc ?_ ?_ _) | (with_reducible refine Below.setCell ?_ ?_ _) | (with_reducible refine Below.drew ?_) | (with_reducible refine Below.trans ?_ (Below.mono (by assumption) ?_)) | (simp; done) | (simp; omega) | omega))
      · by_cases c2 : a < 0
        · have f1 : decide (a < 0) = true := decide_eq_true c2
          obtain ⟨rfl, rfl, rfl⟩ : 0 = lo ∧ 0 = hi ∧ 2 = e := by simpa [c2] using HV.out
          go_wp2_with fail
          refine bodyPost_ret (v := .tuple #[.agg #[.int .i64 0, .int .i64 0], .int .i64 2]) (by simp [results, Try.results24, go_sem, z0, z1, zf, zz]) rfl ?_
          exact Gives.mk rfl (by have hB := V7.out.bl; repeat' (first | (with_reducible exact Below.refl _ _) | (with_reducible refine Below.alloc ?_ ?_ _) | (with_reducible refine Below.setCell ?_ ?_ _) | (with_reducible refine Below.drew ?_) | (with_reducible refine Below.trans ?_ (Below.mono (by assumption) ?_)) | (simp; done) | (simp; omega) | omega))
        · have f1 : decide (a < 0) = false := decide_eq_false c2
          by_cases c3 : x < a
          · have f2 : decide (x < a) = true := decide_eq_true c3
            obtain ⟨rfl, rfl, rfl⟩ : 0 = lo ∧ 0 = hi ∧ 2 = e := by simpa [c2, c3] using HV.out
            go_wp2_with fail
            refine bodyPost_ret (v := .tuple #[.agg #[.int .i64 0, .int .i64 0], .int .i64 2]) (by simp [results, Try.results24, go_sem, z0, z1, zf, zz]) rfl ?_
            exact Gives.mk rfl (by have hB := V7.out.bl; repeat' (first | (with_reducible exact Below.refl _ _) | (with_reducible refine Below.alloc ?_ ?_ _) | (with_reducible refine Below.setCell ?_ ?_ _) | (with_reducible refine Below.drew ?_) | (with_reducible refine Below.trans ?_ (Below.mono (by assumption) ?_)) | (simp; done) | (simp; omega) | omega))
          · have f2 : decide (x < a) = false := decide_eq_false c3
            by_cases c4 : b < 0
            · have f3 : decide (b < 0) = true := decide_eq_true c4
              obtain ⟨rfl, rfl, rfl⟩ : 0 = lo ∧ 0 = hi ∧ 2 = e := by simpa [c2, c3, c4] using HV.out
              go_wp2_with fail
              refine bodyPost_ret (v := .tuple #[.agg #[.int .i64 0, .int .i64 0], .int .i64 2]) (by simp [results, Try.results24, go_sem, z0, z1, zf, zz]) rfl ?_
              exact Gives.mk rfl (by have hB := V7.out.bl; repeat' (first | (with_reducible exact Below.refl _ _) | (with_reducible refine Below.alloc ?_ ?_ _) | (with_reducible refine Below.setCell ?_ ?_ _) | (with_reducible refine Below.drew ?_) | (with_reducible refine Below.trans ?_ (Below.mono (by assumption) ?_)) | (simp; done) | (simp; omega) | omega))
            · have f3 : decide (b < 0) = false := decide_eq_false c4
              by_cases c5 : x < b
              · have f4 : decide (x < b) = true := decide_eq_true c5
                obtain ⟨rfl, rfl, rfl⟩ : 0 = lo ∧ 0 = hi ∧ 2 = e := by simpa [c2, c3, c4, c5] using HV.out
                go_wp2_with fail
                refine bodyPost_ret (v := .tuple #[.agg #[.int .i64 0, .int .i64 0], .int .i64 2]) (by simp [results, Try.results24, go_sem, z0, z1, zf, zz]) rfl ?_
                exact Gives.mk rfl (by have hB := V7.out.bl; repeat' (first | (with_reducible exact Below.refl _ _) | (with_reducible refine Below.alloc ?_ ?_ _) | (with_reducible refine Below.setCell ?_ ?_ _) | (with_reducible refine Below.drew ?_) | (with_reducible refine Below.trans ?_ (Below.mono (by assumption) ?_)) | (simp; done) | (simp; omega) | omega))
              · have f4 : decide (x < b) = false := decide_eq_false c5
                by_cases c6 : b < a
                · have f5 : decide (b < a) = true := decide_eq_true c6
                  obtain ⟨rfl, rfl, rfl⟩ : 0 = lo ∧ 0 = hi ∧ 9 = e := by simpa [c2, c3, c4, c5, c6] using HV.out
                  go_wp2_with fail
                  refine bodyPost_ret (v := .tuple #[.agg #[.int .i64 0, .int .i64 0], .int .i64 9]) (by simp [results, Try.results24, go_sem, z0, z1, zf, zz]) rfl ?_
                  exact Gives.mk rfl (by have hB := V7.out.bl; repeat' (first | (with_reducible exact Below.refl _ _) | (with_reducible refine Below.alloc ?_ ?_ _) | (with_reducible refine Below.setCell ?_ ?_ _) | (with_reducible refine Below.drew ?_) | (with_reducible refine Below.trans ?_ (Below.mono (by assumption) ?_)) | (simp; done) | (simp; omega) | omega))
                · have f5 : decide (b < a) = false := decide_eq_false c6
                  have j1 := J1.out
                  have j2 := J2.out
                  simp at j1 j2
                  obtain ⟨n, hn⟩ : ∃ n : Nat, b - a = (n : Int) := ⟨(b - a).toNat, by omega⟩
                  have hn1 : (b - a + 1).toNat = n + 1 := by omega
                  have hF : (if Sp.fe g (n + 1) a ≠ 0 then (0, 0, Sp.fe g (n + 1) a) else ((785398 * Sp.loS (prU (Sp.fl g (n + 1) a) n)).tdiv 10000000000, (785399 * Sp.hiS (prU (Sp.fl g (n + 1) a) n) + 10000000000 - 1).tdiv 10000000000, 0)) = (lo, hi, e) := by
                    have h := HV.out
                    rw [hn1] at h
                    simpa [c2, c3, c4, c5, c6] using h
                  have HF := hid hF
                  have HN := hid hn
                  have SA := hid (SM.out ⟨j1, j2⟩)
                  have A0 := hid (show 0 ≤ a by omega)
                  have XB := hid (show b ≤ x by omega)
                  have X1 := hid j2.2
                  have S0 := hid (SA.out a A0.out (by omega) w7 V7.out.bl)
                  obtain ⟨⟨p, y⟩, hp⟩ : ∃ q, g a = q := ⟨_, rfl⟩
                  rw [hp] at S0
                  have HP := hid hp
                  have q0 := V7.out.cu.c0
                  have q1 := V7.out.cu.c1
                  have q2 := V7.out.cu.c2
                  have ql := V7.out.cu.lt
                  clear HV hF hn hn1 j1 j2 c2 c3 c4 c5 c6 z0 z1 zf zz hp
                  go_wp2_with fail
                  refine S0.out.mono ?_
                  rintro _ w8 ⟨rfl, hb⟩
                  have V8 := hid (V7.out.below hb)
                  clear hb q0 q1 q2 ql
                  by_cases cy : y = 0
                  · subst cy
                    have hF := HF.out
                    rw [Sp.fe.eq_2, HP.out] at hF
                    simp only [ne_eq, not_true_eq_false, if_false] at hF
                    obtain ⟨E2, hE2⟩ : ∃ E, Sp.fe g n (a + 1) = E := ⟨_, rfl⟩
                    rw [hE2] at hF
                    have HE2 := hid hE2
                    have HF2 := hid hF
                    clear hF hE2
                    go_wp2_with fail
                    go_loopw [17, 13, 15, 16] (fun i p lo hi wr => RRel w A h.length cap f A' t.length cap' g a n E2 i p lo hi wr) (fun i p lo hi _ => (a + n - intOf i).toNat)
                    case atStart => exact ⟨0, by simp, Nat.zero_le _, by simp [HP.out], by simp [prU, Sp.loS], by simp [prU, Sp.hiS], by simpa using HE2.out, V8.out⟩
                    case round =>
                      obtain ⟨j, rfl, hj, rfl, rfl, rfl, hd, hV⟩ := hrel
                      have HD := hid hd
                      have VR := hid hV
                      clear hd hV
                      have ok3 : ∀ v ∈ Sp.fl g (n + 1) a, 0 ≤ v ∧ v ≤ 3000 := by
                        intro v hv
                        simp only [Sp.fl, List.mem_map] at hv
                        obtain ⟨k, -, rfl⟩ := hv
                        exact GI.out _
                      obtain ⟨⟨l0, l1⟩, h0, h1⟩ := Sp.lohi_bound _ (pr_ok ok3 j)
                      rw [prU_length] at l1 h1
                      have jn : (j : Int) ≤ 1000 := by have := HN.out; have := XB.out; have := X1.out; have := A0.out; omega
                      obtain ⟨L, hL⟩ : ∃ L, Sp.loS (prU (Sp.fl g (n + 1) a) j) = L := ⟨_, rfl⟩
                      obtain ⟨H, hH⟩ : ∃ H, Sp.hiS (prU (Sp.fl g (n + 1) a) j) = H := ⟨_, rfl⟩
                      rw [hL] at l0 l1 ⊢
                      rw [hH] at h0 h1 ⊢
                      by_cases hlt : j < n
                      · obtain ⟨z, hz⟩ : ∃ z, a + (j : Int) = z := ⟨_, rfl⟩
                        have zb : z < b := by have := HN.out; omega
                        have z0 : 0 ≤ z := by have := A0.out; omega
                        have ST := hid (fun W hb => SA.out (z + 1) (by omega) (by have := XB.out; omega) W hb)
                        obtain ⟨⟨u, v⟩, hu⟩ : ∃ q, g (z + 1) = q := ⟨_, rfl⟩
                        rw [hu] at ST
                        have gu := GI.out (z + 1)
                        rw [hu] at gu
                        have gz := GI.out z
                        have e1 : (Sp.fl g (n + 1) a)[j]?.getD 0 = (g z).1 := by rw [fl_get g _ a (by omega), hz]
                        have e2 : (Sp.fl g (n + 1) a)[j + 1]?.getD 0 = u := by
                          rw [fl_get g _ a (by omega)]
                          have : a + ((j + 1 : Nat) : Int) = z + 1 := by omega
                          rw [this, hu]
                        have sn := prU_succ (Sp.fl g (n + 1) a) j
                        rw [e1, e2] at sn
                        rw [hz]
                        generalize (g z).1 = q at gz sn ⊢
                        obtain ⟨mn, hm⟩ : ∃ m, min q u = m := ⟨_, rfl⟩
                        obtain ⟨mx, hx⟩ : ∃ m, max q u = m := ⟨_, rfl⟩
                        obtain ⟨S, hS⟩ : ∃ S, mn * mn = S := ⟨_, rfl⟩
                        obtain ⟨T, hT⟩ : ∃ T, mx * mx = T := ⟨_, rfl⟩
                        simp only at gu
                        have sb := Sp.sq_bound (x := mn) (by omega) (by omega)
                        have tb := Sp.sq_bound (x := mx) (by omega) (by omega)
                        rw [hS] at sb
                        rw [hT] at tb
                        have LO := hid (show Sp.loS (prU (Sp.fl g (n + 1) a) (j + 1)) = L + S by rw [sn, Sp.loS_snoc, hL]; simp only [hm, hS])
                        have HI := hid (show Sp.hiS (prU (Sp.fl g (n + 1) a) (j + 1)) = H + T by rw [sn, Sp.hiS_snoc, hH]; simp only [hx, hT])
                        obtain ⟨m, hm2⟩ : ∃ m, n - j = m + 1 := ⟨n - j - 1, by omega⟩
                        have hd := HD.out
                        rw [hm2, hz, Sp.fe.eq_2, hu] at hd
                        simp only at hd
                        have HD2 := hid hd
                        have wS : wrap64 S = S := pw64 _ (by omega)
                        have wT : wrap64 T = T := pw64 _ (by omega)
                        have wL : wrap64 (L + S) = L + S := pw64 _ (by omega)
                        have wH : wrap64 (H + T) = H + T := pw64 _ (by omega)
                        have zx : z ≤ 1000 := by have := XB.out; have := X1.out; omega
                        have wz : wrap64 (z + 1) = z + 1 := pwk (by omega) (by omega)
                        have f6 : decide (z < b) = true := decide_eq_true zb
                        have q0 := VR.out.cu.c0
                        have q1 := VR.out.cu.c1
                        have q2 := VR.out.cu.c2
                        have ql := VR.out.cu.lt
                        have HZ := hid hz
                        have HM2 := hid hm2
                        have HU2 := hid hu
                        have JN := hid hlt
                        have STT := hid (ST.out _ VR.out.bl)
                        clear hd hz hm2 hu hlt sn e1 e2 gu gz sb tb l0 l1 h0 h1 hL hH ok3 ST HD jn zx z0 zb
                        by_cases cv : v = 0
                        · subst cv
                          go_wp2_with fail
                          refine STT.out.mono ?_
                          rintro _ w9 ⟨rfl, hb⟩
                          have V9 := hid (VR.out.below hb)
                          clear hb
                          go_wp2_with fail
                          go_roundw
                          case rel =>
                            refine ⟨j + 1, i64_eq (by have := HZ.out; push_cast; omega), by have := JN.out; omega, i64_eq ?_, i64_eq (by first | exact LO.out.symm | exact wL.trans LO.out.symm), i64_eq (by first | exact HI.out.symm | exact wH.trans HI.out.symm), ?_, V9.out⟩
                            · have : a + ((j + 1 : Nat) : Int) = z + 1 := by have := HZ.out; omega
                              rw [this, HU2.out]
                            · have h := HD2.out
                              have e1 : n - (j + 1) = m := by have := HM2.out; omega
                              have e2 : a + ((j + 1 : Nat) : Int) + 1 = z + 1 + 1 := by have := HZ.out; omega
                              rw [e1, e2]
                              simpa using h
                          case measure =>
                            have h1 := rmeas n j a A0.out JN.out
                            rw [HZ.out] at h1
                            first | exact h1 | (rw [wz]; exact h1)
                        · have hn : (v == 0) = false := by simpa using cv
                          have h := HD2.out
                          rw [if_pos cv] at h
                          subst h
                          have hF := HF2.out
                          rw [if_pos cv] at hF
                          obtain ⟨rfl, hF2⟩ := Prod.mk.inj hF
                          obtain ⟨rfl, rfl⟩ := Prod.mk.inj hF2
                          clear hF hF2 HF2 HD2 HE2
                          go_wp2_with fail
                          refine STT.out.mono ?_
                          rintro _ w9 ⟨rfl, hb⟩
                          have V9 := hid (VR.out.below hb)
                          have z0 := V9.out.z0
                          have z1 := V9.out.z1
                          have zf := V9.out.zf
                          have zz := V9.out.zz
                          clear hb
                          go_wp2_with fail
                          refine bodyPost_ret (v := .tuple #[.agg #[.int .i64 0, .int .i64 0], .int .i64 v]) (by simp [results, Try.results24, go_sem, z0, z1, zf, zz]) rfl ?_
                          exact Gives.mk rfl (by have hB := V9.out.bl; repeat' (first | (with_reducible exact Below.refl _ _) | (with_reducible refine Below.alloc ?_ ?_ _) | (with_reducible refine Below.setCell ?_ ?_ _) | (with_reducible refine Below.drew ?_) | (with_reducible refine Below.trans ?_ (Below.mono (by assumption) ?_)) | (simp; done) | (simp; omega) | omega))
                      · obtain rfl : j = n := by omega
                        have hd := HD.out
                        rw [Nat.sub_self] at hd
                        have z0 : 0 = E2 := hd
                        subst z0
                        have hF := HF2.out
                        simp only [ne_eq, not_true_eq_false, if_false] at hF
                        rw [hL, hH] at hF
                        obtain ⟨hF1, hF3⟩ := Prod.mk.inj hF
                        obtain ⟨hF2, hF5⟩ := Prod.mk.inj hF3
                        subst hF5
                        have EN := hid (fun W => r14enc_any L H 10000000000 l0 (by omega) h0 (by omega) (by omega) (by omega) W)
                        rw [hF1, hF2] at EN
                        have f6 : decide (a + (j : Int) < b) = false := decide_eq_false (by have := HN.out; omega)
                        clear hF hF1 hF3 hF2 HF2 HE2 hd l0 l1 h0 h1 hL hH ok3
                        go_wp2_with fail
                        refine (EN.out _).mono ?_
                        rintro _ w9 ⟨rfl, hb⟩
                        have V9 := hid (VR.out.below hb)
                        have z0 := V9.out.z0
                        have z1 := V9.out.z1
                        have zf := V9.out.zf
                        have zz := V9.out.zz
                        clear hb
                        go_wp2_with fail
                        refine bodyPost_ret (v := .tuple #[.agg #[.int .i64 lo, .int .i64 hi], .int .i64 0]) (by simp [results, Try.results24, go_sem, z0, z1, zf, zz]) rfl ?_
                        exact Gives.mk rfl (by have hB := V9.out.bl; repeat' (first | (with_reducible exact Below.refl _ _) | (with_reducible refine Below.alloc ?_ ?_ _) | (with_reducible refine Below.setCell ?_ ?_ _) | (with_reducible refine Below.drew ?_) | (with_reducible refine Below.trans ?_ (Below.mono (by assumption) ?_)) | (simp; done) | (simp; omega) | omega))
                  · have hn : (y == 0) = false := by simpa using cy
                    have hF := HF.out
                    rw [Sp.fe.eq_2, HP.out] at hF
                    simp only [ne_eq, cy, not_false_eq_true, if_true] at hF
                    obtain ⟨rfl, hF2⟩ := Prod.mk.inj hF
                    obtain ⟨rfl, rfl⟩ := Prod.mk.inj hF2
                    have z0 := V8.out.z0
                    have z1 := V8.out.z1
                    have zf := V8.out.zf
                    have zz := V8.out.zz
                    clear hF hF2 HF
                    go_wp2_with fail
                    refine bodyPost_ret (v := .tuple #[.agg #[.int .i64 0, .int .i64 0], .int .i64 y]) (by simp [results, Try.results24, go_sem, z0, z1, zf, zz]) rfl ?_
                    exact Gives.mk rfl (by have hB := V8.out.bl; repeat' (first | (with_reducible exact Below.refl _ _) | (with_reducible refine Below.alloc ?_ ?_ _) | (with_reducible refine Below.setCell ?_ ?_ _) | (with_reducible refine Below.drew ?_) | (with_reducible refine Below.trans ?_ (Below.mono (by assumption) ?_)) | (simp; done) | (simp; omega) | omega))
  · have z0 := V5.out.z0
    have z1 := V5.out.z1
    have zf := V5.out.zf
    have zz := V5.out.zz
    have hn : (E == 0) = false := by simpa using c1
    obtain ⟨rfl, rfl, rfl⟩ : 0 = lo ∧ 0 = hi ∧ E = e := by simpa [c1] using HV.out
    go_wp2_with fail
    refine bodyPost_ret (v := .tuple #[.agg #[.int .i64 0, .int .i64 0], .int .i64 E]) (by simp [results, Try.results24, go_sem, z0, z1, zf, zz]) rfl ?_
    exact Gives.mk rfl (by have hB := V5.out.bl; repeat' (first | (with_reducible exact Below.refl _ _) | (with_reducible refine Below.alloc ?_ ?_ _) | (with_reducible refine Below.setCell ?_ ?_ _) | (with_reducible refine Below.drew ?_) | (with_reducible refine Below.trans ?_ (Below.mono (by assumption) ?_)) | (simp; done) | (simp; omega) | omega))
end Go.Proofs.Ytdimncchejbaaaa
