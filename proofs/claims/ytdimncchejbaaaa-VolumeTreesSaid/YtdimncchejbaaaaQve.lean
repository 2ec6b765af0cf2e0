/-
  Layer 14: the reference Volume and Tree, and the walk of VolumeTrees.
-/
import Derived.Test.YtdimncchejbaaaaQvc
import Derived.Test.YtdimncchejbaaaaVta
namespace Go.Proofs.Ytdimncchejbaaaa
open Go.RowKit
set_option linter.unusedVariables false
set_option linter.unusedSimpArgs false
theorem r14vol_any (A A' : Option Addr) (cap cap' : Nat) (h t : List Sp.Pd) (f : Int) (d x lo hi e : Int) (w : World) (hz : PcSized h) (tz : PcSized t) (hT : Pcs w A h) (tT : Pcs w A' t) (hv : Sp.volE h f t d x = (lo, hi, e)) :
    Calls Try.prog 16 #[.agg #[.slice A h.length cap, .int .i64 f, .slice A' t.length cap'], .int .i64 d, .int .i64 x] w (Gives (.tuple #[.agg #[.int .i64 lo, .int .i64 hi], .int .i64 e]) w) := by
  have VB := VBox.new w A h.length cap f A' t.length cap'
  generalize hU : (w.alloc (Obj.cells #[.slice A h.length cap, .int .i64 f, .slice A' t.length cap'] 24)).alloc (Obj.cells #[.int .i64 0, .int .i64 0] 32) = U at VB
  have CK := hid (r14check_any A A' cap cap' h t f U hz tz (hT.below VB.bl) (tT.below VB.bl))
  have DI := hid (fun W => r14thick_any d W)
  have HE := hid (fun W => r14tall_any x W)
  have GD := hid (fun (k : Sp.stemE h f t d x = 0) => (show ((1 ≤ f ∧ f ≤ 1000) ∧ (1 ≤ d ∧ d ≤ 3000) ∧ (1 ≤ x ∧ x ≤ 1000)) from by
    obtain ⟨k0, k1, k2, k3, k4⟩ := Sp.stemE_zero k
    obtain ⟨y0, y1, y2, -⟩ := Sp.curE_zero k0
    exact ⟨⟨y1, y2⟩, ⟨k1, k2⟩, k3, k4⟩))
  unfold Sp.volE at hv
  unfold Sp.stemE at hv GD
  generalize Sp.curE h f t = E at CK hv GD
  generalize (decide (1 ≤ d) && decide (d ≤ 3000)) = B1 at DI hv GD
  generalize (decide (1 ≤ x) && decide (x ≤ 1000)) = B2 at HE hv GD
  have HU := hid hU
  have HB := hid VB
  have HV := hid hv
  have k0 := VB.cu.c0
  have k1 := VB.cu.c1
  have k2 := VB.cu.c2
  clear hz tz hT tT hU VB hv
  go_enter Try.func16, Try.ntmps16
  go_upto_region 1 with fail
  rw [HU.out]
  go_wp2_with fail
  refine CK.out.mono ?_
  rintro _ w5 ⟨rfl, hb⟩
  have V5 := hid (HB.out.below hb)
  clear hb k0 k1 k2
  by_cases c1 : E = 0
  · subst c1
    go_wp2_with fail
    refine (DI.out _).mono ?_
    rintro _ w6 ⟨rfl, hb⟩
    have V6 := hid (V5.out.below hb)
    have z0 := V6.out.z0
    have z1 := V6.out.z1
    have zf := V6.out.zf
    have zz := V6.out.zz
    clear hb
    cases B1
    · obtain ⟨rfl, rfl, rfl⟩ : 0 = lo ∧ 0 = hi ∧ 2 = e := by simpa using HV.out
      go_wp2_with fail
      refine bodyPost_ret (v := .tuple #[.agg #[.int .i64 0, .int .i64 0], .int .i64 2]) (by simp [results, Try.results16, go_sem, z0, z1, zf, zz]) rfl ?_
      exact Gives.mk rfl (by have hB := V6.out.bl; repeat' (first | (with_reducible exact Below.refl _ _) | (with_reducible refine Below.alloc ?_ ?_ _) | (with_reducible refine Below.setCell ?_ ?_ _) | (with_reducible refine Below.drew ?_) | (with_reducible refine Below.trans ?_ (Below.mono (by assumption) ?_)) | (simp; done) | (simp; omega) | omega))
    · clear z0 z1 zf zz
      go_wp2_with fail
      refine (HE.out _).mono ?_
      rintro _ w7 ⟨rfl, hb⟩
      have V7 := hid (V6.out.below hb)
      have z0 := V7.out.z0
      have z1 := V7.out.z1
      have zf := V7.out.zf
      have zz := V7.out.zz
      clear hb
      cases B2
      · obtain ⟨rfl, rfl, rfl⟩ : 0 = lo ∧ 0 = hi ∧ 2 = e := by simpa using HV.out
        go_wp2_with fail
        refine bodyPost_ret (v := .tuple #[.agg #[.int .i64 0, .int .i64 0], .int .i64 2]) (by simp [results, Try.results16, go_sem, z0, z1, zf, zz]) rfl ?_
        exact Gives.mk rfl (by have hB := V7.out.bl; repeat' (first | (with_reducible exact Below.refl _ _) | (with_reducible refine Below.alloc ?_ ?_ _) | (with_reducible refine Below.setCell ?_ ?_ _) | (with_reducible refine Below.drew ?_) | (with_reducible refine Below.trans ?_ (Below.mono (by assumption) ?_)) | (simp; done) | (simp; omega) | omega))
      · obtain ⟨⟨f0, f1⟩, ⟨d0, d1⟩, x0, x1⟩ := GD.out (by simp)
        obtain ⟨h1, h2, h3⟩ : (Sp.volS f d x).1 = lo ∧ (Sp.volS f d x).2 = hi ∧ 0 = e := by simpa using HV.out
        subst h3
        unfold Sp.volS at h1 h2
        simp only at h1 h2
        obtain ⟨p1, p2, p3⟩ := vol_prod f0 f1 d0 d1 x0 x1
        obtain ⟨n1, hn1⟩ : ∃ n, f * d = n := ⟨_, rfl⟩
        rw [hn1] at p1 p2 p3 h1 h2
        obtain ⟨n2, hn2⟩ : ∃ n, n1 * d = n := ⟨_, rfl⟩
        rw [hn2] at p2 p3 h1 h2
        obtain ⟨n, hn⟩ : ∃ n, n2 * x = n := ⟨_, rfl⟩
        rw [hn] at p3 h1 h2
        have EN := hid (fun W => r14enc_any n n 10000000000000 p3.1 p3.2 p3.1 p3.2 (by omega) (by omega) W)
        rw [h1, h2] at EN
        have w1 : wrap64 n1 = n1 := pw64 _ (by omega)
        have w2 : wrap64 n2 = n2 := pw64 _ (by omega)
        have w3 : wrap64 n = n := pw64 _ (by omega)
        have q1 := V7.out.cu.c1
        have ql := V7.out.cu.lt
        clear z0 z1 zf zz h1 h2 p1 p2 p3 f0 f1 d0 d1 x0 x1 HV GD
        go_wp2_with fail
        refine (EN.out _).mono ?_
        rintro _ w8 ⟨rfl, hb⟩
        have V8 := hid (V7.out.below hb)
        have z0 := V8.out.z0
        have z1 := V8.out.z1
        have zf := V8.out.zf
        have zz := V8.out.zz
        clear hb q1 ql
        go_wp2_with fail
        refine bodyPost_ret (v := .tuple #[.agg #[.int .i64 lo, .int .i64 hi], .int .i64 0]) (by simp [results, Try.results16, go_sem, z0, z1, zf, zz]) rfl ?_
        exact Gives.mk rfl (by have hB := V8.out.bl; repeat' (first | (with_reducible exact Below.refl _ _) | (with_reducible refine Below.alloc ?_ ?_ _) | (with_reducible refine Below.setCell ?_ ?_ _) | (with_reducible refine Below.drew ?_) | (with_reducible refine Below.trans ?_ (Below.mono (by assumption) ?_)) | (simp; done) | (simp; omega) | omega))
  · have z0 := V5.out.z0
    have z1 := V5.out.z1
    have zf := V5.out.zf
    have zz := V5.out.zz
    obtain ⟨rfl, rfl, rfl⟩ : 0 = lo ∧ 0 = hi ∧ E = e := by simpa [c1] using HV.out
    have hn : (E == 0) = false := by simpa using c1
    go_wp2_with fail
    refine bodyPost_ret (v := .tuple #[.agg #[.int .i64 0, .int .i64 0], .int .i64 E]) (by simp [results, Try.results16, go_sem, z0, z1, zf, zz]) rfl ?_
    exact Gives.mk rfl (by have hB := V5.out.bl; repeat' (first | (with_reducible exact Below.refl _ _) | (with_reducible refine Below.alloc ?_ ?_ _) | (with_reducible refine Below.setCell ?_ ?_ _) | (with_reducible refine Below.drew ?_) | (with_reducible refine Below.trans ?_ (Below.mono (by assumption) ?_)) | (simp; done) | (simp; omega) | omega))
/-- The boxes of a law's parameters: a curve, a stem. -/
structure CS (w W : World) (A : Option Addr) (n cap : Nat) (f : Int) (A' : Option Addr) (n' cap' : Nat) (d x : Int) : Prop where
  bl : Below w.heap.size w W
  cu : CurAt W w.heap.size A n cap f A' n' cap'
  st : StemAt W (w.heap.size + 1) d x
theorem CS.new (w : World) (A : Option Addr) (n cap : Nat) (f : Int) (A' : Option Addr) (n' cap' : Nat) (d x : Int) :
    CS w ((w.alloc (.cells #[.slice A n cap, .int .i64 f, .slice A' n' cap'] 24)).alloc (.cells #[.int .i64 d, .int .i64 x] 26)) A n cap f A' n' cap' d x :=
  ⟨bthen (balloc _ _) (balloc _ _), (curAt_new w A A' n cap n' cap' f).below (balloc _ _), by
    have h := stemAt_new (w.alloc (.cells #[.slice A n cap, .int .i64 f, .slice A' n' cap'] 24)) d x
    have e : (w.alloc (.cells #[.slice A n cap, .int .i64 f, .slice A' n' cap'] 24)).heap.size = w.heap.size + 1 := by simp
    rw [e] at h
    exact h⟩
theorem CS.below {w W W' : World} {A A' : Option Addr} {n cap n' cap' : Nat} {f d x : Int} (h : CS w W A n cap f A' n' cap' d x) (hb : Below W.heap.size W W') : CS w W' A n cap f A' n' cap' d x := ⟨bthen h.bl hb, h.cu.below hb, h.st.below hb⟩
/-- The error of Diameter, as the reference goes through it. -/
theorem Sp.stemP_one (h : List Sp.Pd) (f : Int) (t : List Sp.Pd) (d x a : Int) : Sp.stemP h f t d x [a] =
    (if Sp.curE h f t ≠ 0 then Sp.curE h f t else if (decide (1 ≤ d) && decide (d ≤ 3000)) = false then 2 else if (decide (1 ≤ x) && decide (x ≤ 1000)) = false then 2 else if a < 0 then 2 else if x < a then 2 else 0) := by
  unfold Sp.stemP Sp.stemE Sp.plE
  by_cases c : Sp.curE h f t = 0
  · rw [c]
    simp only [ne_eq, not_true_eq_false, if_false]
    by_cases c1 : (decide (1 ≤ d) && decide (d ≤ 3000)) = false
    · rw [if_pos c1, if_pos c1]; rfl
    · rw [if_neg c1, if_neg c1]
      by_cases c2 : (decide (1 ≤ x) && decide (x ≤ 1000)) = false
      · rw [if_pos c2, if_pos c2]; rfl
      · rw [if_neg c2, if_neg c2]
        simp only [not_true_eq_false, if_false]
        by_cases c3 : a < 0
        · rw [if_pos c3, if_pos (by simp; omega)]
        · rw [if_neg c3]
          by_cases c4 : x < a
          · rw [if_pos c4, if_pos (by simp; omega)]
          · rw [if_neg c4, if_neg (by simp; omega)]; rfl
  · rw [if_pos c, if_pos c, if_pos c]
set_option maxRecDepth 100000 in
theorem r14tree_out (A : Option Addr) (cap : Nat) (l : List Sp.Cv) (s d x q : Int) (w : World) (h : ¬ (0 ≤ s ∧ s < (l.length : Int))) :
    Calls Try.prog 20 #[.slice A l.length cap, .agg #[.int .i64 s, .int .i64 d, .int .i64 x, .int .i64 q]] w (Gives (.tuple #[.agg #[.int .i64 0, .int .i64 0], .int .i64 2]) w) := by
  have VB := TBox.new w s d x q
  generalize hU : (w.alloc (.cells #[.int .i64 s, .int .i64 d, .int .i64 x, .int .i64 q] 39)).alloc (Obj.cells #[.int .i64 0, .int .i64 0] 32) = U at VB
  have HU := hid hU
  have HB := hid VB
  have k0 := VB.s0
  have kz := VB.zz
  have z0 := VB.z0
  have z1 := VB.z1
  have zf := VB.zf
  clear hU VB
  by_cases c : s < 0
  · have f1 : decide (s < 0) = true := decide_eq_true c
    clear h c
    go_enter Try.func20, Try.ntmps20
    go_upto_region 1 with fail
    rw [HU.out]
    go_wp2_with fail
    refine bodyPost_ret (v := .tuple #[.agg #[.int .i64 0, .int .i64 0], .int .i64 2]) (by simp [results, Try.results20, go_sem, z0, z1, zf, kz]) rfl ?_
    exact Gives.mk rfl (by have hB := HB.out.bl; repeat' (first | (with_reducible exact Below.refl _ _) | (with_reducible refine Below.alloc ?_ ?_ _) | (with_reducible refine Below.setCell ?_ ?_ _) | (with_reducible refine Below.drew ?_) | (with_reducible refine Below.trans ?_ (Below.mono (by assumption) ?_)) | (simp; done) | (simp; omega) | omega))
  · have f1 : decide (s < 0) = false := decide_eq_false c
    have f2 : decide ((l.length : Int) ≤ s) = true := decide_eq_true (by omega)
    clear h c
    go_enter Try.func20, Try.ntmps20
    go_upto_region 1 with fail
    rw [HU.out]
    go_wp2_with fail
    refine bodyPost_ret (v := .tuple #[.agg #[.int .i64 0, .int .i64 0], .int .i64 2]) (by simp [results, Try.results20, go_sem, z0, z1, zf, kz]) rfl ?_
    exact Gives.mk rfl (by have hB := HB.out.bl; repeat' (first | (with_reducible exact Below.refl _ _) | (with_reducible refine Below.alloc ?_ ?_ _) | (with_reducible refine Below.setCell ?_ ?_ _) | (with_reducible refine Below.drew ?_) | (with_reducible refine Below.trans ?_ (Below.mono (by assumption) ?_)) | (simp; done) | (simp; omega) | omega))
/-- What Height has answered inside Tree. -/
def HtRel (w : World) (s d x q r y : Int) (v v' : Value) (wx : World) : Prop := v = .int .i64 r ∧ v' = .int .i64 y ∧ TBox w wx s d x q
/-- The end of Tree. -/
def EdRel (w : World) (lo hi e : Int) (v : Value) (wx : World) : Prop := v = .int .i64 e ∧ wx.cell? ⟨w.heap.size + 1, 0, none⟩ = some (.int .i64 lo) ∧ wx.cell? ⟨w.heap.size + 1, 1, none⟩ = some (.int .i64 hi) ∧ Below w.heap.size w wx
set_option maxRecDepth 100000 in
set_option maxHeartbeats 2000000 in
theorem r14tree_in (A : Option Addr) (cap : Nat) (l : List Sp.Cv) (j : Nat) (hj : j < l.length) (d x q lo hi e : Int) (w : World) (hz : CvSized l) (hT : Cvs w A l) (hv : Sp.tree1 (l[j]) d x = (lo, hi, e)) :
    Calls Try.prog 20 #[.slice A l.length cap, .agg #[.int .i64 (j : Int), .int .i64 d, .int .i64 x, .int .i64 q]] w (Gives (.tuple #[.agg #[.int .i64 lo, .int .i64 hi], .int .i64 e]) w) := by
  have VB := TBox.new w (j : Int) d x q
  generalize hU : (w.alloc (.cells #[.int .i64 (j : Int), .int .i64 d, .int .i64 x, .int .i64 q] 39)).alloc (Obj.cells #[.int .i64 0, .int .i64 0] 32) = U at VB
  obtain ⟨sh, st⟩ := hz.2 _ (List.getElem_mem hj)
  obtain ⟨ph, pt⟩ := hT.ps _ (List.getElem_mem hj)
  obtain ⟨b, off, rfl, bl, qq⟩ := hT.ce (by omega)
  obtain ⟨q0, q1, q2⟩ := qq j hj
  obtain ⟨c, hc⟩ : ∃ c, l[j] = c := ⟨_, rfl⟩
  rw [hc] at sh st ph pt q0 q1 q2 hv
  obtain ⟨Ah, kh, hh, f, At, kt, tt⟩ := c
  simp only at sh st ph pt q0 q1 q2
  have HEI := hid (fun W (hb : Below w.heap.size w W) r y hr => r14hei_any Ah At kh kt hh tt f d r y W sh st (ph.below hb) (pt.below hb) hr)
  have VOL := hid (fun W (hb : Below w.heap.size w W) x lo hi e hr => r14vol_any Ah At kh kt hh tt f d x lo hi e W sh st (ph.below hb) (pt.below hb) hr)
  have n0 : (0 : Int) ≤ (j : Int) := Int.natCast_nonneg j
  have n1 : (j : Int) < (l.length : Int) := by omega
  have f1 : decide ((j : Int) < 0) = false := decide_eq_false (by omega)
  have f2 : decide ((l.length : Int) ≤ (j : Int)) = false := decide_eq_false (by omega)
  have R0 := hid (fun W (hb : Below w.heap.size w W) => (hb.cell (p := ⟨b, off + j * 3, none⟩) bl).trans q0)
  have R1 := hid (fun W (hb : Below w.heap.size w W) => (hb.cell (p := ⟨b, off + j * 3 + 1, none⟩) bl).trans q1)
  have R2 := hid (fun W (hb : Below w.heap.size w W) => (hb.cell (p := ⟨b, off + j * 3 + 2, none⟩) bl).trans q2)
  have BL := hid bl
  have HU := hid hU
  have HB := hid VB
  have HV := hid hv
  have k0 := VB.s0
  have k2 := VB.s2
  have kz := VB.zz
  clear hU VB hv q0 q1 q2 qq hT hz sh st ph pt hc
  have t0 := k0
  have t1 := HB.out.s1
  have c0 := R0.out _ HB.out.bl
  have c1 := R1.out _ HB.out.bl
  have c2 := R2.out _ HB.out.bl
  have cl : b < U.heap.size := Nat.lt_of_lt_of_le bl HB.out.bl.size
  have tl : w.heap.size < U.heap.size := by omega
  clear bl
  have hv := HV.out
  unfold Sp.tree1 at hv
  simp only at hv
  by_cases cx : x = 0
  · subst cx
    rw [if_pos rfl] at hv
    obtain ⟨⟨r, y⟩, hr⟩ : ∃ z, Sp.heiS hh f tt d = z := ⟨_, rfl⟩
    rw [hr] at hv
    simp only at hv
    have H1 := hid (fun W hb => HEI.out W hb r y hr)
    have HV2 := hid hv
    clear hv HV hr HEI
    go_enter Try.func20, Try.ntmps20
    go_upto_region 1 with fail
    rw [HU.out]
    go_upto_region 6 with fail
    go_cut [6, 7] (fun v v' wx => HtRel w (j : Int) d 0 q r y v v' wx)
    case first =>
      go_region_with (go_at_call 14; refine (H1.out _ (HB.out.bl.drew)).mono ?_; rintro _ w6 ⟨rfl, hb⟩; have V6 := HB.out.below (show Below U.heap.size U w6 from by repeat' (first | (with_reducible exact Below.refl _ _) | (with_reducible refine Below.alloc ?_ ?_ _) | (with_reducible refine Below.setCell ?_ ?_ _) | (with_reducible refine Below.drew ?_) | (with_reducible refine below_dn ?_ _) | (with_reducible refine Below.trans ?_ (Below.mono (by assumption) ?_)) | (simp; done) | (simp; omega) | omega)))
      all_goals
        go_wp2_with fail
        go_meet
        exact ⟨rfl, rfl, V6⟩
    case rest =>
      obtain ⟨rfl, rfl, V6⟩ := hcut
      have V6h := hid V6
      clear V6 t0 t1 c0 c1 c2 cl tl k0 k2 kz
      by_cases cy : y = 0
      · subst cy
        have hv := HV2.out
        rw [if_neg (fun k => k rfl)] at hv
        have VO := hid (fun W hb => VOL.out W hb r lo hi e hv)
        clear hv HV2 VOL
        go_upto_region 9 with fail
        have t0 := V6h.out.s0
        have t1 := V6h.out.s1
        have tz := V6h.out.zz
        have c0 := R0.out _ V6h.out.bl
        have c1 := R1.out _ V6h.out.bl
        have c2 := R2.out _ V6h.out.bl
        have cl : b < wc.heap.size := Nat.lt_of_lt_of_le BL.out V6h.out.bl.size
        have tl : w.heap.size < wc.heap.size := by omega
        go_cut [5] (fun v wx => EdRel w lo hi e v wx)
        case first =>
          go_region_with (go_at_call 16; refine (VO.out _ (V6h.out.bl.drew)).mono ?_; rintro _ w7 ⟨rfl, hb⟩; have V7 := V6h.out.below (show Below wc.heap.size wc w7 from by repeat' (first | (with_reducible exact Below.refl _ _) | (with_reducible refine Below.alloc ?_ ?_ _) | (with_reducible refine Below.setCell ?_ ?_ _) | (with_reducible refine Below.drew ?_) | (with_reducible refine below_dn ?_ _) | (with_reducible refine Below.trans ?_ (Below.mono (by assumption) ?_)) | (simp; done) | (simp; omega) | omega)); have z0 := V7.z0; have z1 := V7.z1; have zf := V7.zf; have zz := V7.zz)
          all_goals
            go_wp2_with fail
            go_meet
            exact ⟨rfl, by simp [go_sem, z0, z1], by simp [go_sem, z0, z1], by have hB := V7.bl; repeat' (first | (with_reducible exact Below.refl _ _) | (with_reducible refine Below.alloc ?_ ?_ _) | (with_reducible refine Below.setCell ?_ ?_ _) | (with_reducible refine Below.drew ?_) | (with_reducible refine Below.trans ?_ (Below.mono (by assumption) ?_)) | (simp; done) | (simp; omega) | omega)⟩
        case rest =>
          obtain ⟨rfl, z0, z1, hB⟩ := hcut
          go_wp2_with fail
          refine bodyPost_ret (v := .tuple #[.agg #[.int .i64 lo, .int .i64 hi], .int .i64 e]) (by simp [results, Try.results20, go_sem, z0, z1]) rfl ?_
          exact Gives.mk rfl hB
      · have hv := HV2.out
        rw [if_pos cy] at hv
        obtain ⟨rfl, hv2⟩ := Prod.mk.inj hv
        obtain ⟨rfl, rfl⟩ := Prod.mk.inj hv2
        have hn : (y == 0) = false := by simpa using cy
        have z0 := V6h.out.z0
        have z1 := V6h.out.z1
        have zf := V6h.out.zf
        have zz := V6h.out.zz
        clear hv hv2 HV2
        go_wp2_with fail
        refine bodyPost_ret (v := .tuple #[.agg #[.int .i64 0, .int .i64 0], .int .i64 y]) (by simp [results, Try.results20, go_sem, z0, z1, zf, zz]) rfl ?_
        exact Gives.mk rfl (by have hB := V6h.out.bl; repeat' (first | (with_reducible exact Below.refl _ _) | (with_reducible refine Below.alloc ?_ ?_ _) | (with_reducible refine Below.setCell ?_ ?_ _) | (with_reducible refine Below.drew ?_) | (with_reducible refine Below.trans ?_ (Below.mono (by assumption) ?_)) | (simp; done) | (simp; omega) | omega))
  · rw [if_neg cx] at hv
    have hn : (x == 0) = false := by simpa using cx
    have VO := hid (fun W hb => VOL.out W hb x lo hi e hv)
    clear hv HV VOL HEI
    go_enter Try.func20, Try.ntmps20
    go_upto_region 1 with fail
    rw [HU.out]
    go_upto_region 9 with fail
    go_cut [5] (fun v wx => EdRel w lo hi e v wx)
    case first =>
      go_region_with (go_at_call 16; refine (VO.out _ (HB.out.bl.drew)).mono ?_; rintro _ w7 ⟨rfl, hb⟩; have V7 := HB.out.below (show Below U.heap.size U w7 from by repeat' (first | (with_reducible exact Below.refl _ _) | (with_reducible refine Below.alloc ?_ ?_ _) | (with_reducible refine Below.setCell ?_ ?_ _) | (with_reducible refine Below.drew ?_) | (with_reducible refine below_dn ?_ _) | (with_reducible refine Below.trans ?_ (Below.mono (by assumption) ?_)) | (simp; done) | (simp; omega) | omega)); have z0 := V7.z0; have z1 := V7.z1; have zf := V7.zf; have zz := V7.zz)
      all_goals
        go_wp2_with fail
        go_meet
        exact ⟨rfl, by simp [go_sem, z0, z1], by simp [go_sem, z0, z1], by have hB := V7.bl; repeat' (first | (with_reducible exact Below.refl _ _) | (with_reducible refine Below.alloc ?_ ?_ _) | (with_reducible refine Below.setCell ?_ ?_ _) | (with_reducible refine Below.drew ?_) | (with_reducible refine Below.trans ?_ (Below.mono (by assumption) ?_)) | (simp; done) | (simp; omega) | omega)⟩
    case rest =>
      obtain ⟨rfl, z0, z1, hB⟩ := hcut
      go_wp2_with fail
      refine bodyPost_ret (v := .tuple #[.agg #[.int .i64 lo, .int .i64 hi], .int .i64 e]) (by simp [results, Try.results20, go_sem, z0, z1]) rfl ?_
      exact Gives.mk rfl hB
theorem r14tree_any (A : Option Addr) (cap : Nat) (l : List Sp.Cv) (s d x q lo hi e : Int) (w : World) (hz : CvSized l) (hT : Cvs w A l) (hv : Sp.treeS l s d x = (lo, hi, e)) :
    Calls Try.prog 20 #[.slice A l.length cap, .agg #[.int .i64 s, .int .i64 d, .int .i64 x, .int .i64 q]] w (Gives (.tuple #[.agg #[.int .i64 lo, .int .i64 hi], .int .i64 e]) w) := by
  unfold Sp.treeS at hv
  by_cases h : 0 ≤ s ∧ s < (l.length : Int)
  · rw [dif_pos h] at hv
    obtain ⟨j, rfl⟩ : ∃ j : Nat, s = (j : Int) := ⟨s.toNat, by omega⟩
    exact r14tree_in A cap l j (by omega) d x q lo hi e w hz hT (by simpa using hv)
  · rw [dif_neg h] at hv
    obtain ⟨rfl, hv2⟩ := Prod.mk.inj hv
    obtain ⟨rfl, rfl⟩ := Prod.mk.inj hv2
    exact r14tree_out A cap l s d x q w h
/-- A tree's box alone. -/
structure TreeAt (w W : World) (s d x q : Int) : Prop where
  bl : Below w.heap.size w W
  s0 : W.cell? ⟨w.heap.size, 0, none⟩ = some (.int .i64 s)
  s1 : W.cell? ⟨w.heap.size, 1, none⟩ = some (.int .i64 d)
  s2 : W.cell? ⟨w.heap.size, 2, none⟩ = some (.int .i64 x)
  s3 : W.cell? ⟨w.heap.size, 3, none⟩ = some (.int .i64 q)
  zz : w.heap.size < W.heap.size
theorem TreeAt.new (w : World) (s d x q : Int) : TreeAt w (w.alloc (.cells #[.int .i64 s, .int .i64 d, .int .i64 x, .int .i64 q] 39)) s d x q :=
  ⟨balloc _ _, by simp [go_sem], by simp [go_sem], by simp [go_sem], by simp [go_sem], by simp⟩
theorem TreeAt.below {w W W' : World} {s d x q : Int} (h : TreeAt w W s d x q) (hb : Below W.heap.size W W') : TreeAt w W' s d x q :=
  ⟨bthen h.bl hb, (hb.cell (p := ⟨w.heap.size, 0, none⟩) h.zz).trans h.s0, (hb.cell (p := ⟨w.heap.size, 1, none⟩) h.zz).trans h.s1, (hb.cell (p := ⟨w.heap.size, 2, none⟩) h.zz).trans h.s2, (hb.cell (p := ⟨w.heap.size, 3, none⟩) h.zz).trans h.s3, Nat.lt_of_lt_of_le h.zz hb.size⟩
set_option maxRecDepth 100000 in
set_option maxHeartbeats 2000000 in
theorem vtrees_any (A : Option Addr) (cap : Nat) (l : List Sp.Cv) (s d x q : Int) (w : World) (hc : l.length ≤ cap) (hz : CvSized l) (hT : Cvs w A l) (bX : (-9223372036854775808 ≤ s ∧ s ≤ 9223372036854775807) ∧ (-9223372036854775808 ≤ d ∧ d ≤ 9223372036854775807) ∧ (-9223372036854775808 ≤ x ∧ x ≤ 9223372036854775807) ∧ (-9223372036854775808 ≤ q ∧ q ≤ 9223372036854775807)) :
    Calls Try.prog 4 #[.slice A l.length cap, .agg #[.int .i64 s, .int .i64 d, .int .i64 x, .int .i64 q]] w (Gives (.bool true) w) := by
  have AW := hid vawake_any
  have VB := TreeAt.new w s d x q
  generalize hU : w.alloc (.cells #[.int .i64 s, .int .i64 d, .int .i64 x, .int .i64 q] 39) = U at VB
  obtain ⟨⟨lo, hi, e⟩, he⟩ : ∃ z, Sp.treeS l s d x = z := ⟨_, rfl⟩
  have T1 := hid (fun W (hb : Below w.heap.size w W) => vtree_any A cap l s d x q lo hi e W hz (hT.below hb) he)
  have T2 := hid (fun W (hb : Below w.heap.size w W) => r14tree_any A cap l s d x q lo hi e W hz (hT.below hb) he)
  have HU := hid hU
  have HV := hid VB
  have HT := hid hT
  have HZ := hid hz
  have nl : (l.length : Int) ≤ 140737488355328 := by have := hz.1; omega
  have NL := hid nl
  clear hz hT hU VB he hc nl bX
  go_enter Try.func4, Try.ntmps4
  go_upto_region 1 with fail
  rw [HU.out]
  by_cases g : 10 < (l.length : Int)
  · have f1 : decide (10 < (l.length : Int)) = true := decide_eq_true g
    go_wp2_with fail
    refine (AW.out _).mono ?_
    rintro _ w20 ⟨rfl, hb⟩
    have B20 := hid hb
    clear hb
    go_wp2_with fail
    go_ret
    exact Gives.mk rfl (bthen HV.out.bl B20.out)
  · have f1 : decide (10 < (l.length : Int)) = false := decide_eq_false g
    go_wp2_with fail
    go_loopw [17] (fun i wr => ∃ j : Nat, i = .int .i64 (j : Int) ∧ j ≤ l.length ∧ TreeAt w wr s d x q) (fun i _ => l.length - (intOf i).toNat)
    case atStart => exact ⟨0, rfl, Nat.zero_le _, HV.out⟩
    case round =>
      obtain ⟨j, rfl, hj, hV⟩ := hrel
      have VR := hid hV
      clear hV
      by_cases hlt : j < l.length
      · obtain ⟨ph, pt⟩ := HT.out.ps _ (List.getElem_mem hlt)
        obtain ⟨sh, st⟩ := HZ.out.2 _ (List.getElem_mem hlt)
        obtain ⟨b, off, eA, bl, qq⟩ := HT.out.ce (by omega)
        obtain ⟨q0, q1, q2⟩ := qq j hlt
        obtain ⟨c, hc⟩ : ∃ c, l[j] = c := ⟨_, rfl⟩
        rw [hc] at sh st ph pt q0 q1 q2
        obtain ⟨Ah, kh, hh, f, At, kt, tt⟩ := c
        simp only at sh st ph pt q0 q1 q2
        have c0 := (VR.out.bl.cell (p := ⟨b, off + j * 3, none⟩) bl).trans q0
        have c1 := (VR.out.bl.cell (p := ⟨b, off + j * 3 + 1, none⟩) bl).trans q1
        have c2 := (VR.out.bl.cell (p := ⟨b, off + j * 3 + 2, none⟩) bl).trans q2
        have cl : b < wr.heap.size := Nat.lt_of_lt_of_le bl VR.out.bl.size
        have FE := hid (fun W (hb : Below w.heap.size w W) => r14few_any Ah At kh kt hh tt f W sh st (ph.below hb) (pt.below hb))
        generalize (fewS hh 3000 && fewS tt 3000) = BB at FE
        have n0 : (0 : Int) ≤ (j : Int) := Int.natCast_nonneg j
        have n1 : (j : Int) < (l.length : Int) := by omega
        have ej : wrap64 ((j : Int) + 1) = (j : Int) + 1 := pwk (by omega) (by omega)
        have HJ := hid hlt
        have EA := hid eA
        clear q0 q1 q2 qq sh st ph pt hc bl eA
        rw [EA.out]
        go_wp2_with fail
        refine (FE.out _ (bthen VR.out.bl (balloc _ _))).mono ?_
        rintro _ w6 ⟨rfl, hb⟩
        have V6 := hid ((VR.out.below (balloc _ _)).below hb)
        clear hb c0 c1 c2 cl
        cases BB
        · go_wp2_with fail
          refine (AW.out _).mono ?_
          rintro _ w20 ⟨rfl, hb⟩
          have B20 := hid hb
          clear hb
          go_wp2_with fail
          go_ret
          exact Gives.mk rfl (bthen V6.out.bl B20.out)
        · go_wp2_with fail
          go_roundw
          case rel => exact ⟨j + 1, by go_num, by have := HJ.out; omega, V6.out⟩
          case measure => first | exact pmeas _ _ HJ.out | (rw [ej]; exact pmeas _ _ HJ.out)
      · have i1 : ¬ (j : Int) < (l.length : Int) := by omega
        have s0 := VR.out.s0
        have s1 := VR.out.s1
        have s2 := VR.out.s2
        have s3 := VR.out.s3
        have sz := VR.out.zz
        go_wp2_with fail
        refine (T1.out _ VR.out.bl).mono ?_
        rintro _ w7 ⟨rfl, hb⟩
        have V7 := hid (VR.out.below hb)
        have V7a := hid (V7.out.below (balloc w7 (Obj.cells #[.int .i64 lo, .int .i64 hi] 32)))
        clear hb s0 s1 s2 s3 sz
        have s0 := V7.out.s0
        have s1 := V7.out.s1
        have s2 := V7.out.s2
        have s3 := V7.out.s3
        have sz := V7.out.zz
        have sn : ¬ w.heap.size = w7.heap.size := by omega
        go_wp2_with fail
        refine (T2.out _ V7a.out.bl).mono ?_
        rintro _ w8 ⟨rfl, hb⟩
        have V8 := hid (V7a.out.below hb)
        have a0 : w8.cell? ⟨w7.heap.size, 0, none⟩ = some (.int .i64 lo) := (hb.cell (p := ⟨w7.heap.size, 0, none⟩) (by simp)).trans (by simp [go_sem])
        have a1 : w8.cell? ⟨w7.heap.size, 1, none⟩ = some (.int .i64 hi) := (hb.cell (p := ⟨w7.heap.size, 1, none⟩) (by simp)).trans (by simp [go_sem])
        have al : w7.heap.size < w8.heap.size := by have := hb.size; simp at this; omega
        have an : ¬ w7.heap.size = w8.heap.size := by omega
        clear hb s0 s1 s2 s3 sz sn
        go_wp2_with fail
        refine (AW.out _).mono ?_
        rintro _ w20 ⟨rfl, hb⟩
        have B20 := hid hb
        clear hb
        go_wp2_with fail
        go_ret
        exact Gives.mk rfl (bthen V8.out.bl (bthen (balloc _ _) B20.out))
end Go.Proofs.Ytdimncchejbaaaa
