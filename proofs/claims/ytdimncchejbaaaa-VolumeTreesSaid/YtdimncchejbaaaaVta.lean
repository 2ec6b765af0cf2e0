/-
  Layer 14: lists of curves; Tree of package volume, by contract.
-/
import Derived.Test.YtdimncchejbaaaaQvc
namespace Go.Proofs.Ytdimncchejbaaaa
open Go.RowKit
set_option linter.unusedVariables false
set_option linter.unusedSimpArgs false
/-- A curve: both tables with their places and capacities, the form factor. -/
structure Sp.Cv where
  A : Option Addr
  k : Nat
  h : List Sp.Pd
  f : Int
  B : Option Addr
  m : Nat
  t : List Sp.Pd
/-- A list of curves that lies in memory. -/
structure Cvs (w : World) (A : Option Addr) (l : List Sp.Cv) : Prop where
  ce : 0 < l.length → ∃ b off, A = some ⟨b, off, none⟩ ∧ b < w.heap.size ∧ ∀ j, (hj : j < l.length) → w.cell? ⟨b, off + j * 3, none⟩ = some (.slice (l[j]).A (l[j]).h.length (l[j]).k) ∧ w.cell? ⟨b, off + j * 3 + 1, none⟩ = some (.int .i64 (l[j]).f) ∧ w.cell? ⟨b, off + j * 3 + 2, none⟩ = some (.slice (l[j]).B (l[j]).t.length (l[j]).m)
  ps : ∀ c ∈ l, Pcs w c.A c.h ∧ Pcs w c.B c.t
def CvSized (l : List Sp.Cv) : Prop := l.length ≤ 140737488355328 ∧ ∀ c ∈ l, PcSized c.h ∧ PcSized c.t
theorem Cvs.below {w w' : World} {A : Option Addr} {l : List Sp.Cv} (h : Cvs w A l) (hb : Below w.heap.size w w') : Cvs w' A l :=
  ⟨fun h0 => by
    obtain ⟨b, off, e, bl, q⟩ := h.ce h0
    exact ⟨b, off, e, Nat.lt_of_lt_of_le bl hb.size, fun j hj => ⟨(hb.cell (p := ⟨b, off + j * 3, none⟩) bl).trans (q j hj).1, (hb.cell (p := ⟨b, off + j * 3 + 1, none⟩) bl).trans (q j hj).2.1, (hb.cell (p := ⟨b, off + j * 3 + 2, none⟩) bl).trans (q j hj).2.2⟩⟩,
   fun c hc => ⟨(h.ps c hc).1.below hb, (h.ps c hc).2.below hb⟩⟩
/-- What Tree answers for one curve. -/
def Sp.tree1 (c : Sp.Cv) (d x : Int) : Int × Int × Int :=
  if x = 0 then (if (Sp.heiS c.h c.f c.t d).2 ≠ 0 then (0, 0, (Sp.heiS c.h c.f c.t d).2) else Sp.volE c.h c.f c.t d (Sp.heiS c.h c.f c.t d).1) else Sp.volE c.h c.f c.t d x
/-- What Tree answers. -/
def Sp.treeS (l : List Sp.Cv) (s d x : Int) : Int × Int × Int := if h : 0 ≤ s ∧ s < (l.length : Int) then Sp.tree1 (l[s.toNat]'(by omega)) d x else (0, 0, 2)
/-- A tree's box, and a span's box behind it, made in w. -/
structure TBox (w W : World) (s d x q : Int) : Prop where
  bl : Below w.heap.size w W
  s0 : W.cell? ⟨w.heap.size, 0, none⟩ = some (.int .i64 s)
  s1 : W.cell? ⟨w.heap.size, 1, none⟩ = some (.int .i64 d)
  s2 : W.cell? ⟨w.heap.size, 2, none⟩ = some (.int .i64 x)
  s3 : W.cell? ⟨w.heap.size, 3, none⟩ = some (.int .i64 q)
  z0 : W.cell? ⟨w.heap.size + 1, 0, none⟩ = some (.int .i64 0)
  z1 : W.cell? ⟨w.heap.size + 1, 1, none⟩ = some (.int .i64 0)
  zf : ∀ o, W.frozen? ⟨w.heap.size + 1, o, none⟩ = false
  zz : w.heap.size + 1 < W.heap.size
theorem TBox.new (w : World) (s d x q : Int) : TBox w ((w.alloc (.cells #[.int .i64 s, .int .i64 d, .int .i64 x, .int .i64 q] 39)).alloc (Obj.cells #[.int .i64 0, .int .i64 0] 32)) s d x q :=
  ⟨bthen (balloc _ _) (balloc _ _), by simp [go_sem], by simp [go_sem], by simp [go_sem], by simp [go_sem], by simp [go_sem], by simp [go_sem], fun o => by simp [go_sem], by simp⟩
theorem TBox.below {w W W' : World} {s d x q : Int} (h : TBox w W s d x q) (hb : Below W.heap.size W W') : TBox w W' s d x q := by
  have z : w.heap.size < W.heap.size := Nat.lt_of_succ_lt h.zz
  exact ⟨bthen h.bl hb, (hb.cell (p := ⟨w.heap.size, 0, none⟩) z).trans h.s0, (hb.cell (p := ⟨w.heap.size, 1, none⟩) z).trans h.s1, (hb.cell (p := ⟨w.heap.size, 2, none⟩) z).trans h.s2, (hb.cell (p := ⟨w.heap.size, 3, none⟩) z).trans h.s3, (hb.cell (p := ⟨w.heap.size + 1, 0, none⟩) h.zz).trans h.z0, (hb.cell (p := ⟨w.heap.size + 1, 1, none⟩) h.zz).trans h.z1, fun o => (hb.frozen (p := ⟨w.heap.size + 1, o, none⟩) h.zz).trans (h.zf o), Nat.lt_of_lt_of_le h.zz hb.size⟩
/-- The tree's curve lies in a box of its own. -/
def TrRel (w : World) (s d x q : Int) (A : Option Addr) (n k : Nat) (f : Int) (A' : Option Addr) (n' m : Nat) (v v' : Value) (wx : World) : Prop :=
  ∃ g, v = .pointer (some ⟨g, 0, none⟩) ∧ v' = .int .i64 x ∧ CurAt wx g A n k f A' n' m ∧ TBox w wx s d x q
set_option maxRecDepth 100000 in
theorem vtree_out (A : Option Addr) (cap : Nat) (l : List Sp.Cv) (s d x q : Int) (w : World) (hl : l.length ≤ 140737488355328) (h : ¬ (0 ≤ s ∧ s < (l.length : Int))) :
    Calls Try.prog 19 #[.slice A l.length cap, .agg #[.int .i64 s, .int .i64 d, .int .i64 x, .int .i64 q]] w (Gives (.tuple #[.agg #[.int .i64 0, .int .i64 0], .int .i64 2]) w) := by
  have VB := TBox.new w s d x q
  generalize hU : (w.alloc (.cells #[.int .i64 s, .int .i64 d, .int .i64 x, .int .i64 q] 39)).alloc (Obj.cells #[.int .i64 0, .int .i64 0] 32) = U at VB
  obtain ⟨n, hn⟩ : ∃ n : Int, (l.length : Int) = n := ⟨_, rfl⟩
  have WI := hid (vwithin_any s 0 (n - 1) U)
  have e : (decide (0 ≤ s) && decide (s ≤ n - 1)) = false := by simp; omega
  rw [e] at WI
  have wn : wrap64 (n - 1) = n - 1 := pw64 _ (by omega)
  have HU := hid hU
  have HB := hid VB
  have k0 := VB.s0
  have kz := VB.zz
  clear hU VB e h
  go_enter Try.func19, Try.ntmps19
  go_upto_region 1 with fail
  rw [HU.out]
  go_wp2_with fail
  refine WI.out.mono ?_
  rintro _ w5 ⟨rfl, hb⟩
  have V5 := hid (HB.out.below hb)
  have z0 := V5.out.z0
  have z1 := V5.out.z1
  have zf := V5.out.zf
  have zz := V5.out.zz
  clear hb k0 kz
  go_wp2_with fail
  refine bodyPost_ret (v := .tuple #[.agg #[.int .i64 0, .int .i64 0], .int .i64 2]) (by simp [results, Try.results19, go_sem, z0, z1, zf, zz]) rfl ?_
  exact Gives.mk rfl (by have hB := V5.out.bl; repeat' (first | (with_reducible exact Below.refl _ _) | (with_reducible refine Below.alloc ?_ ?_ _) | (with_reducible refine Below.setCell ?_ ?_ _) | (with_reducible refine Below.drew ?_) | (with_reducible refine Below.trans ?_ (Below.mono (by assumption) ?_)) | (simp; done) | (simp; omega) | omega))
set_option maxRecDepth 100000 in
set_option maxHeartbeats 2000000 in
theorem vtree_in (A : Option Addr) (cap : Nat) (l : List Sp.Cv) (j : Nat) (hj : j < l.length) (d x q lo hi e : Int) (w : World) (hz : CvSized l) (hT : Cvs w A l) (hv : Sp.tree1 (l[j]) d x = (lo, hi, e)) :
    Calls Try.prog 19 #[.slice A l.length cap, .agg #[.int .i64 (j : Int), .int .i64 d, .int .i64 x, .int .i64 q]] w (Gives (.tuple #[.agg #[.int .i64 lo, .int .i64 hi], .int .i64 e]) w) := by
  have VB := TBox.new w (j : Int) d x q
  generalize hU : (w.alloc (.cells #[.int .i64 (j : Int), .int .i64 d, .int .i64 x, .int .i64 q] 39)).alloc (Obj.cells #[.int .i64 0, .int .i64 0] 32) = U at VB
  obtain ⟨sh, st⟩ := hz.2 _ (List.getElem_mem hj)
  obtain ⟨ph, pt⟩ := hT.ps _ (List.getElem_mem hj)
  obtain ⟨b, off, rfl, bl, qq⟩ := hT.ce (by omega)
  obtain ⟨q0, q1, q2⟩ := qq j hj
  obtain ⟨c, hc⟩ : ∃ c, l[j] = c := ⟨_, rfl⟩
  rw [hc] at sh st ph pt q0 q1 q2 hv
  obtain ⟨Ah, kh, hh, f, At, kt, tt⟩ := c
  simp only at sh st ph pt q0 q1 q2
  have HEI := hid (fun W (hb : Below w.heap.size w W) r y hr => vhei_any Ah At kh kt hh tt f d r y W sh st (ph.below hb) (pt.below hb) hr)
  have VOL := hid (fun W (hb : Below w.heap.size w W) x lo hi e hr => vvol_any Ah At kh kt hh tt f d x lo hi e W sh st (ph.below hb) (pt.below hb) hr)
  have n0 : (0 : Int) ≤ (j : Int) := Int.natCast_nonneg j
  have n1 : (j : Int) < (l.length : Int) := by omega
  have nl : (l.length : Int) ≤ 140737488355328 := by have := hz.1; omega
  have WI := hid (vwithin_any (j : Int) 0 ((l.length : Int) - 1) U)
  have ew : (decide (0 ≤ (j : Int)) && decide ((j : Int) ≤ (l.length : Int) - 1)) = true := by simp; omega
  rw [ew] at WI
  have wn : wrap64 ((l.length : Int) - 1) = (l.length : Int) - 1 := pw64 _ (by omega)
  have r0 := fun W (hb : Below w.heap.size w W) => (hb.cell (p := ⟨b, off + j * 3, none⟩) bl).trans q0
  have r1 := fun W (hb : Below w.heap.size w W) => (hb.cell (p := ⟨b, off + j * 3 + 1, none⟩) bl).trans q1
  have r2 := fun W (hb : Below w.heap.size w W) => (hb.cell (p := ⟨b, off + j * 3 + 2, none⟩) bl).trans q2
  have R0 := hid r0
  have R1 := hid r1
  have R2 := hid r2
  have BL := hid bl
  have HU := hid hU
  have HB := hid VB
  have HV := hid hv
  have k0 := VB.s0
  have kz := VB.zz
  clear hU VB ew hv r0 r1 r2 q0 q1 q2 qq hT hz sh st ph pt hc bl nl
  go_enter Try.func19, Try.ntmps19
  go_upto_region 1 with fail
  rw [HU.out]
  go_wp2_with fail
  refine WI.out.mono ?_
  rintro _ w5 ⟨rfl, hb⟩
  have V5 := hid (HB.out.below hb)
  clear hb k0 kz wn
  go_upto_region 3 with fail
  have t0 := V5.out.s0
  have t1 := V5.out.s1
  have t2 := V5.out.s2
  have tz := V5.out.zz
  have c0 := R0.out _ V5.out.bl
  have c1 := R1.out _ V5.out.bl
  have c2 := R2.out _ V5.out.bl
  have cl : b < w5.heap.size := Nat.lt_of_lt_of_le BL.out V5.out.bl.size
  have cn : ¬ b = w5.heap.size := by omega
  have tl : w.heap.size < w5.heap.size := by omega
  have tn : ¬ w.heap.size = w5.heap.size := by omega
  go_cut [6, 7] (fun v v' wx => TrRel w (j : Int) d x q Ah hh.length kh f At tt.length kt v v' wx)
  case first =>
    go_region_with fail
    all_goals
      go_wp2_with fail
      go_meet
      have hx := V5.out.below (show Below w5.heap.size w5 (w5.drew.alloc (.cells #[.slice Ah hh.length kh, .int .i64 f, .slice At tt.length kt] 24)) from by repeat' (first | (with_reducible exact Below.refl _ _) | (with_reducible refine Below.alloc ?_ ?_ _) | (with_reducible refine Below.setCell ?_ ?_ _) | (with_reducible refine Below.drew ?_) | (with_reducible refine below_dn ?_ _) | (with_reducible refine Below.trans ?_ (Below.mono (by assumption) ?_)) | (simp; done) | (simp; omega) | omega))
      exact ⟨w5.heap.size, rfl, rfl, ⟨by simp, by simp [go_sem], by simp [go_sem], by simp [go_sem]⟩, hx⟩
  case rest =>
    obtain ⟨g, rfl, rfl, CA, hV⟩ := hcut
    have V6 := hid hV
    have CC := hid CA
    clear hV CA t0 t1 t2 tz c0 c1 c2 cl cn tl tn
    have hv := HV.out
    unfold Sp.tree1 at hv
    simp only at hv
    by_cases cx : x = 0
    · subst cx
      rw [if_pos rfl] at hv
      obtain ⟨⟨r, y⟩, hr⟩ : ∃ z, Sp.heiS hh f tt d = z := ⟨_, rfl⟩
      rw [hr] at hv
      simp only at hv
      have H1 := hid (HEI.out wc V6.out.bl r y hr)
      have HV2 := hid hv
      have k0 := CC.out.c0
      have k1 := CC.out.c1
      have k2 := CC.out.c2
      have kl := CC.out.lt
      have t1 := V6.out.s1
      have tz := V6.out.zz
      clear hv HV hr
      go_wp2_with fail
      refine H1.out.mono ?_
      rintro _ w7 ⟨rfl, hb⟩
      have V7 := hid (V6.out.below hb)
      have C7 := hid (CC.out.below hb)
      clear hb k0 k1 k2 kl t1 tz
      by_cases cy : y = 0
      · subst cy
        have hv := HV2.out
        rw [if_neg (fun k => k rfl)] at hv
        have VO := hid (VOL.out w7 V7.out.bl r lo hi e hv)
        have k0 := C7.out.c0
        have k1 := C7.out.c1
        have k2 := C7.out.c2
        have kl := C7.out.lt
        have t1 := V7.out.s1
        have tz := V7.out.zz
        clear hv HV2
        go_wp2_with fail
        refine VO.out.mono ?_
        rintro _ w8 ⟨rfl, hb⟩
        have V8 := hid (V7.out.below hb)
        have z0 := V8.out.z0
        have z1 := V8.out.z1
        have zf := V8.out.zf
        have zz := V8.out.zz
        clear hb k0 k1 k2 kl t1 tz
        go_wp2_with fail
        refine bodyPost_ret (v := .tuple #[.agg #[.int .i64 lo, .int .i64 hi], .int .i64 e]) (by simp [results, Try.results19, go_sem, z0, z1, zf, zz]) rfl ?_
        exact Gives.mk rfl (by have hB := V8.out.bl; repeat' (first | (with_reducible exact Below.refl _ _) | (with_reducible refine Below.alloc ?_ ?_ _) | (with_reducible refine Below.setCell ?_ ?_ _) | (with_reducible refine Below.drew ?_) | (with_reducible refine Below.trans ?_ (Below.mono (by assumption) ?_)) | (simp; done) | (simp; omega) | omega))
      · have hv := HV2.out
        rw [if_pos cy] at hv
        obtain ⟨rfl, hv2⟩ := Prod.mk.inj hv
        obtain ⟨rfl, rfl⟩ := Prod.mk.inj hv2
        have hn : (y == 0) = false := by simpa using cy
        have z0 := V7.out.z0
        have z1 := V7.out.z1
        have zf := V7.out.zf
        have zz := V7.out.zz
        clear hv hv2 HV2
        go_wp2_with fail
        refine bodyPost_ret (v := .tuple #[.agg #[.int .i64 0, .int .i64 0], .int .i64 y]) (by simp [results, Try.results19, go_sem, z0, z1, zf, zz]) rfl ?_
        exact Gives.mk rfl (by have hB := V7.out.bl; repeat' (first | (with_reducible exact Below.refl _ _) | (with_reducible refine Below.alloc ?_ ?_ _) | (with_reducible refine Below.setCell ?_ ?_ _) | (with_reducible refine Below.drew ?_) | (with_reducible refine Below.trans ?_ (Below.mono (by assumption) ?_)) | (simp; done) | (simp; omega) | omega))
    · rw [if_neg cx] at hv
      have hn : (x == 0) = false := by simpa using cx
      have VO := hid (VOL.out wc V6.out.bl x lo hi e hv)
      have k0 := CC.out.c0
      have k1 := CC.out.c1
      have k2 := CC.out.c2
      have kl := CC.out.lt
      have t1 := V6.out.s1
      have tz := V6.out.zz
      clear hv HV
      go_wp2_with fail
      refine VO.out.mono ?_
      rintro _ w8 ⟨rfl, hb⟩
      have V8 := hid (V6.out.below hb)
      have z0 := V8.out.z0
      have z1 := V8.out.z1
      have zf := V8.out.zf
      have zz := V8.out.zz
      clear hb k0 k1 k2 kl t1 tz
      go_wp2_with fail
      refine bodyPost_ret (v := .tuple #[.agg #[.int .i64 lo, .int .i64 hi], .int .i64 e]) (by simp [results, Try.results19, go_sem, z0, z1, zf, zz]) rfl ?_
      exact Gives.mk rfl (by have hB := V8.out.bl; repeat' (first | (with_reducible exact Below.refl _ _) | (with_reducible refine Below.alloc ?_ ?_ _) | (with_reducible refine Below.setCell ?_ ?_ _) | (with_reducible refine Below.drew ?_) | (with_reducible refine Below.trans ?_ (Below.mono (by assumption) ?_)) | (simp; done) | (simp; omega) | omega))
theorem vtree_any (A : Option Addr) (cap : Nat) (l : List Sp.Cv) (s d x q lo hi e : Int) (w : World) (hz : CvSized l) (hT : Cvs w A l) (hv : Sp.treeS l s d x = (lo, hi, e)) :
    Calls Try.prog 19 #[.slice A l.length cap, .agg #[.int .i64 s, .int .i64 d, .int .i64 x, .int .i64 q]] w (Gives (.tuple #[.agg #[.int .i64 lo, .int .i64 hi], .int .i64 e]) w) := by
  unfold Sp.treeS at hv
  by_cases h : 0 ≤ s ∧ s < (l.length : Int)
  · rw [dif_pos h] at hv
    obtain ⟨j, rfl⟩ : ∃ j : Nat, s = (j : Int) := ⟨s.toNat, by omega⟩
    exact vtree_in A cap l j (by omega) d x q lo hi e w hz hT (by simpa using hv)
  · rw [dif_neg h] at hv
    obtain ⟨rfl, hv2⟩ := Prod.mk.inj hv
    obtain ⟨rfl, rfl⟩ := Prod.mk.inj hv2
    exact vtree_out A cap l s d x q w hz.1 h
end Go.Proofs.Ytdimncchejbaaaa
