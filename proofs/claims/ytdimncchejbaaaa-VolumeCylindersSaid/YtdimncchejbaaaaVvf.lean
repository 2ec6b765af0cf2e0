/-
  Layer 14: diameterAt of package volume, by contract.
-/
import Derived.Test.YtdimncchejbaaaaVve
namespace Go.Proofs.Ytdimncchejbaaaa
open Go.RowKit
set_option linter.unusedVariables false
set_option linter.unusedSimpArgs false
namespace Sp
def diaM (z : Int × Int × Int) : Int × Int := if z.2.2 ≠ 0 then (0, z.2.2) else (min (max (z.1 / z.2.1) 0) 3000, 0)
def diaQ (y u : Int × Int × Int) : Int × Int := if y.2.2 ≠ 0 then (0, y.2.2) else diaM (mulF y.1 y.2.1 u.1 u.2.1)
/-- What diameterAt answers. -/
def diaS (t : List Pd) (d x a : Int) : Int × Int := diaQ (evalS t ((1000 * a).tdiv x)) (newS d 1000)
end Sp
/-- A pair that lies in a box, and an error. -/
def PaRel (w : World) (lo hi y : Int) (v v' : Value) (wx : World) : Prop :=
  ∃ g, v = .pointer (some ⟨g, 0, none⟩) ∧ v' = .int .i64 y ∧ (w.heap.size ≤ g ∧ g < wx.heap.size) ∧ (wx.cell? ⟨g, 0, none⟩ = some (.int .i64 lo) ∧ wx.cell? ⟨g, 1, none⟩ = some (.int .i64 hi)) ∧ Below w.heap.size w wx
set_option maxRecDepth 100000 in
set_option maxHeartbeats 1000000 in
theorem vdia_any (A A' : Option Addr) (cap cap' : Nat) (h t : List Sp.Pd) (f : Int) (d x a r e : Int) (w : World) (tz : PcSized t) (tT : Pcs w A' t) (d0 : 1 ≤ d) (d1 : d ≤ 3000) (x0 : 1 ≤ x) (x1 : x ≤ 1000) (a0 : 0 ≤ a) (a1 : a ≤ 1000) (hv : Sp.diaS t d x a = (r, e)) :
    Calls Try.prog 47 #[.agg #[.slice A h.length cap, .int .i64 f, .slice A' t.length cap'], .int .i64 d, .int .i64 x, .int .i64 a] w (Gives (.tuple #[.int .i64 r, .int .i64 e]) w) := by
  have b0 : Below w.heap.size w (w.alloc (Obj.cells #[.slice A h.length cap, .int .i64 f, .slice A' t.length cap'] 24)) := balloc _ _
  have VB := curAt_new w A A' h.length cap t.length cap' f
  have zU : (w.alloc (Obj.cells #[.slice A h.length cap, .int .i64 f, .slice A' t.length cap'] 24)).heap.size = w.heap.size + 1 := by simp
  generalize hU : w.alloc (Obj.cells #[.slice A h.length cap, .int .i64 f, .slice A' t.length cap'] 24) = U at VB b0 zU
  obtain ⟨P, hP⟩ : ∃ P, 1000 * a = P := ⟨_, rfl⟩
  obtain ⟨Q, hQ⟩ : ∃ Q, P.tdiv x = Q := ⟨_, rfl⟩
  have p0 : 0 ≤ P := by omega
  have p1 : P ≤ 1000000 := by omega
  have Q0 : 0 ≤ Q := by rw [← hQ]; exact Int.tdiv_nonneg p0 (by omega)
  have Q1 : Q ≤ P := by rw [← hQ, Int.tdiv_eq_ediv_of_nonneg p0]; exact Int.ediv_le_self _ p0
  obtain ⟨⟨lo, hi, y⟩, hy⟩ : ∃ z, Sp.evalS t Q = z := ⟨_, rfl⟩
  obtain ⟨n2, n3⟩ := newS_pos d0 (by omega : d ≤ 1000000000000000) (by omega : (1 : Int) ≤ 1000) (by omega)
  obtain ⟨⟨u1, u2, ue⟩, hu⟩ : ∃ z, Sp.newS d 1000 = z := ⟨_, rfl⟩
  obtain ⟨⟨z1, z2, ze⟩, hz⟩ : ∃ z, Sp.mulF lo hi u1 u2 = z := ⟨_, rfl⟩
  unfold Sp.diaS at hv
  rw [hP, hQ, hy, hu] at hv
  unfold Sp.diaQ at hv
  simp only [hz] at hv
  rw [hu] at n2 n3
  simp only at n2 n3
  have EV := hid (fun W (hb : Below w.heap.size w W) => eval_any A' cap' t Q lo hi y W tz (tT.below hb) hy)
  have NE := hid (fun W => fnew_any d 1000 (by omega) (by omega) (by omega) (by omega) u1 u2 ue hu W)
  have MU := hid (fun (k : y = 0) W => fmul_any lo hi u1 u2 z1 z2 ze (Sp.okQ_bounds (evalS_ok (k ▸ hy))).1.1 (Sp.okQ_bounds (evalS_ok (k ▸ hy))).1.2 (Sp.okQ_bounds (evalS_ok (k ▸ hy))).2.1 (Sp.okQ_bounds (evalS_ok (k ▸ hy))).2.2 (Sp.okQ_bounds n3).1.1 (Sp.okQ_bounds n3).1.2 (Sp.okQ_bounds n3).2.1 (Sp.okQ_bounds n3).2.2 hz W)
  have FL := hid (fun (k : y = 0) (k2 : ze = 0) W => ffloor_any z1 z2 (by
    rcases Sp.mul_res (evalS_ok (k ▸ hy)) n3 with h | h
    · rw [hz] at h; exact h.2
    · rw [hz] at h
      obtain ⟨-, h2⟩ := Prod.mk.inj h
      obtain ⟨-, h3⟩ := Prod.mk.inj h2
      omega) W)
  have HV := hid hv
  have HU := hid hU
  have KU := hid b0
  have c2 := VB.c2
  have zz : w.heap.size ≤ U.heap.size := by omega
  have zw : w.heap.size < U.heap.size := by omega
  have zn : ¬ w.heap.size = U.heap.size := by omega
  have xz : (x == 0) = false := by simp; omega
  have xn : ¬ x = 0 := by omega
  have wP : IntKind.i64.wrap P = P := by rw [IntKind.wrap_i64]; omega
  have wQ : IntKind.i64.wrap Q = Q := by rw [IntKind.wrap_i64]; omega
  have vP : wrap64 P = P := pw64 _ (by omega)
  have vQ : wrap64 Q = Q := pw64 _ (by omega)
  clear zU tz tT hv hU b0 VB hy hu hz n2 n3 x0 x1 a0 a1 p0 p1 Q0 Q1 d0 d1
  go_enter Try.func47, Try.ntmps47
  go_upto_region 1 with fail
  rw [HU.out]
  go_cut [10, 11] (fun v v' wx => PaRel w lo hi y v v' wx)
  case first =>
    go_region_with (go_at_call 32; refine (EV.out _ (by have hk := KU.out; repeat' (first | (with_reducible exact Below.refl _ _) | (with_reducible refine Below.alloc ?_ ?_ _) | (with_reducible refine Below.setCell ?_ ?_ _) | (with_reducible refine Below.drew ?_) | (with_reducible refine Below.trans ?_ (Below.mono (by assumption) ?_)) | (simp; done) | (simp; omega) | omega))).mono ?_; rintro _ w6 ⟨rfl, hb⟩; have hb6 : Below U.heap.size U w6 := (by repeat' (first | (with_reducible exact Below.refl _ _) | (with_reducible refine Below.alloc ?_ ?_ _) | (with_reducible refine Below.setCell ?_ ?_ _) | (with_reducible refine Below.drew ?_) | (with_reducible refine below_dn ?_ _) | (with_reducible refine Below.trans ?_ (Below.mono (by assumption) ?_)) | (simp; done) | (simp; omega) | omega)); have sz6 : U.heap.size ≤ w6.heap.size := hb6.size; (first | (have g0 : w6.cell? ⟨U.heap.size, 0, none⟩ = some (.int .i64 0) := (hb.cell (p := ⟨U.heap.size, 0, none⟩) (by simp)).trans (by simp [go_sem]); have g1 : w6.cell? ⟨U.heap.size, 1, none⟩ = some (.int .i64 0) := (hb.cell (p := ⟨U.heap.size, 1, none⟩) (by simp)).trans (by simp [go_sem]); have gf : ∀ o, w6.frozen? ⟨U.heap.size, o, none⟩ = false := fun o => (hb.frozen (p := ⟨U.heap.size, o, none⟩) (by simp)).trans (by simp [go_sem]); have gz : U.heap.size < w6.heap.size := (by have := hb.size; simp at this; omega)) | skip); clear hb)
    all_goals
      go_wp2_with fail
      go_meet
      have k6 : Below w.heap.size w w6 := bthen KU.out hb6
      first
        | (exact ⟨w6.heap.size, rfl, rfl, ⟨by omega, by simp⟩, ⟨by simp [go_sem], by simp [go_sem]⟩, by repeat' (first | (with_reducible exact Below.refl _ _) | (with_reducible refine Below.alloc ?_ ?_ _) | (with_reducible refine Below.setCell ?_ ?_ _) | (with_reducible refine Below.drew ?_) | (with_reducible refine below_dn ?_ _) | (with_reducible refine Below.trans ?_ (Below.mono (by assumption) ?_)) | (simp; done) | (simp; omega) | omega)⟩)
        | (exact ⟨U.heap.size, rfl, rfl, ⟨zz, by simpa using gz⟩, ⟨by simp [go_sem, g0, g1], by simp [go_sem, g0, g1]⟩, by repeat' (first | (with_reducible exact Below.refl _ _) | (with_reducible refine Below.alloc ?_ ?_ _) | (with_reducible refine Below.setCell ?_ ?_ _) | (with_reducible refine Below.drew ?_) | (with_reducible refine below_dn ?_ _) | (with_reducible refine Below.trans ?_ (Below.mono (by assumption) ?_)) | (simp; done) | (simp; omega) | omega)⟩)
  case rest =>
    obtain ⟨g, rfl, rfl, ⟨hg0, hg1⟩, ⟨q0, q1⟩, hk⟩ := hcut
    have HK := hid hk
    clear hk c2 zn
    by_cases c1 : y = 0
    · subst c1
      have MU2 := hid (MU.out rfl)
      have FL2 := hid (FL.out rfl)
      clear MU FL
      go_wp2_with fail
      refine (NE.out _).mono ?_
      rintro _ w7 ⟨rfl, hb⟩
      have r0 := (hb.cell (p := ⟨g, 0, none⟩) hg1).trans q0
      have r1 := (hb.cell (p := ⟨g, 1, none⟩) hg1).trans q1
      have g7 : g < w7.heap.size := Nat.lt_of_lt_of_le hg1 hb.size
      have n7 : ¬ g = w7.heap.size := by omega
      have m7 : ¬ w7.heap.size = g := by omega
      have B7 := hid (bthen HK.out hb)
      clear hb q0 q1 hg1
      go_wp2_with fail
      refine (MU2.out _).mono ?_
      rintro _ w8 ⟨rfl, hb⟩
      have B8 := hid (bthen (bthen B7.out (balloc _ _)) hb)
      clear hb r0 r1
      by_cases c2 : ze = 0
      · subst c2
        have FL3 := hid (FL2.out rfl)
        go_wp2_with fail
        refine (FL3.out _).mono ?_
        rintro _ w9 ⟨rfl, hb⟩
        have B9 := hid (bthen (bthen B8.out (balloc _ _)) hb)
        clear hb
        have hv := HV.out
        rw [if_neg (fun k => k rfl)] at hv
        unfold Sp.diaM at hv
        rw [if_neg (fun k => k rfl)] at hv
        obtain ⟨rfl, rfl⟩ := Prod.mk.inj hv
        clear hv HV
        go_wp2_with fail
        refine bodyPost_ret (v := .tuple #[.int .i64 (min (max (z1 / z2) 0) 3000), .int .i64 0]) (by simp [results, Try.results47, go_sem]) rfl ?_
        exact Gives.mk rfl B9.out
      · have hv := HV.out
        rw [if_neg (fun k => k rfl)] at hv
        unfold Sp.diaM at hv
        rw [if_pos c2] at hv
        obtain ⟨rfl, rfl⟩ := Prod.mk.inj hv
        have hn : (ze == 0) = false := by simpa using c2
        clear hv HV
        go_wp2_with fail
        refine bodyPost_ret (v := .tuple #[.int .i64 0, .int .i64 ze]) (by simp [results, Try.results47, go_sem]) rfl ?_
        exact Gives.mk rfl (bthen B8.out (balloc _ _))
    · have hv := HV.out
      rw [if_pos c1] at hv
      obtain ⟨rfl, rfl⟩ := Prod.mk.inj hv
      have hn : (y == 0) = false := by simpa using c1
      clear hv HV MU FL
      go_wp2_with fail
      refine bodyPost_ret (v := .tuple #[.int .i64 0, .int .i64 y]) (by simp [results, Try.results47, go_sem]) rfl ?_
      exact Gives.mk rfl HK.out
end Go.Proofs.Ytdimncchejbaaaa
