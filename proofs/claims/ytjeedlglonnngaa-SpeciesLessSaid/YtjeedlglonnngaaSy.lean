/-
  Layer 10: Mass and Carbon of package species, by contract.
-/
import Derived.Test.YtjeedlglonnngaaSx
namespace Go.Proofs.Ytjeedlglonnngaa
open Go.RowKit
set_option linter.unusedVariables false
set_option linter.unusedSimpArgs false

namespace Sp
theorem massS_ok {l : List Sc} {i a b m0 m1 : Int} (h : massS l i a b = (m0, m1, 0)) : tabS l = 0 ∧ (0 ≤ i ∧ i < (l.length : Int)) ∧ chk a b = 0 ∧ 0 ≤ a ∧ scl a b (denOf l i) 1000 = (m0, m1, 0) := by
  unfold massS at h
  by_cases h1 : tabS l = 0
  · rw [if_neg (by simpa using h1)] at h
    by_cases h2 : 0 ≤ i ∧ i < (l.length : Int)
    · rw [if_neg (by simpa using h2)] at h
      by_cases h3 : chk a b = 0
      · rw [if_neg (by simpa using h3)] at h
        by_cases h4 : a < 0
        · rw [if_pos h4] at h; simp at h
        · rw [if_neg h4] at h; exact ⟨h1, h2, h3, by omega, h⟩
      · rw [if_pos (by simpa using h3)] at h; simp at h; exact absurd h.2.2 h3
    · rw [if_pos (by simpa using h2)] at h; simp at h
  · rw [if_pos (by simpa using h1)] at h; simp at h; exact absurd h.2.2 h1
/-- A species of a checked table. -/
theorem row_ok {l : List Sc} (h : tabS l = 0) {i : Int} (hi : 0 ≤ i ∧ i < (l.length : Int)) : ∃ k : Nat, ∃ hk : k < l.length, i = (k : Int) ∧ denOf l i = (l[k]'hk).den ∧ carOf l i = (l[k]'hk).car ∧
    (1 ≤ (l[k]'hk).den ∧ (l[k]'hk).den ≤ 2000) ∧ (1 ≤ (l[k]'hk).car ∧ (l[k]'hk).car ≤ 1000000) := by
  obtain ⟨k, rfl⟩ : ∃ k : Nat, i = (k : Int) := ⟨i.toNat, by omega⟩
  have hk : k < l.length := by omega
  have hr := rangeOk_at (chkS_ok l [] (tabS_len h).2 k hk).2.1
  refine ⟨k, hk, rfl, ?_, ?_, hr.1, hr.2.1⟩
  · unfold denOf; simp [hk]
  · unfold carOf; simp [hk]
end Sp
set_option maxRecDepth 100000 in
set_option maxHeartbeats 2000000 in
theorem smass_any (A : Option Addr) (cap : Nat) (l : List Sp.Sc) (i a b lo hi e : Int) (w : World) (hc : l.length ≤ cap) (hS : Sized l) (hT : Tab w A l) (hv : Sp.massS l i a b = (lo, hi, e)) :
    Calls Try.prog 16 #[.slice A l.length cap, .int .i64 i, .agg #[.int .i64 a, .int .i64 b]] w (Gives (.tuple #[.agg #[.int .i64 lo, .int .i64 hi], .int .i64 e]) w) := by
  obtain ⟨U, hU⟩ : ∃ U : World, (w.alloc (Obj.cells #[.int .i64 a, .int .i64 b] 30)).alloc (Obj.cells #[.int .i64 0, .int .i64 0] 30) = U := ⟨_, rfl⟩
  have bU : Below w.heap.size w U := by rw [← hU]; exact ((Below.refl _ _).alloc (Nat.le_refl _) _).alloc (by simp) _
  have zU : U.heap.size = w.heap.size + 1 + 1 := by rw [← hU]; simp
  have a0 : U.cell? ⟨w.heap.size, 0, none⟩ = some (.int .i64 a) := by rw [← hU]; simp [go_sem]
  have a1 : U.cell? ⟨w.heap.size, 1, none⟩ = some (.int .i64 b) := by rw [← hU]; simp [go_sem]
  have r0 : U.cell? ⟨w.heap.size + 1, 0, none⟩ = some (.int .i64 0) := by rw [← hU]; simp [go_sem]
  have r1 : U.cell? ⟨w.heap.size + 1, 1, none⟩ = some (.int .i64 0) := by rw [← hU]; simp [go_sem]
  have rf : ∀ o, U.frozen? ⟨w.heap.size + 1, o, none⟩ = false := fun o => by rw [← hU]; simp [go_sem]
  have K : Hid (∀ W', Below U.heap.size U W' → (W'.cell? ⟨w.heap.size, 0, none⟩ = some (.int .i64 a) ∧ W'.cell? ⟨w.heap.size, 1, none⟩ = some (.int .i64 b) ∧ W'.cell? ⟨w.heap.size + 1, 0, none⟩ = some (.int .i64 0) ∧ W'.cell? ⟨w.heap.size + 1, 1, none⟩ = some (.int .i64 0) ∧ ∀ o, W'.frozen? ⟨w.heap.size + 1, o, none⟩ = false)) := hid fun W' B =>
    ⟨(B.cell (p := ⟨w.heap.size, 0, none⟩) (by simp; omega)).trans a0, (B.cell (p := ⟨w.heap.size, 1, none⟩) (by simp; omega)).trans a1, (B.cell (p := ⟨w.heap.size + 1, 0, none⟩) (by simp; omega)).trans r0, (B.cell (p := ⟨w.heap.size + 1, 1, none⟩) (by simp; omega)).trans r1, fun o => (B.frozen (p := ⟨w.heap.size + 1, o, none⟩) (by simp; omega)).trans (rf o)⟩
  have HU := hid hU
  have BU := hid bU
  have ck := scheck_any A cap l U hc hS (hT.below bU)
  have TU := hid (hT.below bU)
  clear hU bU a0 a1 r0 r1 rf
  obtain ⟨q, hq⟩ : ∃ q, Sp.tabS l = q := ⟨_, rfl⟩
  rw [hq] at ck
  by_cases cq : q = 0
  · subst cq
    by_cases ci : 0 ≤ i ∧ i < (l.length : Int)
    · by_cases cc : Sp.chk a b = 0
      · by_cases ca : a < 0
        · have hw : (lo, hi, e) = ((0 : Int), (0 : Int), (1 : Int)) := by rw [← hv]; unfold Sp.massS; rw [if_neg (by simpa using hq), if_neg (by simpa using ci), if_neg (by simpa using cc), if_pos ca]
          obtain ⟨rfl, h2⟩ := Prod.mk.inj hw
          obtain ⟨rfl, rfl⟩ := Prod.mk.inj h2
          obtain ⟨i0, i1⟩ := ci
          have ic := fun W => icheck_any a b W
          rw [cc] at ic
          clear hv hw h2 hc hS hT cc hq
          have ha := has_any i A l.length cap
          rw [decide_eq_true ⟨i0, i1⟩] at ha
          go_enter Try.func16, Try.ntmps16
          go_wp2_with fail
          rw [HU.out]
          refine ck.mono ?_
          rintro _ w1 ⟨rfl, hb⟩
          obtain ⟨p0, p1, -, -, -⟩ := K.out w1 hb
          obtain ⟨V, hV⟩ : ∃ V : World, w1.alloc (Obj.cells #[.int .i64 a, .int .i64 b] 30) = V := ⟨_, rfl⟩
          have bV : Below w1.heap.size w1 V := by rw [← hV]; exact (Below.refl _ _).alloc (Nat.le_refl _) _
          have HV := hid hV
          have B1 := hid (hb.trans (bV.mono hb.size))
          clear hb bV hV
          go_upto_region 7 with (first | (go_at_call 22; refine (ic _).mono ?_; rintro _ w3 ⟨rfl, rfl⟩) | (go_at_call 30; refine (ha _).mono ?_; rintro _ w2 ⟨rfl, rfl⟩))
          rw [HV.out]
          clear p0 p1
          obtain ⟨p0, p1, r0, r1, rf⟩ := K.out V B1.out
          go_wp2_with fail
          refine bodyPost_ret (v := .tuple #[.agg #[.int .i64 0, .int .i64 0], .int .i64 1]) (by simp [results, Try.results16, go_sem, r0, r1, rf]) rfl ?_
          exact Gives.mk rfl (((BU.out.trans (B1.out.mono (by omega))).setCell (Nat.le_succ _) _).setCell (Nat.le_succ _) _)
        · have hs : Sp.scl a b (Sp.denOf l i) 1000 = (lo, hi, e) := by rw [← hv]; unfold Sp.massS; rw [if_neg (by simpa using hq), if_neg (by simpa using ci), if_neg (by simpa using cc), if_neg ca]
          obtain ⟨k, hk, rfl, hden, -, ⟨dn0, dn1⟩, -⟩ := Sp.row_ok hq ci
          rw [hden] at hs
          obtain ⟨tb, toff, hA, htl, hcell⟩ := TU.out (by omega)
          obtain ⟨-, c1, -, -⟩ := hcell k hk
          subst hA
          obtain ⟨dn, hdn⟩ : ∃ dn, (l[k]'hk).den = dn := ⟨_, rfl⟩
          rw [hdn] at hs dn0 dn1 c1
          have i0 : (0 : Int) ≤ (k : Int) := by omega
          have i1 : (k : Int) < (l.length : Int) := by omega
          have ic := fun W => icheck_any a b W
          rw [cc] at ic
          have sc := fun W => scale_any a b dn 1000 lo hi e dn0 (by omega) (by omega) (by omega) hs W
          have C1 := hid c1
          clear hv hs hc hS hT cc hq ci hden hdn hcell dn0 dn1 c1
          have ha := has_any (k : Int) (some ⟨tb, toff, none⟩) l.length cap
          rw [decide_eq_true ⟨i0, i1⟩] at ha
          go_enter Try.func16, Try.ntmps16
          go_wp2_with fail
          rw [HU.out]
          refine ck.mono ?_
          rintro _ w1 ⟨rfl, hb⟩
          obtain ⟨p0, p1, -, -, -⟩ := K.out w1 hb
          obtain ⟨V, hV⟩ : ∃ V : World, w1.alloc (Obj.cells #[.int .i64 a, .int .i64 b] 30) = V := ⟨_, rfl⟩
          have bV : Below w1.heap.size w1 V := by rw [← hV]; exact (Below.refl _ _).alloc (Nat.le_refl _) _
          have HV := hid hV
          have B1 := hid (hb.trans (bV.mono hb.size))
          clear hb bV hV
          go_upto_region 7 with (first | (go_at_call 22; refine (ic _).mono ?_; rintro _ w3 ⟨rfl, rfl⟩) | (go_at_call 30; refine (ha _).mono ?_; rintro _ w2 ⟨rfl, rfl⟩))
          rw [HV.out]
          clear p0 p1
          obtain ⟨p0, p1, r0, r1, rf⟩ := K.out V B1.out
          have x1 := (B1.out.cell (p := ⟨tb, toff + k * 4 + 1, none⟩) htl).trans C1.out
          have tz : tb < V.heap.size := Nat.lt_of_lt_of_le htl B1.out.size
          have vz : w.heap.size + 1 < V.heap.size := by have := B1.out.size; omega
          have vz0 : w.heap.size < V.heap.size := by omega
          go_upto_region 11 with fail
          go_region_with (go_at_call 31; refine (sc _).mono ?_; rintro _ w5 ⟨rfl, hb⟩; have hb5 : Below V.heap.size V w5 := (by repeat' (first | (with_reducible exact Below.refl _ _) | (with_reducible refine Below.alloc ?_ ?_ _) | (with_reducible refine Below.setCell ?_ ?_ _) | (with_reducible refine Below.drew ?_) | (with_reducible refine below_dn ?_ _) | (with_reducible refine Below.trans ?_ (Below.mono (by assumption) ?_)) | (simp; done) | (simp; omega) | omega)); clear r0 r1 rf; obtain ⟨-, -, r0, r1, rf⟩ := K.out w5 (B1.out.trans (hb5.mono B1.out.size)); have rz : w.heap.size + 1 < w5.heap.size := Nat.lt_of_lt_of_le vz hb5.size; have HB5 := hid hb5; clear hb hb5)
          all_goals
            go_wp2_with fail
            refine bodyPost_ret (v := .tuple #[.agg #[.int .i64 lo, .int .i64 hi], .int .i64 e]) (by simp [results, Try.results16, go_sem, r0, r1, rf]) rfl ?_
            have h5 := HB5.out
            exact Gives.mk rfl (((BU.out.trans ((B1.out.trans (h5.mono B1.out.size)).mono (by omega))).setCell (Nat.le_succ _) _).setCell (Nat.le_succ _) _)
      · have hw : (lo, hi, e) = ((0 : Int), (0 : Int), Sp.chk a b) := by rw [← hv]; unfold Sp.massS; rw [if_neg (by simpa using hq), if_neg (by simpa using ci), if_pos cc]
        obtain ⟨rfl, h2⟩ := Prod.mk.inj hw
        obtain ⟨rfl, rfl⟩ := Prod.mk.inj h2
        obtain ⟨i0, i1⟩ := ci
        have ic := fun W => icheck_any a b W
        have cb : (Sp.chk a b != 0) = true := by simpa using cc
        obtain ⟨z, hz⟩ : ∃ z, Sp.chk a b = z := ⟨_, rfl⟩
        rw [hz] at ic cb ⊢
        clear hv hw h2 hc hS hT cc hq hz
        have ha := has_any i A l.length cap
        rw [decide_eq_true ⟨i0, i1⟩] at ha
        go_enter Try.func16, Try.ntmps16
        go_wp2_with fail
        rw [HU.out]
        refine ck.mono ?_
        rintro _ w1 ⟨rfl, hb⟩
        obtain ⟨p0, p1, -, -, -⟩ := K.out w1 hb
        obtain ⟨V, hV⟩ : ∃ V : World, w1.alloc (Obj.cells #[.int .i64 a, .int .i64 b] 30) = V := ⟨_, rfl⟩
        have bV : Below w1.heap.size w1 V := by rw [← hV]; exact (Below.refl _ _).alloc (Nat.le_refl _) _
        have HV := hid hV
        have B1 := hid (hb.trans (bV.mono hb.size))
        clear hb bV hV
        go_upto_region 7 with (first | (go_at_call 22; refine (ic _).mono ?_; rintro _ w3 ⟨rfl, rfl⟩) | (go_at_call 30; refine (ha _).mono ?_; rintro _ w2 ⟨rfl, rfl⟩))
        rw [HV.out]
        clear p0 p1
        obtain ⟨p0, p1, r0, r1, rf⟩ := K.out V B1.out
        go_wp2_with fail
        refine bodyPost_ret (v := .tuple #[.agg #[.int .i64 0, .int .i64 0], .int .i64 z]) (by simp [results, Try.results16, go_sem, r0, r1, rf]) rfl ?_
        exact Gives.mk rfl (((BU.out.trans (B1.out.mono (by omega))).setCell (Nat.le_succ _) _).setCell (Nat.le_succ _) _)
    · have hw : (lo, hi, e) = ((0 : Int), (0 : Int), (2 : Int)) := by rw [← hv]; unfold Sp.massS; rw [if_neg (by simpa using hq), if_pos (by simpa using ci)]
      obtain ⟨rfl, h2⟩ := Prod.mk.inj hw
      obtain ⟨rfl, rfl⟩ := Prod.mk.inj h2
      clear hv hw h2 hc hS hT hq
      have ha := has_any i A l.length cap
      rw [decide_eq_false ci] at ha
      go_enter Try.func16, Try.ntmps16
      go_wp2_with fail
      rw [HU.out]
      refine ck.mono ?_
      rintro _ w1 ⟨rfl, hb⟩
      have B1 := hid hb
      obtain ⟨p0, p1, r0, r1, rf⟩ := K.out w1 hb
      clear hb
      go_wp2_with (go_at_call 30; refine (ha _).mono ?_; rintro _ w2 ⟨rfl, rfl⟩)
      refine bodyPost_ret (v := .tuple #[.agg #[.int .i64 0, .int .i64 0], .int .i64 2]) (by simp [results, Try.results16, go_sem, r0, r1, rf]) rfl ?_
      exact Gives.mk rfl (((BU.out.trans (B1.out.mono (by omega))).setCell (Nat.le_succ _) _).setCell (Nat.le_succ _) _)
  · have hw : (lo, hi, e) = ((0 : Int), (0 : Int), q) := by rw [← hv]; unfold Sp.massS; rw [hq, if_pos cq]
    obtain ⟨rfl, h2⟩ := Prod.mk.inj hw
    obtain ⟨rfl, rfl⟩ := Prod.mk.inj h2
    have e1 : (e != 0) = true := by simpa using cq
    clear hv hw h2 hc hS hT hq cq
    go_enter Try.func16, Try.ntmps16
    go_wp2_with fail
    rw [HU.out]
    refine ck.mono ?_
    rintro _ w1 ⟨rfl, hb⟩
    have B1 := hid hb
    obtain ⟨p0, p1, r0, r1, rf⟩ := K.out w1 hb
    clear hb
    go_wp2_with fail
    refine bodyPost_ret (v := .tuple #[.agg #[.int .i64 0, .int .i64 0], .int .i64 e]) (by simp [results, Try.results16, go_sem, r0, r1, rf]) rfl ?_
    exact Gives.mk rfl (((BU.out.trans (B1.out.mono (by omega))).setCell (Nat.le_succ _) _).setCell (Nat.le_succ _) _)
set_option maxRecDepth 100000 in
set_option maxHeartbeats 2000000 in
theorem scarb_any (A : Option Addr) (cap : Nat) (l : List Sp.Sc) (i a b lo hi e : Int) (w : World) (hc : l.length ≤ cap) (hS : Sized l) (hT : Tab w A l) (hv : Sp.carbS l i a b = (lo, hi, e)) :
    Calls Try.prog 18 #[.slice A l.length cap, .int .i64 i, .agg #[.int .i64 a, .int .i64 b]] w (Gives (.tuple #[.agg #[.int .i64 lo, .int .i64 hi], .int .i64 e]) w) := by
  obtain ⟨U, hU⟩ : ∃ U : World, (w.alloc (Obj.cells #[.int .i64 a, .int .i64 b] 30)).alloc (Obj.cells #[.int .i64 0, .int .i64 0] 30) = U := ⟨_, rfl⟩
  have bU : Below w.heap.size w U := by rw [← hU]; exact ((Below.refl _ _).alloc (Nat.le_refl _) _).alloc (by simp) _
  have zU : U.heap.size = w.heap.size + 1 + 1 := by rw [← hU]; simp
  have a0 : U.cell? ⟨w.heap.size, 0, none⟩ = some (.int .i64 a) := by rw [← hU]; simp [go_sem]
  have a1 : U.cell? ⟨w.heap.size, 1, none⟩ = some (.int .i64 b) := by rw [← hU]; simp [go_sem]
  have r0 : U.cell? ⟨w.heap.size + 1, 0, none⟩ = some (.int .i64 0) := by rw [← hU]; simp [go_sem]
  have r1 : U.cell? ⟨w.heap.size + 1, 1, none⟩ = some (.int .i64 0) := by rw [← hU]; simp [go_sem]
  have rf : ∀ o, U.frozen? ⟨w.heap.size + 1, o, none⟩ = false := fun o => by rw [← hU]; simp [go_sem]
  have K : Hid (∀ W', Below U.heap.size U W' → (W'.cell? ⟨w.heap.size, 0, none⟩ = some (.int .i64 a) ∧ W'.cell? ⟨w.heap.size, 1, none⟩ = some (.int .i64 b) ∧ W'.cell? ⟨w.heap.size + 1, 0, none⟩ = some (.int .i64 0) ∧ W'.cell? ⟨w.heap.size + 1, 1, none⟩ = some (.int .i64 0) ∧ ∀ o, W'.frozen? ⟨w.heap.size + 1, o, none⟩ = false)) := hid fun W' B =>
    ⟨(B.cell (p := ⟨w.heap.size, 0, none⟩) (by simp; omega)).trans a0, (B.cell (p := ⟨w.heap.size, 1, none⟩) (by simp; omega)).trans a1, (B.cell (p := ⟨w.heap.size + 1, 0, none⟩) (by simp; omega)).trans r0, (B.cell (p := ⟨w.heap.size + 1, 1, none⟩) (by simp; omega)).trans r1, fun o => (B.frozen (p := ⟨w.heap.size + 1, o, none⟩) (by simp; omega)).trans (rf o)⟩
  have HU := hid hU
  have BU := hid bU
  have TU := hid (hT.below bU)
  unfold Sp.carbS at hv
  obtain ⟨⟨m0, m1, q⟩, hM⟩ : ∃ M, Sp.massS l i a b = M := ⟨_, rfl⟩
  have ms := smass_any A cap l i a b m0 m1 q U hc hS TU.out hM
  rw [hM] at hv
  simp only at hv
  clear hU bU
  by_cases cq : q = 0
  · subst cq
    rw [if_neg (by decide)] at hv
    obtain ⟨hq, ci, -, -, -⟩ := Sp.massS_ok hM
    obtain ⟨k, hk, rfl, -, hcar, -, ⟨dn0, dn1⟩⟩ := Sp.row_ok hq ci
    rw [hcar] at hv
    obtain ⟨tb, toff, hA, htl, hcell⟩ := TU.out (by omega)
    obtain ⟨-, -, c2, -⟩ := hcell k hk
    subst hA
    obtain ⟨dn, hdn⟩ : ∃ dn, (l[k]'hk).car = dn := ⟨_, rfl⟩
    rw [hdn] at hv dn0 dn1 c2
    have i0 : (0 : Int) ≤ (k : Int) := by omega
    have i1 : (k : Int) < (l.length : Int) := by omega
    have sc := fun W => scale_any m0 m1 dn 1000000 lo hi e dn0 (by omega) (by omega) (by omega) hv W
    have C2 := hid c2
    clear hv hc hS hT hq ci hcar hdn hcell dn0 dn1 c2 hM
    go_enter Try.func18, Try.ntmps18
    go_wp2_with fail
    rw [HU.out]
    refine ms.mono ?_
    rintro _ w1 ⟨rfl, hb⟩
    obtain ⟨V, hV⟩ : ∃ V : World, w1.alloc (Obj.cells #[.int .i64 m0, .int .i64 m1] 30) = V := ⟨_, rfl⟩
    have bV : Below w1.heap.size w1 V := by rw [← hV]; exact (Below.refl _ _).alloc (Nat.le_refl _) _
    have zV : V.heap.size = w1.heap.size + 1 := by rw [← hV]; simp
    have m0c : V.cell? ⟨w1.heap.size, 0, none⟩ = some (.int .i64 m0) := by rw [← hV]; simp [go_sem]
    have m1c : V.cell? ⟨w1.heap.size, 1, none⟩ = some (.int .i64 m1) := by rw [← hV]; simp [go_sem]
    have HV := hid hV
    have hz1 := hb.size
    have B1 := hid (hb.trans (bV.mono hb.size))
    clear hb bV hV a0 a1 r0 r1 rf
    obtain ⟨p0, p1, r0, r1, rf⟩ := K.out V B1.out
    go_upto_region 2 with fail
    rw [HV.out]
    have x2 := (B1.out.cell (p := ⟨tb, toff + k * 4 + 2, none⟩) htl).trans C2.out
    have tz : tb < V.heap.size := Nat.lt_of_lt_of_le htl B1.out.size
    have vz : w.heap.size + 1 < V.heap.size := by omega
    have vz1 : w1.heap.size < V.heap.size := by omega
    have ne0 : ¬ w1.heap.size = w.heap.size + 1 := by omega
    have ne2 : ¬ w.heap.size + 1 = w1.heap.size := by omega
    go_upto_region 4 with fail
    go_region_with (go_at_call 31; refine (sc _).mono ?_; rintro _ w5 ⟨rfl, hb⟩; have hb5 : Below V.heap.size V w5 := (by repeat' (first | (with_reducible exact Below.refl _ _) | (with_reducible refine Below.alloc ?_ ?_ _) | (with_reducible refine Below.setCell ?_ ?_ _) | (with_reducible refine Below.drew ?_) | (with_reducible refine below_dn ?_ _) | (with_reducible refine Below.trans ?_ (Below.mono (by assumption) ?_)) | (simp; done) | (simp; omega) | omega)); clear r0 r1 rf; obtain ⟨-, -, r0, r1, rf⟩ := K.out w5 (B1.out.trans (hb5.mono B1.out.size)); have rz : w.heap.size + 1 < w5.heap.size := Nat.lt_of_lt_of_le vz hb5.size; have HB5 := hid hb5; clear hb hb5)
    all_goals
      go_wp2_with fail
      refine bodyPost_ret (v := .tuple #[.agg #[.int .i64 lo, .int .i64 hi], .int .i64 e]) (by simp [results, Try.results18, go_sem, r0, r1, rf]) rfl ?_
      have h5 := HB5.out
      exact Gives.mk rfl (((BU.out.trans ((B1.out.trans (h5.mono B1.out.size)).mono (by omega))).setCell (Nat.le_succ _) _).setCell (Nat.le_succ _) _)
  · rw [if_pos cq] at hv
    obtain ⟨rfl, h2⟩ := Prod.mk.inj hv
    obtain ⟨rfl, rfl⟩ := Prod.mk.inj h2
    have e1 : (q != 0) = true := by simpa using cq
    clear hv h2 hc hS hT hM cq
    go_enter Try.func18, Try.ntmps18
    go_wp2_with fail
    rw [HU.out]
    refine ms.mono ?_
    rintro _ w1 ⟨rfl, hb⟩
    obtain ⟨V, hV⟩ : ∃ V : World, w1.alloc (Obj.cells #[.int .i64 m0, .int .i64 m1] 30) = V := ⟨_, rfl⟩
    have bV : Below w1.heap.size w1 V := by rw [← hV]; exact (Below.refl _ _).alloc (Nat.le_refl _) _
    have HV := hid hV
    have B1 := hid (hb.trans (bV.mono hb.size))
    clear hb bV hV a0 a1 r0 r1 rf
    obtain ⟨p0, p1, r0, r1, rf⟩ := K.out V B1.out
    go_upto_region 2 with fail
    rw [HV.out]
    go_wp2_with fail
    refine bodyPost_ret (v := .tuple #[.agg #[.int .i64 0, .int .i64 0], .int .i64 q]) (by simp [results, Try.results18, go_sem, r0, r1, rf]) rfl ?_
    exact Gives.mk rfl (((BU.out.trans (B1.out.mono (by omega))).setCell (Nat.le_succ _) _).setCell (Nat.le_succ _) _)
end Go.Proofs.Ytjeedlglonnngaa
