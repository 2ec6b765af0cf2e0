/-
  Layer 16: checkTree, Check of package treelist, and tree, Check of couperef16, by contract.
-/
import Derived.Test.YtmdaanigkhikfabLa
import Derived.Test.YtmdaanigkhikfabSb
import Derived.Test.YtmdaanigkhikfabSv
namespace Go.Proofs.Ytmdaanigkhikfab
open Go.RowKit
set_option linter.unusedVariables false
set_option linter.unusedSimpArgs false
namespace Sp
/-- The error of a tree. -/
def teE (T : List Sc) (t : Te) : Int :=
  if (decide (0 ≤ t.s) && decide (t.s ≤ (T.length : Int) - 1)) = false then 6 else if allowS T t.s t.d = false then 2 else if (decide (0 ≤ t.h) && decide (t.h ≤ 1000)) = false then 2 else if (decide (0 ≤ t.q) && decide (t.q ≤ 2)) = false then 3 else 0
/-- The first tree with an error, from place j on. -/
def firE (T : List Sc) : Nat → List Te → Int × Int
  | _, [] => (-1, 0)
  | j, t :: l => if teE T t ≠ 0 then ((j : Int), teE T t) else firE T (j + 1) l
def chkT (T : List Sc) (l : List Te) : Int × Int := if tabS T ≠ 0 then (-1, tabS T) else if 200 < l.length then (-1, 8) else firE T 0 l
end Sp
set_option maxRecDepth 100000 in
set_option maxHeartbeats 1000000 in
theorem lctree_any (A : Option Addr) (cap : Nat) (T : List Sp.Sc) (t : Sp.Te) (E : Int) (w : World) (hc : T.length ≤ cap) (hS : Sized T) (hT : Tab w A T) (hv : Sp.teE T t = E) :
    Calls Try.prog 34 #[.slice A T.length cap, .agg #[.int .i64 (t).s, .int .i64 (t).d, .int .i64 (t).h, .int .i64 (t).q]] w (Gives (.int .i64 E) w) := by
  unfold Sp.teE at hv
  have nl : (0 : Int) ≤ (T.length : Int) ∧ (T.length : Int) ≤ 140737488355328 := ⟨by omega, by have := hS.1; omega⟩
  have wn : wrap64 ((T.length : Int) - 1) = (T.length : Int) - 1 := pw64 _ (by omega)
  obtain ⟨V, hV⟩ : ∃ V, w.alloc (Obj.cells #[.int .i64 (t).s, .int .i64 (t).d, .int .i64 (t).h, .int .i64 (t).q] 43) = V := ⟨_, rfl⟩
  obtain ⟨ts, td, th, tq⟩ := t
  have bV : Below w.heap.size w V := by rw [← hV]; exact balloc _ _
  have vz : w.heap.size < V.heap.size := by rw [← hV]; simp
  have v0 : V.cell? ⟨w.heap.size, 0, none⟩ = some (.int .i64 ts) := by rw [← hV]; simp [go_sem]
  have v1 : V.cell? ⟨w.heap.size, 1, none⟩ = some (.int .i64 td) := by rw [← hV]; simp [go_sem]
  have v2 : V.cell? ⟨w.heap.size, 2, none⟩ = some (.int .i64 th) := by rw [← hV]; simp [go_sem]
  have v3 : V.cell? ⟨w.heap.size, 3, none⟩ = some (.int .i64 tq) := by rw [← hV]; simp [go_sem]
  have KC := hid (fun W (hb : Below V.heap.size V W) => (⟨(hb.cell (p := ⟨w.heap.size, 0, none⟩) vz).trans v0, (hb.cell (p := ⟨w.heap.size, 1, none⟩) vz).trans v1, (hb.cell (p := ⟨w.heap.size, 2, none⟩) vz).trans v2, (hb.cell (p := ⟨w.heap.size, 3, none⟩) vz).trans v3, Nat.lt_of_lt_of_le vz hb.size⟩ :
    W.cell? ⟨w.heap.size, 0, none⟩ = some (.int .i64 ts) ∧ W.cell? ⟨w.heap.size, 1, none⟩ = some (.int .i64 td) ∧ W.cell? ⟨w.heap.size, 2, none⟩ = some (.int .i64 th) ∧ W.cell? ⟨w.heap.size, 3, none⟩ = some (.int .i64 tq) ∧ w.heap.size < W.heap.size))
  have BV := hid bV
  have HV := hid hV
  simp only at hv
  have W1 := fun W => lwithin_any ts 0 ((T.length : Int) - 1) W
  have W2 := fun W (hb : Below V.heap.size V W) => sallow_any A cap T ts td W hc hS (hT.below (bthen bV hb))
  have W3 := fun W => lwithin_any th 0 1000 W
  have W4 := fun W => lwithin_any tq 0 2 W
  generalize (decide (0 ≤ ts) && decide (ts ≤ (T.length : Int) - 1)) = P1 at W1 hv
  generalize Sp.allowS T ts td = P2 at W2 hv
  generalize (decide (0 ≤ th) && decide (th ≤ 1000)) = P3 at W3 hv
  generalize (decide (0 ≤ tq) && decide (tq ≤ 2)) = P4 at W4 hv
  have H1 := hid W1
  have H2 := hid W2
  have H3 := hid W3
  have H4 := hid W4
  have HVV := hid hv
  clear hV bV vz v0 v1 v2 v3 W1 W2 W3 W4 hv hT hS hc nl
  go_enter Try.func34, Try.ntmps34
  go_upto_region 1 with fail
  rw [HV.out]
  obtain ⟨k0, k1, k2, k3, kz⟩ := KC.out _ (Below.refl _ _)
  go_wp2_with fail
  refine (H1.out _).mono ?_
  rintro _ w5 ⟨rfl, hb⟩
  have B5 := hid hb
  clear hb k0 k1 k2 k3 kz
  cases P1
  · have h := HVV.out
    simp at h
    subst h
    go_wp2_with fail
    go_ret
    exact Gives.mk rfl (bthen BV.out B5.out)
  · obtain ⟨k0, k1, k2, k3, kz⟩ := KC.out _ B5.out
    go_wp2_with fail
    refine (H2.out _ B5.out).mono ?_
    rintro _ w6 ⟨rfl, hb⟩
    have B6 := hid (bthen B5.out hb)
    clear hb k0 k1 k2 k3 kz
    cases P2
    · have h := HVV.out
      simp at h
      subst h
      go_wp2_with fail
      go_ret
      exact Gives.mk rfl (bthen BV.out B6.out)
    · obtain ⟨k0, k1, k2, k3, kz⟩ := KC.out _ B6.out
      go_wp2_with fail
      refine (H3.out _).mono ?_
      rintro _ w7 ⟨rfl, hb⟩
      have B7 := hid (bthen B6.out hb)
      clear hb k0 k1 k2 k3 kz
      cases P3
      · have h := HVV.out
        simp at h
        subst h
        go_wp2_with fail
        go_ret
        exact Gives.mk rfl (bthen BV.out B7.out)
      · obtain ⟨k0, k1, k2, k3, kz⟩ := KC.out _ B7.out
        go_wp2_with fail
        refine (H4.out _).mono ?_
        rintro _ w8 ⟨rfl, hb⟩
        have B8 := hid (bthen B7.out hb)
        clear hb k0 k1 k2 k3 kz
        cases P4
        · have h := HVV.out
          simp at h
          subst h
          go_wp2_with fail
          go_ret
          exact Gives.mk rfl (bthen BV.out B8.out)
        · have h := HVV.out
          simp at h
          subst h
          go_wp2_with fail
          go_ret
          exact Gives.mk rfl (bthen BV.out B8.out)
set_option maxRecDepth 100000 in
set_option maxHeartbeats 1000000 in
theorem rltree_any (A : Option Addr) (cap : Nat) (T : List Sp.Sc) (t : Sp.Te) (E : Int) (w : World) (hc : T.length ≤ cap) (hS : Sized T) (hT : Tab w A T) (hv : Sp.teE T t = E) :
    Calls Try.prog 36 #[.slice A T.length cap, .agg #[.int .i64 (t).s, .int .i64 (t).d, .int .i64 (t).h, .int .i64 (t).q]] w (Gives (.int .i64 E) w) := by
  unfold Sp.teE at hv
  obtain ⟨V, hV⟩ : ∃ V, w.alloc (Obj.cells #[.int .i64 (t).s, .int .i64 (t).d, .int .i64 (t).h, .int .i64 (t).q] 43) = V := ⟨_, rfl⟩
  obtain ⟨ts, td, th, tq⟩ := t
  have bV : Below w.heap.size w V := by rw [← hV]; exact balloc _ _
  have vz : w.heap.size < V.heap.size := by rw [← hV]; simp
  have v0 : V.cell? ⟨w.heap.size, 0, none⟩ = some (.int .i64 ts) := by rw [← hV]; simp [go_sem]
  have v1 : V.cell? ⟨w.heap.size, 1, none⟩ = some (.int .i64 td) := by rw [← hV]; simp [go_sem]
  have v2 : V.cell? ⟨w.heap.size, 2, none⟩ = some (.int .i64 th) := by rw [← hV]; simp [go_sem]
  have v3 : V.cell? ⟨w.heap.size, 3, none⟩ = some (.int .i64 tq) := by rw [← hV]; simp [go_sem]
  have KC := hid (fun W (hb : Below V.heap.size V W) => (⟨(hb.cell (p := ⟨w.heap.size, 0, none⟩) vz).trans v0, (hb.cell (p := ⟨w.heap.size, 1, none⟩) vz).trans v1, (hb.cell (p := ⟨w.heap.size, 2, none⟩) vz).trans v2, (hb.cell (p := ⟨w.heap.size, 3, none⟩) vz).trans v3, Nat.lt_of_lt_of_le vz hb.size⟩ :
    W.cell? ⟨w.heap.size, 0, none⟩ = some (.int .i64 ts) ∧ W.cell? ⟨w.heap.size, 1, none⟩ = some (.int .i64 td) ∧ W.cell? ⟨w.heap.size, 2, none⟩ = some (.int .i64 th) ∧ W.cell? ⟨w.heap.size, 3, none⟩ = some (.int .i64 tq) ∧ w.heap.size < W.heap.size))
  have BV := hid bV
  have HV := hid hV
  simp only at hv
  have W2 := fun W (hb : Below V.heap.size V W) => rsallow_any A cap T ts td W hc hS (hT.below (bthen bV hb))
  have H2 := hid W2
  clear hV bV vz v0 v1 v2 v3 W2 hT hS hc
  go_enter Try.func36, Try.ntmps36
  go_upto_region 1 with fail
  rw [HV.out]
  obtain ⟨k0, k1, k2, k3, kz⟩ := KC.out _ (Below.refl _ _)
  by_cases a1 : ts < 0
  · have f1 : decide (ts < 0) = true := decide_eq_true a1
    rw [if_pos (by simp; omega)] at hv
    subst hv
    clear a1
    go_wp2_with fail
    go_ret
    exact Gives.mk rfl BV.out
  · have f1 : decide (ts < 0) = false := decide_eq_false a1
    by_cases a2 : (T.length : Int) ≤ ts
    · have f2 : decide ((T.length : Int) ≤ ts) = true := decide_eq_true a2
      rw [if_pos (by simp; omega)] at hv
      subst hv
      clear a1 a2
      go_wp2_with fail
      go_ret
      exact Gives.mk rfl BV.out
    · have f2 : decide ((T.length : Int) ≤ ts) = false := decide_eq_false a2
      rw [if_neg (by simp; omega)] at hv
      have HVV := hid hv
      clear hv a1 a2
      generalize Sp.allowS T ts td = P2 at H2 HVV
      go_wp2_with fail
      refine (H2.out _ (Below.refl _ _)).mono ?_
      rintro _ w6 ⟨rfl, hb⟩
      have B6 := hid hb
      clear hb k0 k1 k2 k3 kz f1 f2
      have hv := HVV.out
      cases P2
      · simp at hv
        subst hv
        go_wp2_with fail
        go_ret
        exact Gives.mk rfl (bthen BV.out B6.out)
      · rw [if_neg (by simp)] at hv
        obtain ⟨k0, k1, k2, k3, kz⟩ := KC.out _ B6.out
        by_cases a3 : th < 0
        · have f3 : decide (th < 0) = true := decide_eq_true a3
          rw [if_pos (by simp; omega)] at hv
          subst hv
          clear a3
          go_wp2_with fail
          go_ret
          exact Gives.mk rfl (bthen BV.out B6.out)
        · have f3 : decide (th < 0) = false := decide_eq_false a3
          by_cases a4 : 1000 < th
          · have f4 : decide (1000 < th) = true := decide_eq_true a4
            rw [if_pos (by simp; omega)] at hv
            subst hv
            clear a3 a4
            go_wp2_with fail
            go_ret
            exact Gives.mk rfl (bthen BV.out B6.out)
          · have f4 : decide (1000 < th) = false := decide_eq_false a4
            rw [if_neg (by simp; omega)] at hv
            by_cases a5 : tq < 0
            · have f5 : decide (tq < 0) = true := decide_eq_true a5
              rw [if_pos (by simp; omega)] at hv
              subst hv
              clear a3 a4 a5
              go_wp2_with fail
              go_ret
              exact Gives.mk rfl (bthen BV.out B6.out)
            · have f5 : decide (tq < 0) = false := decide_eq_false a5
              by_cases a6 : 2 < tq
              · have f6 : decide (2 < tq) = true := decide_eq_true a6
                rw [if_pos (by simp; omega)] at hv
                subst hv
                clear a3 a4 a5 a6
                go_wp2_with fail
                go_ret
                exact Gives.mk rfl (bthen BV.out B6.out)
              · have f6 : decide (2 < tq) = false := decide_eq_false a6
                rw [if_neg (by simp; omega)] at hv
                subst hv
                clear a3 a4 a5 a6
                go_wp2_with fail
                go_ret
                exact Gives.mk rfl (bthen BV.out B6.out)
set_option maxRecDepth 100000 in
set_option maxHeartbeats 1000000 in
theorem lcheck_any (B : Option Addr) (bcap : Nat) (T : List Sp.Sc) (A : Option Addr) (cap : Nat) (l : List Sp.Te) (I E : Int) (w : World) (hc : T.length ≤ bcap) (hS : Sized T) (hB : Tab w B T) (hl : l.length ≤ 140737488355328) (hT : Trs w A l) (hv : Sp.chkT T l = (I, E)) :
    Calls Try.prog 14 #[.slice B T.length bcap, .slice A l.length cap] w (Gives (.tuple #[.int .i64 I, .int .i64 E]) w) := by
  have CK := hid (scheck_any B bcap T w hc hS hB)
  have CT := hid (fun (t : Sp.Te) (W : World) (hb : Below w.heap.size w W) => lctree_any B bcap T t _ W hc hS (hB.below hb) rfl)
  have HT := hid hT
  unfold Sp.chkT at hv
  generalize Sp.tabS T = Q at CK hv
  have HV := hid hv
  clear hc hS hB hT hv
  go_enter Try.func14, Try.ntmps14
  go_wp2_with fail
  refine CK.out.mono ?_
  rintro _ w5 ⟨rfl, hb⟩
  have B5 := hid hb
  clear hb
  have hv := HV.out
  by_cases cQ : Q = 0
  · subst cQ
    rw [if_neg (by simp)] at hv
    by_cases cl : 200 < l.length
    · have f1 : decide ((200 : Int) < (l.length : Int)) = true := decide_eq_true (by omega)
      rw [if_pos cl] at hv
      obtain ⟨rfl, rfl⟩ := Prod.mk.inj hv
      clear hv cl HV
      go_wp2_with fail
      go_ret2
      exact Gives.mk rfl B5.out
    · have f1 : decide ((200 : Int) < (l.length : Int)) = false := decide_eq_false (by omega)
      rw [if_neg cl] at hv
      have LE := hid (show l.length ≤ 200 by omega)
      have HV2 := hid hv
      clear hv cl HV hl
      go_wp2_with fail
      go_loopw [20] (fun t wr => ∃ j : Nat, t = .int .i64 (j : Int) ∧ j ≤ l.length ∧ Sp.firE T j (l.drop j) = (I, E) ∧ Below w.heap.size w wr) (fun t _ => l.length - (intOf t).toNat)
      case atStart => exact ⟨0, rfl, Nat.zero_le _, HV2.out, B5.out⟩
      case round =>
        obtain ⟨j, rfl, hj, hd, hBB⟩ := hrel
        have HB := hid hBB
        clear hBB
        by_cases hlt : j < l.length
        · obtain ⟨b, off, rfl, bl, q0, q1, q2, q3⟩ := HT.out.at_ HB.out hlt
          rw [List.drop_eq_getElem_cons hlt] at hd
          unfold Sp.firE at hd
          obtain ⟨t, ht⟩ : ∃ t, l[j]'hlt = t := ⟨_, rfl⟩
          rw [ht] at q0 q1 q2 q3 hd
          obtain ⟨ej, eq, i0, i1⟩ := rjw j l.length hlt (by have := LE.out; omega)
          have TE := hid (fun W (hb : Below w.heap.size w W) => CT.out t W hb)
          obtain ⟨ts, td, th, tq⟩ := t
          simp only at q0 q1 q2 q3
          generalize Sp.teE T ⟨ts, td, th, tq⟩ = e at hd TE
          obtain ⟨V, hV⟩ : ∃ V, wr.alloc (Obj.cells #[.int .i64 ts, .int .i64 td, .int .i64 th, .int .i64 tq] 43) = V := ⟨_, rfl⟩
          have v0 : V.cell? ⟨wr.heap.size, 0, none⟩ = some (.int .i64 ts) := by rw [← hV]; simp [go_sem]
          have v1 : V.cell? ⟨wr.heap.size, 1, none⟩ = some (.int .i64 td) := by rw [← hV]; simp [go_sem]
          have v2 : V.cell? ⟨wr.heap.size, 2, none⟩ = some (.int .i64 th) := by rw [← hV]; simp [go_sem]
          have v3 : V.cell? ⟨wr.heap.size, 3, none⟩ = some (.int .i64 tq) := by rw [← hV]; simp [go_sem]
          have vz : wr.heap.size < V.heap.size := by rw [← hV]; simp
          have BV := hid (bthen HB.out (show Below wr.heap.size wr V by rw [← hV]; exact balloc _ _))
          have HV2 := hid hV
          have EQ := hid eq
          have HJ := hid hlt
          have HM := hid (pmeas l.length j hlt)
          have HD := hid hd
          clear hV ht eq hlt hd
          go_upto_region 9 with fail
          rw [HV2.out]
          clear q0 q1 q2 q3 bl
          go_wp2_with fail
          refine (TE.out _ BV.out).mono ?_
          rintro _ w6 ⟨rfl, hb⟩
          have B6 := hid (bthen BV.out hb)
          clear hb v0 v1 v2 v3 vz
          have hd := HD.out
          by_cases ce : e = 0
          · subst ce
            rw [if_neg (by simp)] at hd
            have HD2 := hid hd
            clear hd
            go_wp2_with fail
            go_roundw
            case rel => exact ⟨j + 1, i64_eq (by first | exact EQ.out | exact ej.trans EQ.out), HJ.out, HD2.out, B6.out⟩
            case measure => first | exact HM.out | (rw [ej]; exact HM.out)
          · have hn : (e == 0) = false := by simpa using ce
            rw [if_pos ce] at hd
            obtain ⟨rfl, rfl⟩ := Prod.mk.inj hd
            clear hd
            go_wp2_with fail
            go_ret2
            exact Gives.mk rfl B6.out
        · have i1 : ¬ (j : Int) < (l.length : Int) := fun k => hlt (Int.ofNat_lt.mp k)
          rw [List.drop_eq_nil_of_le (Nat.le_of_not_lt hlt)] at hd
          obtain ⟨rfl, rfl⟩ := Prod.mk.inj (show ((-1 : Int), (0 : Int)) = (I, E) from hd)
          clear hd hlt hj
          go_wp2_with fail
          go_ret2
          exact Gives.mk rfl HB.out
  · have hn : (Q == 0) = false := by simpa using cQ
    rw [if_pos cQ] at hv
    obtain ⟨rfl, rfl⟩ := Prod.mk.inj hv
    clear hv HV
    go_wp2_with fail
    go_ret2
    exact Gives.mk rfl B5.out
set_option maxRecDepth 100000 in
set_option maxHeartbeats 1000000 in
theorem rlcheck_any (B : Option Addr) (bcap : Nat) (T : List Sp.Sc) (A : Option Addr) (cap : Nat) (l : List Sp.Te) (I E : Int) (w : World) (hc : T.length ≤ bcap) (hS : Sized T) (hB : Tab w B T) (hl : l.length ≤ 140737488355328) (hT : Trs w A l) (hv : Sp.chkT T l = (I, E)) :
    Calls Try.prog 15 #[.slice B T.length bcap, .slice A l.length cap] w (Gives (.tuple #[.int .i64 I, .int .i64 E]) w) := by
  have CK := hid (rscheck_any B bcap T w hc hS hB)
  have CT := hid (fun (t : Sp.Te) (W : World) (hb : Below w.heap.size w W) => rltree_any B bcap T t _ W hc hS (hB.below hb) rfl)
  have HT := hid hT
  unfold Sp.chkT at hv
  generalize Sp.tabS T = Q at CK hv
  have HV := hid hv
  clear hc hS hB hT hv
  go_enter Try.func15, Try.ntmps15
  go_wp2_with fail
  refine CK.out.mono ?_
  rintro _ w5 ⟨rfl, hb⟩
  have B5 := hid hb
  clear hb
  have hv := HV.out
  by_cases cQ : Q = 0
  · subst cQ
    rw [if_neg (by simp)] at hv
    by_cases cl : 200 < l.length
    · have f1 : decide ((200 : Int) < (l.length : Int)) = true := decide_eq_true (by omega)
      rw [if_pos cl] at hv
      obtain ⟨rfl, rfl⟩ := Prod.mk.inj hv
      clear hv cl HV
      go_wp2_with fail
      go_ret2
      exact Gives.mk rfl B5.out
    · have f1 : decide ((200 : Int) < (l.length : Int)) = false := decide_eq_false (by omega)
      rw [if_neg cl] at hv
      have LE := hid (show l.length ≤ 200 by omega)
      have HV2 := hid hv
      clear hv cl HV hl
      go_wp2_with fail
      go_loopw [20] (fun t wr => ∃ j : Nat, t = .int .i64 (j : Int) ∧ j ≤ l.length ∧ Sp.firE T j (l.drop j) = (I, E) ∧ Below w.heap.size w wr) (fun t _ => l.length - (intOf t).toNat)
      case atStart => exact ⟨0, rfl, Nat.zero_le _, HV2.out, B5.out⟩
      case round =>
        obtain ⟨j, rfl, hj, hd, hBB⟩ := hrel
        have HB := hid hBB
        clear hBB
        by_cases hlt : j < l.length
        · obtain ⟨b, off, rfl, bl, q0, q1, q2, q3⟩ := HT.out.at_ HB.out hlt
          rw [List.drop_eq_getElem_cons hlt] at hd
          unfold Sp.firE at hd
          obtain ⟨t, ht⟩ : ∃ t, l[j]'hlt = t := ⟨_, rfl⟩
          rw [ht] at q0 q1 q2 q3 hd
          obtain ⟨ej, eq, i0, i1⟩ := rjw j l.length hlt (by have := LE.out; omega)
          have TE := hid (fun W (hb : Below w.heap.size w W) => CT.out t W hb)
          obtain ⟨ts, td, th, tq⟩ := t
          simp only at q0 q1 q2 q3
          generalize Sp.teE T ⟨ts, td, th, tq⟩ = e at hd TE
          obtain ⟨V, hV⟩ : ∃ V, wr.alloc (Obj.cells #[.int .i64 ts, .int .i64 td, .int .i64 th, .int .i64 tq] 43) = V := ⟨_, rfl⟩
          have v0 : V.cell? ⟨wr.heap.size, 0, none⟩ = some (.int .i64 ts) := by rw [← hV]; simp [go_sem]
          have v1 : V.cell? ⟨wr.heap.size, 1, none⟩ = some (.int .i64 td) := by rw [← hV]; simp [go_sem]
          have v2 : V.cell? ⟨wr.heap.size, 2, none⟩ = some (.int .i64 th) := by rw [← hV]; simp [go_sem]
          have v3 : V.cell? ⟨wr.heap.size, 3, none⟩ = some (.int .i64 tq) := by rw [← hV]; simp [go_sem]
          have vz : wr.heap.size < V.heap.size := by rw [← hV]; simp
          have BV := hid (bthen HB.out (show Below wr.heap.size wr V by rw [← hV]; exact balloc _ _))
          have HV2 := hid hV
          have EQ := hid eq
          have HJ := hid hlt
          have HM := hid (pmeas l.length j hlt)
          have HD := hid hd
          clear hV ht eq hlt hd
          go_upto_region 9 with fail
          rw [HV2.out]
          clear q0 q1 q2 q3 bl
          go_wp2_with fail
          refine (TE.out _ BV.out).mono ?_
          rintro _ w6 ⟨rfl, hb⟩
          have B6 := hid (bthen BV.out hb)
          clear hb v0 v1 v2 v3 vz
          have hd := HD.out
          by_cases ce : e = 0
          · subst ce
            rw [if_neg (by simp)] at hd
            have HD2 := hid hd
            clear hd
            go_wp2_with fail
            go_roundw
            case rel => exact ⟨j + 1, i64_eq (by first | exact EQ.out | exact ej.trans EQ.out), HJ.out, HD2.out, B6.out⟩
            case measure => first | exact HM.out | (rw [ej]; exact HM.out)
          · have hn : (e == 0) = false := by simpa using ce
            rw [if_pos ce] at hd
            obtain ⟨rfl, rfl⟩ := Prod.mk.inj hd
            clear hd
            go_wp2_with fail
            go_ret2
            exact Gives.mk rfl B6.out
        · have i1 : ¬ (j : Int) < (l.length : Int) := fun k => hlt (Int.ofNat_lt.mp k)
          rw [List.drop_eq_nil_of_le (Nat.le_of_not_lt hlt)] at hd
          obtain ⟨rfl, rfl⟩ := Prod.mk.inj (show ((-1 : Int), (0 : Int)) = (I, E) from hd)
          clear hd hlt hj
          go_wp2_with fail
          go_ret2
          exact Gives.mk rfl HB.out
  · have hn : (Q == 0) = false := by simpa using cQ
    rw [if_pos cQ] at hv
    obtain ⟨rfl, rfl⟩ := Prod.mk.inj hv
    clear hv HV
    go_wp2_with fail
    go_ret2
    exact Gives.mk rfl B5.out
end Go.Proofs.Ytmdaanigkhikfab
