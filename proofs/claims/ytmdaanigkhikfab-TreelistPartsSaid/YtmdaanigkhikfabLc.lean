/-
  Layer 16: Mean of package treelist (sort.Search over its closure) and of couperef16, by contract.
-/
import Derived.Test.YtmdaanigkhikfabLa
namespace Go.Proofs.Ytmdaanigkhikfab
open Go.RowKit
set_option linter.unusedVariables false
set_option linter.unusedSimpArgs false
namespace Sp
/-- m is the quadratic mean of n numbers whose squares add up to S, rounded down. -/
def IsM (n S m : Int) : Prop := 0 ≤ m ∧ n * m * m ≤ S ∧ S < n * (m + 1) * (m + 1)
theorem sqm {n x y : Int} (n0 : 0 ≤ n) (x0 : 0 ≤ x) (h : x ≤ y) : n * x * x ≤ n * y * y := by
  have a : n * x ≤ n * y := Int.mul_le_mul_of_nonneg_left h n0
  exact Int.mul_le_mul a h x0 (Int.mul_nonneg n0 (by omega))
theorem isM_ex {n S : Int} (s0 : 0 ≤ S) : ∀ k : Nat, S < n * (k : Int) * (k : Int) → ∃ m : Nat, m < k ∧ IsM n S (m : Int)
  | 0, h => by simp at h; omega
  | k + 1, h => by
    by_cases c : S < n * (k : Int) * (k : Int)
    · obtain ⟨m, hm, hi⟩ := isM_ex s0 k c
      exact ⟨m, by omega, hi⟩
    · exact ⟨k, by omega, by omega, by omega, by push_cast at h; exact h⟩
theorem isM_lt {n S m x : Int} (n0 : 0 ≤ n) (h : IsM n S m) (x0 : 0 ≤ x) : decide (S < n * x * x) = decide (m + 1 ≤ x) := by
  obtain ⟨m0, h1, h2⟩ := h
  by_cases c : m + 1 ≤ x
  · rw [decide_eq_true c]
    have := sqm n0 (show 0 ≤ m + 1 by omega) c
    exact decide_eq_true (by omega)
  · rw [decide_eq_false c]
    have := sqm n0 x0 (show x ≤ m by omega)
    exact decide_eq_false (by omega)
theorem isM_le {n S m x : Int} (n0 : 0 ≤ n) (h : IsM n S m) (x0 : 0 ≤ x) : decide (n * x * x ≤ S) = decide (x ≤ m) := by
  have e := isM_lt n0 h x0
  by_cases c : x ≤ m
  · rw [decide_eq_true c]
    rw [decide_eq_false (show ¬ m + 1 ≤ x by omega)] at e
    have := of_decide_eq_false e
    exact decide_eq_true (by omega)
  · rw [decide_eq_false c]
    rw [decide_eq_true (show m + 1 ≤ x by omega)] at e
    have := of_decide_eq_true e
    exact decide_eq_false (by omega)
theorem isM_in {n S m : Int} (n1 : 1 ≤ n) (h : IsM n S m) (hS : S ≤ 9000000 * n) : m ≤ 3000 := by
  obtain ⟨m0, h1, h2⟩ := h
  apply Int.le_of_not_gt
  intro c
  have a := sqm (n := n) (by omega) (show (0 : Int) ≤ 3001 by omega) (show (3001 : Int) ≤ m by omega)
  omega
def meanE (l : List Te) : Int := if (sqS l).2 ≠ 0 then (sqS l).2 else if l.length = 0 then 6 else 0
def meanV (l : List Te) (m : Int) : Int := if meanE l = 0 then m else 0
end Sp
theorem mmul {n x : Int} (n0 : 0 ≤ n) (n1 : n ≤ 200) (x0 : 0 ≤ x) (x1 : x ≤ 3001) : (0 ≤ n * x ∧ n * x ≤ 600200) ∧ 0 ≤ n * x * x ∧ n * x * x ≤ 1801200200 := by
  have a := Sp.pmul (a := n) (b := x) (m := 200) (n := 3001) n0 n1 x0 x1 (by omega)
  have b := Sp.pmul (a := n * x) (b := x) (m := 600200) (n := 3001) a.1 a.2 x0 x1 (by omega)
  exact ⟨⟨a.1, by omega⟩, b.1, by omega⟩
set_option maxRecDepth 100000 in
theorem mclos_any (A : Option Addr) (n cap g h : Nat) (S m x : Int) (w : World) (n1 : n ≤ 200) (hm : Sp.IsM (n : Int) S m) (x0 : 0 ≤ x) (x1 : x ≤ 3001) (hg : w.cell? ⟨g, 0, none⟩ = some (.slice A n cap)) (hh : w.cell? ⟨h, 0, none⟩ = some (.int .i64 S)) :
    Calls Try.prog 40 #[.int .i64 x, .pointer (some ⟨g, 0, none⟩), .pointer (some ⟨h, 0, none⟩)] w fun e w' => e = .returned (.bool (decide (m + 1 ≤ x))) ∧ w = w' := by
  have e := Sp.isM_lt (by omega) hm x0
  obtain ⟨b1, b2⟩ := mmul (n := (n : Int)) (x := x) (by omega) (by omega) x0 x1
  obtain ⟨P, hP⟩ : ∃ P, (n : Int) * x = P := ⟨_, rfl⟩
  rw [hP] at e b1 b2
  obtain ⟨Q, hQ⟩ : ∃ Q, P * x = Q := ⟨_, rfl⟩
  rw [hQ] at e b2
  have w1 : wrap64 P = P := pw64 _ (by omega)
  have w2 : wrap64 Q = Q := pw64 _ (by omega)
  generalize decide (m + 1 ≤ x) = R at e ⊢
  clear hm b1 b2 n1 x0 x1
  go_enter Try.func40, Try.ntmps40
  go_wp2_with fail
  go_ret
  exact ⟨by first | rw [e] | simp [e], rfl⟩
def SeaRel (lo : Int) (w : World) (t u : Value) (wr : World) : Prop := ∃ i j : Int, t = .int .i64 i ∧ u = .int .i64 j ∧ 0 ≤ i ∧ i ≤ lo ∧ lo ≤ j ∧ j ≤ 3001 ∧ w = wr
set_option maxRecDepth 100000 in
set_option maxHeartbeats 1000000 in
theorem lsearch_any (lo : Int) (p q : Value) (w : World) (l0 : 0 ≤ lo) (l1 : lo ≤ 3001) (cl : ∀ x : Int, 0 ≤ x → x ≤ 3001 → Calls Try.prog 40 #[.int .i64 x, p, q] w fun e w' => e = .returned (.bool (decide (lo ≤ x))) ∧ w = w') :
    Calls Try.prog 39 #[.int .i64 3001, .func (.func 40) #[] #[p, q]] w fun e w' => e = .returned (.int .i64 lo) ∧ w = w' := by
  have CL := hid cl
  clear cl
  go_enter Try.func39, Try.ntmps39
  go_wp2_with fail
  go_loopw [5, 6] (fun t u wr => SeaRel lo w t u wr) (fun t u _ => (intOf u - intOf t).toNat)
  case atStart => exact ⟨0, 3001, rfl, rfl, by omega, l0, l1, by omega, rfl⟩
  case round =>
    obtain ⟨i, j, rfl, rfl, i0, i1, j0, j1, rfl⟩ := hrel
    by_cases hlt : i < j
    · obtain ⟨h, eh⟩ : ∃ h, (i + j) / 2 = h := ⟨_, rfl⟩
      have h0 : i ≤ h := by omega
      have h1 : h < j := by omega
      have k := CL.out h (by omega) (by omega)
      by_cases c : lo ≤ h
      · rw [decide_eq_true c] at k
        go_wp2_with fail
        refine k.mono ?_
        rintro _ uq ⟨rfl, rfl⟩
        go_wp2_with fail
        go_roundw
        case rel => exact ⟨i, h, rfl, rfl, i0, i1, c, by omega, rfl⟩
        case measure => simp [intOf]; omega
      · rw [decide_eq_false c] at k
        go_wp2_with fail
        refine k.mono ?_
        rintro _ uq ⟨rfl, rfl⟩
        go_wp2_with fail
        go_roundw
        case rel => exact ⟨h + 1, j, by go_num, rfl, by omega, by omega, j0, j1, rfl⟩
        case measure => simp [intOf]; omega
    · have e : i = lo := by omega
      subst e
      go_wp2_with fail
      go_ret
      exact ⟨rfl, rfl⟩
set_option maxRecDepth 100000 in
set_option maxHeartbeats 1000000 in
theorem lmean_any (A : Option Addr) (cap : Nat) (l : List Sp.Te) (m : Int) (w : World) (hl : l.length ≤ 140737488355328) (hT : Trs w A l) (hm : Sp.meanE l = 0 → Sp.IsM (l.length : Int) (Sp.sqS l).1 m) :
    Calls Try.prog 18 #[.slice A l.length cap] w (Gives (.tuple #[.int .i64 (Sp.meanV l m), .int .i64 (Sp.meanE l)]) w) := by
  obtain ⟨V, hV⟩ : ∃ V, w.alloc (.cells #[.slice A l.length cap] 23) = V := ⟨_, rfl⟩
  have bV : Below w.heap.size w V := by rw [← hV]; exact balloc _ _
  have vz : w.heap.size < V.heap.size := by rw [← hV]; simp
  have v0 : V.cell? ⟨w.heap.size, 0, none⟩ = some (.slice A l.length cap) := by rw [← hV]; simp [go_sem]
  obtain ⟨S, hS⟩ : ∃ S, (Sp.sqS l).1 = S := ⟨_, rfl⟩
  obtain ⟨E, hE⟩ : ∃ E, (Sp.sqS l).2 = E := ⟨_, rfl⟩
  have SQ := hid (lsquares_any A cap l S E V hl (hT.below bV) (by rw [← hS, ← hE]))
  have OK := hid (fun (h : E = 0) => Sp.sqS_ok (hE.trans h))
  have SB := hid (fun (h : E = 0) => (by
    obtain ⟨h1, h2, h3⟩ := Sp.sqS_ok (hE.trans h)
    obtain ⟨h4, h5⟩ := Sp.sumQ_in l h2
    rw [hS] at h3
    exact ⟨h1, by omega, by omega⟩ : l.length ≤ 200 ∧ (l.length : Int) ≤ S ∧ S ≤ 9000000 * (l.length : Int)))
  unfold Sp.meanV
  obtain ⟨F, hF⟩ : ∃ F, Sp.meanE l = F := ⟨_, rfl⟩
  rw [hF] at hm ⊢
  unfold Sp.meanE at hF
  rw [hE] at hF
  rw [hS] at hm
  obtain ⟨Z, hZ⟩ : ∃ Z, (if F = 0 then m else 0) = Z := ⟨_, rfl⟩
  rw [hZ]
  have HZ := hid hZ
  clear hZ
  have HM := hid hm
  have HF := hid hF
  have HV := hid hV
  have BV := hid bV
  clear hV bV hT hS hE hm hF hl
  go_enter Try.func18, Try.ntmps18
  go_upto_region 1 with fail
  rw [HV.out]
  go_wp2_with fail
  refine SQ.out.mono ?_
  rintro _ w5 ⟨rfl, hb⟩
  have x0 := (hb.cell (p := ⟨w.heap.size, 0, none⟩) vz).trans v0
  obtain ⟨V5, hV5⟩ : ∃ V5, w5.alloc (.cells #[.int .i64 S] 3) = V5 := ⟨_, rfl⟩
  have k5 : Below w5.heap.size w5 V5 := by rw [← hV5]; exact balloc _ _
  have c0 := (k5.cell (p := ⟨w.heap.size, 0, none⟩) (Nat.lt_of_lt_of_le vz hb.size)).trans x0
  have cz : w.heap.size < V5.heap.size := Nat.lt_of_lt_of_le vz (Nat.le_trans hb.size k5.size)
  have s0 : V5.cell? ⟨w5.heap.size, 0, none⟩ = some (.int .i64 S) := by rw [← hV5]; simp [go_sem]
  have sz : w5.heap.size < V5.heap.size := by rw [← hV5]; simp
  have B5 := hid (bthen BV.out (bthen hb k5))
  have HV5 := hid hV5
  clear hb x0 k5 hV5 v0 vz
  go_upto_region 2 with fail
  rw [HV5.out]
  have hF := HF.out
  by_cases cE : E = 0
  · subst cE
    rw [if_neg (by simp)] at hF
    obtain ⟨n1, s1, s2⟩ := SB.out (by first | rfl | trivial)
    by_cases cn : l.length = 0
    · rw [if_pos cn] at hF
      subst hF
      have hz := HZ.out
      rw [if_neg (by decide)] at hz
      subst hz
      have e0 : ((l.length : Int) == 0) = true := by rw [cn]; rfl
      have e1 : l = [] := List.eq_nil_of_length_eq_zero cn
      clear n1 s1 s2
      go_wp2_with fail
      go_ret2
      exact Gives.mk rfl B5.out
    · rw [if_neg cn] at hF
      subst hF
      have hz := HZ.out
      rw [if_pos rfl] at hz
      subst hz
      have hm := HM.out (by first | rfl | trivial)
      have m0 := hm.1
      have m1 := Sp.isM_in (n := (l.length : Int)) (by omega) hm s2
      have en : ¬ l = [] := fun h => cn (by rw [h]; rfl)
      have e0 : ((l.length : Int) == 0) = false := by simpa using en
      have SE := hid (lsearch_any (m + 1) (.pointer (some ⟨w.heap.size, 0, none⟩)) (.pointer (some ⟨w5.heap.size, 0, none⟩)) V5 (by omega) (by omega) (fun x x0 x1 => mclos_any A l.length cap w.heap.size w5.heap.size S m x V5 n1 hm x0 x1 c0 s0))
      have wm : wrap64 m = m := pw64 _ (by omega)
      have wm2 : wrap64 (m + 1 - 1) = m := by rw [show m + 1 - 1 = m by omega]; exact wm
      clear n1 s1 s2 hm m0 m1
      go_wp2_with fail
      refine SE.out.mono ?_
      rintro _ w6 ⟨rfl, rfl⟩
      go_wp2_with fail
      go_ret2
      exact Gives.mk (by simp [wm, wm2]) B5.out
  · have hn : (E == 0) = false := by simpa using cE
    rw [if_pos cE] at hF
    subst hF
    have hz := HZ.out
    rw [if_neg cE] at hz
    subst hz
    go_wp2_with fail
    go_ret2
    exact Gives.mk rfl B5.out
set_option maxRecDepth 100000 in
set_option maxHeartbeats 1000000 in
theorem rlmean_any (A : Option Addr) (cap : Nat) (l : List Sp.Te) (m : Int) (w : World) (hl : l.length ≤ 140737488355328) (hT : Trs w A l) (hm : Sp.meanE l = 0 → Sp.IsM (l.length : Int) (Sp.sqS l).1 m) :
    Calls Try.prog 19 #[.slice A l.length cap] w (Gives (.tuple #[.int .i64 (Sp.meanV l m), .int .i64 (Sp.meanE l)]) w) := by
  obtain ⟨S, hS⟩ : ∃ S, (Sp.sqS l).1 = S := ⟨_, rfl⟩
  obtain ⟨E, hE⟩ : ∃ E, (Sp.sqS l).2 = E := ⟨_, rfl⟩
  have SQ := hid (rlsquares_any A cap l S E w hl hT (by rw [← hS, ← hE]))
  have SB := hid (fun (h : E = 0) => (by
    obtain ⟨h1, h2, h3⟩ := Sp.sqS_ok (hE.trans h)
    obtain ⟨h4, h5⟩ := Sp.sumQ_in l h2
    rw [hS] at h3
    exact ⟨h1, by omega, by omega⟩ : l.length ≤ 200 ∧ (l.length : Int) ≤ S ∧ S ≤ 9000000 * (l.length : Int)))
  unfold Sp.meanV
  obtain ⟨F, hF⟩ : ∃ F, Sp.meanE l = F := ⟨_, rfl⟩
  rw [hF] at hm ⊢
  unfold Sp.meanE at hF
  rw [hE] at hF
  rw [hS] at hm
  obtain ⟨Z, hZ⟩ : ∃ Z, (if F = 0 then m else 0) = Z := ⟨_, rfl⟩
  rw [hZ]
  have HZ := hid hZ
  clear hZ
  have HM := hid hm
  have HF := hid hF
  clear hT hS hE hm hF hl
  go_enter Try.func19, Try.ntmps19
  go_wp2_with fail
  refine SQ.out.mono ?_
  rintro _ w5 ⟨rfl, hb⟩
  have B5 := hid hb
  clear hb
  have hF := HF.out
  by_cases cE : E = 0
  · subst cE
    rw [if_neg (by simp)] at hF
    obtain ⟨n1, s1, s2⟩ := SB.out (by first | rfl | trivial)
    by_cases cn : l.length = 0
    · rw [if_pos cn] at hF
      subst hF
      have hz := HZ.out
      rw [if_neg (by decide)] at hz
      subst hz
      have e0 : ((l.length : Int) == 0) = true := by rw [cn]; rfl
      have e1 : l = [] := List.eq_nil_of_length_eq_zero cn
      clear n1 s1 s2
      go_wp2_with fail
      go_ret2
      exact Gives.mk rfl B5.out
    · rw [if_neg cn] at hF
      subst hF
      have hz := HZ.out
      rw [if_pos rfl] at hz
      subst hz
      have hm := HM.out (by first | rfl | trivial)
      have m0 := hm.1
      have m1 := Sp.isM_in (n := (l.length : Int)) (by omega) hm s2
      have en : ¬ l = [] := fun h => cn (by rw [h]; rfl)
      have e0 : ((l.length : Int) == 0) = false := by simpa using en
      have HMM := hid hm
      have N1 := hid n1
      have M1 := hid m1
      clear n1 s1 s2 hm m1
      go_wp2_with fail
      go_loopw [6] (fun t wr => ∃ i : Int, t = .int .i64 i ∧ 0 ≤ i ∧ i ≤ m ∧ Below w.heap.size w wr) (fun t _ => (m - intOf t).toNat)
      case atStart => exact ⟨0, rfl, Int.le_refl _, m0, B5.out⟩
      case round =>
        obtain ⟨i, rfl, i0, i1, hB⟩ := hrel
        have HB := hid hB
        have m1 := M1.out
        have le := Sp.isM_le (n := (l.length : Int)) (by omega) HMM.out (show 0 ≤ i + 1 by omega)
        obtain ⟨b1, b2⟩ := mmul (n := (l.length : Int)) (x := i + 1) (by omega) (by have := N1.out; omega) (by omega) (by omega)
        have wi : wrap64 (i + 1) = i + 1 := pw64 _ (by omega)
        by_cases c : i + 1 ≤ m
        · rw [decide_eq_true c] at le
          obtain ⟨y, hy⟩ : ∃ y, i + 1 = y := ⟨_, rfl⟩
          rw [hy] at le b1 b2 wi c
          obtain ⟨P, hP⟩ : ∃ P, (l.length : Int) * y = P := ⟨_, rfl⟩
          rw [hP] at le b1 b2
          obtain ⟨Q, hQ⟩ : ∃ Q, P * y = Q := ⟨_, rfl⟩
          rw [hQ] at le b2
          have w1 : wrap64 P = P := pw64 _ (by omega)
          have w2 : wrap64 Q = Q := pw64 _ (by omega)
          have CC := hid c
          have HY := hid hy
          have MS := hid (show (m - intOf (.int .i64 y)).toNat < (m - intOf (.int .i64 i)).toNat by simp [intOf]; omega)
          have Y0 := hid (show 0 ≤ y by omega)
          clear hB b1 b2 i0 i1 m1 m0 c
          go_wp2_with fail
          go_roundw
          case rel => exact ⟨y, by first | rfl | exact i64_eq wi, Y0.out, CC.out, HB.out⟩
          case measure => first | exact MS.out | (rw [wi]; exact MS.out)
        · have ei : i = m := by omega
          subst ei
          rw [decide_eq_false c] at le
          obtain ⟨y, hy⟩ : ∃ y, i + 1 = y := ⟨_, rfl⟩
          rw [hy] at le b1 b2 wi c
          obtain ⟨P, hP⟩ : ∃ P, (l.length : Int) * y = P := ⟨_, rfl⟩
          rw [hP] at le b1 b2
          obtain ⟨Q, hQ⟩ : ∃ Q, P * y = Q := ⟨_, rfl⟩
          rw [hQ] at le b2
          have w1 : wrap64 P = P := pw64 _ (by omega)
          have w2 : wrap64 Q = Q := pw64 _ (by omega)
          clear hB b1 b2 i0 i1 m1 m0 c
          go_wp2_with fail
          go_ret2
          exact Gives.mk (by first | rfl | simp) HB.out
  · have hn : (E == 0) = false := by simpa using cE
    rw [if_pos cE] at hF
    subst hF
    have hz := HZ.out
    rw [if_neg cE] at hz
    subst hz
    go_wp2_with fail
    go_ret2
    exact Gives.mk rfl B5.out
end Go.Proofs.Ytmdaanigkhikfab
