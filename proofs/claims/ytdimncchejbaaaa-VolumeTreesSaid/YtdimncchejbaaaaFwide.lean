/-
  The numbers of two parts of package couperef02: plain mathematics, then Times and Quotient, each by a contract.
-/
import Derived.Test.YtdimncchejbaaaaFref
namespace Go.Proofs.Ytdimncchejbaaaa
open Go.RowKit
set_option linter.unusedVariables false
set_option linter.unusedSimpArgs false

namespace Sp
/-- The power of ten at the head of the long division's loop: m digits are left. -/
def T10 : Nat → Int
  | 0 => 0
  | m + 1 => 10 ^ m
theorem pow10_pos (m : Nat) : (0 : Int) < 10 ^ m := Int.pow_pos (by omega)
theorem T10_pos {m : Nat} : 0 < T10 (m + 1) := pow10_pos m
theorem T10_next (m : Nat) : T10 (m + 1) / 10 = T10 m := by
  cases m with
  | zero => decide
  | succ n =>
    show (10 : Int) ^ (n + 1) / 10 = 10 ^ n
    rw [Int.pow_succ]
    exact Int.mul_ediv_cancel _ (by omega)
theorem T10_le {m k : Nat} (h : m ≤ k + 1) : T10 m ≤ 10 ^ k := by
  cases m with
  | zero => exact Int.le_of_lt (pow10_pos k)
  | succ n =>
    obtain ⟨j, rfl⟩ : ∃ j, k = n + j := ⟨k - n, by omega⟩
    show (10 : Int) ^ n ≤ 10 ^ (n + j)
    rw [Int.pow_add]
    have h1 := pow10_pos n
    have h2 := pow10_pos j
    have h3 := Int.mul_le_mul_of_nonneg_left (show (1 : Int) ≤ 10 ^ j by omega) (Int.le_of_lt h1)
    omega
/-- One more digit of a number. -/
theorem dig10 (V : Int) (m : Nat) : V / 10 ^ m = V / 10 ^ (m + 1) * 10 + V / T10 (m + 1) % 10 := by
  show V / 10 ^ m = V / 10 ^ (m + 1) * 10 + V / 10 ^ m % 10
  rw [Int.pow_succ, ← Int.ediv_ediv_of_nonneg (Int.le_of_lt (pow10_pos m))]
  omega
/-- One step of the long division. -/
theorem ldiv_step {P d t : Int} (d0 : 0 < d) : (P % d * 10 + t) / d = (P * 10 + t) / d - 10 * (P / d) ∧ (P % d * 10 + t) % d = (P * 10 + t) % d := by
  have h := Int.emod_add_mul_ediv P d
  have e : P * 10 + t = (P % d * 10 + t) + d * (10 * (P / d)) := by grind
  constructor
  · rw [e, Int.add_mul_ediv_left _ _ (by omega)]; omega
  · rw [e, Int.add_mul_emod_self_left]
/-- A quotient up to a limit. -/
def capQ (V d : Int) : Int := if V / d ≤ 1000000000000000 then V / d else 1000000000000000
theorem capQ_step {P d t : Int} (d0 : 0 < d) (P0 : 0 ≤ P) (t0 : 0 ≤ t) (t1 : t ≤ 9) :
    (capQ P d * 10 + (P % d * 10 + t) / d ≤ 1000000000000000 ↔ (P * 10 + t) / d ≤ 1000000000000000) ∧ (capQ P d * 10 + (P % d * 10 + t) / d ≤ 1000000000000000 → capQ P d * 10 + (P % d * 10 + t) / d = capQ (P * 10 + t) d ∧ P / d ≤ 1000000000000000) ∧ (1000000000000000 < capQ P d * 10 + (P % d * 10 + t) / d → capQ (P * 10 + t) d = 1000000000000000) ∧ 0 ≤ capQ P d ∧ capQ P d ≤ 1000000000000000 ∧ 0 ≤ (P % d * 10 + t) / d ∧ (P % d * 10 + t) / d ≤ 9 := by
  obtain ⟨e1, _⟩ := ldiv_step (P := P) (t := t) d0
  have r0 := Int.emod_nonneg P (show d ≠ 0 by omega)
  have r1 := Int.emod_lt_of_pos P d0
  have q0 := Int.ediv_nonneg P0 (show 0 ≤ d by omega)
  have s0 := Int.ediv_nonneg (show 0 ≤ P % d * 10 + t by omega) (show 0 ≤ d by omega)
  have s1 : (P % d * 10 + t) / d < 10 := (Int.ediv_lt_iff_lt_mul d0).2 (by omega)
  unfold capQ
  generalize (P % d * 10 + t) / d = s at *
  generalize (P * 10 + t) / d = Q at *
  generalize P / d = q at *
  refine ⟨?_, ?_, ?_, ?_, ?_, s0, by omega⟩
  all_goals (repeat' split) <;> omega
/-- The product out of three partial products. -/
theorem times_parts {x1 x0 y1 y0 : Int} (P C Q : Int) (hP : x1 * y1 = P) (hC : x1 * y0 + x0 * y1 = C) (hQ : x0 * y0 = Q) (Q0 : 0 ≤ Q) (C0 : 0 ≤ C) :
    (x1 * 100000000 + x0) * (y1 * 100000000 + y0) = P * 10000000000000000 + C * 100000000 + Q := by
  grind
theorem times_high {P C Q V : Int} (hV : V = P * 10000000000000000 + C * 100000000 + Q) (Q0 : 0 ≤ Q) (C0 : 0 ≤ C) :
    P * 10 + C / 10000000 + Q / 1000000000000000 + (C % 10000000 * 100000000 + Q % 1000000000000000) / 1000000000000000 = V / 1000000000000000 ∧ (C % 10000000 * 100000000 + Q % 1000000000000000) % 1000000000000000 = V % 1000000000000000 := by
  omega
/-- One round of the long division: the digit t of V is taken in. -/
theorem qround {V d t : Int} {m : Nat} (d0 : 0 < d) (V0 : 0 ≤ V) (ht : V / T10 (m + 1) % 10 = t) {q r : Int} (hq : q = capQ (V / 10 ^ (m + 1)) d) (hr : r = V / 10 ^ (m + 1) % d) :
    ∃ s r' : Int, (r * 10 + t).tdiv d = s ∧ (r * 10 + t) / d = s ∧ (r * 10 + t).tmod d = r' ∧ (r * 10 + t) % d = r' ∧ 0 ≤ t ∧ t ≤ 9 ∧ 0 ≤ s ∧ s ≤ 9 ∧ 0 ≤ r' ∧ r' < d ∧ 0 ≤ r ∧ r < d ∧ 0 ≤ q ∧ q ≤ 1000000000000000 ∧ r' = V / 10 ^ m % d ∧
      (q * 10 + s ≤ 1000000000000000 → q * 10 + s = capQ (V / 10 ^ m) d ∧ decide (V / 10 ^ m / d ≤ 1000000000000000) = true ∧ decide (V / 10 ^ (m + 1) / d ≤ 1000000000000000) = true) ∧
      (1000000000000000 < q * 10 + s → 1000000000000000 = capQ (V / 10 ^ m) d ∧ decide (V / 10 ^ m / d ≤ 1000000000000000) = false) := by
  have dg := dig10 V m
  rw [ht] at dg
  have t0 : 0 ≤ t := by omega
  have t1 : t ≤ 9 := by omega
  have P0 : 0 ≤ V / 10 ^ (m + 1) := Int.ediv_nonneg V0 (Int.le_of_lt (pow10_pos _))
  obtain ⟨P, hP⟩ : ∃ P, V / 10 ^ (m + 1) = P := ⟨_, rfl⟩
  rw [hP] at dg hq hr P0 ⊢
  rw [dg]
  subst hr
  subst hq
  have r0 := Int.emod_nonneg P (show d ≠ 0 by omega)
  have r1 := Int.emod_lt_of_pos P d0
  have M0 : 0 ≤ P % d * 10 + t := by omega
  obtain ⟨_, e2⟩ := ldiv_step (P := P) (t := t) d0
  obtain ⟨k1, k2, k3, k4, k5, k6, k7⟩ := capQ_step (P := P) (t := t) d0 P0 t0 t1
  refine ⟨(P % d * 10 + t) / d, (P % d * 10 + t) % d, Int.tdiv_eq_ediv_of_nonneg M0, rfl, Int.tmod_eq_emod_of_nonneg M0, rfl, t0, t1, k6, k7, Int.emod_nonneg _ (by omega), Int.emod_lt_of_pos _ d0, r0, r1, k4, k5, e2, fun h => ⟨(k2 h).1, ?_, ?_⟩, fun h => ⟨(k3 h).symm, ?_⟩⟩
  · exact decide_eq_true (k1.1 h)
  · exact decide_eq_true (k2 h).2
  · exact decide_eq_false (fun hn => by have := k1.2 hn; omega)
/-- The digits of the low part. -/
theorem dig_low {H L : Int} {m : Nat} (h : m < 15) : (H * 1000000000000000 + L) / T10 (m + 1) % 10 = L / T10 (m + 1) % 10 := by
  show (H * 1000000000000000 + L) / 10 ^ m % 10 = L / 10 ^ m % 10
  obtain ⟨j, hj⟩ : ∃ j, 15 = m + (j + 1) := ⟨14 - m, by omega⟩
  have e : (1000000000000000 : Int) = 10 ^ m * (10 * 10 ^ j) := by
    have e1 : (10 : Int) * 10 ^ j = 10 ^ (j + 1) := by rw [Int.pow_succ]; exact Int.mul_comm _ _
    rw [e1, ← Int.pow_add, ← hj]; rfl
  have e2 : H * 1000000000000000 + L = L + 10 ^ m * (10 * (H * 10 ^ j)) := by rw [e]; grind
  have := pow10_pos m
  rw [e2, Int.add_mul_ediv_left _ _ (by omega)]
  omega
end Sp




/-- The loops of Quotient: m digits are left. -/
def QRel (w : World) (H L V d : Int) (k : Nat) (v5 v6 v7 v8 : Value) (wr : World) : Prop :=
  ∃ (m : Nat) (q r p : Int) (ok : Bool), m ≤ k ∧ v5 = .int .i64 q ∧ v6 = .int .i64 r ∧ v7 = .bool ok ∧ v8 = .int .i64 p ∧ p = Sp.T10 m ∧ q = Sp.capQ (V / 10 ^ m) d ∧ r = V / 10 ^ m % d ∧ ok = decide (V / 10 ^ m / d ≤ 1000000000000000) ∧ wr.cell? ⟨w.heap.size, 1, none⟩ = some (.int .i64 H) ∧ wr.cell? ⟨w.heap.size, 2, none⟩ = some (.int .i64 L) ∧ Below w.heap.size w wr
set_option maxHeartbeats 4000000 in
theorem rquotient_any (b : Bool) (H L d : Int) (H0 : 0 ≤ H) (H1 : H < 100000000000000000) (L0 : 0 ≤ L) (L1 : L < 1000000000000000) (d0 : 0 < d) (d1 : d ≤ 1000000000000000) (w : World) :
    Calls Try.prog 84 #[.agg #[.bool b, .int .i64 H, .int .i64 L], .int .i64 d] w (Gives (.tuple #[.int .i64 (Sp.capQ (H * 1000000000000000 + L) d), .int .i64 ((H * 1000000000000000 + L) % d), .bool (decide ((H * 1000000000000000 + L) / d ≤ 1000000000000000))]) w) := by
  have hdz : ¬ d = 0 := by omega
  have H1' : H ≤ 100000000000000000 := by omega
  have V0 : 0 ≤ H * 1000000000000000 + L := by omega
  have VH : (H * 1000000000000000 + L) / 10 ^ 15 = H := by
    show (H * 1000000000000000 + L) / 1000000000000000 = H
    omega
  obtain ⟨V, hV⟩ : ∃ V, H * 1000000000000000 + L = V := ⟨_, rfl⟩
  have V0' := V0
  rw [hV] at VH V0'
  have HV := hid hV
  have HVH := hid VH
  clear VH
  rw [hV]
  go_enter Try.func84, Try.ntmps84
  clear hV V0
  go_wp2_with fail
  go_loopw [7, 8, 9, 10] (fun v5 v6 v7 v8 wr => QRel w H L H d 17 v5 v6 v7 v8 wr) (fun _ _ _ v8 _ => (intOf v8).toNat)
  case atStart =>
    have e : H / 10 ^ 17 = 0 := Int.ediv_eq_zero_of_lt H0 H1
    exact ⟨17, 0, 0, 10000000000000000, true, Nat.le_refl _, rfl, rfl, rfl, rfl, rfl, by rw [e]; unfold Sp.capQ; rw [Int.zero_ediv]; rfl, by rw [e, Int.zero_emod], by rw [e, Int.zero_ediv]; rfl, by simp [go_sem], by simp [go_sem], by repeat' (first | (with_reducible exact Below.refl _ _) | (with_reducible refine Below.alloc ?_ ?_ _) | (with_reducible refine Below.setCell ?_ ?_ _) | (with_reducible refine Below.drew ?_) | (with_reducible refine Below.trans ?_ (Below.mono (by assumption) ?_)) | (simp; done) | (simp; omega) | omega)⟩
  case round =>
    obtain ⟨m, q, r, p, ok, hm, rfl, rfl, rfl, rfl, hp, hq, hr, hok, x1, x2, hB⟩ := hrel
    have BB := hid hB
    have HM := hid hm
    cases m with
    | zero =>
      have p0 : p = 0 := hp
      subst p0
      have e1 : (H : Int) / 10 ^ 0 = H := Int.ediv_one _
      rw [e1] at hq hr hok
      have HQ := hid hq
      have HR := hid hr
      have HOK := hid hok
      clear hq hr hok hp hB hm e1
      go_wp2_with fail
      go_loopw [7, 8, 9, 11] (fun v5 v6 v7 v8 wr => QRel w H L (H * 1000000000000000 + L) d 15 v5 v6 v7 v8 wr) (fun _ _ _ v8 _ => (intOf v8).toNat)
      case atStart =>
        exact ⟨15, q, r, 100000000000000, ok, Nat.le_refl _, rfl, rfl, rfl, rfl, rfl, by rw [HV.out, HVH.out]; exact HQ.out, by rw [HV.out, HVH.out]; exact HR.out, by rw [HV.out, HVH.out]; exact HOK.out, x1, x2, BB.out⟩
      case round =>
        have V0 : 0 ≤ H * 1000000000000000 + L := by omega
        clear HQ HR HOK HM BB x1 x2
        obtain ⟨m, q, r, p, ok, hm, rfl, rfl, rfl, rfl, hp, hq, hr, hok, x1, x2, hB⟩ := hrel
        have BB := hid hB
        have HM := hid hm
        cases m with
        | zero =>
          have p0 : p = 0 := hp
          subst p0
          have hq' : q = Sp.capQ V d := by rw [hq, HV.out]; congr 1; exact Int.ediv_one _
          have hr' : r = V % d := by rw [hr, HV.out]; congr 1; exact Int.ediv_one _
          have hok' : ok = decide (V / d ≤ 1000000000000000) := by rw [hok, HV.out]; congr 1; congr 1; congr 1; exact Int.ediv_one _
          have HQ := hid hq'
          have HR := hid hr'
          have HK := hid hok'
          clear hq hr hok hq' hr' hok' hp hB hm
          go_wp2
          refine bodyPost_ret (v := .tuple #[.int .i64 q, .int .i64 r, .bool ok]) (by simp [results, Try.results84, go_sem, go_sem]) rfl ?_
          have B2 := BB.out
          exact Gives.mk (by rw [HQ.out, HR.out, HK.out]) (by repeat' (first | (with_reducible exact Below.refl _ _) | (with_reducible refine Below.alloc ?_ ?_ _) | (with_reducible refine Below.setCell ?_ ?_ _) | (with_reducible refine Below.drew ?_) | (with_reducible refine Below.trans ?_ (Below.mono (by assumption) ?_)) | (simp; done) | (simp; omega) | omega))
        | succ m =>
          have p1 : 0 < p := by rw [hp]; exact Sp.T10_pos
          have p2 : p ≤ 10000000000000000 := by rw [hp]; exact Sp.T10_le (k := 16) (by omega)
          obtain ⟨D, hD⟩ : ∃ D, L / p = D := ⟨_, rfl⟩
          have D0 : 0 ≤ D := by rw [← hD]; exact Int.ediv_nonneg L0 (by omega)
          have D1 : D ≤ 100000000000000000 := by rw [← hD]; exact Int.le_trans (Int.ediv_le_self _ L0) (by omega)
          have hD2 : L.tdiv p = D := by rw [Int.tdiv_eq_ediv_of_nonneg L0]; exact hD
          obtain ⟨t, hT⟩ : ∃ t, D % 10 = t := ⟨_, rfl⟩
          have hT2 : D.tmod 10 = t := by rw [Int.tmod_eq_emod_of_nonneg D0]; exact hT
          have ht : (H * 1000000000000000 + L) / Sp.T10 (m + 1) % 10 = t := by rw [Sp.dig_low (H := H) (L := L) (m := m) (by omega), ← hp, hD]; exact hT
          obtain ⟨s, r', s1, s2, r1, r2, t0, t9, s0, s9, r'0, r'1, r0, rd, q0, q1, hr', lo, hi⟩ := Sp.qround (V := (H * 1000000000000000 + L)) (m := m) d0 V0 ht hq hr
          obtain ⟨p', hP⟩ : ∃ p', p / 10 = p' := ⟨_, rfl⟩
          have hP2 : p.tdiv 10 = p' := by rw [Int.tdiv_eq_ediv_of_nonneg (by omega)]; exact hP
          have hP' : p' = Sp.T10 m := by rw [← hP, hp]; exact Sp.T10_next m
          have p'0 : 0 ≤ p' := by omega
          have p'1 : p' < p := by omega
          have HQ := hid hq
          have HR := hid hr'
          have HOK := hid hok
          have HP := hid hP'
          have LO := hid lo
          have HI := hid hi
          clear hp ht hq hr hr' hok lo hi hP' hB hm
          by_cases c : q * 10 + s ≤ 1000000000000000
          · go_wp2
            go_roundw
            case rel => exact ⟨m, q * 10 + s, r', p', ok, by have := HM.out; omega, by go_num, by go_num, rfl, by go_num, HP.out, (LO.out c).1, HR.out, by rw [HOK.out, (LO.out c).2.2, (LO.out c).2.1], x1, x2, BB.out⟩
            case measure => simp [intOf]; omega
          · have c2 : 1000000000000000 < q * 10 + s := by omega
            clear c
            go_wp2
            go_roundw
            case rel => exact ⟨m, 1000000000000000, r', p', false, by have := HM.out; omega, by go_num, by go_num, rfl, by go_num, HP.out, (HI.out c2).1, HR.out, (HI.out c2).2.symm, x1, x2, BB.out⟩
            case measure => simp [intOf]; omega
    | succ m =>
      have p1 : 0 < p := by rw [hp]; exact Sp.T10_pos
      have p2 : p ≤ 10000000000000000 := by rw [hp]; exact Sp.T10_le (k := 16) (by omega)
      obtain ⟨D, hD⟩ : ∃ D, H / p = D := ⟨_, rfl⟩
      have D0 : 0 ≤ D := by rw [← hD]; exact Int.ediv_nonneg H0 (by omega)
      have D1 : D ≤ 100000000000000000 := by rw [← hD]; exact Int.le_trans (Int.ediv_le_self _ H0) H1'
      have hD2 : H.tdiv p = D := by rw [Int.tdiv_eq_ediv_of_nonneg H0]; exact hD
      obtain ⟨t, hT⟩ : ∃ t, D % 10 = t := ⟨_, rfl⟩
      have hT2 : D.tmod 10 = t := by rw [Int.tmod_eq_emod_of_nonneg D0]; exact hT
      have ht : H / Sp.T10 (m + 1) % 10 = t := by rw [← hp, hD]; exact hT
      obtain ⟨s, r', s1, s2, r1, r2, t0, t9, s0, s9, r'0, r'1, r0, rd, q0, q1, hr', lo, hi⟩ := Sp.qround (V := H) (m := m) d0 H0 ht hq hr
      obtain ⟨p', hP⟩ : ∃ p', p / 10 = p' := ⟨_, rfl⟩
      have hP2 : p.tdiv 10 = p' := by rw [Int.tdiv_eq_ediv_of_nonneg (by omega)]; exact hP
      have hP' : p' = Sp.T10 m := by rw [← hP, hp]; exact Sp.T10_next m
      have p'0 : 0 ≤ p' := by omega
      have p'1 : p' < p := by omega
      have HQ := hid hq
      have HR := hid hr'
      have HOK := hid hok
      have HP := hid hP'
      have LO := hid lo
      have HI := hid hi
      clear hp ht hq hr hr' hok lo hi hP' hB hm
      by_cases c : q * 10 + s ≤ 1000000000000000
      · go_wp2
        go_roundw
        case rel => exact ⟨m, q * 10 + s, r', p', ok, by have := HM.out; omega, by go_num, by go_num, rfl, by go_num, HP.out, (LO.out c).1, HR.out, by rw [HOK.out, (LO.out c).2.2, (LO.out c).2.1], x1, x2, BB.out⟩
        case measure => simp [intOf]; omega
      · have c2 : 1000000000000000 < q * 10 + s := by omega
        clear c
        go_wp2
        go_roundw
        case rel => exact ⟨m, 1000000000000000, r', p', false, by have := HM.out; omega, by go_num, by go_num, rfl, by go_num, HP.out, (HI.out c2).1, HR.out, (HI.out c2).2.symm, x1, x2, BB.out⟩
        case measure => simp [intOf]; omega
end Go.Proofs.Ytdimncchejbaaaa
