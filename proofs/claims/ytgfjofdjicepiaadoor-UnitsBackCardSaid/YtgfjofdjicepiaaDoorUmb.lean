/-
  Plain mathematics of layer 4: what is written is read back; no Go in sight.
-/
import Derived.Test.YtgfjofdjicepiaaDoorUm
namespace Go.Proofs.YtgfjofdjicepiaaDoor
set_option linter.unusedVariables false
namespace Sp
theorem digit_nat4 {u : Nat} (h : u < 10) : (UInt8.ofNat (48 + u)).toNat = 48 + u := by
  rw [UInt8.toNat_ofNat']
  omega
theorem dec_isD (u : Nat) : (Lib.decDigits u).all isD = true := by
  induction u using Nat.strongRecOn with
  | ind u ih =>
    rw [Lib.decDigits]
    by_cases h : u < 10
    · rw [dif_pos h]
      simp only [List.all_cons, List.all_nil, Bool.and_true]
      rw [isD_iff, digit_nat4 h]; omega
    · rw [dif_neg h, List.all_append, ih (u / 10) (by omega), Bool.true_and]
      simp only [List.all_cons, List.all_nil, Bool.and_true]
      rw [isD_iff, digit_nat4 (by omega)]; omega
theorem dec_pos (u : Nat) : 0 < (Lib.decDigits u).length := by rw [Lib.decDigits_length]; exact Lib.nDigits_pos u
theorem dec_head (u : Nat) (h0 : 1 ≤ u) : (Lib.decDigits u).head? ≠ some 48 := by
  induction u using Nat.strongRecOn with
  | ind u ih =>
    rw [Lib.decDigits]
    by_cases h : u < 10
    · rw [dif_pos h]
      simp only [List.head?_cons, ne_eq, Option.some.injEq]
      intro e
      have := congrArg UInt8.toNat e
      rw [digit_nat4 h] at this
      have h48 : (48 : UInt8).toNat = 48 := rfl
      omega
    · rw [dif_neg h]
      have hh := ih (u / 10) (by omega) (by omega)
      cases hl : Lib.decDigits (u / 10) with
      | nil => have := dec_pos (u / 10); rw [hl] at this; simp at this
      | cons c l => rw [hl] at hh; simpa using hh
theorem valS_append : ∀ (l m : List UInt8) (n : Int), valS n (l ++ m) = if (valS n l).2 = 0 then valS (valS n l).1 m else (0, 8)
  | [], m, n => by simp [valS]
  | c :: l, m, n => by
    simp only [List.cons_append]
    rw [valS_cons, valS_cons]
    by_cases h : 1000000000000000 < 10 * n + ((c.toNat : Int) - 48)
    · rw [if_pos h, if_pos h]; simp
    · rw [if_neg h, if_neg h]; exact valS_append l m _
theorem val_one {n : Int} {u : Nat} (h : u < 10) (hn : 10 * n + u ≤ 1000000000000000) : valS n [UInt8.ofNat (48 + u)] = (10 * n + u, 0) := by
  rw [valS_cons, digit_nat4 h, if_neg (by omega)]
  simp only [valS]
  congr 1
  omega
theorem val_dec (u : Nat) (hu : u ≤ 1000000000000000) : valS 0 (Lib.decDigits u) = ((u : Int), 0) := by
  induction u using Nat.strongRecOn with
  | ind u ih =>
    rw [Lib.decDigits]
    by_cases h : u < 10
    · rw [dif_pos h, val_one h (by omega)]; simp
    · rw [dif_neg h, valS_append, ih (u / 10) (by omega) (by omega)]
      simp only [if_true]
      rw [val_one (by omega) (by omega)]
      congr 1
      omega
theorem val_zeros : ∀ (c : Nat) (l : List UInt8), valS 0 (List.replicate c 48 ++ l) = valS 0 l
  | 0, l => rfl
  | c + 1, l => by
    rw [List.replicate_succ, List.cons_append, valS_cons, if_neg (by decide)]
    exact val_zeros c l
theorem nDigits_le4 : ∀ (k u : Nat), u < 10 ^ (k + 1) → Lib.nDigits u ≤ k + 1
  | 0, u, h => by rw [Lib.nDigits_small (by simpa using h)]; omega
  | k + 1, u, h => by
    by_cases c : u < 10
    · rw [Lib.nDigits_small c]; omega
    · rw [Lib.nDigits_big c]
      have := nDigits_le4 k (u / 10) (by rw [Nat.pow_succ] at h; omega)
      omega
theorem itoa_dec {n : Int} (h : 0 ≤ n) : Lib.itoa n = Lib.decDigits n.toNat := by
  unfold Lib.itoa
  rw [if_neg (by omega)]
theorem digB_of {l : List UInt8} (h : l.all isD = true) (h0 : 0 < l.length) : digB l = true := by
  unfold digB
  rw [h]
  cases l with
  | nil => simp at h0
  | cons c l => rfl
theorem whole_dec (u : Nat) : wholeB (Lib.decDigits u) = true := by
  unfold wholeB
  rw [digB_of (dec_isD u) (dec_pos u), Bool.true_and]
  by_cases h : u = 0
  · subst h; rw [Lib.decDigits_one (i := 0) (by omega)]; decide
  · have := dec_head u (by omega)
    have e : ((Lib.decDigits u).head? == some 48) = false := by simpa using this
    rw [e]; simp
theorem isD_ne {c b : UInt8} (h : isD c = true) (hb : isD b = false) : ¬ c = b := by
  intro e
  subst e
  rw [h] at hb
  exact absurd hb (by simp)
/-- A byte that is no digit, behind digits. -/
theorem at1_digits (b : UInt8) (hb : isD b = false) (l m : List UInt8) (h : l.all isD = true) : at1 b (l ++ b :: m) = l.length := by
  have hl : l.length < (l ++ b :: m).length := by simp
  have hn : ∀ j, j < l.length → ∀ hj : j < (l ++ b :: m).length, ¬ (l ++ b :: m)[j] = b := by
    intro j h1 hj
    rw [List.getElem_append_left h1]
    exact isD_ne (List.all_eq_true.1 h _ (List.getElem_mem h1)) hb
  exact (at1_step hl hn).1 (by simp)
theorem at1_alone (b : UInt8) (hb : isD b = false) (l : List UInt8) (h : l.all isD = true) : at1 b l = l.length :=
  at1_none fun j hj => isD_ne (List.all_eq_true.1 h _ (List.getElem_mem hj)) hb
theorem pad_isD {n : Int} (hn : 0 ≤ n) (w : Nat) : (padL n w).all isD = true := by
  unfold padL
  rw [List.all_append, itoa_dec hn, dec_isD, Bool.and_true, List.all_eq_true]
  intro c hc
  rw [(List.mem_replicate.1 hc).2]
  decide
theorem pad_val {n : Int} (hn : 0 ≤ n) (h1 : n ≤ 1000000000000000) (w : Nat) : valS 0 (padL n w) = (n, 0) := by
  unfold padL
  rw [val_zeros, itoa_dec hn, val_dec _ (by omega)]
  congr 1
  omega
/-- Each day is restored from its date. -/
theorem date_back {day : Int} (h0 : 0 ≤ day) (h1 : day ≤ 100000) : dateR (dayL day) = (day, 0) := by
  unfold dayL
  have q : 0 ≤ day / 365 ∧ day / 365 ≤ 273 := by omega
  have r : 0 ≤ day % 365 ∧ day % 365 ≤ 364 := by omega
  have e : 365 * (day / 365) + day % 365 = day := Int.mul_ediv_add_emod day 365
  generalize day / 365 = y at q e ⊢
  generalize day % 365 = z at r e ⊢
  have ly : (Lib.itoa y).length ≤ 4 := by
    rw [itoa_dec q.1, Lib.decDigits_length]
    exact nDigits_le4 3 _ (by omega)
  have lz : (padL (z + 1) 3).length = 3 := by
    unfold padL
    rw [List.length_append, List.length_replicate, itoa_dec (by omega), Lib.decDigits_length]
    have := nDigits_le4 2 (z + 1).toNat (by omega)
    omega
  have dy : (Lib.itoa y).all isD = true := by rw [itoa_dec q.1]; exact dec_isD _
  have wy : wholeB (Lib.itoa y) = true := by rw [itoa_dec q.1]; exact whole_dec _
  have vy : valS 0 (Lib.itoa y) = (y, 0) := by
    rw [itoa_dec q.1, val_dec _ (by omega)]
    congr 1
    omega
  have vz := pad_val (n := z + 1) (by omega) (by omega) 3
  have dz := digB_of (pad_isD (n := z + 1) (by omega) 3) (by omega)
  have at' : at1 45 (Lib.itoa y ++ [45] ++ padL (z + 1) 3) = (Lib.itoa y).length := by
    rw [List.append_assoc]
    exact at1_digits 45 (by decide) _ _ dy
  have t1 : (Lib.itoa y ++ [45] ++ padL (z + 1) 3).take (Lib.itoa y).length = Lib.itoa y := by rw [List.append_assoc]; simp
  have t2 : (Lib.itoa y ++ [45] ++ padL (z + 1) 3).drop ((Lib.itoa y).length + 1) = padL (z + 1) 3 := by
    have : (Lib.itoa y ++ [45]).length = (Lib.itoa y).length + 1 := by simp
    rw [← this, List.drop_left]
  unfold dateR
  rw [at', t1, t2, wy, vy, vz, dz, lz]
  simp only
  rw [if_neg (by rintro (h | h | h | h); exact absurd h (by simp); omega; exact absurd h (by simp); exact h rfl), if_neg (by omega)]
  congr 1
  omega
end Sp
end Go.Proofs.YtgfjofdjicepiaaDoor
