/-
  Plain mathematics of FractionTexts: reading and writing of fractions as lists of bytes; no Go in sight.
-/
import Derived.Test.YtjbnejhpfknfcaaDoorFrat
import Derived.Lib.ItoaNum
import Derived.Lib.IndexLaws
import Derived.Lib.Strings
namespace Go.Proofs.YtjbnejhpfknfcaaDoor
set_option linter.unusedVariables false
namespace Sp
/-- The number of digits, from left to right. -/
def numL : Int → List UInt8 → Int × Bool
  | n, [] => (n, true)
  | n, c :: l => if (c.toNat : Int) < 48 ∨ (57 : Int) < c.toNat then (0, false) else numL (10 * n + ((c.toNat : Int) - 48)) l
/-- A text of 1 to 16 digits. -/
def numS (l : List UInt8) : Int × Bool := if l.length < 1 ∨ 16 < l.length then (0, false) else numL 0 l
/-- Where the first '/' is; the length if there is none. -/
def slash (l : List UInt8) : Nat := l.findIdx (· == 47)
def restS (neg : Bool) (r : List UInt8) : Int × Int × Int :=
  if (numS (r.take (slash r))).2 = false then (0, 0, 4)
  else if slash r < r.length ∧ (numS (r.drop (slash r + 1))).2 = false then (0, 0, 4)
  else newS (if neg then -(numS (r.take (slash r))).1 else (numS (r.take (slash r))).1) (if slash r < r.length then (numS (r.drop (slash r + 1))).1 else 1)
def parseS (l : List UInt8) : Int × Int × Int := restS (Lib.hasPrefix l [45]) (Lib.trimPrefix l [45])
def textS (n d : Int) : List UInt8 × Int := if fchk n d ≠ 0 then ([], fchk n d) else if d = 1 then (Lib.itoa n, 0) else (Lib.itoa n ++ [47] ++ Lib.itoa d, 0)

theorem pow10_le {k m : Nat} (h : k ≤ m) : (10 : Int) ^ k ≤ 10 ^ m := by exact_mod_cast Nat.pow_le_pow_right (n := 10) (by decide) h
theorem numL_cons (n : Int) (c : UInt8) (l : List UInt8) : numL n (c :: l) = if (c.toNat : Int) < 48 ∨ (57 : Int) < c.toNat then (0, false) else numL (10 * n + ((c.toNat : Int) - 48)) l := rfl
theorem slash_le (l : List UInt8) : slash l ≤ l.length := List.findIdx_le_length
theorem indexByte_slash : ∀ l : List UInt8, Lib.indexByte l 47 = if slash l < l.length then (slash l : Int) else -1
  | [] => by simp [Lib.indexByte, slash]
  | b :: l => by
    have ih := indexByte_slash l
    unfold Lib.indexByte
    by_cases h : b = 47
    · subst h
      simp [slash, List.findIdx_cons]
    · have e : (b == 47) = false := by simpa using h
      have e2 : slash (b :: l) = slash l + 1 := by simp [slash, List.findIdx_cons, e]
      rw [e2, e, ih]
      by_cases c : slash l < l.length
      · have hc : slash l + 1 < (b :: l).length := by simp; omega
        have : ¬ ((slash l : Int) == -1) = true := by first | (simp; done) | (simp; omega)
        simp only [Bool.false_eq_true, if_false, c, hc, if_true, this]
        omega
      · have hc : ¬ slash l + 1 < (b :: l).length := by simp; omega
        simp only [Bool.false_eq_true, if_false, c, hc]
        rfl
/-- One step of the search. -/
theorem slash_step {l : List UInt8} {k : Nat} (h : k < l.length) (hn : ∀ j, j < k → ∀ hj : j < l.length, ¬ l[j] = 47) : (l[k] = 47 → slash l = k) ∧ (k ≤ slash l) := by
  have hk : k ≤ slash l := by
    rcases Nat.lt_or_ge (slash l) k with c | c
    · have hl : slash l < l.length := by omega
      have := List.findIdx_getElem (w := hl)
      have h2 := hn (slash l) c hl
      exact absurd (beq_iff_eq.1 this) h2
    · exact c
  refine ⟨fun e => ?_, hk⟩
  rcases Nat.lt_or_ge k (slash l) with c | c
  · have := List.not_of_lt_findIdx (p := (· == 47)) (xs := l) (i := k) c
    simp [e] at this
  · omega
theorem slash_none {l : List UInt8} (hn : ∀ j, ∀ hj : j < l.length, ¬ l[j] = 47) : slash l = l.length := by
  have := slash_le l
  rcases Nat.lt_or_ge (slash l) l.length with hl | hl
  · have := List.findIdx_getElem (w := hl)
    exact absurd (beq_iff_eq.1 this) (hn _ hl)
  · omega
theorem numL_bound : ∀ (l : List UInt8) (n : Int) (k : Nat), 0 ≤ n → n < 10 ^ k → k + l.length ≤ 16 → 0 ≤ (numL n l).1 ∧ (numL n l).1 < 10000000000000000
  | [], n, k, h0, h1, h2 => by
    have : (10 : Int) ^ k ≤ 10 ^ 16 := pow10_le (by simpa using h2)
    refine ⟨h0, ?_⟩
    simp only [numL]
    omega
  | c :: l, n, k, h0, h1, h2 => by
    unfold numL
    by_cases h : (c.toNat : Int) < 48 ∨ (57 : Int) < c.toNat
    · rw [if_pos h]; simp
    · rw [if_neg h]
      have e : (10 : Int) ^ (k + 1) = 10 ^ k * 10 := Int.pow_succ 10 k
      exact numL_bound l _ (k + 1) (by omega) (by omega) (by simp at h2; omega)
theorem numS_bound (l : List UInt8) : 0 ≤ (numS l).1 ∧ (numS l).1 < 10000000000000000 := by
  unfold numS
  by_cases h : l.length < 1 ∨ 16 < l.length
  · rw [if_pos h]; simp
  · rw [if_neg h]
    exact numL_bound l 0 0 (by omega) (by simp) (by omega)
/-- A step of reading, for a loop: what it adds, and its bounds. -/
theorem num_step {l : List UInt8} {k : Nat} {n : Int} (h : k < l.length) : numL n (l.drop k) = if ((l[k]).toNat : Int) < 48 ∨ (57 : Int) < (l[k]).toNat then (0, false) else numL (10 * n + (((l[k]).toNat : Int) - 48)) (l.drop (k + 1)) := by
  rw [List.drop_eq_getElem_cons h]
  rfl
theorem num_bounds {k : Nat} {n d : Int} (hk : k < 16) (h0 : 0 ≤ n) (h1 : n < 10 ^ k) (d0 : 0 ≤ d) (d1 : d ≤ 9) : n < 1000000000000000 ∧ 0 ≤ 10 * n + d ∧ 10 * n + d < 10 ^ (k + 1) := by
  have e : (10 : Int) ^ (k + 1) = 10 ^ k * 10 := Int.pow_succ 10 k
  have : (10 : Int) ^ k ≤ 10 ^ 15 := pow10_le (by omega)
  omega
theorem numL_append : ∀ (l m : List UInt8) (n : Int), numL n (l ++ m) = if (numL n l).2 then numL (numL n l).1 m else (0, false)
  | [], m, n => by simp [numL]
  | c :: l, m, n => by
    simp only [List.cons_append]
    rw [numL_cons, numL_cons]
    by_cases h : (c.toNat : Int) < 48 ∨ (57 : Int) < c.toNat
    · rw [if_pos h, if_pos h]; simp
    · rw [if_neg h, if_neg h]; exact numL_append l m _
theorem digit_nat {u : Nat} (h : u < 10) : (UInt8.ofNat (48 + u)).toNat = 48 + u := by
  rw [UInt8.toNat_ofNat']
  omega
theorem numL_one {n : Int} {u : Nat} (h : u < 10) : numL n [UInt8.ofNat (48 + u)] = (10 * n + u, true) := by
  unfold numL
  rw [digit_nat h, if_neg (by omega)]
  simp only [numL]
  congr 1
  omega
theorem dec_num (u : Nat) : numL 0 (Lib.decDigits u) = ((u : Int), true) := by
  induction u using Nat.strongRecOn with
  | ind u ih =>
    rw [Lib.decDigits]
    by_cases h : u < 10
    · rw [dif_pos h, numL_one h]; simp
    · rw [dif_neg h, numL_append, ih (u / 10) (by omega)]
      simp only [if_true]
      rw [numL_one (by omega)]
      congr 1
      omega
theorem dec_digits (u : Nat) : ∀ c ∈ Lib.decDigits u, 48 ≤ c.toNat ∧ c.toNat ≤ 57 := by
  induction u using Nat.strongRecOn with
  | ind u ih =>
    rw [Lib.decDigits]
    by_cases h : u < 10
    · rw [dif_pos h]
      intro c hc
      rw [List.mem_singleton] at hc
      subst hc
      rw [digit_nat h]; omega
    · rw [dif_neg h]
      intro c hc
      rcases List.mem_append.1 hc with h1 | h1
      · exact ih (u / 10) (by omega) c h1
      · rw [List.mem_singleton] at h1
        subst h1
        rw [digit_nat (by omega)]; omega
theorem nDigits_le : ∀ (k u : Nat), u < 10 ^ (k + 1) → Lib.nDigits u ≤ k + 1
  | 0, u, h => by rw [Lib.nDigits_small (by simpa using h)]; omega
  | k + 1, u, h => by
    by_cases c : u < 10
    · rw [Lib.nDigits_small c]; omega
    · rw [Lib.nDigits_big c]
      have := nDigits_le k (u / 10) (by rw [Nat.pow_succ] at h; omega)
      omega
theorem dec_numS {u : Nat} (h : u < 10 ^ 16) : numS (Lib.decDigits u) = ((u : Int), true) := by
  have h1 := Lib.nDigits_pos u
  have h2 := nDigits_le 15 u h
  unfold numS
  rw [if_neg (by rw [Lib.decDigits_length]; omega), dec_num]
theorem dec_slash (u : Nat) : slash (Lib.decDigits u) = (Lib.decDigits u).length := by
  refine slash_none fun j hj e => ?_
  have := dec_digits u _ (List.getElem_mem hj)
  rw [e] at this
  exact absurd this (by decide)
theorem dec_slash_app (u : Nat) (m : List UInt8) : slash (Lib.decDigits u ++ [47] ++ m) = (Lib.decDigits u).length := by
  have hl : (Lib.decDigits u).length < (Lib.decDigits u ++ [47] ++ m).length := by simp
  have hn : ∀ j, j < (Lib.decDigits u).length → ∀ hj : j < (Lib.decDigits u ++ [47] ++ m).length, ¬ (Lib.decDigits u ++ [47] ++ m)[j] = 47 := by
    intro j h1 hj e
    have e' : (Lib.decDigits u ++ [47] ++ m)[j]? = some 47 := by rw [List.getElem?_eq_getElem hj, e]
    rw [List.append_assoc, List.getElem?_append_left h1, List.getElem?_eq_getElem h1] at e'
    have := dec_digits u _ (List.getElem_mem h1)
    rw [Option.some.inj e'] at this
    exact absurd this (by decide)
  exact (slash_step hl hn).1 (by simp [List.getElem_append_right])
theorem itoa_abs (n : Int) (m : List UInt8) : Lib.hasPrefix (Lib.itoa n ++ m) [45] = decide (n < 0) ∧ Lib.trimPrefix (Lib.itoa n ++ m) [45] = Lib.decDigits n.natAbs ++ m := by
  unfold Lib.itoa
  by_cases h : n < 0
  · rw [if_pos h]
    simp [Lib.hasPrefix, Lib.trimPrefix, h]
  · rw [if_neg h, show n.toNat = n.natAbs by omega]
    have hd := dec_digits n.natAbs
    have hl : 1 ≤ (Lib.decDigits n.natAbs).length := by rw [Lib.decDigits_length]; exact Lib.nDigits_pos _
    generalize Lib.decDigits n.natAbs = L at hd hl
    cases L with
    | nil => simp at hl
    | cons c l =>
      have hc := hd c List.mem_cons_self
      have e : (45 == c) = false := by
        simp only [beq_eq_false_iff_ne, ne_eq]
        intro e; subst e; exact absurd hc (by decide)
      have e2 : ¬ 45 = c := by simpa using e
      simp [Lib.hasPrefix, Lib.trimPrefix, List.isPrefixOf, h, e]
theorem new_valid {n d : Int} (h : fchk n d = 0) : newS n d = (n, d, 0) := by
  obtain ⟨d0, g, hn, hd⟩ := valid_of h
  unfold newS
  have hs : decide (d < 0) = false := by simp; omega
  rw [if_neg (by omega), show ((Int.gcd n d : Nat) : Int) = 1 by omega]
  simp only [Int.ediv_one]
  rw [if_neg (by omega), hs]
  by_cases c : n < 0
  · simp only [c, decide_true, Bool.true_eq_false, if_false]
    rw [show -(n.natAbs : Int) = n by omega, show (d.natAbs : Int) = d by omega]
  · simp only [c, decide_false, if_true]
    rw [show (n.natAbs : Int) = n by omega, show (d.natAbs : Int) = d by omega]
theorem text_back {n d : Int} (h : fchk n d = 0) : parseS (textS n d).1 = (n, d, 0) := by
  obtain ⟨d0, g, hn, hd⟩ := valid_of h
  have hN : n.natAbs < 10 ^ 16 := by omega
  have hD : d.natAbs < 10 ^ 16 := by omega
  have sg : (if decide (n < 0) = true then -(n.natAbs : Int) else (n.natAbs : Int)) = n := by
    by_cases c : n < 0
    · simp only [c, decide_true, if_true]; omega
    · simp only [c, decide_false, Bool.false_eq_true, if_false]; omega
  unfold textS
  rw [if_neg (by omega)]
  by_cases c : d = 1
  · rw [if_pos c]
    obtain ⟨p, t⟩ := itoa_abs n []
    rw [List.append_nil] at p t
    rw [List.append_nil] at t
    unfold parseS restS
    simp only
    rw [p, t, dec_slash, List.take_length, dec_numS hN]
    simp only [Nat.lt_irrefl, false_and, if_false, Bool.true_eq_false]
    rw [sg, ← c, new_valid h]
  · rw [if_neg c]
    obtain ⟨p, t⟩ := itoa_abs n ([47] ++ Lib.itoa d)
    rw [← List.append_assoc] at p t
    rw [← List.append_assoc] at t
    have ed : Lib.itoa d = Lib.decDigits d.natAbs := by
      unfold Lib.itoa
      rw [if_neg (by omega), show d.toNat = d.natAbs by omega]
    unfold parseS restS
    simp only
    have hl : (Lib.decDigits n.natAbs).length < (Lib.decDigits n.natAbs ++ [47] ++ Lib.itoa d).length := by simp
    have e1 : (Lib.decDigits n.natAbs ++ [47] ++ Lib.itoa d).take (Lib.decDigits n.natAbs).length = Lib.decDigits n.natAbs := by simp
    have e2 : (Lib.decDigits n.natAbs ++ [47] ++ Lib.itoa d).drop ((Lib.decDigits n.natAbs).length + 1) = Lib.decDigits d.natAbs := by
      rw [← ed, List.drop_append_of_le_length (by simp)]
      simp
    rw [p, t, dec_slash_app, e1, e2, dec_numS hN, dec_numS hD]
    simp only [hl, true_and, Bool.true_eq_false, if_false, if_true]
    rw [sg, show (d.natAbs : Int) = d by omega, new_valid h]
end Sp
end Go.Proofs.YtjbnejhpfknfcaaDoor
