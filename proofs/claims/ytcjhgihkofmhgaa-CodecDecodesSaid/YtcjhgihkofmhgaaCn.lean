/-
  Plain mathematics of layer 6: ints as bytes; no Go in sight.
-/
namespace Go.Proofs.Ytcjhgihkofmhgaa
set_option linter.unusedVariables false
namespace Sp
/-- The number that is written for an int. -/
def fold (n : Int) : Nat := if n < 0 then (-2 * n - 1).toNat else (2 * n).toNat
def unf (u : Nat) : Int := if u % 2 = 1 then -((u / 2 : Nat) : Int) - 1 else ((u / 2 : Nat) : Int)
theorem fold_lt {n : Int} (h0 : -9223372036854775808 ≤ n) (h1 : n ≤ 9223372036854775807) : fold n < 18446744073709551616 := by
  unfold fold; split <;> omega
theorem unf_fold (n : Int) : unf (fold n) = n := by
  unfold unf fold
  split <;> split <;> omega
theorem fold_unf (u : Nat) : fold (unf u) = u := by
  unfold unf fold
  split <;> split <;> omega
theorem unf_bound {u : Nat} (h : u < 18446744073709551616) : -9223372036854775808 ≤ unf u ∧ unf u ≤ 9223372036854775807 := by
  unfold unf; split <;> omega
/-- The bytes of a number: at most k and one. -/
def putN : Nat → Nat → List UInt8
  | 0, u => [UInt8.ofNat u]
  | k + 1, u => if 128 ≤ u then UInt8.ofNat (u % 128 + 128) :: putN k (u / 128) else [UInt8.ofNat u]
def putS (n : Int) : List UInt8 := putN 9 (fold n)
theorem putN_len : ∀ (k u : Nat), 1 ≤ (putN k u).length ∧ (putN k u).length ≤ k + 1
  | 0, u => ⟨Nat.le_refl _, Nat.le_refl _⟩
  | k + 1, u => by
    unfold putN
    split
    · have := putN_len k (u / 128)
      simp only [List.length_cons]
      omega
    · simp
theorem putS_len (n : Int) : 1 ≤ (putS n).length ∧ (putS n).length ≤ 10 := putN_len 9 _
/-- What is read: the number, how many bytes, the error. -/
def scan : Nat → Nat → List UInt8 → Nat × Nat × Int
  | _, _, [] => (0, 0, 17)
  | i, v, x :: l =>
    if i = 9 ∧ 1 < x.toNat then (0, 0, 8)
    else if 0 < i ∧ x.toNat = 0 then (0, 0, 3)
    else if x.toNat < 128 then (v ||| (x.toNat % 128) <<< (7 * i), i + 1, 0)
    else scan (i + 1) (v ||| (x.toNat % 128) <<< (7 * i)) l
theorem scan_nil (i v : Nat) : scan i v [] = (0, 0, 17) := rfl
theorem scan_cons (i v : Nat) (x : UInt8) (l : List UInt8) : scan i v (x :: l) =
    if i = 9 ∧ 1 < x.toNat then (0, 0, 8)
    else if 0 < i ∧ x.toNat = 0 then (0, 0, 3)
    else if x.toNat < 128 then (v ||| (x.toNat % 128) <<< (7 * i), i + 1, 0)
    else scan (i + 1) (v ||| (x.toNat % 128) <<< (7 * i)) l := rfl
/-- An int at the beginning of a list. -/
def getL (L : List UInt8) : Int × Nat × Int := if (scan 0 0 L).2.2 = 0 then (unf (scan 0 0 L).1, (scan 0 0 L).2.1, 0) else (0, 0, (scan 0 0 L).2.2)
def getS (L : List UInt8) (at_ : Int) : Int × Int × Int :=
  if at_ < 0 ∨ (L.length : Int) < at_ then (0, 0, 2)
  else if (getL (L.drop at_.toNat)).2.2 = 0 then ((getL (L.drop at_.toNat)).1, at_ + (getL (L.drop at_.toNat)).2.1, 0) else (0, 0, (getL (L.drop at_.toNat)).2.2)
theorem split7 (u i : Nat) : ((u % 128) <<< (7 * i)) ||| ((u / 128) <<< (7 * (i + 1))) = u <<< (7 * i) := by
  have h1 : u % 128 < 2 ^ 7 := Nat.mod_lt _ (by decide)
  have h2 := Nat.shiftLeft_add_eq_or_of_lt h1 (u / 128)
  have h3 : (u / 128) <<< 7 + u % 128 = u := by rw [Nat.shiftLeft_eq]; omega
  rw [h3] at h2
  have h4 : (u / 128) <<< (7 * (i + 1)) = ((u / 128) <<< 7) <<< (7 * i) := by rw [← Nat.shiftLeft_add, show 7 * (i + 1) = 7 + 7 * i by omega]
  rw [h4, Nat.or_comm, ← Nat.shiftLeft_or_distrib, ← h2]
theorem scan_put : ∀ (k i u v : Nat) (rest : List UInt8), i + k = 9 → u < 2 ^ (64 - 7 * i) → (0 < i → u ≠ 0) →
    scan i v (putN k u ++ rest) = (v ||| u <<< (7 * i), i + (putN k u).length, 0)
  | 0, i, u, v, rest, hi, hu, h0 => by
    obtain rfl : i = 9 := by omega
    have hu2 : u < 2 := hu
    have e : (UInt8.ofNat u).toNat = u := by rw [UInt8.toNat_ofNat']; omega
    unfold putN
    rw [List.cons_append, scan_cons, e, if_neg (by omega), if_neg (by have := h0 (by omega); omega), if_pos (by omega), Nat.mod_eq_of_lt (by omega)]
    rfl
  | k + 1, i, u, v, rest, hi, hu, h0 => by
    unfold putN
    by_cases h : 128 ≤ u
    · have e : (UInt8.ofNat (u % 128 + 128)).toNat = u % 128 + 128 := by rw [UInt8.toNat_ofNat']; omega
      have e2 : (u % 128 + 128) % 128 = u % 128 := by omega
      rw [if_pos h, List.cons_append, scan_cons, e, if_neg (by omega), if_neg (by omega), if_neg (by omega), e2]
      rw [scan_put k (i + 1) (u / 128) _ rest (by omega) (by
        have : 2 ^ (64 - 7 * i) = 2 ^ (64 - 7 * (i + 1)) * 128 := by
          rw [show (128 : Nat) = 2 ^ 7 by decide, ← Nat.pow_add]
          congr 1
          omega
        rw [this] at hu
        exact Nat.div_lt_of_lt_mul (by rw [Nat.mul_comm]; exact hu)) (by omega)]
      rw [Nat.or_assoc, split7, List.length_cons]
      simp only [Prod.mk.injEq, true_and, and_true]
      omega
    · have e : (UInt8.ofNat u).toNat = u := by rw [UInt8.toNat_ofNat']; omega
      rw [if_neg h, List.cons_append, scan_cons, e, if_neg (by omega), if_neg (by omega), if_pos (by omega), Nat.mod_eq_of_lt (by omega)]
      rfl
/-- What was put is got back, and no more is read. -/
theorem getL_put {n : Int} (h0 : -9223372036854775808 ≤ n) (h1 : n ≤ 9223372036854775807) (rest : List UInt8) : getL (putS n ++ rest) = (n, (putS n).length, 0) := by
  have h := scan_put 9 0 (fold n) 0 rest rfl (fold_lt h0 h1) (by omega)
  unfold getL putS
  rw [h]
  simp [unf_fold]
/-- What is read is what would be put. -/
theorem scan_only : ∀ (L : List UInt8) (i v u k : Nat), i ≤ 9 → scan i v L = (u, k, 0) →
    ∃ w, u = v ||| w <<< (7 * i) ∧ w < 2 ^ (64 - 7 * i) ∧ (0 < i → w ≠ 0) ∧ k = i + (putN (9 - i) w).length ∧ ∃ rest, L = putN (9 - i) w ++ rest
  | [], i, v, u, k, hi, h => by rw [scan_nil] at h; simp at h
  | x :: l, i, v, u, k, hi, h => by
    have hx := x.toNat_lt
    have ex : UInt8.ofNat x.toNat = x := UInt8.ofNat_toNat
    rw [scan_cons] at h
    by_cases c1 : i = 9 ∧ 1 < x.toNat
    · rw [if_pos c1] at h; simp at h
    · rw [if_neg c1] at h
      by_cases c2 : 0 < i ∧ x.toNat = 0
      · rw [if_pos c2] at h; simp at h
      · rw [if_neg c2] at h
        by_cases c3 : x.toNat < 128
        · rw [if_pos c3] at h
          simp only [Prod.mk.injEq, and_true] at h
          obtain ⟨rfl, rfl⟩ := h
          have hp : putN (9 - i) x.toNat = [x] := by
            rcases hj : 9 - i with _ | j
            · unfold putN; rw [ex]
            · unfold putN; rw [if_neg (by omega), ex]
          refine ⟨x.toNat, by rw [Nat.mod_eq_of_lt c3], ?_, by omega, by rw [hp]; rfl, l, by rw [hp]; rfl⟩
          by_cases e9 : i = 9
          · subst e9
            have : x.toNat ≤ 1 := by omega
            show x.toNat < 2
            omega
          · exact Nat.lt_of_lt_of_le c3 (show 2 ^ 7 ≤ 2 ^ (64 - 7 * i) from Nat.pow_le_pow_right (by decide) (by omega))
        · rw [if_neg c3] at h
          have i9 : i ≠ 9 := by omega
          obtain ⟨w, rfl, hw, w0, rfl, rest, rfl⟩ := scan_only l (i + 1) _ u k (by omega) h
          have w1 := w0 (by omega)
          have hd : (w * 128 + x.toNat % 128) / 128 = w := by omega
          have hm : (w * 128 + x.toNat % 128) % 128 = x.toNat % 128 := by omega
          have hp : putN (9 - i) (w * 128 + x.toNat % 128) = x :: putN (9 - (i + 1)) w := by
            rw [show 9 - i = (9 - (i + 1)) + 1 by omega]
            conv => lhs; unfold putN
            rw [if_pos (by omega), hd, hm, show x.toNat % 128 + 128 = x.toNat by omega, ex]
          refine ⟨w * 128 + x.toNat % 128, ?_, ?_, by omega, by rw [hp, List.length_cons]; omega, rest, by rw [hp]; rfl⟩
          · have h7 := split7 (w * 128 + x.toNat % 128) i
            rw [hd, hm] at h7
            rw [← h7, Nat.or_assoc]
          · have : 2 ^ (64 - 7 * i) = 2 ^ (64 - 7 * (i + 1)) * 128 := by
              rw [show (128 : Nat) = 2 ^ 7 by decide, ← Nat.pow_add]
              congr 1
              omega
            rw [this]
            omega
theorem getL_only {L : List UInt8} {n : Int} {k : Nat} (h : getL L = (n, k, 0)) : (-9223372036854775808 ≤ n ∧ n ≤ 9223372036854775807) ∧ k = (putS n).length ∧ ∃ rest, L = putS n ++ rest := by
  unfold getL at h
  obtain ⟨u, j, e, hs⟩ : ∃ u j e, scan 0 0 L = (u, j, e) := ⟨_, _, _, rfl⟩
  rw [hs] at h
  by_cases c : e = 0
  · subst c
    simp only [if_true, Prod.mk.injEq, and_true] at h
    obtain ⟨rfl, rfl⟩ := h
    obtain ⟨w, rfl, hw, _, rfl, rest, rfl⟩ := scan_only L 0 0 u j (by omega) hs
    simp only [Nat.mul_zero, Nat.shiftLeft_zero, Nat.zero_or, Nat.zero_add, Nat.sub_zero] at hw ⊢
    exact ⟨unf_bound hw, by unfold putS; rw [fold_unf], rest, by unfold putS; rw [fold_unf]⟩
  · simp [c] at h
theorem scan_e : ∀ (L : List UInt8) (i v : Nat), (scan i v L).2.2 = 0 ∨ (scan i v L).2.2 = 17 ∨ (scan i v L).2.2 = 8 ∨ (scan i v L).2.2 = 3
  | [], i, v => by rw [scan_nil]; simp
  | x :: l, i, v => by
    rw [scan_cons]
    split
    · simp
    · split
      · simp
      · split
        · simp
        · exact scan_e l _ _
theorem scan_len : ∀ (L : List UInt8) (i v : Nat), (scan i v L).2.1 ≤ i + L.length
  | [], i, v => by rw [scan_nil]; simp
  | x :: l, i, v => by
    rw [scan_cons, List.length_cons]
    split
    · simp
    · split
      · simp
      · split
        · simp only; omega
        · have := scan_len l (i + 1) (v ||| (x.toNat % 128) <<< (7 * i)); omega
theorem getL_len (L : List UInt8) : (getL L).2.1 ≤ L.length := by
  have := scan_len L 0 0
  unfold getL
  split <;> simp only <;> omega
end Sp
end Go.Proofs.Ytcjhgihkofmhgaa
