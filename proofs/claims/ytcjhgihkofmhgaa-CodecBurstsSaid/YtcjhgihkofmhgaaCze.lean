/-
  Layer 6: what a change within four bytes does; no Go in sight.
-/
import Derived.Test.YtcjhgihkofmhgaaCm
namespace Go.Proofs.Ytcjhgihkofmhgaa
set_option linter.unusedVariables false
namespace Sp
def dl (n k j : Nat) (xs : Nat → UInt8) : List UInt8 := (List.range n).map fun p => if k ≤ p ∧ p < k + j then xs (p - k) else 0
theorem dl_len (n k j : Nat) (xs : Nat → UInt8) : (dl n k j xs).length = n := by simp [dl]
theorem dl_get {n k j p : Nat} {xs : Nat → UInt8} (h : p < n) : (dl n k j xs)[p]? = some (if k ≤ p ∧ p < k + j then xs (p - k) else 0) := by simp [dl, h]
theorem dl_zero (n k : Nat) (xs : Nat → UInt8) : dl n k 0 xs = List.replicate n 0 := by
  apply List.ext_getElem?
  intro p
  by_cases h : p < n
  · rw [dl_get h, if_neg (by omega)]
    simp [h]
  · rw [List.getElem?_eq_none (by rw [dl_len]; omega), List.getElem?_eq_none (by simp; omega)]
theorem xorL_zero : ∀ (b : List UInt8), xorL b (List.replicate b.length 0) = b
  | [] => rfl
  | c :: b => by
    show (c ^^^ 0) :: xorL b (List.replicate b.length 0) = _
    rw [xorL_zero b]
    simp
theorem xorL_get : ∀ (l m : List UInt8) (i : Nat) (x y : UInt8), l[i]? = some x → m[i]? = some y → (xorL l m)[i]? = some (x ^^^ y)
  | [], m, i, x, y, h, _ => by simp at h
  | c :: l, [], i, x, y, _, h => by simp at h
  | c :: l, d :: m, 0, x, y, h1, h2 => by
    simp at h1 h2
    subst h1 h2
    rfl
  | c :: l, d :: m, i + 1, x, y, h1, h2 => by
    simp at h1 h2
    show (xorL l m)[i]? = _
    exact xorL_get l m i x y h1 h2
/-- One more byte changes. -/
theorem dl_set {b : List UInt8} {n k j : Nat} {xs : Nat → UInt8} {x : UInt8} (hb : b.length = n) (hj : k + j < n) (hx : b[k + j]? = some x) :
    (xorL b (dl n k j xs))[k + j]? = some x ∧ (xorL b (dl n k j xs)).set (k + j) (x ^^^ xs j) = xorL b (dl n k (j + 1) xs) := by
  have hl : ∀ j, (xorL b (dl n k j xs)).length = n := fun j => by rw [xorL_len _ _ (by rw [dl_len, hb]), hb]
  refine ⟨?_, ?_⟩
  · rw [xorL_get b _ _ _ _ hx (dl_get hj), if_neg (by omega)]
    simp
  · apply List.ext_getElem?
    intro p
    rw [List.getElem?_set]
    by_cases hp : p < n
    · have hbp : b[p]? = some (b[p]'(by omega)) := List.getElem?_eq_getElem (by omega)
      rw [xorL_get b _ _ _ _ hbp (dl_get (j := j + 1) hp)]
      by_cases e : k + j = p
      · subst e
        rw [if_pos rfl, if_pos (by rw [hl]; exact hj), if_pos (by omega)]
        rw [hbp] at hx
        injection hx with hx
        rw [hx, show k + j - k = j by omega]
      · rw [if_neg e, xorL_get b _ _ _ _ hbp (dl_get (j := j) hp)]
        by_cases c : k ≤ p ∧ p < k + j
        · rw [if_pos c, if_pos (by omega)]
        · rw [if_neg c, if_neg (by omega)]
    · rw [if_neg (by omega), List.getElem?_eq_none (by rw [hl]; omega), List.getElem?_eq_none (by rw [hl]; omega)]
theorem dl_out {n k j : Nat} {xs : Nat → UInt8} (h : n ≤ k + j) : dl n k (j + 1) xs = dl n k j xs := by
  unfold dl
  apply List.map_congr_left
  intro p hp
  rw [List.mem_range] at hp
  by_cases c : k ≤ p ∧ p < k + j
  · rw [if_pos c, if_pos (by omega)]
  · rw [if_neg c, if_neg (by omega)]
def chg (n k j : Nat) (xs : Nat → UInt8) : Bool := (List.range j).any fun i => decide (k + i < n) && xs i != 0
theorem chg_in {n k j : Nat} {xs : Nat → UInt8} (h : k + j < n) : chg n k (j + 1) xs = (chg n k j xs || (xs j != 0)) := by
  unfold chg
  rw [List.range_succ, List.any_append]
  simp [h]
theorem chg_out {n k j : Nat} {xs : Nat → UInt8} (h : n ≤ k + j) : chg n k (j + 1) xs = chg n k j xs := by
  unfold chg
  rw [List.range_succ, List.any_append]
  simp [Nat.not_lt.2 h]
theorem chg_zero (n k : Nat) (xs : Nat → UInt8) : chg n k 0 xs = false := rfl
theorem dl_pad (n k : Nat) (xs : Nat → UInt8) (hk : k < n) : ∃ y0 y1 y2 y3, dl n k 4 xs ++ List.replicate (k + 4 - n) 0 = List.replicate k 0 ++ [y0, y1, y2, y3] ++ List.replicate (n - (k + 4)) 0 ∧
    ((y0 = 0 ∧ y1 = 0 ∧ y2 = 0 ∧ y3 = 0) → chg n k 4 xs = false) := by
  let y : Nat → UInt8 := fun i => if k + i < n then xs i else 0
  refine ⟨y 0, y 1, y 2, y 3, ?_, ?_⟩
  · apply List.ext_getElem?
    intro p
    rw [List.getElem?_append, List.getElem?_append, List.getElem?_append]
    simp only [dl_len, List.length_append, List.length_replicate, List.length_cons, List.length_nil, List.getElem?_replicate]
    by_cases h1 : p < n
    · rw [if_pos h1, dl_get h1]
      by_cases h2 : p < k
      · rw [if_neg (by omega), if_pos (by omega), if_pos h2, if_pos h2]
      · by_cases h3 : p < k + 4
        · rw [if_pos (by omega), if_neg h2, if_pos (by omega)]
          obtain h4 | h4 | h4 | h4 : p = k ∨ p = k + 1 ∨ p = k + 2 ∨ p = k + 3 := by omega
          · subst h4; simp [y, h1]
          · subst h4; simp [y, h1]
          · subst h4; simp [y, h1]
          · subst h4; simp [y, h1]
        · rw [if_neg (by omega), if_neg (by omega), if_pos (by omega)]
    · rw [if_neg h1]
      by_cases h3 : p < k + 4
      · rw [if_pos (by omega), if_pos (by omega), if_neg (by omega)]
        obtain h4 | h4 | h4 | h4 : p = k ∨ p = k + 1 ∨ p = k + 2 ∨ p = k + 3 := by omega
        · omega
        · subst h4; simp [y, h1]
        · subst h4; simp [y, h1]
        · subst h4; simp [y, h1]
      · rw [if_neg (by omega), if_neg (by omega), if_neg (by omega)]
  · rintro ⟨h0, h1, h2, h3⟩
    have hy : ∀ i, y i = 0 → (decide (k + i < n) && xs i != 0) = false := fun i h => by
      by_cases c : k + i < n
      · have : xs i = 0 := by simpa [y, c] using h
        simp [this]
      · simp [c]
    have e4 : List.range 4 = [0, 1, 2, 3] := by decide
    unfold chg
    rw [e4]
    simp only [List.any_cons, List.any_nil, hy 0 h0, hy 1 h1, hy 2 h2, hy 3 h3, Bool.or_false]
theorem chg_all {n k : Nat} {xs : Nat → UInt8} (h : chg n k 4 xs = false) : dl n k 4 xs = List.replicate n 0 := by
  apply List.ext_getElem?
  intro p
  by_cases hp : p < n
  · rw [dl_get hp]
    by_cases c : k ≤ p ∧ p < k + 4
    · rw [if_pos c]
      have := List.any_eq_false.1 h (p - k) (List.mem_range.2 (by omega))
      have e : k + (p - k) = p := by omega
      simp [e, hp] at this
      simp [this, hp]
    · rw [if_neg c]
      simp [hp]
  · rw [List.getElem?_eq_none (by rw [dl_len]; omega), List.getElem?_eq_none (by simp; omega)]
theorem burst_iff (n k : Nat) (xs : Nat → UInt8) (hk : k < n) : (crcL 0 (dl n k 4 xs) = 0) ↔ chg n k 4 xs = false := by
  constructor
  · intro h
    obtain ⟨y0, y1, y2, y3, e, hz⟩ := dl_pad n k xs hk
    apply hz
    apply Classical.byContradiction
    intro hc
    apply burst_pos k (n - (k + 4)) y0 y1 y2 y3 hc
    rw [← e, crcL_append, h, crcL_zeros]
  · intro h
    rw [chg_all h, crcL_zeros]
/-- The checksum of the changed bytes is another, exactly if a byte changed. -/
theorem burst_sum (b : List UInt8) (k : Nat) (xs : Nat → UInt8) (hk : k < b.length) : decide (updS 0 b = updS 0 (xorL b (dl b.length k 4 xs))) = !chg b.length k 4 xs := by
  have hx : crcL 4294967295 (xorL b (dl b.length k 4 xs)) = crcL 4294967295 b ^^^ crcL 0 (dl b.length k 4 xs) := by
    have h := crcL_xor b (dl b.length k 4 xs) 4294967295 0 (by rw [dl_len])
    rw [Nat.xor_zero] at h
    exact h
  have hl := crcL_lt b (r := 4294967295) (by decide)
  have hm := crcL_lt (dl b.length k 4 xs) (r := 0) (by decide)
  have hlm := xor_lt32 hl hm
  have e0 : ∀ l, updS 0 l = 4294967295 - crcL 4294967295 l := fun l => rfl
  rw [e0, e0, hx]
  have hb := burst_iff b.length k xs hk
  cases hc : chg b.length k 4 xs with
  | false =>
    rw [hb.2 hc]
    simp
  | true =>
    have hne : crcL 0 (dl b.length k 4 xs) ≠ 0 := fun h => by
      have := hb.1 h
      rw [hc] at this
      cases this
    have : ¬ (4294967295 - crcL 4294967295 b = 4294967295 - (crcL 4294967295 b ^^^ crcL 0 (dl b.length k 4 xs))) := fun h => by
      have h2 : crcL 4294967295 b = crcL 4294967295 b ^^^ crcL 0 (dl b.length k 4 xs) := by omega
      have h3 := congrArg (crcL 4294967295 b ^^^ ·) h2
      simp only [Nat.xor_self, ← Nat.xor_assoc, Nat.zero_xor] at h3
      exact hne h3.symm
    simp [this]
end Sp
end Go.Proofs.Ytcjhgihkofmhgaa
