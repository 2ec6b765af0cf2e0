/-
  Plain mathematics of layer 10: tables of species, their check, who is where; no Go in sight.
-/
import Derived.WalkKit
namespace Go.Proofs.Ytmdaanigkhikfab
set_option linter.unusedVariables false
namespace Sp
structure Sc where
  s : ByteArray
  den : Int
  car : Int
  lim : Int
def letter (c : UInt8) : Bool := !(decide ((c.toNat : Int) < 97) || decide ((122 : Int) < (c.toNat : Int)))
def codeOk (s : ByteArray) : Bool := decide (1 ≤ s.size ∧ s.size ≤ 6) && s.data.toList.all letter
def upTo (n g : Int) : Bool := decide (1 ≤ n ∧ n ≤ g)
def rangeOk (c : Sc) : Bool := upTo c.den 2000 && upTo c.car 1000000 && upTo c.lim 3000
def placeS (z : ByteArray) : List Sc → Nat → Int
  | [], _ => -1
  | c :: l, i => if c.s = z then (i : Int) else placeS z l (i + 1)
def chkS : List Sc → List Sc → Int
  | _, [] => 0
  | p, c :: l => if codeOk c.s = false then 3 else if rangeOk c = false then 2 else if 0 ≤ placeS c.s p 0 then 7 else chkS (p ++ [c]) l
def tabS (t : List Sc) : Int := if 6 < t.length then 8 else chkS [] t
theorem placeS_cons (z : ByteArray) (c : Sc) (l : List Sc) (i : Nat) : placeS z (c :: l) i = if c.s = z then (i : Int) else placeS z l (i + 1) := rfl
theorem placeS_cases (z : ByteArray) : ∀ (l : List Sc) (i : Nat), (placeS z l i = -1 ∧ ∀ c ∈ l, c.s ≠ z) ∨ ∃ k : Nat, ∃ h : k < l.length, placeS z l i = ((i + k : Nat) : Int) ∧ (l[k]'h).s = z ∧ ∀ j, (hj : j < k) → (l[j]'(Nat.lt_trans hj h)).s ≠ z
  | [], i => .inl ⟨rfl, by simp⟩
  | c :: l, i => by
    rw [placeS_cons]
    by_cases h : c.s = z
    · rw [if_pos h]
      exact .inr ⟨0, by simp, by simp, h, fun j hj => absurd hj (Nat.not_lt_zero _)⟩
    · rw [if_neg h]
      rcases placeS_cases z l (i + 1) with ⟨h1, h2⟩ | ⟨k, hk, h1, h2, h3⟩
      · refine .inl ⟨h1, fun d hd => ?_⟩
        rcases List.mem_cons.1 hd with rfl | hd
        · exact h
        · exact h2 d hd
      · refine .inr ⟨k + 1, by simp; omega, by rw [h1]; omega, h2, fun j hj => ?_⟩
        cases j with
        | zero => exact h
        | succ j => exact h3 j (by omega)
theorem placeS_lt (z : ByteArray) (l : List Sc) : -1 ≤ placeS z l 0 ∧ placeS z l 0 < l.length := by
  rcases placeS_cases z l 0 with ⟨h, _⟩ | ⟨k, hk, h, _⟩ <;> omega
theorem chkS_cons (p : List Sc) (c : Sc) (l : List Sc) : chkS p (c :: l) = if codeOk c.s = false then 3 else if rangeOk c = false then 2 else if 0 ≤ placeS c.s p 0 then 7 else chkS (p ++ [c]) l := rfl
theorem chkS_ok : ∀ (l p : List Sc), chkS p l = 0 → ∀ k, (h : k < l.length) → codeOk (l[k]'h).s = true ∧ rangeOk (l[k]'h) = true ∧ placeS (l[k]'h).s (p ++ l.take k) 0 < 0
  | [], p, _, k, h => absurd h (by simp)
  | c :: l, p, hc, k, h => by
    rw [chkS_cons] at hc
    by_cases h1 : codeOk c.s = false
    · rw [if_pos h1] at hc; cases hc
    · rw [if_neg h1] at hc
      by_cases h2 : rangeOk c = false
      · rw [if_pos h2] at hc; cases hc
      · rw [if_neg h2] at hc
        by_cases h3 : 0 ≤ placeS c.s p 0
        · rw [if_pos h3] at hc; cases hc
        · rw [if_neg h3] at hc
          cases k with
          | zero => exact ⟨by simpa using h1, by simpa using h2, by simpa using h3⟩
          | succ k =>
            have := chkS_ok l (p ++ [c]) hc k (by simpa using h)
            simpa using this
theorem chkS_vals : ∀ (l p : List Sc), chkS p l = 0 ∨ chkS p l = 2 ∨ chkS p l = 3 ∨ chkS p l = 7
  | [], p => .inl rfl
  | c :: l, p => by
    rw [chkS_cons]
    split
    · simp
    · split
      · simp
      · split
        · simp
        · exact chkS_vals l (p ++ [c])
theorem tabS_len {t : List Sc} (h : tabS t = 0) : t.length ≤ 6 ∧ chkS [] t = 0 := by
  unfold tabS at h
  by_cases c : 6 < t.length
  · rw [if_pos c] at h; cases h
  · rw [if_neg c] at h; exact ⟨by omega, h⟩
theorem chkS_step {p : List Sc} {c : Sc} {l : List Sc} (h1 : codeOk c.s = true) (h2 : rangeOk c = true) (h3 : placeS c.s p 0 < 0) : chkS p (c :: l) = chkS (p ++ [c]) l := by
  rw [chkS_cons, if_neg (by simp [h1]), if_neg (by simp [h2]), if_neg (by omega)]
/-- In a checked table each species is found by its code. -/
theorem found {t : List Sc} (h : tabS t = 0) {k : Nat} (hk : k < t.length) : placeS (t[k]'hk).s t 0 = (k : Int) := by
  have hc := (tabS_len h).2
  rcases placeS_cases (t[k]'hk).s t 0 with ⟨_, h2⟩ | ⟨j, hj, h1, h2, h3⟩
  · exact absurd rfl (h2 _ (List.getElem_mem hk))
  · have hjk : j ≤ k := Nat.le_of_not_lt fun hlt => h3 k hlt rfl
    rcases Nat.lt_or_ge j k with hlt | hge
    · exfalso
      have h4 := (chkS_ok t [] hc k hk).2.2
      rw [List.nil_append] at h4
      rcases placeS_cases (t[k]'hk).s (t.take k) 0 with ⟨_, h5⟩ | ⟨i, hi, h5, _⟩
      · exact h5 (t[j]'hj) (by rw [List.mem_take_iff_getElem]; exact ⟨j, by omega, rfl⟩) h2
      · omega
    · have : j = k := by omega
      subst this
      rw [h1]
      simp
theorem rangeOk_at {c : Sc} (h : rangeOk c = true) : (1 ≤ c.den ∧ c.den ≤ 2000) ∧ (1 ≤ c.car ∧ c.car ≤ 1000000) ∧ (1 ≤ c.lim ∧ c.lim ≤ 3000) := by
  unfold rangeOk upTo at h
  simp only [Bool.and_eq_true, decide_eq_true_eq] at h
  exact ⟨h.1.1, h.1.2, h.2⟩
theorem all_drop {s : List UInt8} {f : UInt8 → Bool} {j : Nat} (h : j < s.length) : (s.drop j).all f = (f (s[j]'h) && (s.drop (j + 1)).all f) := by
  rw [List.drop_eq_getElem_cons h, List.all_cons]
end Sp
end Go.Proofs.Ytmdaanigkhikfab
