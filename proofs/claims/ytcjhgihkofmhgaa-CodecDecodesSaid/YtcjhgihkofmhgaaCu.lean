/-
  Plain mathematics of layer 6: what is encoded is decoded, no beginning is accepted, what is decoded is the encoding; no Go in sight.
-/
import Derived.Test.YtcjhgihkofmhgaaCt
namespace Go.Proofs.Ytcjhgihkofmhgaa
set_option linter.unusedVariables false
namespace Sp
def rng : (d : Nat) → Tr d → Prop
  | 0, _ => True
  | d + 1, t => (-9223372036854775808 ≤ t.2.1 ∧ t.2.1 ≤ 9223372036854775807) ∧ ∀ u ∈ t.2.2.2, rng d u
theorem intL_put {n : Int} (h0 : -9223372036854775808 ≤ n) (h1 : n ≤ 9223372036854775807) (rest : List UInt8) : intL (putS n ++ rest) = .inr (n, rest) := by
  unfold intL
  rw [getL_put h0 h1 rest]
  simp
theorem textL_put (s rest : List UInt8) (h : s.length ≤ 4000) : textL (putS s.length ++ (s ++ rest)) = .inr (s, rest) := by
  unfold textL
  rw [getL_put (by omega) (by omega) (s ++ rest)]
  simp only [List.drop_left, Int.toNat_natCast, List.take_left]
  rw [if_neg (by simp), if_neg (by omega), if_neg (by omega), if_neg (by rw [List.length_append]; omega)]
theorem loop_dec {d D : Nat} {i : Nat} : ∀ (l : List (Tr d)) (c z : Nat) (rest : List UInt8),
    (∀ u ∈ l, ∀ c z rest, (chkT d u i c z).1 = 0 → ∃ t' : Tr D, decT D (encT d u ++ rest) c = .inr (t', rest, (chkT d u i c z).2.1) ∧ eqT d D u t' = true) →
    (loopC (fun u c z => chkT d u i c z) l c z).1 = 0 →
    ∃ l' : List (Tr D), loopD (decT D) l.length ((l.map (encT d)).flatten ++ rest) c = .inr (l', rest, (loopC (fun u c z => chkT d u i c z) l c z).2.1) ∧ all2 (eqT d D) l l' = true
  | [], c, z, rest, _, _ => ⟨[], rfl, rfl⟩
  | u :: l, c, z, rest, hu, h => by
    unfold loopC at h
    by_cases e : (chkT d u i c z).1 = 0
    · rw [if_neg (by simpa using e)] at h
      obtain ⟨t', h1, h2⟩ := hu u List.mem_cons_self c z ((l.map (encT d)).flatten ++ rest) e
      obtain ⟨l', h3, h4⟩ := loop_dec l _ _ rest (fun v hv => hu v (List.mem_cons_of_mem _ hv)) h
      refine ⟨t' :: l', ?_, by simp [all2, h2, h4]⟩
      simp only [List.map_cons, List.flatten_cons, List.append_assoc, List.length_cons, loopD, h1, h3]
      rw [loopC_cons, if_neg (by simpa using e)]
    · rw [if_pos e] at h
      exact absurd h e
theorem ofNat3 {k : Int} (h : (1 : Int) ≤ k ∧ k ≤ 3) : ((UInt8.ofNat k.toNat).toNat : Int) = k := by
  rw [UInt8.toNat_ofNat']; omega
theorem sizes_mem {α : Type} {g : α → Nat} : ∀ {l : List α} {u : α}, u ∈ l → g u ≤ sizes g l
  | [], u, h => by cases h
  | t :: l, u, h => by
    unfold sizes
    rcases List.mem_cons.1 h with rfl | h
    · omega
    · have := sizes_mem (g := g) h; omega
/-- The three kinds of a datum that passes. -/
theorem kinds {d : Nat} {t : Tr (d + 1)} {i c z : Nat} (h : (chkT (d + 1) t i c z).1 = 0) :
    ((1 : Int) ≤ t.1 ∧ t.1 ≤ 3) ∧ form t ∧ i ≤ 7 ∧ c + 1 ≤ 500 ∧ chkT (d + 1) t i c z = loopC (fun u c z => chkT d u (i + 1) c z) t.2.2.2 (c + 1) (z + own t) := by
  unfold chkT at h
  by_cases k : (1 : Int) ≤ t.1 ∧ t.1 ≤ 3
  · rw [if_neg (by simpa using k)] at h
    by_cases f : form t
    · rw [if_neg (by simpa using f)] at h
      by_cases b : 7 < i ∨ 500 < c + 1
      · rw [if_pos b] at h; simp at h
      · refine ⟨k, f, by omega, by omega, ?_⟩
        conv => lhs; unfold chkT
        rw [if_neg (by simpa using k), if_neg (by simpa using f), if_neg b]
    · rw [if_pos f] at h; simp at h
  · rw [if_pos k] at h; simp at h
theorem three {d : Nat} {t : Tr (d + 1)} (k : (1 : Int) ≤ t.1 ∧ t.1 ≤ 3) (f : form t) :
    (∃ n, t = (((1, n, [], []) : Int × Int × List UInt8 × List (Tr d)) : Tr (d + 1))) ∨ (∃ s, t = (((2, 0, s, []) : Int × Int × List UInt8 × List (Tr d)) : Tr (d + 1))) ∨ (∃ l, t = (((3, 0, [], l) : Int × Int × List UInt8 × List (Tr d)) : Tr (d + 1))) := by
  obtain ⟨k', n, s, l⟩ := t
  unfold form at f
  simp only at k f
  obtain ⟨f1, f2, f3⟩ := f
  by_cases k1 : k' = 1
  · subst k1
    have s0 : s = [] := by rcases f2 with h | h; exact absurd h (by decide); exact h
    have l0 : l = [] := by rcases f3 with h | h; exact absurd h (by decide); exact h
    subst s0 l0
    exact .inl ⟨n, rfl⟩
  · have n0 : n = 0 := by rcases f1 with h | h; exact absurd h k1; exact h
    subst n0
    by_cases k2 : k' = 2
    · subst k2
      have l0 : l = [] := by rcases f3 with h | h; exact absurd h (by decide); exact h
      subst l0
      exact .inr (.inl ⟨s, rfl⟩)
    · obtain rfl : k' = 3 := by omega
      have s0 : s = [] := by rcases f2 with h | h; exact absurd h (by decide); exact h
      subst s0
      exact .inr (.inr ⟨l, rfl⟩)
theorem enc1 (d : Nat) (n : Int) : encT (d + 1) (((1, n, [], []) : Int × Int × List UInt8 × List (Tr d)) : Tr (d + 1)) = 1 :: putS n := rfl
theorem enc2 (d : Nat) (s : List UInt8) : encT (d + 1) (((2, 0, s, []) : Int × Int × List UInt8 × List (Tr d)) : Tr (d + 1)) = 2 :: (putS s.length ++ s) := rfl
theorem enc3 (d : Nat) (l : List (Tr d)) : encT (d + 1) (((3, 0, [], l) : Int × Int × List UInt8 × List (Tr d)) : Tr (d + 1)) = 3 :: (putS l.length ++ (l.map (encT d)).flatten) := rfl
theorem flat_mem {d : Nat} {l : List (Tr d)} {u : Tr d} (h : u ∈ l) : (encT d u).length ≤ ((l.map (encT d)).flatten).length := by
  rw [sizes_flat]
  exact sizes_mem (g := fun t => (encT d t).length) h
theorem encT_pos {d : Nat} {t : Tr d} {i c z : Nat} (h : (chkT d t i c z).1 = 0) : 1 ≤ (encT d t).length := by
  cases d with
  | zero => simp [chkT] at h
  | succ d => unfold encT; simp
theorem loop_count {d : Nat} {i : Nat} : ∀ (l : List (Tr d)) (c z : Nat), (loopC (fun u c z => chkT d u i c z) l c z).1 = 0 → l.length ≤ ((l.map (encT d)).flatten).length ∧ ∀ u ∈ l, ∃ c z, (chkT d u i c z).1 = 0
  | [], c, z, _ => ⟨by simp, fun u h => by cases h⟩
  | u :: l, c, z, h => by
    unfold loopC at h
    by_cases e : (chkT d u i c z).1 = 0
    · rw [if_neg (by simpa using e)] at h
      obtain ⟨h1, h2⟩ := loop_count l _ _ h
      refine ⟨?_, ?_⟩
      · have := encT_pos e
        simp only [List.map_cons, List.flatten_cons, List.length_append, List.length_cons]
        omega
      · intro v hv
        rcases List.mem_cons.1 hv with rfl | hv
        · exact ⟨c, z, e⟩
        · exact h2 v hv
    · rw [if_pos e] at h
      exact absurd h e
/-- What is encoded is decoded. -/
theorem dec_enc : ∀ (d : Nat) (t : Tr d) (i D c z : Nat) (rest : List UInt8), i + D = 8 → rng d t → (encT d t).length ≤ 4000 → (chkT d t i c z).1 = 0 →
    ∃ t' : Tr D, decT D (encT d t ++ rest) c = .inr (t', rest, (chkT d t i c z).2.1) ∧ eqT d D t t' = true
  | 0, t, i, D, c, z, rest, _, _, _, h => by simp [chkT] at h
  | d + 1, t, i, D, c, z, rest, hD, hr, hl, h => by
    obtain ⟨k, f, hi, hc, he⟩ := kinds h
    rw [he] at h ⊢
    obtain ⟨D, rfl⟩ : ∃ D', D = D' + 1 := ⟨D - 1, by omega⟩
    rcases three k f with ⟨n, rfl⟩ | ⟨s, rfl⟩ | ⟨l, rfl⟩
    · refine ⟨(((1, n, [], []) : Int × Int × List UInt8 × List (Tr D)) : Tr (D + 1)), ?_, by simp [eqT, all2]⟩
      have hn : -9223372036854775808 ≤ n ∧ n ≤ 9223372036854775807 := hr.1
      rw [enc1, List.cons_append]
      unfold decT
      rw [if_neg (by decide), if_neg (by omega)]
      unfold bodyL
      rw [if_pos (by decide), intL_put hn.1 hn.2]
      rfl
    · refine ⟨(((2, 0, s, []) : Int × Int × List UInt8 × List (Tr D)) : Tr (D + 1)), ?_, by simp [eqT, all2]⟩
      rw [enc2] at hl ⊢
      rw [List.cons_append]
      unfold decT
      rw [if_neg (by decide), if_neg (by omega)]
      unfold bodyL
      rw [if_neg (by decide), if_pos (by decide), List.append_assoc, textL_put s rest (by simp at hl; omega)]
      rfl
    · rw [enc3] at hl ⊢
      have hcnt := loop_count l _ _ h
      simp only [List.length_cons, List.length_append] at hl
      obtain ⟨l', h3, h4⟩ := loop_dec (D := D) l (c + 1) _ rest (fun u hu c z rest hz => dec_enc d u (i + 1) D c z rest (by omega) (hr.2 u hu) (by have := flat_mem hu; omega) hz) h
      refine ⟨(((3, 0, [], l') : Int × Int × List UInt8 × List (Tr D)) : Tr (D + 1)), ?_, by simp [eqT, h4]⟩
      rw [List.cons_append]
      unfold decT
      rw [if_neg (by decide), if_neg (by omega)]
      unfold bodyL listL
      rw [if_neg (by decide), if_neg (by decide), List.append_assoc, intL_put (by omega) (by omega)]
      simp only [Int.toNat_natCast, h3]
      rw [if_neg (by omega)]
/- No beginning is accepted. -/
theorem scan_cut : ∀ (k i u v m : Nat), i + k = 9 → u < 2 ^ (64 - 7 * i) → (0 < i → u ≠ 0) → m < (putN k u).length → scan i v ((putN k u).take m) = (0, 0, 17)
  | _, i, u, v, 0, _, _, _, _ => by rw [List.take_zero]; rfl
  | 0, i, u, v, m + 1, hi, hu, h0, hm => by simp [putN] at hm
  | k + 1, i, u, v, m + 1, hi, hu, h0, hm => by
    unfold putN at hm ⊢
    by_cases h : 128 ≤ u
    · have e : (UInt8.ofNat (u % 128 + 128)).toNat = u % 128 + 128 := by rw [UInt8.toNat_ofNat']; omega
      rw [if_pos h] at hm ⊢
      rw [List.length_cons] at hm
      rw [List.take_succ_cons, scan_cons, e, if_neg (by omega), if_neg (by omega), if_neg (by omega)]
      exact scan_cut k (i + 1) (u / 128) _ m (by omega) (by
        have : 2 ^ (64 - 7 * i) = 2 ^ (64 - 7 * (i + 1)) * 128 := by
          rw [show (128 : Nat) = 2 ^ 7 by decide, ← Nat.pow_add]
          congr 1
          omega
        rw [this] at hu
        exact Nat.div_lt_of_lt_mul (by rw [Nat.mul_comm]; exact hu)) (by omega) (by omega)
    · rw [if_neg h] at hm
      simp at hm
theorem getL_cut {n : Int} (h0 : -9223372036854775808 ≤ n) (h1 : n ≤ 9223372036854775807) {m : Nat} (hm : m < (putS n).length) : (getL ((putS n).take m)).2.2 = 17 := by
  unfold getL putS
  rw [scan_cut 9 0 (fold n) 0 m rfl (fold_lt h0 h1) (by omega) hm]
  rfl
theorem intL_cut {n : Int} (h0 : -9223372036854775808 ≤ n) (h1 : n ≤ 9223372036854775807) {m : Nat} (hm : m < (putS n).length) : intL ((putS n).take m) = .inl 17 := by
  unfold intL
  rw [getL_cut h0 h1 hm, if_pos (by decide)]
theorem textL_cut {s : List UInt8} (h : s.length ≤ 4000) {m : Nat} (hm : m < (putS s.length ++ s).length) : textL ((putS s.length ++ s).take m) = .inl 17 := by
  rw [List.length_append] at hm
  unfold textL
  by_cases c : m < (putS s.length).length
  · rw [List.take_append_of_le_length (by omega), getL_cut (by omega) (by omega) c, if_pos (by decide)]
  · rw [List.take_append, List.take_of_length_le (by omega), getL_put (by omega) (by omega)]
    simp only [List.drop_left]
    rw [if_neg (by simp), if_neg (by omega), if_neg (by omega), if_pos (by rw [List.length_take]; omega)]
theorem loop_cut {d D : Nat} {i : Nat} : ∀ (l : List (Tr d)) (c z m : Nat),
    (∀ u ∈ l, ∀ c z rest, (chkT d u i c z).1 = 0 → ∃ t' : Tr D, decT D (encT d u ++ rest) c = .inr (t', rest, (chkT d u i c z).2.1) ∧ eqT d D u t' = true) →
    (∀ u ∈ l, ∀ c z m, (chkT d u i c z).1 = 0 → m < (encT d u).length → decT D ((encT d u).take m) c = .inl 17) →
    (loopC (fun u c z => chkT d u i c z) l c z).1 = 0 → m < ((l.map (encT d)).flatten).length →
    loopD (decT D) l.length (((l.map (encT d)).flatten).take m) c = .inl 17
  | [], c, z, m, _, _, _, hm => by simp at hm
  | u :: l, c, z, m, hu, hv, h, hm => by
    unfold loopC at h
    by_cases e : (chkT d u i c z).1 = 0
    · rw [if_neg (by simpa using e)] at h
      simp only [List.map_cons, List.flatten_cons, List.length_append] at hm
      simp only [List.map_cons, List.flatten_cons, List.length_cons, loopD]
      by_cases p : m < (encT d u).length
      · rw [List.take_append_of_le_length (by omega), hv u List.mem_cons_self c z m e p]
      · rw [List.take_append, List.take_of_length_le (by omega)]
        obtain ⟨t', h1, h2⟩ := hu u List.mem_cons_self c z (((l.map (encT d)).flatten).take (m - (encT d u).length)) e
        rw [h1]
        simp only
        rw [loop_cut l _ _ _ (fun v hv' => hu v (List.mem_cons_of_mem _ hv')) (fun v hv' => hv v (List.mem_cons_of_mem _ hv')) h (by omega)]
    · rw [if_pos e] at h
      exact absurd h e
theorem dec_cut : ∀ (d : Nat) (t : Tr d) (i D c z m : Nat), i + D = 8 → rng d t → (encT d t).length ≤ 4000 → (chkT d t i c z).1 = 0 → m < (encT d t).length →
    decT D ((encT d t).take m) c = .inl 17
  | 0, t, i, D, c, z, m, _, _, _, h, _ => by simp [chkT] at h
  | d + 1, t, i, D, c, z, m, hD, hr, hl, h, hm => by
    obtain ⟨k, f, hi, hc, he⟩ := kinds h
    rw [he] at h
    obtain ⟨D, rfl⟩ : ∃ D', D = D' + 1 := ⟨D - 1, by omega⟩
    cases m with
    | zero => rw [List.take_zero]; rfl
    | succ m =>
      rcases three k f with ⟨n, rfl⟩ | ⟨s, rfl⟩ | ⟨l, rfl⟩
      · have hn : -9223372036854775808 ≤ n ∧ n ≤ 9223372036854775807 := hr.1
        rw [enc1] at hm ⊢
        rw [List.length_cons] at hm
        rw [List.take_succ_cons]
        unfold decT
        rw [if_neg (by decide), if_neg (by omega)]
        unfold bodyL
        rw [if_pos (by decide), intL_cut hn.1 hn.2 (by omega)]
      · rw [enc2] at hl hm ⊢
        rw [List.length_cons] at hm
        rw [List.take_succ_cons]
        unfold decT
        rw [if_neg (by decide), if_neg (by omega)]
        unfold bodyL
        rw [if_neg (by decide), if_pos (by decide), textL_cut (by simp at hl; omega) (by omega)]
      · rw [enc3] at hl hm ⊢
        have hcnt := loop_count l _ _ h
        simp only [List.length_cons, List.length_append] at hl hm
        rw [List.take_succ_cons]
        unfold decT
        rw [if_neg (by decide), if_neg (by omega)]
        unfold bodyL listL
        rw [if_neg (by decide), if_neg (by decide)]
        by_cases p : m < (putS l.length).length
        · rw [List.take_append_of_le_length (by omega), intL_cut (by omega) (by omega) p]
        · rw [List.take_append, List.take_of_length_le (by omega), intL_put (by omega) (by omega)]
          simp only [Int.toNat_natCast]
          rw [if_neg (by omega), loop_cut (i := i + 1) l (c + 1) _ _ (fun u hu c z rest hz => dec_enc d u (i + 1) D c z rest (by omega) (hr.2 u hu) (by have := flat_mem hu; omega) hz)
            (fun u hu c z m hz hm => dec_cut d u (i + 1) D c z m (by omega) (hr.2 u hu) (by have := flat_mem hu; omega) hz hm) h (by omega)]
end Sp
end Go.Proofs.Ytcjhgihkofmhgaa
