/-
  Layer 15: mathematics of catchments: what the ways of all nodes add up to.
-/
import Derived.Test.YtmdaanigkhikfaaQtb
namespace Go.Proofs.Ytmdaanigkhikfaa
set_option linter.unusedVariables false
set_option linter.unusedSimpArgs false
namespace Sp
/-- The nodes of a way. -/
def pth (l : List Int) : Nat → Int → List Int
  | 0, _ => []
  | f + 1, a => if a = -1 then [] else a :: pth l f (l[a.toNat]?.getD (-1))
theorem pth_stop (l : List Int) (f : Nat) : pth l f (-1) = [] := by cases f <;> simp [pth]
theorem wayC_get (l : List Int) : ∀ (f : Nat) (a : Int) (C : List Int) (j : Nat), j < C.length → (∀ b ∈ pth l f a, 0 ≤ b) → (wayC l f a C)[j]?.getD 0 = C[j]?.getD 0 + (((pth l f a).count (j : Int) : Nat) : Int)
  | 0, a, C, j, hj, hp => by simp [wayC, pth]
  | f + 1, a, C, j, hj, hp => by
    unfold wayC pth
    unfold pth at hp
    by_cases h : a = -1
    · rw [if_pos h, if_pos h]; simp
    · rw [if_neg h] at hp ⊢
      rw [if_neg h]
      have h0 : 0 ≤ a := hp a List.mem_cons_self
      rw [wayC_get l f _ _ j (by rw [List.length_set]; exact hj) (fun b hb => hp b (List.mem_cons_of_mem _ hb)), List.count_cons]
      by_cases e : a = (j : Int)
      · subst e
        have g : (C.set (j : Int).toNat (C[(j : Int).toNat]?.getD 0 + 1))[j]?.getD 0 = C[j]?.getD 0 + 1 := by
          rw [Int.toNat_natCast, List.getElem?_set_self hj]; rfl
        rw [g]
        simp
        omega
      · have n : ¬ a.toNat = j := by omega
        have g : (C.set a.toNat (C[a.toNat]?.getD 0 + 1))[j]?.getD 0 = C[j]?.getD 0 := by rw [List.getElem?_set_ne n]
        rw [g]
        have b : (a == (j : Int)) = false := by simpa using e
        simp [b]
/-- Each node's receiver is lower, or there is none. -/
def Falls (z l : List Int) : Prop := (∀ i, hz z i ≤ 50000 ∧ 0 ≤ hz z i) ∧ ∀ m : Nat, m < l.length → l[m]?.getD (-1) = -1 ∨ (0 ≤ l[m]?.getD (-1) ∧ l[m]?.getD (-1) < (l.length : Int) ∧ hz z (l[m]?.getD (-1)) < hz z (m : Int))
/-- A node without a receiver. -/
def pit (l : List Int) (b : Int) : Bool := decide (l[b.toNat]?.getD (-1) = -1)
theorem pth_in {z l : List Int} (F : Falls z l) : ∀ (f : Nat) (a : Int), (a = -1 ∨ (0 ≤ a ∧ a < (l.length : Int))) → ∀ b ∈ pth l f a, 0 ≤ b ∧ b < (l.length : Int) ∧ (b = a ∨ hz z b < hz z a)
  | 0, a, ha, b, hb => by simp [pth] at hb
  | f + 1, a, ha, b, hb => by
    unfold pth at hb
    by_cases h : a = -1
    · rw [if_pos h] at hb; simp at hb
    · rw [if_neg h] at hb
      obtain ⟨a0, a1⟩ : 0 ≤ a ∧ a < (l.length : Int) := ha.resolve_left h
      obtain ⟨m, rfl⟩ : ∃ m : Nat, a = (m : Int) := ⟨a.toNat, by omega⟩
      rw [Int.toNat_natCast] at hb
      rcases List.mem_cons.1 hb with rfl | hb
      · exact ⟨a0, a1, .inl rfl⟩
      · rcases F.2 m (by omega) with g | ⟨g0, g1, g2⟩
        · rw [g, pth_stop] at hb; simp at hb
        · obtain ⟨q0, q1, q2⟩ := pth_in F f _ (.inr ⟨g0, g1⟩) b hb
          refine ⟨q0, q1, .inr ?_⟩
          rcases q2 with rfl | q2 <;> omega
/-- A way has exactly one pit. -/
theorem pth_pit {z l : List Int} (F : Falls z l) : ∀ (f : Nat) (a : Int), 0 ≤ a → a < (l.length : Int) → hm z a ≤ f → ((pth l f a).filter (pit l)).length = 1
  | 0, a, a0, a1, hf => by
    unfold hm at hf
    rw [if_neg (by omega)] at hf
    omega
  | f + 1, a, a0, a1, hf => by
    have h : ¬ a = -1 := by omega
    unfold pth
    rw [if_neg h]
    obtain ⟨m, rfl⟩ : ∃ m : Nat, a = (m : Int) := ⟨a.toNat, by omega⟩
    rw [Int.toNat_natCast]
    rcases F.2 m (by omega) with g | ⟨g0, g1, g2⟩
    · have p : pit l (m : Int) = true := by unfold pit; rw [Int.toNat_natCast, g]; rfl
      rw [g, pth_stop, List.filter_cons_of_pos p]
      rfl
    · have p : ¬ pit l (m : Int) = true := by unfold pit; rw [Int.toNat_natCast]; simp; omega
      rw [List.filter_cons_of_neg p]
      refine pth_pit F f _ g0 g1 ?_
      have q0 := (F.1 (m : Int)).2
      have q1 := (F.1 (l[m]?.getD (-1))).2
      unfold hm at hf ⊢
      rw [if_neg h] at hf
      rw [if_neg (by omega)]
      omega
/-- How often the ways of the first nodes meet a node. -/
def cnt (l : List Int) (J j : Nat) : Nat := ((List.range J).map (fun s : Nat => (pth l 50001 (s : Int)).count (j : Int))).sum
theorem catJ_get {z l : List Int} (F : Falls z l) (j : Nat) (hj : j < l.length) : ∀ J, J ≤ l.length → (catJ l l.length J)[j]?.getD 0 = ((cnt l J j : Nat) : Int)
  | 0, _ => by simp [catJ, cnt, hj]
  | J + 1, h => by
    unfold catJ
    rw [wayC_get l _ _ _ j (by rw [catJ_len]; exact hj) (fun b hb => (pth_in F _ _ (.inr ⟨by omega, by omega⟩) b hb).1), catJ_get F j hj J (by omega)]
    unfold cnt
    rw [List.range_succ, List.map_append, List.sum_append]
    simp
theorem sum_le : ∀ (L : List Nat) (a b : Nat → Nat), (∀ s ∈ L, a s ≤ b s) → (L.map a).sum ≤ (L.map b).sum
  | [], _, _, _ => by simp
  | s :: L, a, b, h => by
    have h1 := h s List.mem_cons_self
    have h2 := sum_le L a b (fun t ht => h t (List.mem_cons_of_mem _ ht))
    simp only [List.map_cons, List.sum_cons]
    omega
theorem sum_lt : ∀ (L : List Nat) (a b : Nat → Nat), (∀ s ∈ L, a s ≤ b s) → (∃ s ∈ L, a s < b s) → (L.map a).sum < (L.map b).sum
  | [], _, _, _, ⟨s, hs, _⟩ => by simp at hs
  | t :: L, a, b, h, ⟨s, hs, hlt⟩ => by
    have h1 := h t List.mem_cons_self
    have h2 := sum_le L a b (fun u hu => h u (List.mem_cons_of_mem _ hu))
    simp only [List.map_cons, List.sum_cons]
    rcases List.mem_cons.1 hs with rfl | hs
    · omega
    · have h3 := sum_lt L a b (fun u hu => h u (List.mem_cons_of_mem _ hu)) ⟨s, hs, hlt⟩
      omega
theorem hm_pos {z : List Int} {a : Int} (h : 0 ≤ a) : 1 ≤ hm z a := by unfold hm; rw [if_neg (by omega)]; omega
/-- A way begins with its own node. -/
theorem pth_head (z l : List Int) (f : Nat) (a : Int) (a0 : 0 ≤ a) (hf : hm z a ≤ f) : 1 ≤ (pth l f a).count a := by
  obtain ⟨g, rfl⟩ : ∃ g, f = g + 1 := ⟨f - 1, by have := hm_pos (z := z) a0; omega⟩
  unfold pth
  rw [if_neg (by omega), List.count_cons_self]
  omega
/-- A way from a lower node does not meet a node. -/
theorem pth_none {z l : List Int} (F : Falls z l) (f : Nat) (a i : Int) (ha : 0 ≤ a ∧ a < (l.length : Int)) (h : hz z a < hz z i) : (pth l f a).count i = 0 := by
  refine List.count_eq_zero.2 fun hm => ?_
  obtain ⟨-, -, q⟩ := pth_in F f a (.inr ha) i hm
  rcases q with rfl | q <;> omega
/-- Behind a node comes its receiver. -/
theorem pth_next {z l : List Int} (F : Falls z l) (i : Nat) (hi : i < l.length) (k : Int) (hk : l[i]?.getD (-1) = k) (k0 : 0 ≤ k) (k1 : k < (l.length : Int)) (kh : hz z k < hz z (i : Int)) : ∀ (f : Nat) (a : Int), 0 ≤ a → a < (l.length : Int) → hm z a ≤ f → (pth l f a).count (i : Int) ≤ (pth l f a).count k
  | 0, a, a0, a1, hf => by have := hm_pos (z := z) a0; omega
  | f + 1, a, a0, a1, hf => by
    obtain ⟨m, rfl⟩ : ∃ m : Nat, a = (m : Int) := ⟨a.toNat, by omega⟩
    unfold pth
    rw [if_neg (by omega), Int.toNat_natCast]
    have low : ∀ b : Int, 0 ≤ b → hz z b < hz z (m : Int) → hm z b ≤ f := fun b b0 hb => by
      have q0 := (F.1 b).2
      unfold hm at hf ⊢
      rw [if_neg (by omega)] at hf
      rw [if_neg (by omega)]
      omega
    by_cases e : m = i
    · subst e
      rw [hk, List.count_cons_self, pth_none F f k (m : Int) ⟨k0, k1⟩ kh]
      have h1 := pth_head z l f k k0 (low k k0 kh)
      rw [List.count_cons]
      omega
    · have en : ((m : Int) == (i : Int)) = false := by simp; omega
      rcases F.2 m (by omega) with g | ⟨g0, g1, g2⟩
      · rw [g, pth_stop, List.count_cons, en]; simp
      · have h2 := pth_next F i hi k hk k0 k1 kh f _ g0 g1 (low _ g0 g2)
        rw [List.count_cons, List.count_cons, en]
        simp only [Bool.false_eq_true, if_false]
        omega
theorem hm_fuel {z l : List Int} (F : Falls z l) (a : Int) : hm z a ≤ 50001 := by
  have h := F.1 a
  unfold hm
  split <;> omega
/-- The counts grow along the ways. -/
theorem cnt_lt {z l : List Int} (F : Falls z l) (i k : Nat) (hi : i < l.length) (hk : l[i]?.getD (-1) = (k : Int)) (k1 : k < l.length) (kh : hz z (k : Int) < hz z (i : Int)) : cnt l l.length i < cnt l l.length k := by
  refine sum_lt _ _ _ (fun s hs => ?_) ⟨k, List.mem_range.2 k1, ?_⟩
  · have := List.mem_range.1 hs
    exact pth_next F i hi (k : Int) hk (by omega) (by omega) kh _ _ (by omega) (by omega) (hm_fuel F _)
  · rw [pth_none F 50001 (k : Int) (i : Int) ⟨by omega, by omega⟩ kh]
    exact pth_head z l 50001 (k : Int) (by omega) (hm_fuel F _)
theorem cnt_pos {z l : List Int} (F : Falls z l) (i : Nat) (hi : i < l.length) : 1 ≤ cnt l l.length i := by
  have h := sum_lt (List.range l.length) (fun _ => 0) (fun s : Nat => (pth l 50001 (s : Int)).count (i : Int)) (fun _ _ => Nat.zero_le _) ⟨i, List.mem_range.2 hi, pth_head z l 50001 (i : Int) (by omega) (hm_fuel F _)⟩
  unfold cnt
  omega
theorem sum_add : ∀ (L : List Nat) (a b : Nat → Nat), (L.map (fun s => a s + b s)).sum = (L.map a).sum + (L.map b).sum
  | [], _, _ => by simp
  | s :: L, a, b => by
    have h := sum_add L a b
    simp only [List.map_cons, List.sum_cons]
    omega
theorem sum_zero : ∀ (L : List Nat) (a : Nat → Nat), (∀ s ∈ L, a s = 0) → (L.map a).sum = 0
  | [], _, _ => by simp
  | s :: L, a, h => by
    have h1 := h s List.mem_cons_self
    have h2 := sum_zero L a (fun t ht => h t (List.mem_cons_of_mem _ ht))
    simp only [List.map_cons, List.sum_cons]
    omega
theorem sum_same : ∀ (L : List Nat) (a b : Nat → Nat), (∀ s ∈ L, a s = b s) → (L.map a).sum = (L.map b).sum
  | [], _, _, _ => by simp
  | s :: L, a, b, h => by
    have h1 := h s List.mem_cons_self
    have h2 := sum_same L a b (fun t ht => h t (List.mem_cons_of_mem _ ht))
    simp only [List.map_cons, List.sum_cons]
    omega
theorem sum_ones : ∀ L : List Nat, (L.map (fun _ => 1)).sum = L.length
  | [] => rfl
  | s :: L => by
    have h := sum_ones L
    simp only [List.map_cons, List.sum_cons, List.length_cons]
    omega
/-- Two sums change places. -/
theorem sum_swap (M : List Nat) (a : Nat → Nat → Nat) : ∀ L : List Nat, (L.map (fun s => (M.map (fun j => a s j)).sum)).sum = (M.map (fun j => (L.map (fun s => a s j)).sum)).sum
  | [] => by simp only [List.map_nil, List.sum_nil]; exact (sum_zero _ _ (fun _ _ => rfl)).symm
  | s :: L => by
    have h := sum_swap M a L
    simp only [List.map_cons, List.sum_cons]
    rw [h, sum_add]
/-- One place alone counts. -/
theorem sum_one (m c : Nat) : ∀ n, m < n → ((List.range n).map (fun j => if j = m then c else 0)).sum = c
  | 0, h => by omega
  | n + 1, h => by
    rw [List.range_succ, List.map_append, List.sum_append]
    by_cases e : m = n
    · subst e
      rw [sum_zero _ _ (fun s hs => by have := List.mem_range.1 hs; rw [if_neg (by omega)])]
      simp
    · rw [sum_one m c n (by omega)]
      simp
      omega
/-- The pits of a list, counted node by node. -/
theorem pit_sum (l : List Int) (n : Nat) : ∀ P : List Int, (∀ b ∈ P, 0 ≤ b ∧ b < (n : Int)) → ((List.range n).map (fun j : Nat => if pit l (j : Int) then P.count (j : Int) else 0)).sum = (P.filter (pit l)).length
  | [], _ => by simpa using sum_zero (List.range n) (fun _ => 0) (fun _ _ => rfl)
  | b :: P, h => by
    have h2 := pit_sum l n P (fun c hc => h c (List.mem_cons_of_mem _ hc))
    obtain ⟨b0, b1⟩ := h b List.mem_cons_self
    obtain ⟨m, rfl⟩ : ∃ m : Nat, b = (m : Int) := ⟨b.toNat, by omega⟩
    rw [sum_same (List.range n) _ (fun j : Nat => (if pit l (j : Int) then P.count (j : Int) else 0) + (if j = m then (if pit l (m : Int) then 1 else 0) else 0)) (fun j _ => by
      by_cases e : j = m
      · subst e
        rw [if_pos rfl, List.count_cons_self]
        split <;> omega
      · have en : ((m : Int) == (j : Int)) = false := by simp; omega
        rw [if_neg e, List.count_cons, en]
        simp), sum_add, h2, sum_one m _ n (by omega)]
    by_cases q : pit l (m : Int) = true
    · rw [if_pos q, List.filter_cons_of_pos q, List.length_cons]
    · rw [if_neg q, List.filter_cons_of_neg q]; rfl
/-- The catchments of all pits add up to the nodes. -/
theorem cnt_pits {z l : List Int} (F : Falls z l) : ((List.range l.length).map (fun j : Nat => if pit l (j : Int) then cnt l l.length j else 0)).sum = l.length := by
  rw [sum_same (List.range l.length) _ (fun j : Nat => ((List.range l.length).map (fun s : Nat => if pit l (j : Int) then (pth l 50001 (s : Int)).count (j : Int) else 0)).sum) (fun j _ => by
    by_cases q : pit l (j : Int) = true
    · rw [if_pos q]; unfold cnt; exact sum_same _ _ _ (fun s _ => (if_pos q).symm)
    · rw [if_neg q]; exact (sum_zero _ _ (fun s _ => if_neg q)).symm)]
  rw [← sum_swap (List.range l.length) (fun s j : Nat => if pit l (j : Int) then (pth l 50001 (s : Int)).count (j : Int) else 0)]
  rw [sum_same (List.range l.length) _ (fun _ => 1) (fun s hs => by
    have hl := List.mem_range.1 hs
    rw [pit_sum l l.length _ (fun b hb => ⟨(pth_in F _ _ (.inr ⟨by omega, by omega⟩) b hb).1, (pth_in F _ _ (.inr ⟨by omega, by omega⟩) b hb).2.1⟩)]
    exact pth_pit F _ _ (by omega) (by omega) (hm_fuel F _))]
  exact (sum_ones _).trans List.length_range
end Sp
end Go.Proofs.Ytmdaanigkhikfaa
