/-
  Layer 16: mathematics of the stable order and of shares.
-/
import Derived.Test.YtmdaanigkhikfabLg
namespace Go.Proofs.Ytmdaanigkhikfab
set_option linter.unusedVariables false
set_option linter.unusedSimpArgs false
namespace Sp
/-- A number stands before another one: greater keys first, equal ones by their numbers. -/
def bfr (key : Nat → Int) (x y : Nat) : Prop := key y < key x ∨ (key x = key y ∧ x < y)
theorem bfr_trans {key : Nat → Int} {x y z : Nat} (h : bfr key x y) (k : bfr key y z) : bfr key x z := by unfold bfr at *; omega
theorem keyC_lt (key : Nat → Int) (x y : Nat) : keyC key x y < 0 ↔ key y < key x := by
  unfold keyC Lib.compareInt
  split
  · omega
  · split <;> omega
theorem sw_at (d : Nat → Nat) (j k : Nat) : swF d j k = if k = j + 1 then d j else if k = j then d (j + 1) else d k := rfl
theorem bub_sorted (key : Nat → Int) (i : Nat) : ∀ (j : Nat) (d : Nat → Nat), j ≤ i → (∀ a b, a < b → b < j → bfr key (d a) (d b)) → (∀ a b, j < a → a < b → b ≤ i → bfr key (d a) (d b)) → (∀ a b, a < j → j < b → b ≤ i → bfr key (d a) (d b)) →
    (∀ b, j < b → b ≤ i → bfr key (d j) (d b)) → (∀ a, a < j → d a < d j) → ∀ a b, a < b → b ≤ i → bfr key (bubF (keyC key) j d a) (bubF (keyC key) j d b)
  | 0, d, hj, hA, hB, hC, hD, hE, a, b, hab, hb => by
    unfold bubF
    by_cases c : a = 0
    · subst c; exact hD b (by omega) hb
    · exact hB a b (by omega) hab hb
  | j + 1, d, hj, hA, hB, hC, hD, hE, a, b, hab, hb => by
    unfold bubF
    by_cases c : keyC key (d (j + 1)) (d j) < 0
    · rw [if_pos c]
      have c2 := (keyC_lt key _ _).1 c
      have e1 : swF d j (j + 1) = d j := by rw [sw_at, if_pos rfl]
      have e2 : swF d j j = d (j + 1) := by rw [sw_at, if_neg (by omega), if_pos rfl]
      have e3 : ∀ k, k ≠ j → k ≠ j + 1 → swF d j k = d k := fun k h1 h2 => by rw [sw_at, if_neg h2, if_neg h1]
      refine bub_sorted key i j (swF d j) (by omega) ?_ ?_ ?_ ?_ ?_ a b hab hb
      · intro a b h1 h2
        rw [e3 a (by omega) (by omega), e3 b (by omega) (by omega)]
        exact hA a b h1 (by omega)
      · intro a b h1 h2 h3
        rw [e3 b (by omega) (by omega)]
        by_cases q : a = j + 1
        · subst q
          rw [e1]
          exact hC j b (by omega) (by omega) h3
        · rw [e3 a (by omega) q]
          exact hB a b (by omega) h2 h3
      · intro a b h1 h2 h3
        rw [e3 a (by omega) (by omega)]
        by_cases q : b = j + 1
        · subst q
          rw [e1]
          exact hA a j h1 (by omega)
        · rw [e3 b (by omega) q]
          exact hC a b (by omega) (by omega) h3
      · intro b h1 h2
        rw [e2]
        by_cases q : b = j + 1
        · subst q
          rw [e1]
          exact .inl c2
        · rw [e3 b (by omega) q]
          exact hD b (by omega) h2
      · intro a h1
        rw [e2, e3 a (by omega) (by omega)]
        exact hE a (by omega)
    · rw [if_neg c]
      have c2 : ¬ key (d j) < key (d (j + 1)) := fun q => c ((keyC_lt key _ _).2 q)
      have ej := hE j (by omega)
      have rj : bfr key (d j) (d (j + 1)) := by unfold bfr; omega
      by_cases q1 : b < j + 1
      · exact hA a b hab q1
      · by_cases q2 : b = j + 1
        · subst q2
          by_cases q3 : a = j
          · subst q3; exact rj
          · exact bfr_trans (hA a j (by omega) (by omega)) rj
        · by_cases q4 : a < j + 1
          · exact hC a b q4 (by omega) hb
          · by_cases q5 : a = j + 1
            · subst q5; exact hD b (by omega) hb
            · exact hB a b (by omega) hab hb
theorem bub_above (cf : Nat → Nat → Int) : ∀ (j : Nat) (d : Nat → Nat) (k : Nat), j < k → bubF cf j d k = d k
  | 0, d, k, h => rfl
  | j + 1, d, k, h => by
    unfold bubF
    split
    · rw [bub_above cf j _ k (by omega), sw_at, if_neg (by omega), if_neg (by omega)]
    · rfl
theorem bub_le (cf : Nat → Nat → Int) (N : Nat) : ∀ (j : Nat) (d : Nat → Nat), (∀ k, k ≤ j → d k < N) → ∀ k, k ≤ j → bubF cf j d k < N
  | 0, d, h, k, hk => h k hk
  | j + 1, d, h, k, hk => by
    unfold bubF
    split
    · by_cases e : k = j + 1
      · subst e
        rw [bub_above cf j _ _ (by omega), sw_at, if_pos rfl]
        exact h j (by omega)
      · exact bub_le cf N j _ (fun q hq => by
          rw [sw_at]
          split
          · exact h _ (by omega)
          · split
            · exact h _ (by omega)
            · exact h _ (by omega)) k (by omega)
    · exact h k hk
theorem ins_sorted (key : Nat → Int) (n : Nat) : ∀ (m i : Nat) (d : Nat → Nat), i + m = n → (∀ a b, a < b → b < i → bfr key (d a) (d b)) → (∀ a, a < i → d a < i) → (∀ k, i ≤ k → k < n → d k = k) → ∀ a b, a < b → b < n → bfr key (insF (keyC key) m i d a) (insF (keyC key) m i d b)
  | 0, i, d, e, h1, h2, h3, a, b, hab, hb => h1 a b hab (by omega)
  | m + 1, i, d, e, h1, h2, h3, a, b, hab, hb => by
    unfold insF
    have di := h3 i (Nat.le_refl _) (by omega)
    refine ins_sorted key n m (i + 1) _ (by omega) ?_ ?_ ?_ a b hab hb
    · intro a b hab hb
      exact bub_sorted key i i d (Nat.le_refl _) h1 (fun a b h _ _ => by omega) (fun a b _ h _ => by omega) (fun b h _ => by omega) (fun a ha => by rw [di]; exact h2 a ha) a b hab (by omega)
    · intro a ha
      exact bub_le _ (i + 1) i d (fun k hk => by
        by_cases q : k = i
        · subst q; omega
        · have := h2 k (by omega); omega) a (by omega)
    · intro k hk hn
      rw [bub_above _ i d k (by omega)]
      exact h3 k (by omega) hn
/-- The sum of a function along an order. -/
def smF (f : Nat → Int) (n : Nat) (d : Nat → Nat) : Int := ((List.range n).map (fun k => f (d k))).sum
theorem smF_succ (f : Nat → Int) (n : Nat) (d : Nat → Nat) : smF f (n + 1) d = smF f n d + f (d n) := by
  unfold smF
  rw [List.range_succ, List.map_append, List.sum_append]
  simp
theorem smF_congr (f : Nat → Int) (d e : Nat → Nat) : ∀ n, (∀ k, k < n → d k = e k) → smF f n d = smF f n e
  | 0, _ => rfl
  | n + 1, h => by rw [smF_succ, smF_succ, smF_congr f d e n (fun k hk => h k (by omega)), h n (by omega)]
theorem smF_sw (f : Nat → Int) (d : Nat → Nat) (j : Nat) : ∀ q, smF f (j + 2 + q) (swF d j) = smF f (j + 2 + q) d
  | 0 => by
    have c := smF_congr f (swF d j) d j (fun k hk => by rw [sw_at, if_neg (by omega), if_neg (by omega)])
    have e1 : swF d j (j + 1) = d j := by rw [sw_at, if_pos rfl]
    have e2 : swF d j j = d (j + 1) := by rw [sw_at, if_neg (by omega), if_pos rfl]
    show smF f (j + 1 + 1) (swF d j) = smF f (j + 1 + 1) d
    rw [smF_succ, smF_succ, smF_succ, smF_succ, c, e1, e2]
    omega
  | q + 1 => by
    have h := smF_sw f d j q
    show smF f (j + 2 + q + 1) (swF d j) = smF f (j + 2 + q + 1) d
    rw [smF_succ, smF_succ, h, sw_at, if_neg (by omega), if_neg (by omega)]
theorem smF_bub (f : Nat → Int) (cf : Nat → Nat → Int) (n : Nat) : ∀ (j : Nat) (d : Nat → Nat), j < n → smF f n (bubF cf j d) = smF f n d
  | 0, d, _ => rfl
  | j + 1, d, h => by
    unfold bubF
    split
    · rw [smF_bub f cf n j _ (by omega)]
      have := smF_sw f d j (n - (j + 2))
      rwa [show j + 2 + (n - (j + 2)) = n by omega] at this
    · rfl
theorem smF_ins (f : Nat → Int) (cf : Nat → Nat → Int) (n : Nat) : ∀ (m i : Nat) (d : Nat → Nat), i + m ≤ n → smF f n (insF cf m i d) = smF f n d
  | 0, _, d, _ => rfl
  | m + 1, i, d, h => by
    unfold insF
    rw [smF_ins f cf n m (i + 1) _ (by omega), smF_bub f cf n i d (by omega)]
/-- The order as a function. -/
def ordF (cf : Nat → Nat → Int) (n : Nat) : Nat → Nat := insF cf (n - 1) 1 (fun i => if i < n then i else 0)
theorem ordL_eq (cf : Nat → Nat → Int) (n : Nat) : ordL cf n = (List.range n).map (fun k : Nat => ((ordF cf n k : Nat) : Int)) := rfl
theorem ordF_sorted (key : Nat → Int) (n : Nat) (a b : Nat) (h : a < b) (hb : b < n) : bfr key (ordF (keyC key) n a) (ordF (keyC key) n b) := by
  have z : ∀ a, a < 1 → (fun i : Nat => if i < n then i else 0) a < 1 := fun a ha => by
    simp only
    split <;> omega
  exact ins_sorted key n (n - 1) 1 _ (by omega) (fun a b h1 h2 => by omega) z (fun k hk hn => by simp [hn]) a b h hb
theorem ordF_lt (cf : Nat → Nat → Int) (n k : Nat) (h : 0 < n) : ordF cf n k < n := ins_lt (n - 1) 1 _ (fun k => by split <;> omega) k
theorem ordF_sum (f : Nat → Int) (cf : Nat → Nat → Int) (n : Nat) (h : 0 < n) : smF f n (ordF cf n) = smF f n (fun k => k) := by
  unfold ordF
  rw [smF_ins f cf n (n - 1) 1 _ (by omega)]
  exact smF_congr f _ _ n (fun k hk => by simp [hk])
theorem ordF_inj (key : Nat → Int) (n : Nat) {a b : Nat} (ha : a < n) (hb : b < n) (h : ordF (keyC key) n a = ordF (keyC key) n b) : a = b := by
  rcases Nat.lt_trichotomy a b with q | q | q
  · have := ordF_sorted key n a b q hb
    rw [h] at this
    unfold bfr at this
    omega
  · exact q
  · have := ordF_sorted key n b a q ha
    rw [h] at this
    unfold bfr at this
    omega
theorem smF_zero (f : Nat → Int) (d : Nat → Nat) : ∀ n, (∀ k, k < n → f (d k) = 0) → smF f n d = 0
  | 0, _ => rfl
  | n + 1, h => by rw [smF_succ, smF_zero f d n (fun k hk => h k (by omega)), h n (by omega)]; rfl
theorem smF_ind (i : Nat) : ∀ n, smF (fun x => if x = i then 1 else 0) n (fun k => k) = if i < n then 1 else 0
  | 0 => by simp [smF]
  | n + 1 => by
    rw [smF_succ, smF_ind i n]
    by_cases c : n = i
    · subst c; simp
    · by_cases d : i < n
      · rw [if_pos d, if_neg c, if_pos (by omega)]; rfl
      · rw [if_neg d, if_neg c, if_neg (by omega)]; rfl
/-- Each number has its place. -/
theorem ordF_surj (cf : Nat → Nat → Int) (n i : Nat) (h : i < n) : ∃ k, k < n ∧ ordF cf n k = i := by
  apply Classical.byContradiction
  intro c
  have z := smF_zero (fun x => if x = i then 1 else 0) (ordF cf n) n (fun k hk => if_neg (fun e => c ⟨k, hk, e⟩))
  rw [ordF_sum _ cf n (by omega), smF_ind i n, if_pos h] at z
  exact absurd z (by decide)
/-! ### Shares -/
theorem count_le_one_of_inj {d : Nat → Nat} (x : Nat) : ∀ m : Nat, (∀ a b, a < m → b < m → d a = d b → a = b) → ((List.range m).map (fun k : Nat => ((d k : Nat) : Int))).count (x : Int) ≤ 1
  | 0, _ => by simp
  | m + 1, h => by
    rw [List.range_succ, List.map_append, List.count_append]
    have ih := count_le_one_of_inj x m (fun a b ha hb e => h a b (by omega) (by omega) e)
    by_cases c : d m = x
    · have z : ((List.range m).map (fun k : Nat => ((d k : Nat) : Int))).count (x : Int) = 0 := by
        refine List.count_eq_zero.2 fun hm => ?_
        obtain ⟨k, hk, e⟩ := List.mem_map.1 hm
        have hk := List.mem_range.1 hk
        have := h k m (by omega) (by omega) (by omega)
        omega
      rw [z]
      simp [c]
    · have : ((List.map (fun k : Nat => ((d k : Nat) : Int)) [m]).count (x : Int)) = 0 := by
        refine List.count_eq_zero.2 fun hm => ?_
        simp at hm
        omega
      omega
theorem bump_get : ∀ (O L : List Int) (i : Nat), i < L.length → (∀ v ∈ O, 0 ≤ v) → (bump L O)[i]?.getD 0 = L[i]?.getD 0 + ((O.count (i : Int) : Nat) : Int)
  | [], L, i, hi, h => by simp [bump]
  | x :: O, L, i, hi, h => by
    unfold bump
    have x0 := h x List.mem_cons_self
    rw [bump_get O _ i (by rw [List.length_set]; exact hi) (fun v hv => h v (List.mem_cons_of_mem _ hv)), List.count_cons]
    by_cases e : x = (i : Int)
    · subst e
      have g : (L.set (i : Int).toNat (L[(i : Int).toNat]?.getD 0 + 1))[i]?.getD 0 = L[i]?.getD 0 + 1 := by
        rw [Int.toNat_natCast, List.getElem?_set_self hi]; rfl
      rw [g]
      simp
      omega
    · have n : ¬ x.toNat = i := by omega
      have g : (L.set x.toNat (L[x.toNat]?.getD 0 + 1))[i]?.getD 0 = L[i]?.getD 0 := by rw [List.getElem?_set_ne n]
      rw [g]
      have b : (x == (i : Int)) = false := by simpa using e
      simp [b]
theorem bump_sum : ∀ (O L : List Int), (∀ v ∈ O, 0 ≤ v ∧ v < L.length) → (bump L O).sum = L.sum + O.length
  | [], L, h => by simp [bump]
  | x :: O, L, h => by
    unfold bump
    obtain ⟨x0, x1⟩ := h x List.mem_cons_self
    have xl : x.toNat < L.length := by omega
    rw [bump_sum O _ (fun v hv => by rw [List.length_set]; exact h v (List.mem_cons_of_mem _ hv)), getD_at _ xl, sum_set L _ _ xl, List.length_cons]
    push_cast
    omega
theorem floJ_all (T : Int) (P : List Int) : floJ T P P.length = P.map (flo T) := by
  apply List.ext_getElem
  · simp [floJ]
  · intro i h1 h2
    have hi : i < P.length := by simpa [floJ] using h1
    rw [floJ_get, if_pos hi, getD_at i hi]
    simp
theorem smF_remK (P : List Int) (T : Int) : smF (remK P T) P.length (fun k => k) = (P.map (fun p => (1000000 * p).tmod T)).sum := by
  unfold smF
  congr 1
  apply List.ext_getElem
  · simp
  · intro i h1 h2
    have hi : i < P.length := by simpa using h1
    simp only [List.getElem_map, List.getElem_range]
    unfold remK
    rw [getD_at i hi]
theorem smF_le (f : Nat → Int) (B : Int) (d : Nat → Nat) : ∀ n, (∀ k, k < n → f (d k) ≤ B) → smF f n d ≤ B * n
  | 0, _ => by simp [smF]
  | n + 1, h => by
    rw [smF_succ]
    have := smF_le f B d n (fun k hk => h k (by omega))
    have := h n (by omega)
    push_cast
    rw [Int.mul_add]
    omega
theorem smF_tail (f : Nat → Int) (d : Nat → Nat) (k : Nat) : ∀ q, (∀ r, k ≤ r → r < k + q → f (d r) = 0) → smF f (k + q) d = smF f k d
  | 0, _ => rfl
  | q + 1, h => by
    show smF f (k + q + 1) d = _
    rw [smF_succ, smF_tail f d k q (fun r h1 h2 => h r h1 (by omega)), h (k + q) (by omega) (by omega)]
    omega
theorem remK_in {P : List Int} {T : Int} (t1 : 1 ≤ T) (hp : ∀ p ∈ P, 0 ≤ p) (k : Nat) : 0 ≤ remK P T k ∧ remK P T k < T := by
  unfold remK
  have p0 : 0 ≤ P[k]?.getD 0 := by
    by_cases h : k < P.length
    · rw [getD_at k h]; exact hp _ (List.getElem_mem h)
    · rw [List.getElem?_eq_none (by omega)]; exact Int.le_refl _
  exact ⟨Int.tmod_nonneg T (by omega), Int.tmod_lt_of_pos _ (by omega)⟩
/-- Those that get one more have something left. -/
theorem rem_pos {P : List Int} {T : Int} (t1 : 1 ≤ T) (hp : ∀ p ∈ P, 0 ≤ p) (hs : P.sum = T) (k : Nat) (hk : (k : Int) < misJ T P P.length) : 0 < remK P T (ordF (keyC (remK P T)) P.length k) := by
  obtain ⟨m0, m1⟩ := mis_in t1 hp hs
  have kn : k < P.length := by omega
  apply Int.lt_of_not_ge
  intro c
  have z : ∀ r, k ≤ r → r < k + (P.length - k) → remK P T (ordF (keyC (remK P T)) P.length r) = 0 := by
    intro r h1 h2
    have r0 := (remK_in t1 hp (ordF (keyC (remK P T)) P.length r)).1
    by_cases e : r = k
    · subst e; omega
    · have := ordF_sorted (remK P T) P.length k r (by omega) (by omega)
      unfold bfr at this
      omega
  have s1 := smF_tail (remK P T) (ordF (keyC (remK P T)) P.length) k (P.length - k) z
  rw [show k + (P.length - k) = P.length by omega, ordF_sum _ _ _ (by omega), smF_remK] at s1
  have s2 := smF_le (remK P T) (T - 1) (ordF (keyC (remK P T)) P.length) k (fun r _ => by have := (remK_in t1 hp (ordF (keyC (remK P T)) P.length r)).2; omega)
  obtain ⟨h1, h2, h3, h4⟩ := mis_sum t1 P hp
  unfold misJ at hk
  rw [List.take_length] at hk
  rw [hs] at h1
  generalize (P.map (flo T)).sum = F at *
  have e : (1000000 - F) * T = (P.map (fun p => (1000000 * p).tmod T)).sum := by rw [Int.sub_mul]; omega
  have g : ((k : Int) + 1) * T ≤ (1000000 - F) * T := Int.mul_le_mul_of_nonneg_right (by omega) (by omega)
  rw [Int.sub_mul, Int.mul_comm T (k : Int)] at s2
  rw [Int.add_mul] at g
  omega
/-- What the shares are. -/
theorem apS_ok {P : List Int} {T : Int} (t1 : 1 ≤ T) (hp : ∀ p ∈ P, 0 ≤ p) (hs : P.sum = T) :
    (apS T P).sum = 1000000 ∧ ∀ i, (hi : i < P.length) → 0 ≤ (apS T P)[i]?.getD 0 ∧ 1000000 * P[i] - T < (apS T P)[i]?.getD 0 * T ∧ (apS T P)[i]?.getD 0 * T < 1000000 * P[i] + T := by
  obtain ⟨m0, m1⟩ := mis_in t1 hp hs
  obtain ⟨mm, hmm⟩ : ∃ mm : Nat, misJ T P P.length = (mm : Int) := ⟨(misJ T P P.length).toNat, by omega⟩
  have n0 : 0 < P.length := by omega
  have mle : mm ≤ P.length := by omega
  have ot : (ordL (keyC (remK P T)) P.length).take mm = (List.range mm).map (fun k : Nat => ((ordF (keyC (remK P T)) P.length k : Nat) : Int)) := by
    rw [ordL_eq, ← List.map_take, List.take_range, Nat.min_eq_left (by omega)]
  have oi : ∀ v ∈ (ordL (keyC (remK P T)) P.length).take mm, 0 ≤ v ∧ v < P.length := fun v hv => ordL_in v (List.mem_of_mem_take hv)
  unfold apS
  rw [hmm, Int.toNat_natCast, floJ_all]
  constructor
  · rw [bump_sum _ _ (by simpa using oi), List.length_take, ordL_len]
    unfold misJ at hmm
    rw [List.take_length] at hmm
    have : min mm P.length = mm := by omega
    rw [this]
    omega
  · intro i hi
    rw [bump_get _ _ i (by simpa using hi) (fun v hv => (oi v hv).1), getD_at i (by simpa using hi), List.getElem_map]
    obtain ⟨f1, f2, f3, f4, -⟩ := flo_in t1 (hp _ (List.getElem_mem hi))
    have c1 := count_le_one_of_inj (d := ordF (keyC (remK P T)) P.length) i mm (fun a b ha hb e => ordF_inj (remK P T) P.length (by omega) (by omega) e)
    rw [← ot] at c1
    have c2 : ((ordL (keyC (remK P T)) P.length).take mm).count (i : Int) = 0 ∨ 0 < (1000000 * P[i]).tmod T := by
      by_cases z : ((ordL (keyC (remK P T)) P.length).take mm).count (i : Int) = 0
      · exact .inl z
      · right
        have hm : (i : Int) ∈ (ordL (keyC (remK P T)) P.length).take mm := List.count_pos_iff.1 (by omega)
        rw [ot] at hm
        obtain ⟨k, hk, e⟩ := List.mem_map.1 hm
        have hk := List.mem_range.1 hk
        have r := rem_pos t1 hp hs k (by omega)
        have e2 : ordF (keyC (remK P T)) P.length k = i := by omega
        rw [e2] at r
        unfold remK at r
        rwa [getD_at i hi] at r
    generalize ((ordL (keyC (remK P T)) P.length).take mm).count (i : Int) = c at c1 c2 ⊢
    generalize flo T P[i] = F at *
    have e : (F + (c : Int)) * T = F * T + (c : Int) * T := Int.add_mul _ _ _
    have d : (c : Int) * T = 0 ∨ ((c : Int) * T = T ∧ 0 < (1000000 * P[i]).tmod T) := by
      rcases Nat.eq_zero_or_pos c with h | h
      · subst h; left; simp
      · have : c = 1 := by omega
        subst this
        right
        refine ⟨by simp, ?_⟩
        rcases c2 with h2 | h2
        · omega
        · exact h2
    rw [e]
    generalize (c : Int) * T = X at *
    generalize F * T = Y at *
    refine ⟨by omega, by omega, by omega⟩
end Sp
end Go.Proofs.Ytmdaanigkhikfab
