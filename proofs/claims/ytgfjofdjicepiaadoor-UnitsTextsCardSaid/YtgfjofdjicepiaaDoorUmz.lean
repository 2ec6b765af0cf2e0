/-
  Plain mathematics of layer 4: what is written is read back; both ways of cutting a text are one; no Go in sight (merged from Umb, Umc, Umd).
-/
import Derived.Test.YtgfjofdjicepiaaDoorUm
namespace Go.Proofs.YtgfjofdjicepiaaDoor
set_option linter.unusedVariables false
set_option linter.unusedSimpArgs false
namespace Sp
theorem digit_nat4 {u : Nat} (h : u < 10) : (UInt8.ofNat (48 + u)).toNat = 48 + u := by
  rw [UInt8.toNat_ofNat']
  omega
theorem dec_isD (u : Nat) : (Lib.decDigits u).all isD = true := by
  induction u using Nat.strongRecOn with
  | ind u ih =>
    rw [Lib.decDigits]
    by_cases h : u < 10
    · rw [dif_pos h]
      simp only [List.all_cons, List.all_nil, Bool.and_true]
      rw [isD_iff, digit_nat4 h]; omega
    · rw [dif_neg h, List.all_append, ih (u / 10) (by omega), Bool.true_and]
      simp only [List.all_cons, List.all_nil, Bool.and_true]
      rw [isD_iff, digit_nat4 (by omega)]; omega
theorem dec_pos (u : Nat) : 0 < (Lib.decDigits u).length := by rw [Lib.decDigits_length]; exact Lib.nDigits_pos u
theorem dec_head (u : Nat) (h0 : 1 ≤ u) : (Lib.decDigits u).head? ≠ some 48 := by
  induction u using Nat.strongRecOn with
  | ind u ih =>
    rw [Lib.decDigits]
    by_cases h : u < 10
    · rw [dif_pos h]
      simp only [List.head?_cons, ne_eq, Option.some.injEq]
      intro e
      have := congrArg UInt8.toNat e
      rw [digit_nat4 h] at this
      have h48 : (48 : UInt8).toNat = 48 := rfl
      omega
    · rw [dif_neg h]
      have hh := ih (u / 10) (by omega) (by omega)
      cases hl : Lib.decDigits (u / 10) with
      | nil => have := dec_pos (u / 10); rw [hl] at this; simp at this
      | cons c l => rw [hl] at hh; simpa using hh
theorem valS_append : ∀ (l m : List UInt8) (n : Int), valS n (l ++ m) = if (valS n l).2 = 0 then valS (valS n l).1 m else (0, 8)
  | [], m, n => by simp [valS]
  | c :: l, m, n => by
    simp only [List.cons_append]
    rw [valS_cons, valS_cons]
    by_cases h : 1000000000000000 < 10 * n + ((c.toNat : Int) - 48)
    · rw [if_pos h, if_pos h]; simp
    · rw [if_neg h, if_neg h]; exact valS_append l m _
theorem val_one {n : Int} {u : Nat} (h : u < 10) (hn : 10 * n + u ≤ 1000000000000000) : valS n [UInt8.ofNat (48 + u)] = (10 * n + u, 0) := by
  rw [valS_cons, digit_nat4 h, if_neg (by omega)]
  simp only [valS]
  congr 1
  omega
theorem val_dec (u : Nat) (hu : u ≤ 1000000000000000) : valS 0 (Lib.decDigits u) = ((u : Int), 0) := by
  induction u using Nat.strongRecOn with
  | ind u ih =>
    rw [Lib.decDigits]
    by_cases h : u < 10
    · rw [dif_pos h, val_one h (by omega)]; simp
    · rw [dif_neg h, valS_append, ih (u / 10) (by omega) (by omega)]
      simp only [if_true]
      rw [val_one (by omega) (by omega)]
      congr 1
      omega
theorem val_zeros : ∀ (c : Nat) (l : List UInt8), valS 0 (List.replicate c 48 ++ l) = valS 0 l
  | 0, l => rfl
  | c + 1, l => by
    rw [List.replicate_succ, List.cons_append, valS_cons, if_neg (by decide)]
    exact val_zeros c l
theorem nDigits_le4 : ∀ (k u : Nat), u < 10 ^ (k + 1) → Lib.nDigits u ≤ k + 1
  | 0, u, h => by rw [Lib.nDigits_small (by simpa using h)]; omega
  | k + 1, u, h => by
    by_cases c : u < 10
    · rw [Lib.nDigits_small c]; omega
    · rw [Lib.nDigits_big c]
      have := nDigits_le4 k (u / 10) (by rw [Nat.pow_succ] at h; omega)
      omega
theorem itoa_dec {n : Int} (h : 0 ≤ n) : Lib.itoa n = Lib.decDigits n.toNat := by
  unfold Lib.itoa
  rw [if_neg (by omega)]
theorem digB_of {l : List UInt8} (h : l.all isD = true) (h0 : 0 < l.length) : digB l = true := by
  unfold digB
  rw [h]
  cases l with
  | nil => simp at h0
  | cons c l => rfl
theorem whole_dec (u : Nat) : wholeB (Lib.decDigits u) = true := by
  unfold wholeB
  rw [digB_of (dec_isD u) (dec_pos u), Bool.true_and]
  by_cases h : u = 0
  · subst h; rw [Lib.decDigits_one (i := 0) (by omega)]; decide
  · have := dec_head u (by omega)
    have e : ((Lib.decDigits u).head? == some 48) = false := by simpa using this
    rw [e]; simp
theorem isD_ne {c b : UInt8} (h : isD c = true) (hb : isD b = false) : ¬ c = b := by
  intro e
  subst e
  rw [h] at hb
  exact absurd hb (by simp)
/-- A byte that is no digit, behind digits. -/
theorem at1_digits (b : UInt8) (hb : isD b = false) (l m : List UInt8) (h : l.all isD = true) : at1 b (l ++ b :: m) = l.length := by
  have hl : l.length < (l ++ b :: m).length := by simp
  have hn : ∀ j, j < l.length → ∀ hj : j < (l ++ b :: m).length, ¬ (l ++ b :: m)[j] = b := by
    intro j h1 hj
    rw [List.getElem_append_left h1]
    exact isD_ne (List.all_eq_true.1 h _ (List.getElem_mem h1)) hb
  exact (at1_step hl hn).1 (by simp)
theorem at1_alone (b : UInt8) (hb : isD b = false) (l : List UInt8) (h : l.all isD = true) : at1 b l = l.length :=
  at1_none fun j hj => isD_ne (List.all_eq_true.1 h _ (List.getElem_mem hj)) hb
theorem pad_isD {n : Int} (hn : 0 ≤ n) (w : Nat) : (padL n w).all isD = true := by
  unfold padL
  rw [List.all_append, itoa_dec hn, dec_isD, Bool.and_true, List.all_eq_true]
  intro c hc
  rw [(List.mem_replicate.1 hc).2]
  decide
theorem pad_val {n : Int} (hn : 0 ≤ n) (h1 : n ≤ 1000000000000000) (w : Nat) : valS 0 (padL n w) = (n, 0) := by
  unfold padL
  rw [val_zeros, itoa_dec hn, val_dec _ (by omega)]
  congr 1
  omega
/-- Each day is restored from its date. -/
theorem date_back {day : Int} (h0 : 0 ≤ day) (h1 : day ≤ 100000) : dateR (dayL day) = (day, 0) := by
  unfold dayL
  have q : 0 ≤ day / 365 ∧ day / 365 ≤ 273 := by omega
  have r : 0 ≤ day % 365 ∧ day % 365 ≤ 364 := by omega
  have e : 365 * (day / 365) + day % 365 = day := Int.mul_ediv_add_emod day 365
  generalize day / 365 = y at q e ⊢
  generalize day % 365 = z at r e ⊢
  have ly : (Lib.itoa y).length ≤ 4 := by
    rw [itoa_dec q.1, Lib.decDigits_length]
    exact nDigits_le4 3 _ (by omega)
  have lz : (padL (z + 1) 3).length = 3 := by
    unfold padL
    rw [List.length_append, List.length_replicate, itoa_dec (by omega), Lib.decDigits_length]
    have := nDigits_le4 2 (z + 1).toNat (by omega)
    omega
  have dy : (Lib.itoa y).all isD = true := by rw [itoa_dec q.1]; exact dec_isD _
  have wy : wholeB (Lib.itoa y) = true := by rw [itoa_dec q.1]; exact whole_dec _
  have vy : valS 0 (Lib.itoa y) = (y, 0) := by
    rw [itoa_dec q.1, val_dec _ (by omega)]
    congr 1
    omega
  have vz := pad_val (n := z + 1) (by omega) (by omega) 3
  have dz := digB_of (pad_isD (n := z + 1) (by omega) 3) (by omega)
  have at' : at1 45 (Lib.itoa y ++ [45] ++ padL (z + 1) 3) = (Lib.itoa y).length := by
    rw [List.append_assoc]
    exact at1_digits 45 (by decide) _ _ dy
  have t1 : (Lib.itoa y ++ [45] ++ padL (z + 1) 3).take (Lib.itoa y).length = Lib.itoa y := by rw [List.append_assoc]; simp
  have t2 : (Lib.itoa y ++ [45] ++ padL (z + 1) 3).drop ((Lib.itoa y).length + 1) = padL (z + 1) 3 := by
    have : (Lib.itoa y ++ [45]).length = (Lib.itoa y).length + 1 := by simp
    rw [← this, List.drop_left]
  unfold dateR
  rw [at', t1, t2, wy, vy, vz, dz, lz]
  simp only
  rw [if_neg (by rintro (h | h | h | h); exact absurd h (by simp); omega; exact absurd h (by simp); exact h rfl), if_neg (by omega)]
  congr 1
  omega
end Sp
namespace Sp
/-- How many digits a text begins with. -/
def dn (l : List UInt8) : Nat := l.findIdx (fun c => !isD c)
theorem dn_le (l : List UInt8) : dn l ≤ l.length := List.findIdx_le_length
theorem digB_parts {L : List UInt8} (h : digB L = true) : L.all isD = true ∧ 0 < L.length := by
  unfold digB at h
  rw [Bool.and_eq_true] at h
  refine ⟨h.1, ?_⟩
  cases L with
  | nil => simp at h
  | cons c l => simp
theorem wholeB_parts {L : List UInt8} (h : wholeB L = true) : L.all isD = true ∧ 0 < L.length ∧ (1 < L.length → ¬ L.head? = some 48) := by
  unfold wholeB at h
  rw [Bool.and_eq_true, Bool.or_eq_true] at h
  obtain ⟨a, b⟩ := digB_parts h.1
  refine ⟨a, b, fun l1 e => ?_⟩
  rcases h.2 with q | q
  · have := beq_iff_eq.1 q
    rw [this] at l1
    simp at l1
  · rw [e] at q
    simp at q
theorem wholeB_of {L : List UInt8} (h1 : L.all isD = true) (h2 : 0 < L.length) (h3 : 1 < L.length → ¬ L.head? = some 48) : wholeB L = true := by
  unfold wholeB
  rw [digB_of h1 h2, Bool.true_and, Bool.or_eq_true]
  cases L with
  | nil => simp at h2
  | cons c l =>
    cases l with
    | nil =>
      by_cases q : c = 48
      · left; rw [q]; rfl
      · right; simpa using q
    | cons c2 l =>
      right
      have := h3 (by simp)
      simpa using this
theorem at1_mem (b : UInt8) (l m : List UInt8) (h : ∀ c, c ∈ l → ¬ c = b) : at1 b (l ++ b :: m) = l.length := by
  have hl : l.length < (l ++ b :: m).length := by simp
  have hn : ∀ j, j < l.length → ∀ hj : j < (l ++ b :: m).length, ¬ (l ++ b :: m)[j] = b := by
    intro j h1 hj
    rw [List.getElem_append_left h1]
    exact h _ (List.getElem_mem h1)
  exact (at1_step hl hn).1 (by simp)
theorem at1_no (b : UInt8) (l : List UInt8) (h : ∀ c, c ∈ l → ¬ c = b) : at1 b l = l.length :=
  at1_none fun j hj => h _ (List.getElem_mem hj)
theorem at1_split {b : UInt8} {l : List UInt8} (h : at1 b l < l.length) : l = l.take (at1 b l) ++ b :: l.drop (at1 b l + 1) := by
  have e := List.findIdx_getElem (w := h)
  have e2 : l[at1 b l] = b := beq_iff_eq.1 e
  conv => lhs; rw [← List.take_append_drop (at1 b l) l, List.drop_eq_getElem_cons h, e2]
theorem dn_take (l : List UInt8) : (l.take (dn l)).all isD = true := by
  rw [List.all_eq_true]
  intro c hc
  obtain ⟨j, hj, rfl⟩ := List.getElem_of_mem hc
  rw [List.length_take] at hj
  have h2 : j < dn l := by omega
  have := List.not_of_lt_findIdx (p := fun c => !isD c) (xs := l) (i := j) h2
  rw [List.getElem_take]
  simpa using this
theorem dn_next (l : List UInt8) (h : dn l < l.length) : isD (l[dn l]) = false := by
  have e := List.findIdx_getElem (w := h)
  have e2 : (!isD (l[dn l])) = true := e
  simpa using e2
theorem dn_at {l : List UInt8} {k : Nat} (h : k ≤ l.length) (ha : ∀ j, j < k → ∀ hj : j < l.length, isD (l[j]) = true) (hs : k = l.length ∨ ∃ h2 : k < l.length, isD (l[k]) = false) : dn l = k := by
  have h0 := dn_le l
  rcases Nat.lt_trichotomy (dn l) k with c | c | c
  · have hl : dn l < l.length := by omega
    have := dn_next l hl
    rw [ha (dn l) c hl] at this
    exact absurd this (by simp)
  · exact c
  · rcases hs with e | ⟨h2, e⟩
    · omega
    · have := List.not_of_lt_findIdx (p := fun c => !isD c) (xs := l) (i := k) c
      rw [e] at this
      simp at this
theorem dn_stop (l m : List UInt8) (c : UInt8) (h : l.all isD = true) (hc : isD c = false) : dn (l ++ c :: m) = l.length := by
  refine dn_at (by simp) (fun j h1 hj => ?_) (.inr ⟨by simp, by simpa using hc⟩)
  rw [List.getElem_append_left h1]
  exact List.all_eq_true.1 h _ (List.getElem_mem h1)
theorem dn_all (l : List UInt8) (h : l.all isD = true) : dn l = l.length :=
  dn_at (Nat.le_refl _) (fun j h1 hj => List.all_eq_true.1 h _ (List.getElem_mem hj)) (.inl rfl)

structure Good (r A P u : List UInt8) (d : Nat) : Prop where
  w : wholeB A = true
  p : P.all isD = true
  n : P.length ≤ d
  e : r = A ++ (if P = [] then [] else 46 :: P) ++ 32 :: u
def allD (A P : List UInt8) (d : Nat) : List UInt8 := A ++ P ++ List.replicate (d - P.length) 48
/-- How the package cuts a number. -/
def o1 (r : List UInt8) (d : Nat) (u : List UInt8) : Option (List UInt8) :=
  match adS (r.take (at1 32 r)) d with
  | none => none
  | some D => if r.drop (at1 32 r + 1) ≠ u then none else some D
/-- How the reference cuts it. -/
def o2 (r : List UInt8) (d : Nat) (u : List UInt8) : Option (List UInt8) :=
  if dn r = 0 ∨ (1 < dn r ∧ r.head? = some 48) then none
  else if (r.drop (dn r)).head? = some 46 then
    if dn (r.drop (dn r + 1)) = 0 ∨ d < dn (r.drop (dn r + 1)) then none
    else if r.drop (dn r + 1 + dn (r.drop (dn r + 1))) ≠ 32 :: u then none
    else some (allD (r.take (dn r)) ((r.drop (dn r + 1)).take (dn (r.drop (dn r + 1)))) d)
  else if r.drop (dn r) ≠ 32 :: u then none else some (allD (r.take (dn r)) [] d)
theorem mem_ne {l : List UInt8} {b : UInt8} (h : l.all isD = true) (hb : isD b = false) : ∀ c, c ∈ l → ¬ c = b :=
  fun c hc => isD_ne (List.all_eq_true.1 h c hc) hb
theorem o1_good {r A P u : List UInt8} {d : Nat} (g : Good r A P u d) : o1 r d u = some (allD A P d) := by
  obtain ⟨wa, wl, wh⟩ := wholeB_parts g.w
  have hx : at1 32 r = (A ++ (if P = [] then [] else 46 :: P)).length := by
    rw [g.e]
    refine at1_mem 32 _ _ fun c hc => ?_
    rw [List.mem_append] at hc
    rcases hc with hc | hc
    · exact mem_ne wa (by decide) c hc
    · split at hc
      · exact absurd hc (by simp)
      · rw [List.mem_cons] at hc
        rcases hc with rfl | hc
        · decide
        · exact mem_ne g.p (by decide) c hc
  have t1 : r.take (at1 32 r) = A ++ (if P = [] then [] else 46 :: P) := by rw [hx, g.e, List.take_left]
  have t2 : r.drop (at1 32 r + 1) = u := by
    rw [hx, g.e]
    have : (A ++ (if P = [] then [] else 46 :: P) ++ 32 :: u) = (A ++ (if P = [] then [] else 46 :: P) ++ [32]) ++ u := by simp
    rw [this]
    have l2 : (A ++ (if P = [] then [] else 46 :: P)).length + 1 = (A ++ (if P = [] then [] else 46 :: P) ++ [32]).length := by rw [List.length_append (bs := [32])]; rfl
    rw [l2, List.drop_left]
  unfold o1
  rw [t1, t2]
  have had : adS (A ++ (if P = [] then [] else 46 :: P)) d = some (allD A P d) := by
    unfold adS allD
    by_cases hp : P = []
    · subst hp
      simp only [if_true, List.append_nil]
      rw [at1_no 46 A (mem_ne wa (by decide)), List.take_length, List.drop_eq_nil_of_le (by omega)]
      rw [if_neg (by rw [g.w]; simp)]
      simp
    · rw [if_neg hp, at1_mem 46 A P (mem_ne wa (by decide)), List.take_left]
      have : A ++ 46 :: P = (A ++ [46]) ++ P := by simp
      have l2 : A.length + 1 = (A ++ [46]).length := by simp
      rw [this, l2, List.drop_left]
      have hd : digB P = true := digB_of g.p (by cases P with | nil => exact absurd rfl hp | cons c l => simp)
      rw [if_neg (by rw [g.w, hd]; have := g.n; simp; omega)]
  rw [had]
  simp only [ne_eq, not_true_eq_false, if_false]
theorem good_o1 {r u D : List UInt8} {d : Nat} (hu : ¬ u = []) (h : o1 r d u = some D) : ∃ A P, Good r A P u d ∧ D = allD A P d := by
  unfold o1 at h
  generalize hx : r.take (at1 32 r) = x at h
  cases ha : adS x d with
  | none => rw [ha] at h; exact absurd h (by simp)
  | some E =>
    rw [ha] at h
    simp only at h
    by_cases hy : r.drop (at1 32 r + 1) ≠ u
    · rw [if_pos hy] at h; exact absurd h (by simp)
    · rw [if_neg hy] at h
      have hy2 : r.drop (at1 32 r + 1) = u := by simpa using hy
      obtain rfl : E = D := by simpa using h
      have hl : at1 32 r < r.length := by
        rcases Nat.lt_or_ge (at1 32 r) r.length with q | q
        · exact q
        · rw [List.drop_eq_nil_of_le (by omega)] at hy2
          exact absurd hy2.symm hu
      have hr := at1_split hl
      rw [hx, hy2] at hr
      unfold adS at ha
      by_cases hc : wholeB (x.take (at1 46 x)) = false ∨ (at1 46 x < x.length ∧ digB (x.drop (at1 46 x + 1)) = false) ∨ d < (x.drop (at1 46 x + 1)).length
      · rw [if_pos hc] at ha; exact absurd ha (by simp)
      · rw [if_neg hc] at ha
        have c1 : wholeB (x.take (at1 46 x)) = true := by
          cases q : wholeB (x.take (at1 46 x)) with
          | true => rfl
          | false => exact absurd (.inl q) hc
        have c3 : (x.drop (at1 46 x + 1)).length ≤ d := by
          rcases Nat.lt_or_ge d (x.drop (at1 46 x + 1)).length with q | q
          · exact absurd (.inr (.inr q)) hc
          · exact q
        by_cases hp : at1 46 x < x.length
        · have c2 : digB (x.drop (at1 46 x + 1)) = true := by
            cases q : digB (x.drop (at1 46 x + 1)) with
            | true => rfl
            | false => exact absurd (.inr (.inl ⟨hp, q⟩)) hc
          obtain ⟨p1, p2⟩ := digB_parts c2
          refine ⟨x.take (at1 46 x), x.drop (at1 46 x + 1), ⟨c1, p1, c3, ?_⟩, ?_⟩
          · have hn : ¬ x.drop (at1 46 x + 1) = [] := by intro e; rw [e] at p2; simp at p2
            rw [if_neg hn]
            have := at1_split hp
            rw [← this]
            exact hr
          · unfold allD
            exact (Option.some.inj ha).symm
        · have e0 : x.drop (at1 46 x + 1) = [] := List.drop_eq_nil_of_le (by omega)
          have e1 : x.take (at1 46 x) = x := List.take_of_length_le (by omega)
          rw [e0, e1] at ha
          rw [e1] at c1
          refine ⟨x, [], ⟨c1, by simp, by simp, ?_⟩, ?_⟩
          · simpa using hr
          · unfold allD
            exact (Option.some.inj ha).symm
theorem o2_good {r A P u : List UInt8} {d : Nat} (g : Good r A P u d) : o2 r d u = some (allD A P d) := by
  obtain ⟨wa, wl, wh⟩ := wholeB_parts g.w
  have hh : r.head? = A.head? := by
    rw [g.e]
    cases A with
    | nil => simp at wl
    | cons c l => simp
  by_cases hp : P = []
  · have e : r = A ++ 32 :: u := by rw [g.e, if_pos hp]; simp
    have hd : dn r = A.length := by rw [e]; exact dn_stop A u 32 wa (by decide)
    have t1 : r.take A.length = A := by rw [e, List.take_left]
    have t2 : r.drop A.length = 32 :: u := by rw [e, List.drop_left]
    unfold o2
    rw [hd, t1, t2, hh, if_neg (by rintro (q | q); omega; exact wh q.1 q.2), if_neg (by simp), if_neg (by simp), hp]
  · have e : r = A ++ 46 :: (P ++ 32 :: u) := by rw [g.e, if_neg hp]; simp
    have hd : dn r = A.length := by rw [e]; exact dn_stop A _ 46 wa (by decide)
    have t1 : r.take A.length = A := by rw [e, List.take_left]
    have t2 : r.drop A.length = 46 :: (P ++ 32 :: u) := by rw [e, List.drop_left]
    have t3 : r.drop (A.length + 1) = P ++ 32 :: u := by
      rw [← List.drop_drop, t2]; rfl
    have hd2 : dn (P ++ 32 :: u) = P.length := dn_stop P u 32 g.p (by decide)
    have t4 : r.drop (A.length + 1 + P.length) = 32 :: u := by
      rw [← List.drop_drop, t3, List.drop_left]
    have t5 : (P ++ 32 :: u).take P.length = P := List.take_left
    have pl : 0 < P.length := by cases P with | nil => exact absurd rfl hp | cons c l => simp
    have := g.n
    unfold o2
    rw [hd, t1, t2, t3, hd2, t4, t5, hh, if_neg (by rintro (q | q); omega; exact wh q.1 q.2), if_pos (by simp), if_neg (by omega), if_neg (by simp)]
theorem good_o2 {r u D : List UInt8} {d : Nat} (h : o2 r d u = some D) : ∃ A P, Good r A P u d ∧ D = allD A P d := by
  have hl := dn_le r
  have da := dn_take r
  unfold o2 at h
  by_cases c1 : dn r = 0 ∨ (1 < dn r ∧ r.head? = some 48)
  · rw [if_pos c1] at h; exact absurd h (by simp)
  · rw [if_neg c1] at h
    have tl : (r.take (dn r)).length = dn r := by rw [List.length_take]; omega
    have hw : wholeB (r.take (dn r)) = true := by
      refine wholeB_of da (by omega) fun q e => c1 (.inr ⟨by omega, ?_⟩)
      rw [List.head?_take, if_neg (by omega)] at e
      exact e
    have hr := List.take_append_drop (dn r) r
    by_cases c2 : (r.drop (dn r)).head? = some 46
    · rw [if_pos c2] at h
      obtain ⟨v, hv⟩ : ∃ v, r.drop (dn r) = 46 :: v := by
        cases q : r.drop (dn r) with
        | nil => rw [q] at c2; simp at c2
        | cons c l => rw [q] at c2; simp at c2; exact ⟨l, by rw [c2]⟩
      have t3 : r.drop (dn r + 1) = v := by rw [← List.drop_drop, hv]; rfl
      rw [t3] at h
      have vl := dn_le v
      have va := dn_take v
      by_cases c3 : dn v = 0 ∨ d < dn v
      · rw [if_pos c3] at h; exact absurd h (by simp)
      · rw [if_neg c3] at h
        have t4 : r.drop (dn r + 1 + dn v) = v.drop (dn v) := by rw [← List.drop_drop, t3]
        rw [t4] at h
        by_cases c4 : v.drop (dn v) ≠ 32 :: u
        · rw [if_pos c4] at h; exact absurd h (by simp)
        · rw [if_neg c4] at h
          have c5 : v.drop (dn v) = 32 :: u := by simpa using c4
          have pl : (v.take (dn v)).length = dn v := by rw [List.length_take]; omega
          refine ⟨_, v.take (dn v), ⟨hw, va, by omega, ?_⟩, (Option.some.inj h).symm⟩
          have hn : ¬ v.take (dn v) = [] := by intro e; rw [e] at pl; simp at pl; omega
          rw [if_neg hn]
          have hv2 := List.take_append_drop (dn v) v
          rw [c5] at hv2
          conv => lhs; rw [← hr, hv, ← hv2]
          simp
    · rw [if_neg c2] at h
      by_cases c4 : r.drop (dn r) ≠ 32 :: u
      · rw [if_pos c4] at h; exact absurd h (by simp)
      · rw [if_neg c4] at h
        have c5 : r.drop (dn r) = 32 :: u := by simpa using c4
        refine ⟨_, [], ⟨hw, by simp, by simp, ?_⟩, (Option.some.inj h).symm⟩
        rw [c5] at hr
        simpa using hr.symm
theorem o_same (r : List UInt8) (d : Nat) (u : List UInt8) (hu : ¬ u = []) : o1 r d u = o2 r d u := by
  cases h : o1 r d u with
  | some D =>
    obtain ⟨A, P, g, rfl⟩ := good_o1 hu h
    exact (o2_good g).symm
  | none =>
    cases h2 : o2 r d u with
    | none => rfl
    | some D =>
      obtain ⟨A, P, g, rfl⟩ := good_o2 h2
      rw [o1_good g] at h
      exact absurd h (by simp)
theorem readS_o1 (neg : Bool) (r : List UInt8) (d : Nat) (u : List UInt8) : readS neg r d u = match o1 r d u with | none => (0, 4) | some D => signS neg (valS 0 D) := by
  unfold readS o1
  cases adS (r.take (at1 32 r)) d with
  | none => rfl
  | some D =>
    simp only
    by_cases h : r.drop (at1 32 r + 1) ≠ u
    · rw [if_pos h, if_pos h]
    · rw [if_neg h, if_neg h]
theorem unitL_ne {k : Int} (h : 1 ≤ k ∧ k ≤ 5) : ¬ unitL k = [] := by
  have hc : k = 1 ∨ k = 2 ∨ k = 3 ∨ k = 4 ∨ k = 5 := by omega
  rcases hc with rfl | rfl | rfl | rfl | rfl <;> decide

/-- The value of digits, as the reference counts it. -/
def numC : Int → List UInt8 → Int
  | n, [] => n
  | n, c :: l => if 10000000000000000 < 10 * n + ((c.toNat : Int) - 48) then numC 10000000000000000 l else numC (10 * n + ((c.toNat : Int) - 48)) l
theorem numC_big : ∀ (l : List UInt8) (n : Int), l.all isD = true → 1000000000000000 < n → n ≤ 10000000000000000 → 1000000000000000 < numC n l ∧ numC n l ≤ 10000000000000000
  | [], n, _, h, h2 => ⟨h, h2⟩
  | c :: l, n, hd, h, h2 => by
    rw [List.all_cons, Bool.and_eq_true] at hd
    have hc := isD_iff.1 hd.1
    unfold numC
    by_cases q : 10000000000000000 < 10 * n + ((c.toNat : Int) - 48)
    · rw [if_pos q]; exact numC_big l _ hd.2 (by omega) (by omega)
    · rw [if_neg q]; exact numC_big l _ hd.2 (by omega) (by omega)
theorem numC_val : ∀ (l : List UInt8) (n : Int), l.all isD = true → 0 ≤ n → n ≤ 1000000000000000 →
    ((valS n l).2 = 0 ∧ numC n l = (valS n l).1) ∨ ((valS n l) = (0, 8) ∧ 1000000000000000 < numC n l ∧ numC n l ≤ 10000000000000000)
  | [], n, _, _, _ => .inl ⟨rfl, rfl⟩
  | c :: l, n, hd, h0, h1 => by
    rw [List.all_cons, Bool.and_eq_true] at hd
    have hc := isD_iff.1 hd.1
    rw [valS_cons]
    unfold numC
    by_cases q : 1000000000000000 < 10 * n + ((c.toNat : Int) - 48)
    · rw [if_pos q]
      right
      refine ⟨rfl, ?_⟩
      by_cases q2 : 10000000000000000 < 10 * n + ((c.toNat : Int) - 48)
      · rw [if_pos q2]; exact numC_big l _ hd.2 (by omega) (by omega)
      · rw [if_neg q2]; exact numC_big l _ hd.2 (by omega) (by omega)
    · rw [if_neg q, if_neg (by omega)]
      exact numC_val l _ hd.2 (by omega) (by omega)
/-- What the reference does with the digits. -/
def signC (neg : Bool) (n : Int) : Int × Int := if n = 0 ∧ neg = true then (0, 4) else if 1000000000000000 < n then (0, 8) else ((if neg then -1 else 1) * n, 0)
theorem signC_val (neg : Bool) (l : List UInt8) (h : l.all isD = true) : signC neg (numC 0 l) = signS neg (valS 0 l) := by
  unfold signC signS
  have vb := valS_bound l 0 h (by omega) (by omega)
  rcases numC_val l 0 h (by omega) (by omega) with ⟨e, q⟩ | ⟨e, q, q2⟩
  · rw [q, e]
    simp only [ne_eq, not_true_eq_false, if_false]
    cases neg with
    | false => simp; omega
    | true =>
      by_cases z : (valS 0 l).1 = 0
      · rw [z]; simp
      · rw [if_neg (by simp [z]), if_neg (by omega)]
        simp [z]
  · rw [e]
    rw [if_neg (by omega), if_pos q]
    simp
/-- The reference's Parse, behind its sign. -/
def parseR (k : Int) (l : List UInt8) : Int × Int :=
  if ¬ (1 ≤ k ∧ k ≤ 5) then (0, 1) else if 64 < l.length then (0, 8) else
    match o2 (Lib.trimPrefix l [45]) (decK k) (unitL k) with
    | none => (0, 4)
    | some D => signC (Lib.hasPrefix l [45]) (numC 0 D)
theorem allD_isD {A P : List UInt8} (d : Nat) (ha : A.all isD = true) (hp : P.all isD = true) : (allD A P d).all isD = true := by
  unfold allD
  rw [List.all_append, List.all_append, ha, hp, Bool.and_self, Bool.true_and, List.all_eq_true]
  intro c hc
  rw [(List.mem_replicate.1 hc).2]
  decide
theorem parse_same (k : Int) (l : List UInt8) : parseR k l = parseU k l := by
  unfold parseR parseU
  by_cases h : 1 ≤ k ∧ k ≤ 5
  · have h' : ¬ ¬ (1 ≤ k ∧ k ≤ 5) := by simpa using h
    rw [if_neg h', if_neg h']
    by_cases h2 : 64 < l.length
    · rw [if_pos h2, if_pos h2]
    · rw [if_neg h2, if_neg h2, readS_o1, o_same _ _ _ (unitL_ne h)]
      cases q : o2 (Lib.trimPrefix l [45]) (decK k) (unitL k) with
      | none => rfl
      | some D =>
        obtain ⟨A, P, g, rfl⟩ := good_o2 q
        exact signC_val _ _ (allD_isD _ (wholeB_parts g.w).1 g.p)
  · rw [if_pos h, if_pos h]

/-- A text of the language is read. -/
theorem parse_good {k : Int} {A P : List UInt8} {v : Int} (neg : Bool) (h : 1 ≤ k ∧ k ≤ 5) (hw : wholeB A = true) (hp : P.all isD = true) (hd : P.length ≤ decK k)
    (hl : A.length + P.length ≤ 50) (hv : valS 0 (allD A P (decK k)) = (v, 0)) (hn : neg = true → ¬ v = 0) :
    parseU k ((if neg then [45] else []) ++ (A ++ (if P = [] then [] else 46 :: P) ++ 32 :: unitL k)) = (if neg then -v else v, 0) := by
  have ul : (unitL k).length ≤ 2 := by
    unfold unitL
    repeat' split
    all_goals simp
  have g : Good (A ++ (if P = [] then [] else 46 :: P) ++ 32 :: unitL k) A P (unitL k) (decK k) := ⟨hw, hp, hd, rfl⟩
  have rl : (A ++ (if P = [] then [] else 46 :: P) ++ 32 :: unitL k).length ≤ 60 := by
    simp only [List.length_append, List.length_cons]
    split <;> simp <;> omega
  obtain ⟨wa, wl, _⟩ := wholeB_parts hw
  have hh : ¬ (A ++ (if P = [] then [] else 46 :: P) ++ 32 :: unitL k).head? = some 45 := by
    cases A with
    | nil => simp at wl
    | cons c l =>
      simp only [List.cons_append, List.head?_cons, Option.some.injEq]
      rw [List.all_cons, Bool.and_eq_true] at wa
      exact isD_ne wa.1 (by decide)
  generalize A ++ (if P = [] then [] else 46 :: P) ++ 32 :: unitL k = r at g rl hh ⊢
  unfold parseU
  rw [if_neg (by simpa using h)]
  cases neg with
  | false =>
    simp only [Bool.false_eq_true, if_false, List.nil_append]
    have hp : Lib.hasPrefix r [45] = false := by
      unfold Lib.hasPrefix
      cases r with
      | nil => rfl
      | cons c l =>
        have : ¬ c = 45 := by simpa using hh
        simp [List.isPrefixOf, Ne.symm this]
    have ht : Lib.trimPrefix r [45] = r := by unfold Lib.trimPrefix; rw [hp]; rfl
    rw [if_neg (by omega), hp, ht, readS_o1, o1_good g]
    simp only
    rw [hv]
    simp [signS]
  | true =>
    simp only [if_true, List.singleton_append]
    have hp : Lib.hasPrefix (45 :: r) [45] = true := by simp [Lib.hasPrefix, List.isPrefixOf]
    have ht : Lib.trimPrefix (45 :: r) [45] = r := by unfold Lib.trimPrefix; rw [hp]; rfl
    rw [if_neg (by rw [List.length_cons]; omega), hp, ht, readS_o1, o1_good g]
    simp only
    rw [hv]
    simp [signS, hn rfl]
end Sp
namespace Sp
theorem val_small4 : ∀ (l : List UInt8), l.length ≤ 4 → l.all isD = true → (valS 0 l).2 = 0
  | [], _, _ => rfl
  | [a], _, h => by
    simp only [List.all_cons, List.all_nil, Bool.and_true] at h
    have := isD_iff.1 h
    rw [valS_cons, if_neg (by omega)]; rfl
  | [a, b], _, h => by
    simp only [List.all_cons, List.all_nil, Bool.and_true, Bool.and_eq_true] at h
    have h1 := isD_iff.1 h.1
    have h2 := isD_iff.1 h.2
    rw [valS_cons, if_neg (by omega), valS_cons, if_neg (by omega)]; rfl
  | [a, b, c], _, h => by
    simp only [List.all_cons, List.all_nil, Bool.and_true, Bool.and_eq_true] at h
    have h1 := isD_iff.1 h.1
    have h2 := isD_iff.1 h.2.1
    have h3 := isD_iff.1 h.2.2
    rw [valS_cons, if_neg (by omega), valS_cons, if_neg (by omega), valS_cons, if_neg (by omega)]; rfl
  | [a, b, c, d], _, h => by
    simp only [List.all_cons, List.all_nil, Bool.and_true, Bool.and_eq_true] at h
    have h1 := isD_iff.1 h.1
    have h2 := isD_iff.1 h.2.1
    have h3 := isD_iff.1 h.2.2.1
    have h4 := isD_iff.1 h.2.2.2
    rw [valS_cons, if_neg (by omega), valS_cons, if_neg (by omega), valS_cons, if_neg (by omega), valS_cons, if_neg (by omega)]; rfl
  | a :: b :: c :: d :: e :: l, h, _ => by simp at h
theorem num_small4 {l : List UInt8} (h : l.length ≤ 4) (h2 : l.all isD = true) : numC 0 l = (valS 0 l).1 := by
  rcases numC_val l 0 h2 (by omega) (by omega) with ⟨_, q⟩ | ⟨e, _⟩
  · exact q
  · have := val_small4 l h h2
    rw [e] at this
    exact absurd this (by simp)
theorem num_bound4 {l : List UInt8} (h : l.all isD = true) : 0 ≤ numC 0 l ∧ numC 0 l ≤ 10000000000000000 := by
  rcases numC_val l 0 h (by omega) (by omega) with ⟨_, q⟩ | ⟨_, a, b⟩
  · have := valS_bound l 0 h (by omega) (by omega)
    omega
  · omega
structure GoodD (L A P : List UInt8) : Prop where
  w : wholeB A = true
  a : A.length ≤ 4
  p : P.all isD = true
  n : P.length = 3
  e : L = A ++ 45 :: P
def dcR (y d : Int) : Int × Int := if d < 1 ∨ 365 < d ∨ 100000 < 365 * y + d - 1 then (0, 2) else (365 * y + d - 1, 0)
/-- The reference's ParseDate. -/
def dateT (L : List UInt8) : Int × Int :=
  if dn L < 1 ∨ 4 < dn L ∨ (1 < dn L ∧ L.head? = some 48) ∨ ¬ L.length = dn L + 4 ∨ ¬ L[dn L]? = some 45 ∨ ¬ dn (L.drop (dn L + 1)) = 3 then (0, 4)
  else dcR (numC 0 (L.take (dn L))) (numC 0 (L.drop (dn L + 1)))
theorem dateR_good {L A P : List UInt8} (g : GoodD L A P) : dateR L = dcR (numC 0 A) (numC 0 P) := by
  obtain ⟨wa, wl, wh⟩ := wholeB_parts g.w
  have hx : at1 45 L = A.length := by rw [g.e]; exact at1_mem 45 A P (mem_ne wa (by decide))
  have t1 : L.take A.length = A := by rw [g.e, List.take_left]
  have t2 : L.drop (A.length + 1) = P := by
    rw [g.e, ← List.drop_drop, List.drop_left]; rfl
  have ga := g.a
  have gn := g.n
  unfold dateR dcR
  rw [hx, t1, t2, g.w, digB_of g.p (by omega), num_small4 g.a wa, num_small4 (by omega) g.p]
  rw [if_neg (by simp; omega)]
  by_cases c : (valS 0 P).1 < 1 ∨ 365 < (valS 0 P).1 ∨ 100000 < (valS 0 A).1 * 365 + (valS 0 P).1 - 1
  · rw [if_pos c, if_pos (by omega)]
  · rw [if_neg c, if_neg (by omega), Int.mul_comm]
theorem dateT_good {L A P : List UInt8} (g : GoodD L A P) : dateT L = dcR (numC 0 A) (numC 0 P) := by
  obtain ⟨wa, wl, wh⟩ := wholeB_parts g.w
  have hd : dn L = A.length := by rw [g.e]; exact dn_stop A P 45 wa (by decide)
  have hh : L.head? = A.head? := by
    rw [g.e]
    cases A with
    | nil => simp at wl
    | cons c l => simp
  have t1 : L.take A.length = A := by rw [g.e, List.take_left]
  have t2 : L.drop (A.length + 1) = P := by
    rw [g.e, ← List.drop_drop, List.drop_left]; rfl
  have t3 : L[A.length]? = some 45 := by rw [g.e]; simp
  have t4 : L.length = A.length + 4 := by have := g.n; rw [g.e]; simp; omega
  have t5 : dn P = 3 := by rw [dn_all P g.p, g.n]
  have ga := g.a
  unfold dateT
  rw [hd, t1, t2, t3, t5, hh]
  rw [if_neg (by
    rintro (q | q | q | q | q | q)
    · omega
    · omega
    · exact wh q.1 q.2
    · exact q t4
    · exact q rfl
    · exact q rfl)]
theorem good_dateR {L : List UInt8} (h : ¬ dateR L = (0, 4)) : ∃ A P, GoodD L A P := by
  unfold dateR at h
  by_cases hc : wholeB (L.take (at1 45 L)) = false ∨ 4 < (L.take (at1 45 L)).length ∨ digB (L.drop (at1 45 L + 1)) = false ∨ (L.drop (at1 45 L + 1)).length ≠ 3
  · rw [if_pos hc] at h; exact absurd rfl h
  · have c1 : wholeB (L.take (at1 45 L)) = true := by
      cases q : wholeB (L.take (at1 45 L)) with
      | true => rfl
      | false => exact absurd (.inl q) hc
    have c2 : digB (L.drop (at1 45 L + 1)) = true := by
      cases q : digB (L.drop (at1 45 L + 1)) with
      | true => rfl
      | false => exact absurd (.inr (.inr (.inl q))) hc
    have c3 : (L.take (at1 45 L)).length ≤ 4 := by
      rcases Nat.lt_or_ge 4 (L.take (at1 45 L)).length with q | q
      · exact absurd (.inr (.inl q)) hc
      · exact q
    have c4 : (L.drop (at1 45 L + 1)).length = 3 := by
      by_cases q : (L.drop (at1 45 L + 1)).length = 3
      · exact q
      · exact absurd (.inr (.inr (.inr q))) hc
    have hl : at1 45 L < L.length := by rw [List.length_drop] at c4; omega
    exact ⟨_, _, c1, c3, (digB_parts c2).1, c4, at1_split hl⟩
theorem good_dateT {L : List UInt8} (h : ¬ dateT L = (0, 4)) : ∃ A P, GoodD L A P := by
  unfold dateT at h
  by_cases hc : dn L < 1 ∨ 4 < dn L ∨ (1 < dn L ∧ L.head? = some 48) ∨ ¬ L.length = dn L + 4 ∨ ¬ L[dn L]? = some 45 ∨ ¬ dn (L.drop (dn L + 1)) = 3
  · rw [if_pos hc] at h; exact absurd rfl h
  · have c1 : 1 ≤ dn L ∧ dn L ≤ 4 := by omega
    have c3 : ¬ (1 < dn L ∧ L.head? = some 48) := fun q => hc (.inr (.inr (.inl q)))
    have c4 : L.length = dn L + 4 := by omega
    have c5 : L[dn L]? = some 45 := by
      by_cases q : L[dn L]? = some 45
      · exact q
      · exact absurd (.inr (.inr (.inr (.inr (.inl q))))) hc
    have c6 : dn (L.drop (dn L + 1)) = 3 := by omega
    have tl : (L.take (dn L)).length = dn L := by rw [List.length_take]; omega
    have pl : (L.drop (dn L + 1)).length = 3 := by rw [List.length_drop]; omega
    have pa := dn_take (L.drop (dn L + 1))
    rw [c6, List.take_of_length_le (by omega)] at pa
    refine ⟨L.take (dn L), L.drop (dn L + 1), ?_, by omega, pa, pl, ?_⟩
    · refine wholeB_of (dn_take L) (by omega) fun q e => c3 ⟨by omega, ?_⟩
      rw [List.head?_take, if_neg (by omega)] at e
      exact e
    · have hk : dn L < L.length := by omega
      have e2 : L[dn L] = 45 := by
        rw [List.getElem?_eq_getElem hk] at c5
        exact Option.some.inj c5
      conv => lhs; rw [← List.take_append_drop (dn L) L, List.drop_eq_getElem_cons hk, e2]
theorem date_same (L : List UInt8) : dateT L = dateR L := by
  by_cases h : dateR L = (0, 4)
  · by_cases h2 : dateT L = (0, 4)
    · rw [h, h2]
    · obtain ⟨A, P, g⟩ := good_dateT h2
      rw [dateT_good g, dateR_good g]
  · obtain ⟨A, P, g⟩ := good_dateR h
    rw [dateT_good g, dateR_good g]
/-- The digits of a number, cut before its decimals. -/
theorem pad_whole {n : Int} (hn : 0 ≤ n) (d : Nat) : wholeB ((padL n (d + 1)).take ((padL n (d + 1)).length - d)) = true := by
  have hD := pad_isD hn (d + 1)
  have hl : (padL n (d + 1)).length = (d + 1 - (Lib.itoa n).length) + (Lib.itoa n).length := by
    unfold padL
    rw [List.length_append, List.length_replicate]
  have ha : ((padL n (d + 1)).take ((padL n (d + 1)).length - d)).all isD = true := by
    rw [List.all_eq_true] at hD ⊢
    exact fun c hc => hD c (List.mem_of_mem_take hc)
  refine wholeB_of ha (by rw [List.length_take]; omega) fun q e => ?_
  rw [List.length_take] at q
  have hi : d + 1 < (Lib.itoa n).length := by omega
  have e0 : padL n (d + 1) = Lib.itoa n := by
    unfold padL
    have : d + 1 - (Lib.itoa n).length = 0 := by omega
    rw [this]; rfl
  rw [List.head?_take, if_neg (by omega), e0, itoa_dec hn] at e
  have hn1 : 1 ≤ n.toNat := by
    by_cases q : n = 0
    · subst q
      have : (Lib.itoa 0).length = 1 := by rw [itoa_dec (by omega), Lib.decDigits_length]; exact Lib.nDigits_small (by decide)
      omega
    · omega
  exact dec_head _ hn1 e
theorem back_val {n : Int} (hn : 0 ≤ n) (h1 : n ≤ 1000000000000000) (d : Nat) :
    valS 0 (allD ((padL n (d + 1)).take ((padL n (d + 1)).length - d)) ((padL n (d + 1)).drop ((padL n (d + 1)).length - d)) d) = (n, 0) := by
  have hl : (padL n (d + 1)).length = (d + 1 - (Lib.itoa n).length) + (Lib.itoa n).length := by
    unfold padL
    rw [List.length_append, List.length_replicate]
  unfold allD
  rw [List.take_append_drop, List.length_drop]
  have : d - ((padL n (d + 1)).length - ((padL n (d + 1)).length - d)) = 0 := by omega
  rw [this, List.replicate_zero, List.append_nil]
  exact pad_val hn h1 _
theorem back_val0 {n : Int} (hn : 0 ≤ n) (h1 : n ≤ 1000000000000000) (d : Nat) (hz : ∀ c, c ∈ (padL n (d + 1)).drop ((padL n (d + 1)).length - d) → c = 48) :
    valS 0 (allD ((padL n (d + 1)).take ((padL n (d + 1)).length - d)) [] d) = (n, 0) := by
  have hl : (padL n (d + 1)).length = (d + 1 - (Lib.itoa n).length) + (Lib.itoa n).length := by
    unfold padL
    rw [List.length_append, List.length_replicate]
  have e : (padL n (d + 1)).drop ((padL n (d + 1)).length - d) = List.replicate d 48 := by
    refine List.eq_replicate_iff.2 ⟨by rw [List.length_drop]; omega, hz⟩
  have := back_val hn h1 d
  rw [e] at this
  unfold allD at this ⊢
  simp only [List.length_replicate, Nat.sub_self, List.replicate_zero, List.append_nil, List.length_nil, Nat.sub_zero] at this ⊢
  exact this
/-- Each number is restored from its text. -/
theorem parse_back {k n : Int} (h : 1 ≤ k ∧ k ≤ 5) (h0 : -1000000000000000 ≤ n) (h1 : n ≤ 1000000000000000) : parseU k (fmtL k n) = (n, 0) := by
  have hm : (0 : Int) ≤ (n.natAbs : Int) := by omega
  have hl : (padL n.natAbs (decK k + 1)).length = (decK k + 1 - (Lib.itoa n.natAbs).length) + (Lib.itoa n.natAbs).length := by
    unfold padL
    rw [List.length_append, List.length_replicate]
  have dk : 1 ≤ decK k ∧ decK k ≤ 3 := by
    have hc : k = 1 ∨ k = 2 ∨ k = 3 ∨ k = 4 ∨ k = 5 := by omega
    rcases hc with rfl | rfl | rfl | rfl | rfl <;> decide
  have il : (Lib.itoa (n.natAbs : Int)).length ≤ 17 := by
    rw [itoa_dec hm, Lib.decDigits_length]
    exact nDigits_le4 16 _ (by omega)
  have hw := pad_whole hm (decK k)
  have hv := back_val hm (by omega) (decK k)
  have hpd : ((padL n.natAbs (decK k + 1)).drop ((padL n.natAbs (decK k + 1)).length - decK k)).all isD = true := by
    have hD := pad_isD hm (decK k + 1)
    rw [List.all_eq_true] at hD ⊢
    exact fun c hc => hD c (List.mem_of_mem_drop hc)
  have l1 : ((padL n.natAbs (decK k + 1)).take ((padL n.natAbs (decK k + 1)).length - decK k)).length ≤ 30 := by rw [List.length_take]; omega
  have l2 : ((padL n.natAbs (decK k + 1)).drop ((padL n.natAbs (decK k + 1)).length - decK k)).length = decK k := by rw [List.length_drop]; omega
  have hn : ¬ (padL n.natAbs (decK k + 1)).drop ((padL n.natAbs (decK k + 1)).length - decK k) = [] := by
    intro e; rw [e] at l2; simp at l2; omega
  have := parse_good (decide (n < 0)) h hw hpd (by omega) (by omega) hv (by simp; omega)
  rw [if_neg hn] at this
  unfold fmtL
  by_cases c : n < 0
  · rw [if_pos c]
    simp only [decide_eq_true c, if_true] at this
    have e : -(n.natAbs : Int) = n := by omega
    rw [e] at this
    simpa using this
  · rw [if_neg c]
    simp only [decide_eq_false c, Bool.false_eq_true, if_false] at this
    have e : (n.natAbs : Int) = n := by omega
    rw [e] at this ⊢
    simpa using this
/-- A number whose decimals are zeros is read without them. -/
theorem parse_back0 {k n : Int} (h : 1 ≤ k ∧ k ≤ 5) (h0 : -1000000000000000 ≤ n) (h1 : n ≤ 1000000000000000)
    (hz : ∀ c, c ∈ (padL n.natAbs (decK k + 1)).drop ((padL n.natAbs (decK k + 1)).length - decK k) → c = 48) :
    parseU k ((if n < 0 then [45] else []) ++ (padL n.natAbs (decK k + 1)).take ((padL n.natAbs (decK k + 1)).length - decK k) ++ [32] ++ unitL k) = (n, 0) := by
  have hm : (0 : Int) ≤ (n.natAbs : Int) := by omega
  have hl : (padL n.natAbs (decK k + 1)).length = (decK k + 1 - (Lib.itoa n.natAbs).length) + (Lib.itoa n.natAbs).length := by
    unfold padL
    rw [List.length_append, List.length_replicate]
  have il : (Lib.itoa (n.natAbs : Int)).length ≤ 17 := by
    rw [itoa_dec hm, Lib.decDigits_length]
    exact nDigits_le4 16 _ (by omega)
  have dk : decK k ≤ 3 := by
    have hc : k = 1 ∨ k = 2 ∨ k = 3 ∨ k = 4 ∨ k = 5 := by omega
    rcases hc with rfl | rfl | rfl | rfl | rfl <;> decide
  have hw := pad_whole hm (decK k)
  have hv := back_val0 hm (by omega) (decK k) hz
  have l1 : ((padL n.natAbs (decK k + 1)).take ((padL n.natAbs (decK k + 1)).length - decK k)).length ≤ 30 := by rw [List.length_take]; omega
  have := parse_good (P := []) (decide (n < 0)) h hw (by simp) (by simp) (by simp; omega) hv (by simp; omega)
  rw [if_pos rfl] at this
  by_cases c : n < 0
  · rw [if_pos c]
    simp only [decide_eq_true c, if_true] at this
    have e : -(n.natAbs : Int) = n := by omega
    rw [e] at this
    simpa using this
  · rw [if_neg c]
    simp only [decide_eq_false c, Bool.false_eq_true, if_false] at this
    have e : (n.natAbs : Int) = n := by omega
    rw [e] at this ⊢
    simpa using this
end Sp
end Go.Proofs.YtgfjofdjicepiaaDoor
