/-
  Plain mathematics of layer 4: days as they are read by both ways; no Go in sight.
-/
import Derived.Test.YtgfjofdjicepiaaDoorUmc
namespace Go.Proofs.YtgfjofdjicepiaaDoor
set_option linter.unusedVariables false
namespace Sp
theorem val_small4 : ∀ (l : List UInt8), l.length ≤ 4 → l.all isD = true → (valS 0 l).2 = 0
  | [], _, _ => rfl
  | [a], _, h => by
    simp only [List.all_cons, List.all_nil, Bool.and_true] at h
    have := isD_iff.1 h
    rw [valS_cons, if_neg (by omega)]; rfl
  | [a, b], _, h => by
    simp only [List.all_cons, List.all_nil, Bool.and_true, Bool.and_eq_true] at h
    have h1 := isD_iff.1 h.1
    have h2 := isD_iff.1 h.2
    rw [valS_cons, if_neg (by omega), valS_cons, if_neg (by omega)]; rfl
  | [a, b, c], _, h => by
    simp only [List.all_cons, List.all_nil, Bool.and_true, Bool.and_eq_true] at h
    have h1 := isD_iff.1 h.1
    have h2 := isD_iff.1 h.2.1
    have h3 := isD_iff.1 h.2.2
    rw [valS_cons, if_neg (by omega), valS_cons, if_neg (by omega), valS_cons, if_neg (by omega)]; rfl
  | [a, b, c, d], _, h => by
    simp only [List.all_cons, List.all_nil, Bool.and_true, Bool.and_eq_true] at h
    have h1 := isD_iff.1 h.1
    have h2 := isD_iff.1 h.2.1
    have h3 := isD_iff.1 h.2.2.1
    have h4 := isD_iff.1 h.2.2.2
    rw [valS_cons, if_neg (by omega), valS_cons, if_neg (by omega), valS_cons, if_neg (by omega), valS_cons, if_neg (by omega)]; rfl
  | a :: b :: c :: d :: e :: l, h, _ => by simp at h
theorem num_small4 {l : List UInt8} (h : l.length ≤ 4) (h2 : l.all isD = true) : numC 0 l = (valS 0 l).1 := by
  rcases numC_val l 0 h2 (by omega) (by omega) with ⟨_, q⟩ | ⟨e, _⟩
  · exact q
  · have := val_small4 l h h2
    rw [e] at this
    exact absurd this (by simp)
theorem num_bound4 {l : List UInt8} (h : l.all isD = true) : 0 ≤ numC 0 l ∧ numC 0 l ≤ 10000000000000000 := by
  rcases numC_val l 0 h (by omega) (by omega) with ⟨_, q⟩ | ⟨_, a, b⟩
  · have := valS_bound l 0 h (by omega) (by omega)
    omega
  · omega
structure GoodD (L A P : List UInt8) : Prop where
  w : wholeB A = true
  a : A.length ≤ 4
  p : P.all isD = true
  n : P.length = 3
  e : L = A ++ 45 :: P
def dcR (y d : Int) : Int × Int := if d < 1 ∨ 365 < d ∨ 100000 < 365 * y + d - 1 then (0, 2) else (365 * y + d - 1, 0)
/-- The reference's ParseDate. -/
def dateT (L : List UInt8) : Int × Int :=
  if dn L < 1 ∨ 4 < dn L ∨ (1 < dn L ∧ L.head? = some 48) ∨ ¬ L.length = dn L + 4 ∨ ¬ L[dn L]? = some 45 ∨ ¬ dn (L.drop (dn L + 1)) = 3 then (0, 4)
  else dcR (numC 0 (L.take (dn L))) (numC 0 (L.drop (dn L + 1)))
theorem dateR_good {L A P : List UInt8} (g : GoodD L A P) : dateR L = dcR (numC 0 A) (numC 0 P) := by
  obtain ⟨wa, wl, wh⟩ := wholeB_parts g.w
  have hx : at1 45 L = A.length := by rw [g.e]; exact at1_mem 45 A P (mem_ne wa (by decide))
  have t1 : L.take A.length = A := by rw [g.e, List.take_left]
  have t2 : L.drop (A.length + 1) = P := by
    rw [g.e, ← List.drop_drop, List.drop_left]; rfl
  have ga := g.a
  have gn := g.n
  unfold dateR dcR
  rw [hx, t1, t2, g.w, digB_of g.p (by omega), num_small4 g.a wa, num_small4 (by omega) g.p]
  rw [if_neg (by simp; omega)]
  by_cases c : (valS 0 P).1 < 1 ∨ 365 < (valS 0 P).1 ∨ 100000 < (valS 0 A).1 * 365 + (valS 0 P).1 - 1
  · rw [if_pos c, if_pos (by omega)]
  · rw [if_neg c, if_neg (by omega), Int.mul_comm]
theorem dateT_good {L A P : List UInt8} (g : GoodD L A P) : dateT L = dcR (numC 0 A) (numC 0 P) := by
  obtain ⟨wa, wl, wh⟩ := wholeB_parts g.w
  have hd : dn L = A.length := by rw [g.e]; exact dn_stop A P 45 wa (by decide)
  have hh : L.head? = A.head? := by
    rw [g.e]
    cases A with
    | nil => simp at wl
    | cons c l => simp
  have t1 : L.take A.length = A := by rw [g.e, List.take_left]
  have t2 : L.drop (A.length + 1) = P := by
    rw [g.e, ← List.drop_drop, List.drop_left]; rfl
  have t3 : L[A.length]? = some 45 := by rw [g.e]; simp
  have t4 : L.length = A.length + 4 := by have := g.n; rw [g.e]; simp; omega
  have t5 : dn P = 3 := by rw [dn_all P g.p, g.n]
  have ga := g.a
  unfold dateT
  rw [hd, t1, t2, t3, t5, hh]
  rw [if_neg (by
    rintro (q | q | q | q | q | q)
    · omega
    · omega
    · exact wh q.1 q.2
    · exact q t4
    · exact q rfl
    · exact q rfl)]
theorem good_dateR {L : List UInt8} (h : ¬ dateR L = (0, 4)) : ∃ A P, GoodD L A P := by
  unfold dateR at h
  by_cases hc : wholeB (L.take (at1 45 L)) = false ∨ 4 < (L.take (at1 45 L)).length ∨ digB (L.drop (at1 45 L + 1)) = false ∨ (L.drop (at1 45 L + 1)).length ≠ 3
  · rw [if_pos hc] at h; exact absurd rfl h
  · have c1 : wholeB (L.take (at1 45 L)) = true := by
      cases q : wholeB (L.take (at1 45 L)) with
      | true => rfl
      | false => exact absurd (.inl q) hc
    have c2 : digB (L.drop (at1 45 L + 1)) = true := by
      cases q : digB (L.drop (at1 45 L + 1)) with
      | true => rfl
      | false => exact absurd (.inr (.inr (.inl q))) hc
    have c3 : (L.take (at1 45 L)).length ≤ 4 := by
      rcases Nat.lt_or_ge 4 (L.take (at1 45 L)).length with q | q
      · exact absurd (.inr (.inl q)) hc
      · exact q
    have c4 : (L.drop (at1 45 L + 1)).length = 3 := by
      by_cases q : (L.drop (at1 45 L + 1)).length = 3
      · exact q
      · exact absurd (.inr (.inr (.inr q))) hc
    have hl : at1 45 L < L.length := by rw [List.length_drop] at c4; omega
    exact ⟨_, _, c1, c3, (digB_parts c2).1, c4, at1_split hl⟩
theorem good_dateT {L : List UInt8} (h : ¬ dateT L = (0, 4)) : ∃ A P, GoodD L A P := by
  unfold dateT at h
  by_cases hc : dn L < 1 ∨ 4 < dn L ∨ (1 < dn L ∧ L.head? = some 48) ∨ ¬ L.length = dn L + 4 ∨ ¬ L[dn L]? = some 45 ∨ ¬ dn (L.drop (dn L + 1)) = 3
  · rw [if_pos hc] at h; exact absurd rfl h
  · have c1 : 1 ≤ dn L ∧ dn L ≤ 4 := by omega
    have c3 : ¬ (1 < dn L ∧ L.head? = some 48) := fun q => hc (.inr (.inr (.inl q)))
    have c4 : L.length = dn L + 4 := by omega
    have c5 : L[dn L]? = some 45 := by
      by_cases q : L[dn L]? = some 45
      · exact q
      · exact absurd (.inr (.inr (.inr (.inr (.inl q))))) hc
    have c6 : dn (L.drop (dn L + 1)) = 3 := by omega
    have tl : (L.take (dn L)).length = dn L := by rw [List.length_take]; omega
    have pl : (L.drop (dn L + 1)).length = 3 := by rw [List.length_drop]; omega
    have pa := dn_take (L.drop (dn L + 1))
    rw [c6, List.take_of_length_le (by omega)] at pa
    refine ⟨L.take (dn L), L.drop (dn L + 1), ?_, by omega, pa, pl, ?_⟩
    · refine wholeB_of (dn_take L) (by omega) fun q e => c3 ⟨by omega, ?_⟩
      rw [List.head?_take, if_neg (by omega)] at e
      exact e
    · have hk : dn L < L.length := by omega
      have e2 : L[dn L] = 45 := by
        rw [List.getElem?_eq_getElem hk] at c5
        exact Option.some.inj c5
      conv => lhs; rw [← List.take_append_drop (dn L) L, List.drop_eq_getElem_cons hk, e2]
theorem date_same (L : List UInt8) : dateT L = dateR L := by
  by_cases h : dateR L = (0, 4)
  · by_cases h2 : dateT L = (0, 4)
    · rw [h, h2]
    · obtain ⟨A, P, g⟩ := good_dateT h2
      rw [dateT_good g, dateR_good g]
  · obtain ⟨A, P, g⟩ := good_dateR h
    rw [dateT_good g, dateR_good g]
/-- The digits of a number, cut before its decimals. -/
theorem pad_whole {n : Int} (hn : 0 ≤ n) (d : Nat) : wholeB ((padL n (d + 1)).take ((padL n (d + 1)).length - d)) = true := by
  have hD := pad_isD hn (d + 1)
  have hl : (padL n (d + 1)).length = (d + 1 - (Lib.itoa n).length) + (Lib.itoa n).length := by
    unfold padL
    rw [List.length_append, List.length_replicate]
  have ha : ((padL n (d + 1)).take ((padL n (d + 1)).length - d)).all isD = true := by
    rw [List.all_eq_true] at hD ⊢
    exact fun c hc => hD c (List.mem_of_mem_take hc)
  refine wholeB_of ha (by rw [List.length_take]; omega) fun q e => ?_
  rw [List.length_take] at q
  have hi : d + 1 < (Lib.itoa n).length := by omega
  have e0 : padL n (d + 1) = Lib.itoa n := by
    unfold padL
    have : d + 1 - (Lib.itoa n).length = 0 := by omega
    rw [this]; rfl
  rw [List.head?_take, if_neg (by omega), e0, itoa_dec hn] at e
  have hn1 : 1 ≤ n.toNat := by
    by_cases q : n = 0
    · subst q
      have : (Lib.itoa 0).length = 1 := by rw [itoa_dec (by omega), Lib.decDigits_length]; exact Lib.nDigits_small (by decide)
      omega
    · omega
  exact dec_head _ hn1 e
theorem back_val {n : Int} (hn : 0 ≤ n) (h1 : n ≤ 1000000000000000) (d : Nat) :
    valS 0 (allD ((padL n (d + 1)).take ((padL n (d + 1)).length - d)) ((padL n (d + 1)).drop ((padL n (d + 1)).length - d)) d) = (n, 0) := by
  have hl : (padL n (d + 1)).length = (d + 1 - (Lib.itoa n).length) + (Lib.itoa n).length := by
    unfold padL
    rw [List.length_append, List.length_replicate]
  unfold allD
  rw [List.take_append_drop, List.length_drop]
  have : d - ((padL n (d + 1)).length - ((padL n (d + 1)).length - d)) = 0 := by omega
  rw [this, List.replicate_zero, List.append_nil]
  exact pad_val hn h1 _
theorem back_val0 {n : Int} (hn : 0 ≤ n) (h1 : n ≤ 1000000000000000) (d : Nat) (hz : ∀ c, c ∈ (padL n (d + 1)).drop ((padL n (d + 1)).length - d) → c = 48) :
    valS 0 (allD ((padL n (d + 1)).take ((padL n (d + 1)).length - d)) [] d) = (n, 0) := by
  have hl : (padL n (d + 1)).length = (d + 1 - (Lib.itoa n).length) + (Lib.itoa n).length := by
    unfold padL
    rw [List.length_append, List.length_replicate]
  have e : (padL n (d + 1)).drop ((padL n (d + 1)).length - d) = List.replicate d 48 := by
    refine List.eq_replicate_iff.2 ⟨by rw [List.length_drop]; omega, hz⟩
  have := back_val hn h1 d
  rw [e] at this
  unfold allD at this ⊢
  simp only [List.length_replicate, Nat.sub_self, List.replicate_zero, List.append_nil, List.length_nil, Nat.sub_zero] at this ⊢
  exact this
/-- Each number is restored from its text. -/
theorem parse_back {k n : Int} (h : 1 ≤ k ∧ k ≤ 5) (h0 : -1000000000000000 ≤ n) (h1 : n ≤ 1000000000000000) : parseU k (fmtL k n) = (n, 0) := by
  have hm : (0 : Int) ≤ (n.natAbs : Int) := by omega
  have hl : (padL n.natAbs (decK k + 1)).length = (decK k + 1 - (Lib.itoa n.natAbs).length) + (Lib.itoa n.natAbs).length := by
    unfold padL
    rw [List.length_append, List.length_replicate]
  have dk : 1 ≤ decK k ∧ decK k ≤ 3 := by
    have hc : k = 1 ∨ k = 2 ∨ k = 3 ∨ k = 4 ∨ k = 5 := by omega
    rcases hc with rfl | rfl | rfl | rfl | rfl <;> decide
  have il : (Lib.itoa (n.natAbs : Int)).length ≤ 17 := by
    rw [itoa_dec hm, Lib.decDigits_length]
    exact nDigits_le4 16 _ (by omega)
  have hw := pad_whole hm (decK k)
  have hv := back_val hm (by omega) (decK k)
  have hpd : ((padL n.natAbs (decK k + 1)).drop ((padL n.natAbs (decK k + 1)).length - decK k)).all isD = true := by
    have hD := pad_isD hm (decK k + 1)
    rw [List.all_eq_true] at hD ⊢
    exact fun c hc => hD c (List.mem_of_mem_drop hc)
  have l1 : ((padL n.natAbs (decK k + 1)).take ((padL n.natAbs (decK k + 1)).length - decK k)).length ≤ 30 := by rw [List.length_take]; omega
  have l2 : ((padL n.natAbs (decK k + 1)).drop ((padL n.natAbs (decK k + 1)).length - decK k)).length = decK k := by rw [List.length_drop]; omega
  have hn : ¬ (padL n.natAbs (decK k + 1)).drop ((padL n.natAbs (decK k + 1)).length - decK k) = [] := by
    intro e; rw [e] at l2; simp at l2; omega
  have := parse_good (decide (n < 0)) h hw hpd (by omega) (by omega) hv (by simp; omega)
  rw [if_neg hn] at this
  unfold fmtL
  by_cases c : n < 0
  · rw [if_pos c]
    simp only [decide_eq_true c, if_true] at this
    have e : -(n.natAbs : Int) = n := by omega
    rw [e] at this
    simpa using this
  · rw [if_neg c]
    simp only [decide_eq_false c, Bool.false_eq_true, if_false] at this
    have e : (n.natAbs : Int) = n := by omega
    rw [e] at this ⊢
    simpa using this
/-- A number whose decimals are zeros is read without them. -/
theorem parse_back0 {k n : Int} (h : 1 ≤ k ∧ k ≤ 5) (h0 : -1000000000000000 ≤ n) (h1 : n ≤ 1000000000000000)
    (hz : ∀ c, c ∈ (padL n.natAbs (decK k + 1)).drop ((padL n.natAbs (decK k + 1)).length - decK k) → c = 48) :
    parseU k ((if n < 0 then [45] else []) ++ (padL n.natAbs (decK k + 1)).take ((padL n.natAbs (decK k + 1)).length - decK k) ++ [32] ++ unitL k) = (n, 0) := by
  have hm : (0 : Int) ≤ (n.natAbs : Int) := by omega
  have hl : (padL n.natAbs (decK k + 1)).length = (decK k + 1 - (Lib.itoa n.natAbs).length) + (Lib.itoa n.natAbs).length := by
    unfold padL
    rw [List.length_append, List.length_replicate]
  have il : (Lib.itoa (n.natAbs : Int)).length ≤ 17 := by
    rw [itoa_dec hm, Lib.decDigits_length]
    exact nDigits_le4 16 _ (by omega)
  have dk : decK k ≤ 3 := by
    have hc : k = 1 ∨ k = 2 ∨ k = 3 ∨ k = 4 ∨ k = 5 := by omega
    rcases hc with rfl | rfl | rfl | rfl | rfl <;> decide
  have hw := pad_whole hm (decK k)
  have hv := back_val0 hm (by omega) (decK k) hz
  have l1 : ((padL n.natAbs (decK k + 1)).take ((padL n.natAbs (decK k + 1)).length - decK k)).length ≤ 30 := by rw [List.length_take]; omega
  have := parse_good (P := []) (decide (n < 0)) h hw (by simp) (by simp) (by simp; omega) hv (by simp; omega)
  rw [if_pos rfl] at this
  by_cases c : n < 0
  · rw [if_pos c]
    simp only [decide_eq_true c, if_true] at this
    have e : -(n.natAbs : Int) = n := by omega
    rw [e] at this
    simpa using this
  · rw [if_neg c]
    simp only [decide_eq_false c, Bool.false_eq_true, if_false] at this
    have e : (n.natAbs : Int) = n := by omega
    rw [e] at this ⊢
    simpa using this
end Sp
end Go.Proofs.YtgfjofdjicepiaaDoor
