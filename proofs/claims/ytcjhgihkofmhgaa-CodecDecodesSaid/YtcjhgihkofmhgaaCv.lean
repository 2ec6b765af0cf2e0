/-
  Plain mathematics of layer 6: what is decoded has just these bytes as its encoding; equal data have equal encodings; no Go in sight.
-/
import Derived.Test.YtcjhgihkofmhgaaCu
namespace Go.Proofs.Ytcjhgihkofmhgaa
set_option linter.unusedVariables false
namespace Sp
theorem intL_only {L L1 : List UInt8} {n : Int} (h : intL L = .inr (n, L1)) : (-9223372036854775808 ≤ n ∧ n ≤ 9223372036854775807) ∧ L = putS n ++ L1 := by
  unfold intL at h
  by_cases e : (getL L).2.2 = 0
  · rw [if_neg (by simpa using e)] at h
    simp only [Sum.inr.injEq, Prod.mk.injEq] at h
    obtain ⟨rfl, rfl⟩ := h
    have hg : getL L = ((getL L).1, (getL L).2.1, 0) := by rw [← e]
    obtain ⟨hr, hk, rest, hL⟩ := getL_only hg
    refine ⟨hr, ?_⟩
    rw [hk]
    conv => lhs; rw [hL]
    congr 1
    conv => rhs; rw [hL]
    rw [List.drop_append]
    generalize hq : putS (getL (putS (getL L).1 ++ rest)).1 = q
    have e2 : (getL (putS (getL L).1 ++ rest)).1 = (getL L).1 := by rw [← hL]
    rw [e2] at hq
    subst hq
    simp
  · rw [if_pos e] at h
    cases h
theorem textL_only {L L1 s : List UInt8} (h : textL L = .inr (s, L1)) : s.length ≤ 4000 ∧ L = putS s.length ++ (s ++ L1) := by
  unfold textL at h
  by_cases e : (getL L).2.2 = 0
  · have hi : intL L = .inr ((getL L).1, L.drop (getL L).2.1) := by unfold intL; rw [if_neg (by simpa using e)]
    obtain ⟨hr, hL⟩ := intL_only hi
    rw [if_neg (by simpa using e)] at h
    generalize (getL L).1 = n at h hL hr
    generalize L.drop (getL L).2.1 = M at h hL
    by_cases c1 : n < 0
    · rw [if_pos c1] at h; cases h
    · rw [if_neg c1] at h
      by_cases c2 : 4000 < n
      · rw [if_pos c2] at h; cases h
      · rw [if_neg c2] at h
        by_cases c3 : (M.length : Int) < n
        · rw [if_pos c3] at h; cases h
        · rw [if_neg c3] at h
          simp only [Sum.inr.injEq, Prod.mk.injEq] at h
          obtain ⟨rfl, rfl⟩ := h
          have hl : ((M.take n.toNat).length : Int) = n := by rw [List.length_take]; omega
          rw [hl, List.take_append_drop]
          exact ⟨by omega, hL⟩
  · rw [if_pos e] at h
    cases h
theorem loop_only {D : Nat} (hf : ∀ (L : List UInt8) (c : Nat) (t : Tr D) (rest : List UInt8) (c' : Nat), decT D L c = .inr (t, rest, c') → L = encT D t ++ rest ∧ rng D t ∧ c ≤ c' ∧ ∀ i z, i + D = 8 → chkT D t i c z = (0, c', z + (encT D t).length)) :
    ∀ (n : Nat) (L : List UInt8) (c : Nat) (l : List (Tr D)) (rest : List UInt8) (c' : Nat), loopD (decT D) n L c = .inr (l, rest, c') →
      l.length = n ∧ L = (l.map (encT D)).flatten ++ rest ∧ (∀ u ∈ l, rng D u) ∧ c ≤ c' ∧ ∀ i z, i + D = 8 → loopC (fun u c z => chkT D u i c z) l c z = (0, c', z + ((l.map (encT D)).flatten).length)
  | 0, L, c, l, rest, c', h => by
    simp only [loopD, Sum.inr.injEq, Prod.mk.injEq] at h
    obtain ⟨rfl, rfl, rfl⟩ := h
    exact ⟨rfl, rfl, (fun u hu => nomatch hu), Nat.le_refl _, fun i z _ => rfl⟩
  | n + 1, L, c, l, rest, c', h => by
    unfold loopD at h
    rcases h1 : decT D L c with e | ⟨t, L1, c1⟩
    · rw [h1] at h; cases h
    · rw [h1] at h
      simp only at h
      rcases h2 : loopD (decT D) n L1 c1 with e | ⟨ts, L2, c2⟩
      · rw [h2] at h; cases h
      · rw [h2] at h
        simp only [Sum.inr.injEq, Prod.mk.injEq] at h
        obtain ⟨rfl, rfl, rfl⟩ := h
        obtain ⟨a1, a2, a3, a4⟩ := hf L c t L1 c1 h1
        obtain ⟨b1, b2, b3, b4, b5⟩ := loop_only hf n L1 c1 ts L2 c2 h2
        refine ⟨by simp [b1], by rw [a1, b2]; simp, fun u hu => ?_, by omega, fun i z hi => ?_⟩
        · rcases List.mem_cons.1 hu with rfl | hu
          · exact a2
          · exact b3 u hu
        · unfold loopC
          simp only [a4 i z hi]
          rw [if_neg (by simp), b5 i _ hi]
          simp only [List.map_cons, List.flatten_cons, List.length_append, Prod.mk.injEq, true_and]
          omega
theorem chk_ok {d : Nat} (t : Tr (d + 1)) {i c z : Nat} (k : (1 : Int) ≤ t.1 ∧ t.1 ≤ 3) (f : form t) (b : ¬ (7 < i ∨ 500 < c + 1)) :
    chkT (d + 1) t i c z = loopC (fun u c z => chkT d u (i + 1) c z) t.2.2.2 (c + 1) (z + own t) := by
  conv => lhs; unfold chkT
  rw [if_neg (by simpa using k), if_neg (by simpa using f), if_neg b]
/-- What is decoded. -/
theorem dec_only : ∀ (D : Nat) (L : List UInt8) (c : Nat) (t : Tr D) (rest : List UInt8) (c' : Nat), decT D L c = .inr (t, rest, c') →
    L = encT D t ++ rest ∧ rng D t ∧ c ≤ c' ∧ ∀ i z, i + D = 8 → chkT D t i c z = (0, c', z + (encT D t).length)
  | 0, [], c, t, rest, c', h => by simp [decT] at h
  | 0, x :: L, c, t, rest, c', h => by
    unfold decT at h
    split at h <;> cases h
  | D + 1, [], c, t, rest, c', h => by simp [decT] at h
  | D + 1, x :: L, c, t, rest, c', h => by
    unfold decT at h
    by_cases k : 1 ≤ x.toNat ∧ x.toNat ≤ 3
    · rw [if_neg (by simpa using k)] at h
      by_cases c5 : 500 < c + 1
      · rw [if_pos c5] at h; cases h
      · rw [if_neg c5] at h
        have ex : UInt8.ofNat x.toNat = x := UInt8.ofNat_toNat
        unfold bodyL at h
        by_cases k1 : (x.toNat : Int) = 1
        · rw [if_pos k1] at h
          have x1 : x = 1 := UInt8.toNat_inj.1 (show x.toNat = 1 by omega)
          subst x1
          rcases h1 : intL L with e | ⟨n, L1⟩
          · rw [h1] at h; cases h
          · rw [h1] at h
            simp only [Sum.inr.injEq, Prod.mk.injEq] at h
            obtain ⟨rfl, rfl, rfl⟩ := h
            obtain ⟨hr, hL⟩ := intL_only h1
            refine ⟨by rw [enc1, hL]; rfl, ⟨hr, fun u hu => by cases hu⟩, by omega, fun i z hi => ?_⟩
            rw [chk_ok _ (by simp) (by simp [form]) (by omega), enc1]
            simp [loopC, own, num]
            omega
        · rw [if_neg k1] at h
          by_cases k2 : (x.toNat : Int) = 2
          · rw [if_pos k2] at h
            have x2 : x = 2 := UInt8.toNat_inj.1 (show x.toNat = 2 by omega)
            subst x2
            rcases h1 : textL L with e | ⟨s, L1⟩
            · rw [h1] at h; cases h
            · rw [h1] at h
              simp only [Sum.inr.injEq, Prod.mk.injEq] at h
              obtain ⟨rfl, rfl, rfl⟩ := h
              obtain ⟨hr, hL⟩ := textL_only h1
              refine ⟨by rw [enc2, hL]; simp, ⟨⟨by simp, by simp⟩, fun u hu => by cases hu⟩, by omega, fun i z hi => ?_⟩
              rw [chk_ok _ (by simp) (by simp [form]) (by omega), enc2]
              simp [loopC, own, num]
              omega
          · rw [if_neg k2] at h
            have x3 : x = 3 := UInt8.toNat_inj.1 (show x.toNat = 3 by omega)
            subst x3
            unfold listL at h
            rcases h1 : intL L with e | ⟨n, L1⟩
            · rw [h1] at h; cases h
            · rw [h1] at h
              simp only at h
              by_cases n0 : n < 0
              · rw [if_pos n0] at h; cases h
              · rw [if_neg n0] at h
                rcases h2 : loopD (decT D) n.toNat L1 (c + 1) with e | ⟨ts, L2, c2⟩
                · rw [h2] at h; cases h
                · rw [h2] at h
                  simp only [Sum.inr.injEq, Prod.mk.injEq] at h
                  obtain ⟨rfl, rfl, rfl⟩ := h
                  obtain ⟨hr, hL⟩ := intL_only h1
                  obtain ⟨b1, b2, b3, b4, b5⟩ := loop_only (fun L c t rest c' h => dec_only D L c t rest c' h) n.toNat L1 (c + 1) ts L2 c2 h2
                  have hn : n = (ts.length : Int) := by omega
                  refine ⟨by rw [enc3, hL, b2, hn]; simp, ⟨⟨by simp, by simp⟩, b3⟩, by omega, fun i z hi => ?_⟩
                  rw [chk_ok _ (by simp) (by simp [form]) (by omega), enc3]
                  simp only [b5 (i + 1) _ (show i + 1 + D = 8 by omega)]
                  simp [own, num]
                  omega
    · rw [if_pos k] at h
      cases h
theorem all2_map {α β γ : Type} {f : α → β → Bool} {g : α → γ} {h : β → γ} : ∀ {l : List α} {m : List β}, (∀ a ∈ l, ∀ b, f a b = true → g a = h b) → all2 f l m = true → l.map g = m.map h
  | [], [], _, _ => rfl
  | a :: l, [], _, e => by simp [all2] at e
  | [], b :: m, _, e => by simp [all2] at e
  | a :: l, b :: m, hf, e => by
    simp only [all2, Bool.and_eq_true] at e
    simp only [List.map_cons]
    rw [hf a List.mem_cons_self b e.1, all2_map (fun x hx => hf x (List.mem_cons_of_mem _ hx)) e.2]
/-- Equal data have equal encodings. -/
theorem eq_enc : ∀ (d e : Nat) (t : Tr d) (u : Tr e), eqT d e t u = true → encT d t = encT e u
  | 0, _, t, u, h => by simp [eqT] at h
  | d + 1, 0, t, u, h => by simp [eqT] at h
  | d + 1, e + 1, t, u, h => by
    obtain ⟨k, n, s, l⟩ := t
    obtain ⟨k', n', s', l'⟩ := u
    simp only [eqT, Bool.and_eq_true, decide_eq_true_eq] at h
    obtain ⟨⟨⟨rfl, rfl⟩, rfl⟩, hl⟩ := h
    have hlen := all2_len hl
    have hm := all2_map (fun a _ b hab => eq_enc d e a b hab) hl
    unfold encT
    simp only [hlen, hm]
end Sp
end Go.Proofs.Ytcjhgihkofmhgaa
