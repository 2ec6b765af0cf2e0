/-
  Layer 6: Decode of package codec, by contract.
-/
import Derived.Test.YtcjhgihkofmhgaaCyg
import Derived.Test.YtcjhgihkofmhgaaCyc
namespace Go.Proofs.Ytcjhgihkofmhgaa
open Go.RowKit
set_option linter.unusedVariables false
set_option linter.unusedSimpArgs false

namespace Sp
theorem intL_at {L : List UInt8} {k : Nat} (hk : k ≤ L.length) :
    (∃ e, e ≠ 0 ∧ intL (L.drop k) = .inl e ∧ getS L k = (0, 0, e)) ∨ (∃ (n : Int) (a : Nat), intL (L.drop k) = .inr (n, L.drop a) ∧ getS L k = (n, (a : Int), 0) ∧ a ≤ L.length) := by
  rw [getS_get hk]
  unfold intL
  have hl := getL_len (L.drop k)
  rw [List.length_drop] at hl
  by_cases c : (getL (L.drop k)).2.2 = 0
  · refine .inr ⟨(getL (L.drop k)).1, k + (getL (L.drop k)).2.1, ?_, ?_, by omega⟩
    · rw [if_neg (by simpa using c), List.drop_drop]
    · rw [if_pos c]
      simp
  · exact .inl ⟨(getL (L.drop k)).2.2, c, by rw [if_pos c], by rw [if_neg c]⟩
theorem textL_at {L : List UInt8} {k : Nat} (hk : k ≤ L.length) :
    (∃ e, e ≠ 0 ∧ textL (L.drop k) = .inl e ∧ textS L k = ([], 0, e)) ∨ (∃ (s : List UInt8) (a : Nat), textL (L.drop k) = .inr (s, L.drop a) ∧ textS L k = (s, (a : Int), 0) ∧ a ≤ L.length) := by
  unfold textS
  rw [getS_get hk]
  unfold textL
  have hl := getL_len (L.drop k)
  rw [List.length_drop] at hl
  generalize hG : getL (L.drop k) = G at hl
  obtain ⟨n, j, e⟩ := G
  simp only at hl ⊢
  by_cases c : e = 0
  · subst c
    simp only [ne_eq, not_true_eq_false, if_false, if_true]
    by_cases c1 : n < 0
    · exact .inl ⟨3, by decide, by rw [if_pos c1], by rw [if_pos c1]⟩
    · rw [if_neg c1, if_neg c1]
      by_cases c2 : 4000 < n
      · exact .inl ⟨8, by decide, by rw [if_pos c2], by rw [if_pos c2]⟩
      · rw [if_neg c2, if_neg c2]
        rw [List.drop_drop, List.length_drop]
        by_cases c3 : (((L.length - (k + j) : Nat)) : Int) < n
        · exact .inl ⟨17, by decide, by rw [if_pos c3], by rw [if_pos (by omega)]⟩
        · obtain ⟨m, rfl⟩ := Int.eq_ofNat_of_zero_le (show 0 ≤ n by omega)
          refine .inr ⟨(L.drop (k + j)).take m, k + j + m, ?_, ?_, by omega⟩
          · rw [if_neg c3, List.drop_drop]
            simp
          · rw [if_neg (by omega)]
            have e1 : ((k : Int) + (j : Int) + (m : Int)).toNat = k + j + m := by omega
            have e2 : ((k : Int) + (j : Int)).toNat = k + j := by omega
            rw [e1, e2, List.drop_take]
            simp only [Prod.mk.injEq, and_true]
            refine ⟨by congr 1; omega, by omega⟩
  · simp only [c, ne_eq, not_false_eq_true, if_true, if_false]
    exact .inl ⟨e, c, rfl, rfl⟩
theorem intL_e {L : List UInt8} {e : Int} (h : intL L = .inl e) : e ≠ 0 := by
  unfold intL at h
  by_cases c : (getL L).2.2 = 0
  · rw [if_neg (by simpa using c)] at h; cases h
  · rw [if_pos c] at h
    injection h with h
    rw [← h]; exact c
theorem textL_e {L : List UInt8} {e : Int} (h : textL L = .inl e) : e ≠ 0 := by
  unfold textL at h
  by_cases c : (getL L).2.2 = 0
  · rw [if_neg (by simpa using c)] at h
    split at h
    · injection h with h; omega
    · split at h
      · injection h with h; omega
      · split at h
        · injection h with h; omega
        · cases h
  · rw [if_pos c] at h
    injection h with h
    rw [← h]; exact c
theorem loopD_e {α : Type} {f : List UInt8 → Nat → Sum Int (α × List UInt8 × Nat)} (hf : ∀ L c e, f L c = .inl e → e ≠ 0) : ∀ (n : Nat) (L : List UInt8) (c : Nat) (e : Int), loopD f n L c = .inl e → e ≠ 0
  | 0, L, c, e, h => by simp [loopD] at h
  | n + 1, L, c, e, h => by
    unfold loopD at h
    rcases h1 : f L c with e1 | ⟨t, L1, c1⟩
    · rw [h1] at h
      injection h with h
      rw [← h]; exact hf _ _ _ h1
    · rw [h1] at h
      simp only at h
      rcases h2 : loopD f n L1 c1 with e2 | ⟨ts, L2, c2⟩
      · rw [h2] at h
        injection h with h
        rw [← h]; exact loopD_e hf n L1 c1 e2 h2
      · rw [h2] at h; cases h
theorem listL_e {α : Type} {f : List UInt8 → Nat → Sum Int (α × List UInt8 × Nat)} (hf : ∀ L c e, f L c = .inl e → e ≠ 0) {L : List UInt8} {c : Nat} {e : Int} (h : listL f L c = .inl e) : e ≠ 0 := by
  unfold listL at h
  rcases h1 : intL L with e1 | ⟨n, L1⟩
  · rw [h1] at h
    injection h with h
    rw [← h]; exact intL_e h1
  · rw [h1] at h
    simp only at h
    by_cases n0 : n < 0
    · rw [if_pos n0] at h
      injection h with h
      omega
    · rw [if_neg n0] at h
      exact loopD_e hf _ _ _ _ h
theorem dec_e : ∀ (D : Nat) (L : List UInt8) (c : Nat) (e : Int), decT D L c = .inl e → e ≠ 0
  | 0, [], c, e, h => by unfold decT at h; injection h with h; omega
  | 0, x :: L, c, e, h => by
    unfold decT at h
    split at h <;> (injection h with h; omega)
  | D + 1, [], c, e, h => by unfold decT at h; injection h with h; omega
  | D + 1, x :: L, c, e, h => by
    unfold decT at h
    split at h
    · injection h with h; omega
    · split at h
      · injection h with h; omega
      · unfold bodyL at h
        split at h
        · rcases h1 : intL L with e1 | ⟨n, L1⟩
          · rw [h1] at h
            injection h with h
            rw [← h]; exact intL_e h1
          · rw [h1] at h; cases h
        · split at h
          · rcases h1 : textL L with e1 | ⟨n, L1⟩
            · rw [h1] at h
              injection h with h
              rw [← h]; exact textL_e h1
            · rw [h1] at h; cases h
          · rcases h1 : listL (decT D) L (c + 1) with e1 | ⟨n, L1, c1⟩
            · rw [h1] at h
              injection h with h
              rw [← h]; exact listL_e (fun L c e h => dec_e D L c e h) h1
            · rw [h1] at h; cases h
end Sp
theorem Bs.own {w : World} {B : Nat} {A : Option Addr} {L : List UInt8} (h : Bs w B A L) : Bs w w.heap.size A L :=
  ⟨fun h0 => by
    obtain ⟨b, off, e, lt, hc⟩ := h.at_ h0
    exact ⟨b, off, e, World.block_lt_of_cell? w _ (hc 0 h0), hc⟩⟩
theorem rlist_any (L : List UInt8) (cap : Nat) (A : Option Addr) (g : Nat) (hL : L.length ≤ 140737488355328) (hcap : L.length ≤ cap) (B : Nat) (hBg : B ≤ g) (D : Nat) (i : Int)
    (ih : ∀ (a' c' : Nat) (W : World), RB W g A L.length cap a' c' → a' ≤ L.length → c' ≤ 500 → Bs W B A L → Calls Try.prog 47 #[.pointer (some ⟨g, 0, none⟩), .int .i64 i] W (PostD W g A L cap D (Sp.decT D (L.drop a') c')))
    (at_ c : Nat) (ha : at_ ≤ L.length) (hc : c ≤ 500) (w : World) (hB : RB w g A L.length cap at_ c) (S : Bs w B A L) :
    Calls Try.prog 55 #[.pointer (some ⟨g, 0, none⟩), .int .i64 i] w (PostLi w g A L cap (Sp.listL (Sp.decT D) (L.drop at_) c)) := by
  have hw : B ≤ w.heap.size := by have := hB.lt; omega
  have gi : ∀ W, Below w.heap.size w W → Calls Try.prog 12 #[.slice A L.length cap, .int .i64 (at_ : Int)] W fun e w' => e = .returned (.tuple #[.int .i64 (Sp.getS L at_).1, .int .i64 (Sp.getS L at_).2.1, .int .i64 (Sp.getS L at_).2.2]) ∧ w' = W := fun W hW =>
    (getInt_any L A cap at_ hcap hL B W (Nat.le_trans hw hW.size) (S.below (hW.mono hw))).mono fun e w' h => ⟨h.1, h.2.symm⟩
  have bad : ∀ er : Int, (Sp.listL (Sp.decT D) (L.drop at_) c = .inl er) → er ≠ 0 → ∀ e w', Gives (.tuple #[.slice none 0 0, .int .i64 er]) w e w' → PostLi w g A L cap (Sp.listL (Sp.decT D) (L.drop at_) c) e w' := fun er hr h0 e w' h => by
    rw [hr]
    exact ⟨h0, h.1, ⟨_, _, hB.below h.2⟩, Ow.of_below h.2 _⟩
  rcases Sp.intL_at ha with ⟨e, e0, h1, h2⟩ | ⟨n, a, h1, h2, h3⟩
  · rw [h2] at gi
    have hr : Sp.listL (Sp.decT D) (L.drop at_) c = .inl e := by unfold Sp.listL; rw [h1]
    refine (rlist_bad L.length cap A at_ i c g 0 0 e w hB (.inl e0) gi).mono fun e' w' h => bad e hr e0 e' w' ?_
    rw [if_pos e0] at h
    exact h
  · rw [h2] at gi
    by_cases n0 : n < 0
    · have hr : Sp.listL (Sp.decT D) (L.drop at_) c = .inl 3 := by unfold Sp.listL; rw [h1]; simp [n0]
      refine (rlist_bad L.length cap A at_ i c g n a 0 w hB (.inr n0) gi).mono fun e' w' h => bad 3 hr (by decide) e' w' ?_
      rw [if_neg (by simp)] at h
      exact h
    · obtain ⟨m, rfl⟩ := Int.eq_ofNat_of_zero_le (show 0 ≤ n by omega)
      have hr : Sp.listL (Sp.decT D) (L.drop at_) c = Sp.loopD (Sp.decT D) m (L.drop a) c := by
        unfold Sp.listL
        rw [h1]
        simp only [Int.toNat_natCast]
        rw [if_neg (by omega)]
      have hb := (Sp.getS_ok h2).2.2.2.2
      rw [hr]
      exact rlist_good L cap A at_ c i g m a hb h3 hc w hB D gi B hBg S ih
theorem rdatum_any (L : List UInt8) (cap : Nat) (A : Option Addr) (g : Nat) (hL : L.length ≤ 140737488355328) (hcap : L.length ≤ cap) (B : Nat) (hBg : B ≤ g) :
    ∀ (D i at_ c : Nat) (w : World), i + D = 8 → RB w g A L.length cap at_ c → at_ ≤ L.length → c ≤ 500 → Bs w B A L →
      Calls Try.prog 47 #[.pointer (some ⟨g, 0, none⟩), .int .i64 (i : Int)] w (PostD w g A L cap D (Sp.decT D (L.drop at_) c))
  | D, i, at_, c, w, hi, hB, ha, hc, S => by
    by_cases hat : at_ = L.length
    · subst hat
      have hr : Sp.decT D (L.drop L.length) c = .inl 17 := by rw [List.drop_length]; cases D <;> rfl
      rw [hr]
      exact (rdat_torn L A cap i c g hL w hB).mono fun e w' h => ⟨by decide, h.1, ⟨_, _, hB.below h.2⟩, Ow.of_below h.2 _⟩
    · have hlt : at_ < L.length := by omega
      obtain ⟨b, off, rfl, lt, cel⟩ := S.at_ (by omega)
      have hx := cel at_ hlt
      have bl : b < w.heap.size := by have := hB.lt; omega
      have hX : (L[at_]).toNat < 256 := UInt8.toNat_lt _
      have hw : B ≤ w.heap.size := by have := hB.lt; omega
      rw [List.drop_eq_getElem_cons hlt]
      by_cases hk : 1 ≤ (L[at_]).toNat ∧ (L[at_]).toNat ≤ 3
      · have lim : ∀ D', (7 < i ∨ 500 < c + 1) → Calls Try.prog 47 #[.pointer (some ⟨g, 0, none⟩), .int .i64 (i : Int)] w (PostD w g (some ⟨b, off, none⟩) L cap D' (.inl 8)) := fun D' h =>
          (rdat_limit L.length b off at_ _ cap i c g hlt hk hX hL h hc w hB bl hx).mono fun e w' h => ⟨by decide, h.1, ⟨_, _, h.2.1⟩, h.2.2⟩
        cases D with
        | zero =>
          have hr : Sp.decT 0 (L[at_] :: L.drop (at_ + 1)) c = .inl 8 := by
            unfold Sp.decT
            rw [if_neg (by simpa using hk)]
          rw [hr]
          exact lim 0 (by omega)
        | succ D =>
          unfold Sp.decT
          rw [if_neg (by simpa using hk)]
          by_cases h5 : 500 < c + 1
          · rw [if_pos h5]
            exact lim _ (.inr h5)
          · rw [if_neg h5]
            have hlim : ¬ (7 < i ∨ 500 < c + 1) := by omega
            unfold Sp.bodyL
            by_cases k1 : (L[at_]).toNat = 1
            · rw [if_pos (by omega)]
              rw [k1] at hx
              have gi : ∀ W, Bs W B (some ⟨b, off, none⟩) L → Calls Try.prog 12 #[.slice (some ⟨b, off, none⟩) L.length cap, .int .i64 ((at_ : Int) + 1)] W fun e w' => e = .returned (.tuple #[.int .i64 (Sp.getS L ((at_ + 1 : Nat) : Int)).1, .int .i64 (Sp.getS L ((at_ + 1 : Nat) : Int)).2.1, .int .i64 (Sp.getS L ((at_ + 1 : Nat) : Int)).2.2]) ∧ W = w' := fun W hW => by
                have := getInt_any L (some ⟨b, off, none⟩) cap ((at_ + 1 : Nat) : Int) hcap hL W.heap.size W (Nat.le_refl _) hW.own
                rw [show ((at_ + 1 : Nat) : Int) = (at_ : Int) + 1 by omega] at this ⊢
                exact this
              have W := rdat_int L.length b off at_ cap i c g hlt hL hlim w hB bl hx B hBg L S _ _ _ gi
              rcases Sp.intL_at (L := L) (k := at_ + 1) (by omega) with ⟨e, e0, h1, h2⟩ | ⟨n, a, h1, h2, h3⟩
              · rw [h2] at W
                rw [h1]
                exact W.mono fun e' w' h => ⟨e0, h.2.1 e0, ⟨_, _, h.2.2.1⟩, h.2.2.2⟩
              · rw [h2] at W
                rw [h1]
                have hb := (Sp.getS_ok h2).2.2.2
                exact W.mono fun e' w' h => ⟨_, a, h.1 rfl, ⟨⟨#[]⟩, none, 0, rfl, rfl, ⟨⟨by first | decide | simp, by first | decide | simp⟩, hb, by first | decide | simp, by first | decide | simp, by first | decide | simp⟩, fun h0 => absurd h0 (by simp)⟩, h3, rfl, by have := h.2.2.1; rw [show ((c + 1 : Nat) : Int) = (c : Int) + 1 by omega]; exact this, h.2.2.2⟩
            · rw [if_neg (by omega)]
              by_cases k2 : (L[at_]).toNat = 2
              · rw [if_pos (by omega)]
                rw [k2] at hx
                have gi : ∀ W, Bs W B (some ⟨b, off, none⟩) L → Calls Try.prog 14 #[.slice (some ⟨b, off, none⟩) L.length cap, .int .i64 ((at_ : Int) + 1)] W fun e w' => e = .returned (.tuple #[.string ⟨(Sp.textS L ((at_ + 1 : Nat) : Int)).1.toArray⟩, .int .i64 (Sp.textS L ((at_ + 1 : Nat) : Int)).2.1, .int .i64 (Sp.textS L ((at_ + 1 : Nat) : Int)).2.2]) ∧ W = w' := fun W hW => by
                  have := getText_any L (some ⟨b, off, none⟩) cap ((at_ + 1 : Nat) : Int) hcap hL W.heap.size W (Nat.le_refl _) hW.own
                  rw [show ((at_ + 1 : Nat) : Int) = (at_ : Int) + 1 by omega] at this ⊢
                  exact this
                have W := rdat_text L.length b off at_ cap i c g hlt hL hlim w hB bl hx B hBg L S _ _ _ gi
                rcases Sp.textL_at (L := L) (k := at_ + 1) (by omega) with ⟨e, e0, h1, h2⟩ | ⟨z, a, h1, h2, h3⟩
                · rw [h2] at W
                  rw [h1]
                  exact W.mono fun e' w' h => ⟨e0, h.2.1 e0, ⟨_, _, h.2.2.1⟩, h.2.2.2⟩
                · rw [h2] at W
                  rw [h1]
                  have hz := (Sp.textL_only h1).1
                  exact W.mono fun e' w' h => ⟨_, a, h.1 rfl, ⟨⟨z.toArray⟩, none, 0, rfl, rfl, ⟨⟨by first | decide | simp, by first | decide | simp⟩, ⟨by first | decide | simp, by first | decide | simp⟩, by rw [size_list]; simp; omega, by first | decide | simp, by first | decide | simp⟩, fun h0 => absurd h0 (by simp)⟩, h3, rfl, by have := h.2.2.1; rw [show ((c + 1 : Nat) : Int) = (c : Int) + 1 by omega]; exact this, h.2.2.2⟩
              · rw [if_neg (by omega)]
                have k3 : (L[at_]).toNat = 3 := by omega
                rw [k3] at hx
                have li : ∀ W, Ow w W (some g) (some g) → RB W g (some ⟨b, off, none⟩) L.length cap ((at_ : Int) + 1) ((c : Int) + 1) → Calls Try.prog 55 #[.pointer (some ⟨g, 0, none⟩), .int .i64 ((i : Int) + 1)] W (PostLi W g (some ⟨b, off, none⟩) L cap (Sp.listL (Sp.decT D) (L.drop (at_ + 1)) (c + 1))) := fun W hO hR => by
                  have := rlist_any L cap (some ⟨b, off, none⟩) g hL hcap B hBg D ((i + 1 : Nat) : Int) (fun a' c' W h1 h2 h3 h4 => rdatum_any L cap (some ⟨b, off, none⟩) g hL hcap B hBg D (i + 1) a' c' W (by omega) h1 h2 h3 h4) (at_ + 1) (c + 1) (by omega) (by omega) W
                    (by rw [show ((at_ + 1 : Nat) : Int) = (at_ : Int) + 1 by omega, show ((c + 1 : Nat) : Int) = (c : Int) + 1 by omega]; exact hR) (S.below (hO.under hw (fun g' hg' => by injection hg' with hg'; omega)))
                  rw [show ((i + 1 : Nat) : Int) = (i : Int) + 1 by omega] at this
                  exact this
                rcases hr : Sp.listL (Sp.decT D) (L.drop (at_ + 1)) (c + 1) with e | ⟨ts, rest, c'⟩
                · rw [hr] at li
                  have e0 := Sp.listL_e (fun L c e h => Sp.dec_e D L c e h) hr
                  refine (rdat_list_bad L.length b off at_ cap i c g hlt hL hlim w hB bl hx (by omega) e e0 (fun W h1 h2 => (li W h1 h2).mono fun e' w' h => ⟨h.2.1, h.2.2.1, h.2.2.2⟩)).mono fun e' w' h => ?_
                  exact ⟨e0, h.1, h.2.1, h.2.2⟩
                · rw [hr] at li
                  have hcnt : ts.length ≤ 500 := by
                    unfold Sp.listL at hr
                    rcases h1 : Sp.intL (L.drop (at_ + 1)) with e | ⟨n, L1⟩
                    · rw [h1] at hr; cases hr
                    · rw [h1] at hr
                      simp only at hr
                      by_cases n0 : n < 0
                      · rw [if_pos n0] at hr; cases hr
                      · rw [if_neg n0] at hr
                        have h2 := Sp.loopD_count (fun L c t r c' h => Sp.dec_count D L c t r c' h) _ _ _ _ _ _ (by omega) hr
                        have h3 := (Sp.loop_only (fun L c t rest c' h => Sp.dec_only D L c t rest c' h) _ _ _ _ _ _ hr).1
                        omega
                  have hfix : ∀ a', a' ≤ L.length → rest = L.drop a' → a' = L.length - rest.length := fun a' h1 h2 => by rw [h2, List.length_drop]; omega
                  have hrest : rest = L.drop (L.length - rest.length) := by
                    have h1 : ∃ pre, L = pre ++ rest := by
                      unfold Sp.listL at hr
                      rcases h1 : Sp.intL (L.drop (at_ + 1)) with e | ⟨n, L1⟩
                      · rw [h1] at hr; cases hr
                      · rw [h1] at hr
                        simp only at hr
                        by_cases n0 : n < 0
                        · rw [if_pos n0] at hr; cases hr
                        · rw [if_neg n0] at hr
                          have h3 := (Sp.loop_only (fun L c t rest c' h => Sp.dec_only D L c t rest c' h) _ _ _ _ _ _ hr).2.1
                          have h4 := (Sp.intL_only h1).2
                          refine ⟨L.take (at_ + 1) ++ (Sp.putS n ++ (ts.map (Sp.encT D)).flatten), ?_⟩
                          rw [List.append_assoc, List.append_assoc, ← h3, ← h4, List.take_append_drop]
                    obtain ⟨q, h1⟩ := h1
                    have hl : L.length - rest.length = q.length := by
                      have := congrArg List.length h1
                      rw [List.length_append] at this
                      omega
                    rw [hl]
                    conv => rhs; rw [h1]
                    simp
                  refine (rdat_list_good L.length b off at_ cap i c g hlt hL hlim w hB bl hx (by omega) D ts ((L.length - rest.length : Nat) : Int) (c' : Int) (fun W h1 h2 => (li W h1 h2).mono fun e' w' h => ?_)).mono fun e' w' h => ?_
                  · obtain ⟨A', cap', a', h1, h2, h3, h4, h5, h6, h7, h8⟩ := h
                    have := hfix a' h5 h6
                    subst this
                    exact ⟨A', cap', h1, h2, h4, h7, h8⟩
                  · obtain ⟨A', cap', h1, h2, h3, h4, h5⟩ := h
                    exact ⟨_, L.length - rest.length, h1, ⟨⟨#[]⟩, A', cap', rfl, rfl, ⟨⟨by first | decide | simp, by first | decide | simp⟩, ⟨by first | decide | simp, by first | decide | simp⟩, by first | decide | simp, by show ts.length ≤ _; omega, h2⟩, h3⟩, by omega, hrest, h4, h5⟩
      · have hr : Sp.decT D (L[at_] :: L.drop (at_ + 1)) c = .inl 1 := by
          cases D with
          | zero => unfold Sp.decT; rw [if_pos hk]
          | succ D => unfold Sp.decT; rw [if_pos hk]
        rw [hr]
        exact (rdat_kind L.length b off at_ _ cap i c g hlt hk hX hL w hB bl hx).mono fun e w' h => ⟨by decide, h.1, ⟨_, _, hB.below h.2⟩, Ow.of_below h.2 _⟩
end Go.Proofs.Ytcjhgihkofmhgaa
