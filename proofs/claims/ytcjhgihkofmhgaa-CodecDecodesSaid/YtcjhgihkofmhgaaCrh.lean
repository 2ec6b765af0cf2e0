/-
  Layer 6: the reference's reader, by contract.
-/
import Derived.Test.YtcjhgihkofmhgaaCyi
import Derived.Test.YtcjhgihkofmhgaaCra
import Derived.Test.YtcjhgihkofmhgaaCrb
import Derived.Test.YtcjhgihkofmhgaaCrc
import Derived.Test.YtcjhgihkofmhgaaCrd
import Derived.Test.YtcjhgihkofmhgaaCre
import Derived.Test.YtcjhgihkofmhgaaCrf
import Derived.Test.YtcjhgihkofmhgaaCrg
namespace Go.Proofs.Ytcjhgihkofmhgaa
open Go.RowKit
set_option linter.unusedVariables false
set_option linter.unusedSimpArgs false

theorem PostZ.of {w w' : World} {g : Nat} {A : Option Addr} {len cap : Nat} {x y : Int} {er : Int} {e : Ending} (hB : RB w g A len cap x y) (h : Gives (.tuple #[.agg #[.int .i64 0, .int .i64 0, .string ⟨#[]⟩, .slice none 0 0], .int .i64 er]) w e w') : PostZ w g A len cap er e w' :=
  ⟨⟨0, 0, ⟨#[]⟩, none, 0, 0, h.1⟩, ⟨_, _, hB.below h.2⟩, Ow.of_below h.2 _⟩
theorem rrdatum_any (L : List UInt8) (cap : Nat) (A : Option Addr) (g : Nat) (hL : L.length ≤ 140737488355328) (hcap : L.length ≤ cap) (B : Nat) (hBg : B ≤ g) :
    ∀ (D i at_ c : Nat) (w : World), i + D = 8 → RB w g A L.length cap at_ c → at_ ≤ L.length → c ≤ 500 → Bs w B A L →
      Calls Try.prog 48 #[.pointer (some ⟨g, 0, none⟩), .int .i64 (i : Int)] w (PostG w g A L cap D (Sp.decT D (L.drop at_) c))
  | D, i, at_, c, w, hi, hB, ha, hc, S => by
    by_cases hat : at_ = L.length
    · subst hat
      have hr : Sp.decT D (L.drop L.length) c = .inl 17 := by rw [List.drop_length]; cases D <;> rfl
      rw [hr]
      exact (rr_torn L A cap i c g hL w hB).mono fun e w' h => ⟨by decide, .of hB h⟩
    · have hlt : at_ < L.length := by omega
      obtain ⟨b, off, rfl, lt, cel⟩ := S.at_ (by omega)
      have hx := cel at_ hlt
      have bl : b < w.heap.size := by have := hB.lt; omega
      have hX : (L[at_]).toNat < 256 := UInt8.toNat_lt _
      have hw : B ≤ w.heap.size := by have := hB.lt; omega
      rw [List.drop_eq_getElem_cons hlt]
      by_cases hk : 1 ≤ (L[at_]).toNat ∧ (L[at_]).toNat ≤ 3
      · have lim : ∀ D', (7 < i ∨ 500 < c + 1) → Calls Try.prog 48 #[.pointer (some ⟨g, 0, none⟩), .int .i64 (i : Int)] w (PostG w g (some ⟨b, off, none⟩) L cap D' (.inl 8)) := fun D' h =>
          (rr_limit L.length b off at_ _ cap i c g hlt hk hL h w hB bl hx).mono fun e w' h => ⟨by decide, .of hB h⟩
        cases D with
        | zero =>
          have hr : Sp.decT 0 (L[at_] :: L.drop (at_ + 1)) c = .inl 8 := by
            unfold Sp.decT
            rw [if_neg (by simpa using hk)]
          rw [hr]
          exact lim 0 (by omega)
        | succ D =>
          unfold Sp.decT
          rw [if_neg (by simpa using hk)]
          by_cases h5 : 500 < c + 1
          · rw [if_pos h5]
            exact lim _ (.inr h5)
          · rw [if_neg h5]
            have hlim : ¬ (7 < i ∨ 500 < c + 1) := by omega
            unfold Sp.bodyL
            have gi : ∀ W, Bs W B (some ⟨b, off, none⟩) L → Calls Try.prog 13 #[.slice (some ⟨b, off, none⟩) L.length cap, .int .i64 ((at_ : Int) + 1)] W fun e w' => e = .returned (.tuple #[.int .i64 (Sp.getS L ((at_ + 1 : Nat) : Int)).1, .int .i64 (Sp.getS L ((at_ + 1 : Nat) : Int)).2.1, .int .i64 (Sp.getS L ((at_ + 1 : Nat) : Int)).2.2]) ∧ W = w' := fun W hW => by
              have := rgetInt_any L (some ⟨b, off, none⟩) cap ((at_ + 1 : Nat) : Int) hcap hL W.heap.size W (Nat.le_refl _) hW.own
              rw [show ((at_ + 1 : Nat) : Int) = (at_ : Int) + 1 by omega] at this ⊢
              exact this
            by_cases k1 : (L[at_]).toNat = 1
            · rw [if_pos (by omega)]
              rw [k1] at hx
              rcases Sp.intL_at (L := L) (k := at_ + 1) (by omega) with ⟨e, e0, h1, h2⟩ | ⟨n, a, h1, h2, h3⟩
              · rw [h2] at gi
                rw [h1]
                exact (rr_int_bad L.length b off at_ cap i c g hlt hL hlim w hB bl hx B hBg L S _ _ _ gi e0).mono fun e' w' h => ⟨e0, h⟩
              · rw [h2] at gi
                rw [h1]
                have hb := (Sp.getS_ok h2).2.2.2
                exact (rr_int L.length b off at_ cap i c g hlt hL hlim w hB bl hx B hBg L S _ _ _ gi rfl).mono fun e' w' h => ⟨_, a, h.1, ⟨⟨#[]⟩, none, 0, rfl, rfl, ⟨⟨by first | decide | simp, by first | decide | simp⟩, hb, by first | decide | simp, by first | decide | simp, by first | decide | simp⟩, fun h0 => absurd h0 (by simp)⟩, h3, rfl, by have := h.2.1; rw [show ((c + 1 : Nat) : Int) = (c : Int) + 1 by omega]; exact this, h.2.2⟩
            · rw [if_neg (by omega)]
              by_cases k2 : (L[at_]).toNat = 2
              · rw [if_pos (by omega)]
                rw [k2] at hx
                have gt : ∀ W, Bs W B (some ⟨b, off, none⟩) L → Calls Try.prog 15 #[.slice (some ⟨b, off, none⟩) L.length cap, .int .i64 ((at_ : Int) + 1)] W fun e w' => e = .returned (.tuple #[.string ⟨(Sp.textS L ((at_ + 1 : Nat) : Int)).1.toArray⟩, .int .i64 (Sp.textS L ((at_ + 1 : Nat) : Int)).2.1, .int .i64 (Sp.textS L ((at_ + 1 : Nat) : Int)).2.2]) ∧ W = w' := fun W hW => by
                  have := rgetText_any L (some ⟨b, off, none⟩) cap ((at_ + 1 : Nat) : Int) hcap hL W.heap.size W (Nat.le_refl _) hW.own
                  rw [show ((at_ + 1 : Nat) : Int) = (at_ : Int) + 1 by omega] at this ⊢
                  exact this
                have W := rr_text L.length b off at_ cap i c g hlt hL hlim w hB bl hx B hBg L S _ _ _ gt
                rcases Sp.textL_at (L := L) (k := at_ + 1) (by omega) with ⟨e, e0, h1, h2⟩ | ⟨z, a, h1, h2, h3⟩
                · rw [h2] at W
                  rw [h1]
                  exact W.mono fun e' w' h => ⟨e0, ⟨2, 0, _, none, 0, 0, h.1⟩, ⟨_, _, h.2.1⟩, h.2.2⟩
                · rw [h2] at W
                  rw [h1]
                  have hz := (Sp.textL_only h1).1
                  exact W.mono fun e' w' h => ⟨_, a, h.1, ⟨⟨z.toArray⟩, none, 0, rfl, rfl, ⟨⟨by first | decide | simp, by first | decide | simp⟩, ⟨by first | decide | simp, by first | decide | simp⟩, by rw [size_list]; simp; omega, by first | decide | simp, by first | decide | simp⟩, fun h0 => absurd h0 (by simp)⟩, h3, rfl, by have := h.2.1; rw [show ((c + 1 : Nat) : Int) = (c : Int) + 1 by omega]; exact this, h.2.2⟩
              · rw [if_neg (by omega)]
                have k3 : (L[at_]).toNat = 3 := by omega
                rw [k3] at hx
                unfold Sp.listL
                rcases Sp.intL_at (L := L) (k := at_ + 1) (by omega) with ⟨e, e0, h1, h2⟩ | ⟨n, a, h1, h2, h3⟩
                · rw [h2] at gi
                  rw [h1]
                  exact (rr_list_bad L.length b off at_ cap i c g hlt hL hlim w hB bl hx B hBg L S _ _ _ gi e0).mono fun e' w' h => ⟨e0, h⟩
                · rw [h2] at gi
                  rw [h1]
                  simp only
                  by_cases n0 : n < 0
                  · rw [if_pos n0]
                    exact (rr_list_neg L.length b off at_ cap i c g hlt hL hlim w hB bl hx B hBg L S _ _ _ gi rfl n0).mono fun e' w' h => ⟨by decide, h⟩
                  · rw [if_neg n0]
                    obtain ⟨m, rfl⟩ := Int.eq_ofNat_of_zero_le (show 0 ≤ n by omega)
                    have hb := (Sp.getS_ok h2).2.2.2.2
                    have W := rr_list L.length b off at_ cap i c g hlt hL hlim w hB bl hx B hBg L S m a rfl hb h3 gi D (fun a' c' W h1 h2 h3 h4 => by
                      have := rrdatum_any L cap (some ⟨b, off, none⟩) g hL hcap B hBg D (i + 1) a' c' W (by omega) h1 h2 h3 h4
                      rw [show ((i + 1 : Nat) : Int) = (i : Int) + 1 by omega] at this
                      exact this)
                    refine W.mono fun e' w' h => ?_
                    rw [Int.toNat_natCast]
                    rcases hr : Sp.loopD (Sp.decT D) m (L.drop a) (c + 1) with e | ⟨ts, rest, c'⟩
                    · rw [hr] at h; exact h
                    · rw [hr] at h; exact h
      · have hr : Sp.decT D (L[at_] :: L.drop (at_ + 1)) c = .inl 1 := by
          cases D with
          | zero => unfold Sp.decT; rw [if_pos hk]
          | succ D => unfold Sp.decT; rw [if_pos hk]
        rw [hr]
        exact (rr_kind L.length b off at_ _ cap i c g hlt hk hX hL w hB bl hx).mono fun e w' h => ⟨by decide, .of hB h⟩
end Go.Proofs.Ytcjhgihkofmhgaa
