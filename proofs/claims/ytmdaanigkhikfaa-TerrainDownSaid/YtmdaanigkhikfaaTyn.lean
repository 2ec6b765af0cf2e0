/-
  Layer 15: mathematics of TerrainDown: what holds node by node, and the sum over the pits.
-/
import Derived.Test.YtmdaanigkhikfaaTym
import Derived.Test.YtmdaanigkhikfaaTyl
namespace Go.Proofs.Ytmdaanigkhikfaa
set_option linter.unusedVariables false
set_option linter.unusedSimpArgs false
namespace Sp
theorem lowF_le (z : List Int) : ∀ (L : List Int) (l : Int), hz z (lowF z l L) ≤ hz z l ∧ ∀ v ∈ L, hz z (lowF z l L) ≤ hz z v
  | [], l => ⟨Int.le_refl _, fun v h => by simp at h⟩
  | n :: L, l => by
    unfold lowF
    by_cases c : hz z n < hz z l
    · rw [if_pos c]
      obtain ⟨h1, h2⟩ := lowF_le z L n
      refine ⟨by omega, fun v h => ?_⟩
      rcases List.mem_cons.1 h with rfl | h
      · exact h1
      · exact h2 v h
    · rw [if_neg c]
      obtain ⟨h1, h2⟩ := lowF_le z L l
      refine ⟨h1, fun v h => ?_⟩
      rcases List.mem_cons.1 h with rfl | h
      · omega
      · exact h2 v h
/-- A node: a pit without a lower neighbour, or one whose receiver is a lower neighbour. -/
theorem rcv_node {c r i : Int} (z : List Int) (bc : 2 ≤ c) (br : 2 ≤ r) (i0 : 0 ≤ i) (i1 : i < c * r) :
    (rcvS z c r i = -1 ∧ (nbS c r i).any (lwB z i) = false) ∨ (rcvS z c r i ∈ nbS c r i ∧ 0 ≤ rcvS z c r i ∧ rcvS z c r i < c * r ∧ hz z (rcvS z c r i) < hz z i) := by
  unfold rcvS
  by_cases h : lowF z i (nbS c r i) = i
  · rw [if_pos h]
    refine .inl ⟨rfl, ?_⟩
    have g := (lowF_le z (nbS c r i) i).2
    rw [h] at g
    rw [List.any_eq_false]
    intro v hv
    have := g v hv
    unfold lwB
    simp
    omega
  · rw [if_neg h]
    rcases lowF_cases z (nbS c r i) i with g | ⟨g1, g2⟩
    · exact absurd g h
    · obtain ⟨h1, h2⟩ := nbS_mem bc br i0 i1 g1
      exact .inr ⟨g1, h1, h2, g2⟩
theorem tab_D (g : Int → Int) (n m : Nat) (h : m < n) (d : Int) : (tabL g n)[m]?.getD d = g (m : Int) := by
  rw [getD_at m (by rw [tabL_len]; exact h), tabL_get]
theorem tab_falls {c r : Int} {z : List Int} (bc : 2 ≤ c) (br : 2 ≤ r) (hl : (z.length : Int) = c * r) (h5 : ∀ v ∈ z, 0 ≤ v ∧ v ≤ 50000) : Falls z (tabL (rcvS z c r) z.length) := by
  refine ⟨fun i => ⟨(hz_in h5 i).2, (hz_in h5 i).1⟩, fun m hm => ?_⟩
  rw [tabL_len] at hm ⊢
  rw [tab_D _ _ _ hm]
  rcases rcv_cases z bc br (show (0 : Int) ≤ (m : Int) by omega) (by omega) with h | ⟨h1, h2, h3⟩
  · exact .inl h
  · exact .inr ⟨h1, by omega, h3⟩
/-- The sum over the pits among the first nodes. -/
def pitsJ (l : List Int) (J : Nat) : Nat := ((List.range J).map (fun j : Nat => if pit l (j : Int) then cnt l l.length j else 0)).sum
theorem pitsJ_succ (l : List Int) (J : Nat) : pitsJ l (J + 1) = pitsJ l J + (if pit l (J : Int) then cnt l l.length J else 0) := by
  unfold pitsJ
  rw [List.range_succ, List.map_append, List.sum_append]
  simp
theorem pitsJ_le (l : List Int) (J : Nat) : ∀ d, pitsJ l J ≤ pitsJ l (J + d)
  | 0 => Nat.le_refl _
  | d + 1 => by
    have h := pitsJ_le l J d
    have e := pitsJ_succ l (J + d)
    have : J + (d + 1) = J + d + 1 := by omega
    rw [this]
    omega
/-- What the law asks of a node. -/
def nodeOk (c r : Int) (z l C : List Int) (i : Nat) : Prop :=
  (l[i]?.getD (-1) = -1 ∧ (nbS c r (i : Int)).any (lwB z (i : Int)) = false) ∨
  (∃ k : Nat, l[i]?.getD (-1) = (k : Int) ∧ k < l.length ∧ (k : Int) ∈ nbS c r (i : Int) ∧ hz z (k : Int) < hz z (i : Int) ∧ 1 ≤ C[i]?.getD 0 ∧ C[i]?.getD 0 < C[k]?.getD 0)
theorem down_ok {c r : Int} {z : List Int} (bc : 2 ≤ c) (br : 2 ≤ r) (hl : (z.length : Int) = c * r) (h5 : ∀ v ∈ z, 0 ≤ v ∧ v ≤ 50000) :
    (∀ i, i < z.length → nodeOk c r z (tabL (rcvS z c r) z.length) (catS z c r) i) ∧
    (∀ i, i < z.length → (tabL (rcvS z c r) z.length)[i]?.getD (-1) = -1 → (pitsJ (tabL (rcvS z c r) z.length) (i + 1) : Int) = pitsJ (tabL (rcvS z c r) z.length) i + (catS z c r)[i]?.getD 0) ∧
    (∀ i, i < z.length → ¬ (tabL (rcvS z c r) z.length)[i]?.getD (-1) = -1 → pitsJ (tabL (rcvS z c r) z.length) (i + 1) = pitsJ (tabL (rcvS z c r) z.length) i) ∧
    (∀ i, i ≤ z.length → pitsJ (tabL (rcvS z c r) z.length) i ≤ z.length) ∧ pitsJ (tabL (rcvS z c r) z.length) z.length = z.length := by
  have F := tab_falls bc br hl h5
  obtain ⟨l, hL⟩ : ∃ l, tabL (rcvS z c r) z.length = l := ⟨_, rfl⟩
  have ll : l.length = z.length := by rw [← hL, tabL_len]
  have CG : ∀ i, i < z.length → (catS z c r)[i]?.getD 0 = ((cnt l l.length i : Nat) : Int) := fun i hi => by
    unfold catS
    rw [hL]
    rw [hL] at F
    have := catJ_get F i (by omega) l.length (Nat.le_refl _)
    rwa [ll] at this ⊢
  have E : pitsJ l z.length = z.length := by
    rw [hL] at F
    have := cnt_pits F
    unfold pitsJ
    rw [ll] at this ⊢
    exact this
  have G : ∀ i, i < z.length → l[i]?.getD (-1) = rcvS z c r (i : Int) := fun i hi => by rw [← hL]; exact tab_D _ _ _ hi _
  rw [hL] at F ⊢
  refine ⟨fun i hi => ?_, fun i hi h => ?_, fun i hi h => ?_, fun i hi => ?_, E⟩
  · rcases rcv_node z bc br (show (0 : Int) ≤ (i : Int) by omega) (by omega) with ⟨h1, h2⟩ | ⟨h1, h2, h3, h4⟩
    · exact .inl ⟨(G i hi).trans h1, h2⟩
    · obtain ⟨k, hk⟩ : ∃ k : Nat, rcvS z c r (i : Int) = (k : Int) := ⟨(rcvS z c r (i : Int)).toNat, by omega⟩
      rw [hk] at h1 h2 h3 h4
      have kl : k < l.length := by omega
      have gi := (G i hi).trans hk
      refine .inr ⟨k, gi, kl, h1, h4, ?_, ?_⟩
      · rw [CG i hi]
        have := cnt_pos F i (by omega)
        omega
      · rw [CG i hi, CG k (by omega)]
        have := cnt_lt F i k (by omega) gi kl h4
        omega
  · rw [pitsJ_succ, CG i hi, if_pos (by unfold pit; rw [Int.toNat_natCast, h]; rfl)]
    push_cast
    rfl
  · rw [pitsJ_succ, if_neg (by unfold pit; rw [Int.toNat_natCast]; simpa using h)]
    rfl
  · have := pitsJ_le l i (z.length - i)
    rw [show i + (z.length - i) = z.length by omega, E] at this
    exact this
end Sp
end Go.Proofs.Ytmdaanigkhikfaa
