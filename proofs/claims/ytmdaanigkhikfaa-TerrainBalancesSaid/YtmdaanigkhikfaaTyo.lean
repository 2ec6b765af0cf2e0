/-
  Layer 15: mathematics of TerrainBalances.
-/
import Derived.Test.YtmdaanigkhikfaaTu
namespace Go.Proofs.Ytmdaanigkhikfaa
set_option linter.unusedVariables false
set_option linter.unusedSimpArgs false
namespace Sp
/-- The height over a level. -/
def ovG (lv v : Int) : Int := v - lv
theorem up_dn (lv v : Int) : upG lv v - dnG lv v = ovG lv v := by unfold upG dnG ovG; omega
theorem celG_sub {g h d : Int → Int} (e : ∀ v, g v - h v = d v) (z : List Int) (c : Int) (q : Int × Int) : celG g z c q - celG h z c q = celG d z c q := by
  unfold celG
  have e1 := e (hz z (q.2 * c + q.1))
  have e2 := e (hz z (q.2 * c + q.1 + 1))
  have e3 := e (hz z (q.2 * c + q.1 + c + 1))
  have e4 := e (hz z (q.2 * c + q.1 + c))
  omega
theorem sumG_cons (g : Int → Int) (z : List Int) (c : Int) (q : Int × Int) (l : List (Int × Int)) : sumG g z c (q :: l) = celG g z c q + sumG g z c l := by simp [sumG]
theorem sumG_sub {g h d : Int → Int} (e : ∀ v, g v - h v = d v) (z : List Int) (c : Int) : ∀ l : List (Int × Int), sumG g z c l - sumG h z c l = sumG d z c l
  | [] => by simp [sumG]
  | q :: l => by
    have h1 := sumG_sub e z c l
    have h2 := celG_sub e z c q
    rw [sumG_cons, sumG_cons, sumG_cons]
    omega
theorem sumG_mono {g h : Int → Int} (e : ∀ v, g v ≤ h v) (z : List Int) (c : Int) : ∀ l : List (Int × Int), sumG g z c l ≤ sumG h z c l
  | [] => by simp [sumG]
  | q :: l => by
    have h1 := sumG_mono e z c l
    have e1 := e (hz z (q.2 * c + q.1))
    have e2 := e (hz z (q.2 * c + q.1 + 1))
    have e3 := e (hz z (q.2 * c + q.1 + c + 1))
    have e4 := e (hz z (q.2 * c + q.1 + c))
    rw [sumG_cons, sumG_cons]
    unfold celG
    omega
theorem sumG_zero {g : Int → Int} (z : List Int) (c : Int) : ∀ l : List (Int × Int), (∀ q ∈ l, celG g z c q = 0) → sumG g z c l = 0
  | [], _ => by simp [sumG]
  | q :: l, e => by
    rw [sumG_cons, e q List.mem_cons_self, sumG_zero z c l (fun p hp => e p (List.mem_cons_of_mem _ hp))]
    rfl
/-- The four nodes of a cell are there. -/
theorem cell_nodes {c r x y : Int} {n : Nat} (hc : 2 ≤ c) (hr : 2 ≤ r) (hl : (n : Int) = c * r) (x0 : 0 ≤ x) (x1 : x ≤ c - 2) (y0 : 0 ≤ y) (y1 : y ≤ r - 2) : 0 ≤ y * c + x ∧ y * c + x + c + 1 < n := by
  have M0 : 0 ≤ y * c := Int.mul_nonneg y0 (by omega)
  have M2 : (y + 2) * c ≤ r * c := Int.mul_le_mul_of_nonneg_right (by omega) (by omega)
  rw [Int.add_mul, Int.mul_comm r c] at M2
  omega
theorem hz_mem {z : List Int} {i : Int} (h0 : 0 ≤ i) (h1 : i < z.length) : hz z i ∈ z := by
  obtain ⟨m, rfl⟩ : ∃ m : Nat, i = (m : Int) := ⟨i.toNat, by omega⟩
  rw [hz_at z m (by omega)]
  exact List.getElem_mem _
theorem sumS_dn_zero {c r lv : Int} {z : List Int} (hc : 2 ≤ c) (hr : 2 ≤ r) (hl : (z.length : Int) = c * r) (h : ∀ v ∈ z, lv ≤ v) : sumS (dnG lv) c r z = 0 := by
  unfold sumS
  refine sumG_zero z c _ fun q hq => ?_
  unfold cellU at hq
  obtain ⟨m, hm, rfl⟩ := List.mem_map.1 hq
  have ml := List.mem_range.1 hm
  obtain ⟨⟨a1, a2⟩, a3, a4⟩ := cellF_ok (c := c) (r := r) (nc := (c - 1).toNat) (nr := (r - 1).toNat) (by omega) (by omega) ml
  generalize cellF (c - 1).toNat m = q at a1 a2 a3 a4 ⊢
  obtain ⟨n0, n1⟩ := cell_nodes hc hr hl a1 a2 a3 a4
  have b1 := h _ (hz_mem (z := z) (i := q.2 * c + q.1) (by omega) (by omega))
  have b2 := h _ (hz_mem (z := z) (i := q.2 * c + q.1 + 1) (by omega) (by omega))
  have b3 := h _ (hz_mem (z := z) (i := q.2 * c + q.1 + c + 1) (by omega) (by omega))
  have b4 := h _ (hz_mem (z := z) (i := q.2 * c + q.1 + c) (by omega) (by omega))
  unfold celG dnG
  omega
/-- What the law asks of the spans at a level and one above. -/
theorem bal_num {P Q P1 Q1 k cl ch fl fh ul uh dl dh : Int} (p0 : 0 ≤ P) (q0 : 0 ≤ Q) (p1 : 0 ≤ P1) (q1 : 0 ≤ Q1) (hP : P1 ≤ P) (hQ : Q ≤ Q1)
    (h1 : spaS k (max 0 (P - Q)) P = (cl, ch)) (h2 : spaS k (max 0 (Q - P)) Q = (fl, fh)) (h3 : spaS k (max 0 (P1 - Q1)) P1 = (ul, uh)) (h4 : spaS k (max 0 (Q1 - P1)) Q1 = (dl, dh)) :
    0 ≤ cl ∧ cl ≤ ch ∧ 0 ≤ fl ∧ fl ≤ fh ∧ uh ≤ ch ∧ ul ≤ cl ∧ fh ≤ dh ∧ 4 * (cl - fh) ≤ (P - Q) * k * k ∧ (P - Q) * k * k ≤ 4 * (ch - fl) ∧ (Q = 0 → fl = 0 ∧ fh = 0 ∧ ch - cl ≤ 1) := by
  unfold spaS at h1 h2 h3 h4
  have D0 : 0 ≤ k * k := by
    rcases Int.le_total 0 k with h | h
    · exact Int.mul_nonneg h h
    · exact Int.mul_nonneg_of_nonpos_of_nonpos h h
  rw [Int.mul_assoc]
  generalize k * k = D at *
  have mulm : ∀ a b : Int, a ≤ b → a * D ≤ b * D := fun a b h => Int.mul_le_mul_of_nonneg_right h D0
  have m0 : ∀ a : Int, 0 ≤ a → 0 ≤ a * D := fun a h => Int.mul_nonneg h D0
  have a1 := m0 _ (show 0 ≤ max 0 (P - Q) by omega)
  have a2 := m0 _ (show 0 ≤ max 0 (Q - P) by omega)
  have a3 := m0 _ (show 0 ≤ max 0 (P1 - Q1) by omega)
  have a4 := m0 _ p0
  have a5 := m0 _ q0
  have a6 := m0 _ p1
  have a7 := m0 _ q1
  have b1 := mulm _ _ (show max 0 (P - Q) ≤ P by omega)
  have b2 := mulm _ _ (show max 0 (Q - P) ≤ Q by omega)
  have b3 := mulm _ _ (show max 0 (P1 - Q1) ≤ max 0 (P - Q) by omega)
  have b4 := mulm _ _ hP
  have b5 := mulm _ _ hQ
  have b6 := mulm _ _ (show P - max 0 (Q - P) + 0 ≤ P by omega)
  have e1 : (P - Q) * D = P * D - Q * D := Int.sub_mul _ _ _
  rw [e1]
  have z1 : Q = 0 → max 0 (P - Q) * D = P * D := fun h => by rw [show max 0 (P - Q) = P by omega]
  have z2 : Q = 0 → Q * D = 0 := fun h => by rw [h, Int.zero_mul]
  have z3 : Q = 0 → max 0 (Q - P) * D = 0 := fun h => by rw [show max 0 (Q - P) = 0 by omega, Int.zero_mul]
  generalize P * D = PD at *
  generalize Q * D = QD at *
  generalize P1 * D = PE at *
  generalize Q1 * D = QE at *
  generalize max 0 (P - Q) * D = X1 at *
  generalize max 0 (Q - P) * D = X2 at *
  generalize max 0 (P1 - Q1) * D = X3 at *
  generalize max 0 (Q1 - P1) * D = X4 at *
  rw [Prod.mk.injEq] at h1 h2 h3 h4
  obtain ⟨h11, h12⟩ := h1
  obtain ⟨h21, h22⟩ := h2
  obtain ⟨h31, h32⟩ := h3
  obtain ⟨h41, h42⟩ := h4
  rw [Int.tdiv_eq_ediv_of_nonneg (by omega)] at h11 h12 h21 h22 h31 h32 h42
  clear h41 mulm m0 e1
  refine ⟨by omega, by omega, by omega, by omega, by omega, by omega, by omega, by omega, by omega, fun h => ?_⟩
  have y1 := z1 h
  have y2 := z2 h
  have y3 := z3 h
  refine ⟨by omega, by omega, by omega⟩
theorem bal_ok {c r k lv : Int} {z : List Int} (hc : 2 ≤ c ∧ c ≤ 16) (hr : 2 ≤ r ∧ r ≤ 16) (h5 : ∀ v ∈ z, 0 ≤ v ∧ v ≤ 50000) (hv : 0 ≤ lv ∧ lv + 1 ≤ 50000) :
    (0 ≤ sumS (upG lv) c r z ∧ sumS (upG lv) c r z ≤ 100000000) ∧ (0 ≤ sumS (dnG lv) c r z ∧ sumS (dnG lv) c r z ≤ 100000000) ∧ (0 ≤ sumS (upG (lv + 1)) c r z ∧ sumS (upG (lv + 1)) c r z ≤ 100000000) ∧ (0 ≤ sumS (dnG (lv + 1)) c r z ∧ sumS (dnG (lv + 1)) c r z ≤ 100000000) ∧
    sumS (upG (lv + 1)) c r z ≤ sumS (upG lv) c r z ∧ sumS (dnG lv) c r z ≤ sumS (dnG (lv + 1)) c r z ∧ sumS (upG lv) c r z - sumS (dnG lv) c r z = sumS (ovG lv) c r z :=
  ⟨sumS_in hc hr (upG_in ⟨hv.1, by omega⟩) h5, sumS_in hc hr (dnG_in ⟨hv.1, by omega⟩) h5, sumS_in hc hr (upG_in ⟨by omega, hv.2⟩) h5, sumS_in hc hr (dnG_in ⟨by omega, hv.2⟩) h5,
    sumG_mono (fun v => by unfold upG; omega) _ _ _, sumG_mono (fun v => by unfold dnG; omega) _ _ _, sumG_sub (fun v => up_dn lv v) _ _ _⟩
end Sp
end Go.Proofs.Ytmdaanigkhikfaa
