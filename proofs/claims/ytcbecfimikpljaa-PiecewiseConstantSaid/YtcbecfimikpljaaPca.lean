/-
  Layer 12: the mathematics of PiecewiseConstant: pieces with one coefficient each.
-/
import Derived.Test.YtcbecfimikpljaaQd
import Derived.Test.YtcbecfimikpljaaPl
namespace Go.Proofs.Ytcbecfimikpljaa
open Go.RowKit
set_option linter.unusedVariables false
/-- Pieces with one coefficient each, the first of them the piece i. -/
structure IsC (i : Int) (l : List Sp.Pd) (c : List Int) : Prop where
  len : l.length = c.length
  at_ : ∀ j, (h : j < l.length) → (hc : j < c.length) → (l[j]).f = 10 * (i + j) ∧ (l[j]).t = 10 * (i + j) + 10 ∧ (l[j]).c = [(c[j], 1)]
theorem IsC.tail {i : Int} {p : Sp.Pd} {l : List Sp.Pd} {x : Int} {c : List Int} (h : IsC i (p :: l) (x :: c)) : IsC (i + 1) l c :=
  ⟨by have := h.len; simpa using this, fun j hj hc => by
    obtain ⟨a, b, d⟩ := h.at_ (j + 1) (by simpa using hj) (by simpa using hc)
    simp only [List.getElem_cons_succ] at a b d
    exact ⟨by rw [a]; push_cast; omega, by rw [b]; push_cast; omega, d⟩⟩
theorem isC_nil (i : Int) : IsC i [] [] := ⟨rfl, fun j h => absurd h (by simp)⟩
theorem IsC.snoc {l : List Sp.Pd} {c : List Int} (h : IsC 0 l c) {p : Sp.Pd} {x : Int} (hf : p.f = 10 * (l.length : Int)) (ht : p.t = 10 * (l.length : Int) + 10) (hc : p.c = [(x, 1)]) : IsC 0 (l ++ [p]) (c ++ [x]) := by
  refine ⟨by simp [h.len], fun j hj hcj => ?_⟩
  by_cases e : j < l.length
  · have e2 : j < c.length := by rw [← h.len]; exact e
    rw [List.getElem_append_left e, List.getElem_append_left e2]
    exact h.at_ j e e2
  · have e1 : j = l.length := by simp at hj; omega
    subst e1
    have e2 : l.length = c.length := h.len
    rw [List.getElem_append_right (Nat.le_refl _), List.getElem_append_right (by omega)]
    simp only [Nat.sub_self, List.getElem_cons_zero, e2]
    rw [e2] at hf ht
    exact ⟨by omega, by omega, hc⟩
theorem isC_list : ∀ (l : List Sp.Pd) (c : List Int) (i : Int), IsC i l c → 0 ≤ i → i + l.length ≤ 300 → (∀ x ∈ c, -32768 ≤ x ∧ x ≤ 32767) → Sp.listE l (10 * i) = 0
  | [], c, i, h, _, _, _ => rfl
  | p :: l, [], i, h, _, _, _ => by have := h.len; simp at this
  | p :: l, x :: c, i, h, i0, i1, hc => by
    obtain ⟨a, b, d⟩ := h.at_ 0 (by simp) (by simp)
    simp only [List.getElem_cons_zero, Int.natCast_zero, Int.add_zero] at a b d
    have xb := hc x (by simp)
    have f1 : Sp.fchk x 1 = 0 := Sp.one_ok (by omega) (by omega)
    have g1 : Sp.bigF (x, 1) = false := by unfold Sp.bigF; simp; omega
    have ce : Sp.coefE p.c = 0 := by rw [d]; unfold Sp.coefE Sp.coefE; simp only [f1]; rfl
    have an : p.c.any Sp.bigF = false := by rw [d]; simp only [List.any_cons, List.any_nil, g1]; rfl
    simp only [List.length_cons] at i1
    have pe : Sp.pieceE p (10 * i) = 0 := by
      unfold Sp.pieceE
      rw [if_neg (by omega), if_neg (by omega), ce, an, d]
      rfl
    rw [Sp.listE_cons, pe, if_neg (fun k => k rfl), b]
    have := isC_list l c (i + 1) h.tail (by omega) (by push_cast at i1; omega) (fun x hx => hc x (by simp [hx]))
    rw [show 10 * i + 10 = 10 * (i + 1) by omega]
    exact this
theorem isC_check {l : List Sp.Pd} {c : List Int} (h : IsC 0 l c) (h0 : 0 < l.length) (h8 : l.length ≤ 8) (hc : ∀ x ∈ c, -32768 ≤ x ∧ x ≤ 32767) : Sp.pcheck l = 0 := by
  unfold Sp.pcheck
  rw [dif_pos h0, if_neg (by omega)]
  obtain ⟨a, -, -⟩ := h.at_ 0 h0 (by rw [← h.len]; exact h0)
  rw [a]
  exact isC_list l c 0 h (by omega) (by omega) hc
theorem isC_ends {l : List Sp.Pd} {c : List Int} (h : IsC 0 l c) (h0 : 0 < l.length) : Sp.least l = 0 ∧ Sp.great l = 10 * (l.length : Int) := by
  obtain ⟨a, -, -⟩ := h.at_ 0 h0 (by rw [← h.len]; exact h0)
  obtain ⟨-, b, -⟩ := h.at_ (l.length - 1) (by omega) (by rw [← h.len]; omega)
  rw [least_is h0, great_is h0, a, b]
  omega
/-- Where an argument lies. -/
def cI (n : Nat) (x : Int) : Nat := min (x / 10).toNat (n - 1)
theorem isC_at {l : List Sp.Pd} {c : List Int} (h : IsC 0 l c) (h0 : 0 < l.length) (h8 : l.length ≤ 8) (hc : ∀ x ∈ c, -32768 ≤ x ∧ x ≤ 32767) {x : Int} (x0 : 0 ≤ x) (x1 : x ≤ 10 * (l.length : Int)) : Sp.pieceI l x = cI l.length x := by
  have gd := Sp.pcheck_good (isC_check h h0 h8 hc)
  obtain ⟨i1, i2, i3⟩ := Sp.atI_is x gd.2.2.1 gd.2.2.2
  unfold Sp.pieceI cI
  have t : ∀ j, (hj : j < l.length) → (l[j]).t = 10 * (j : Int) + 10 := fun j hj => by
    have := (h.at_ j hj (by rw [← h.len]; exact hj)).2.1
    omega
  generalize Sp.atI l x = I at *
  by_cases a : I < l.length
  · have k1 := i3 I a (Nat.le_refl _)
    rw [t I a] at k1
    by_cases b : I = 0
    · subst b; omega
    · have k2 := i2 (I - 1) (by omega) (by omega)
      rw [t (I - 1) (by omega)] at k2
      omega
  · have k2 := i2 (l.length - 1) (by omega) (by omega)
    rw [t (l.length - 1) (by omega)] at k2
    omega
theorem cI_lt {n : Nat} (h : 0 < n) (x : Int) : cI n x < n := by unfold cI; omega
theorem isC_val {l : List Sp.Pd} {c : List Int} (h : IsC 0 l c) (h0 : 0 < l.length) (h8 : l.length ≤ 8) (hc : ∀ x ∈ c, -32768 ≤ x ∧ x ≤ 32767) {x : Int} (x0 : 0 ≤ x) (x1 : x ≤ 10 * (l.length : Int)) :
    Sp.valL l x = (c[cI l.length x]'(by rw [← h.len]; exact cI_lt h0 x), 1, 0) := by
  obtain ⟨hi, e⟩ := Sp.pieceO_is (l := l) x h0
  have hi2 := hi
  have ei := isC_at h h0 h8 hc x0 x1
  have hcl : cI l.length x < c.length := by rw [← h.len]; exact cI_lt h0 x
  obtain ⟨-, -, d⟩ := h.at_ (cI l.length x) (cI_lt h0 x) hcl
  have eo : Sp.pieceO l x = l[cI l.length x]'(cI_lt h0 x) := by rw [← e]; congr 1
  have xb := hc _ (List.getElem_mem hcl)
  unfold Sp.valL Sp.valP
  rw [eo, d]
  generalize c[cI l.length x]'hcl = y at xb ⊢
  have m1 : Sp.mulF 0 1 x 1 = (0 * x, 1, 0) := Sp.mul_one_of (by omega) (by omega) (by omega) (by omega) (by simp) (by simp)
  have s1 : Sp.stepF x (0, 1) (y, 1) = (y, 1, 0) := by
    unfold Sp.stepF
    simp only [m1, Int.zero_mul]
    rw [if_neg (fun h => h rfl), Sp.add_one_of (by omega) (by omega) (by omega) (by omega), Int.zero_add]
  have e2 : ([(y, 1)] : List (Int × Int)).reverse = [(y, 1)] := rfl
  rw [e2, Sp.hornF_cons, s1]
  rfl
theorem isC_vals {l : List Sp.Pd} {c : List Int} (h : IsC 0 l c) (h0 : 0 < l.length) (h8 : l.length ≤ 8) (hc : ∀ x ∈ c, -32768 ≤ x ∧ x ≤ 32767) {x y : Int} (x0 : 0 ≤ x) (xy : x ≤ y) (y1 : y ≤ 10 * (l.length : Int)) : Sp.valsE l x y = 0 := by
  obtain ⟨e1, e2⟩ := isC_ends h h0
  unfold Sp.valsE
  rw [isC_check h h0 h8 hc, e1, e2, if_neg (fun k => k rfl), if_neg (by omega)]
  refine (Sp.fstE_zero _ _ _).mpr fun i hi => ?_
  rw [isC_val h h0 h8 hc (by omega) (by omega)]
theorem isC_eval {l : List Sp.Pd} {c : List Int} (h : IsC 0 l c) (h0 : 0 < l.length) (h8 : l.length ≤ 8) (hc : ∀ x ∈ c, -32768 ≤ x ∧ x ≤ 32767) {x : Int} (x0 : 0 ≤ x) (x1 : x ≤ 10 * (l.length : Int)) :
    Sp.evalS l x = (c[cI l.length x]'(by rw [← h.len]; exact cI_lt h0 x), 1, 0) := by
  unfold Sp.evalS
  rw [isC_vals h h0 h8 hc x0 (Int.le_refl _) x1, if_neg (fun k => k rfl), isC_val h h0 h8 hc x0 x1]
/-- Do the constants ascend? -/
def ascC (c : List Int) (n : Nat) : Prop := ∀ j, (h : j + 1 < c.length) → j + 1 < n → c[j] ≤ c[j + 1]
theorem isC_inc {l : List Sp.Pd} {c : List Int} (h : IsC 0 l c) (h0 : 0 < l.length) (h8 : l.length ≤ 8) (hc : ∀ x ∈ c, -32768 ≤ x ∧ x ≤ 32767) {B : Bool} (hB : B = true ↔ ascC c c.length) : IncIs l B 0 := by
  obtain ⟨e1, e2⟩ := isC_ends h h0
  unfold IncIs
  rw [e1, e2]
  refine ⟨(isC_vals h h0 h8 hc (by omega) (by omega) (by omega)).symm, fun k => absurd rfl k, fun _ => ?_⟩
  rw [hB]
  have ln : (Sp.valsL l 0 (10 * (l.length : Int))).length = 10 * l.length + 1 := by unfold Sp.valsL; rw [Sp.lstV_len]; omega
  have hl := h.len
  have st : ∀ k (hk : k + 1 < (Sp.valsL l 0 (10 * (l.length : Int))).length), cmpP ((Sp.valsL l 0 (10 * (l.length : Int)))[k + 1]) ((Sp.valsL l 0 (10 * (l.length : Int)))[k]) < 0 ↔ (c[cI l.length ((k + 1 : Nat) : Int)]'(by rw [← hl]; exact cI_lt h0 _)) < (c[cI l.length (k : Int)]'(by rw [← hl]; exact cI_lt h0 _)) := by
    intro k hk
    rw [ln] at hk
    rw [vals_get, vals_get]
    have z1 : (0 : Int) + ((k + 1 : Nat) : Int) = ((k + 1 : Nat) : Int) := by omega
    have z2 : (0 : Int) + (k : Int) = (k : Int) := by omega
    rw [z1, z2]
    unfold vQ
    rw [isC_val h h0 h8 hc (by omega) (by omega), isC_val h h0 h8 hc (by omega) (by omega)]
    unfold cmpP
    have b1 := hc _ (List.getElem_mem (show cI l.length ((k + 1 : Nat) : Int) < c.length by rw [← hl]; exact cI_lt h0 _))
    have b2 := hc _ (List.getElem_mem (show cI l.length (k : Int) < c.length by rw [← hl]; exact cI_lt h0 _))
    simp only
    rw [Sp.cmp_one (by omega) (by omega) (by omega) (by omega)]
    unfold Wd.cmpI
    split
    · constructor <;> intro _ <;> omega
    · split
      · constructor <;> intro _ <;> omega
      · constructor <;> intro _ <;> omega
  constructor
  · intro ha k hk _
    rw [st k hk]
    rw [ln] at hk
    have ck : cI l.length ((k + 1 : Nat) : Int) = cI l.length (k : Int) ∨ cI l.length ((k + 1 : Nat) : Int) = cI l.length (k : Int) + 1 := by unfold cI; omega
    rcases ck with e | e
    · simp only [e]; omega
    · have hlt : cI l.length (k : Int) + 1 < c.length := by rw [← e, ← hl]; exact cI_lt h0 _
      have := ha (cI l.length (k : Int)) hlt hlt
      simp only [e]
      omega
  · intro hu j hj _
    have hk : 10 * j + 9 + 1 < (Sp.valsL l 0 (10 * (l.length : Int))).length := by rw [ln]; omega
    have := hu (10 * j + 9) hk (Nat.zero_le _)
    rw [st _ hk] at this
    have e1 : cI l.length ((10 * j + 9 : Nat) : Int) = j := by unfold cI; omega
    have e2 : cI l.length ((10 * j + 9 + 1 : Nat) : Int) = j + 1 := by unfold cI; omega
    simp only [e1, e2] at this
    omega
end Go.Proofs.Ytcbecfimikpljaa
