/-
  Layer 14: VolumeCylinders: mathematics, and the law for every input.
-/
import Derived.Test.YtdimncchejbaaaaVvm
namespace Go.Proofs.Ytdimncchejbaaaa
open Go.RowKit
set_option linter.unusedVariables false
set_option linter.unusedSimpArgs false
/-- The constant taper. -/
def tpL (A : Option Addr) : List Sp.Pd := [⟨0, 1000, A, 1, [(1000, 1)]⟩]
theorem tp_eval_all (A : Option Addr) : (List.range 1001).all (fun q => decide (Sp.evalS (tpL A) (q : Int) = (1000, 1, 0))) = true := by kernel_rfl
theorem tp_eval (A : Option Addr) {q : Int} (h0 : 0 ≤ q) (h1 : q ≤ 1000) : Sp.evalS (tpL A) q = (1000, 1, 0) := by
  have h := List.all_eq_true.1 (tp_eval_all A) q.toNat (List.mem_range.2 (by omega))
  have e : ((q.toNat : Nat) : Int) = q := by omega
  simpa [e] using h
theorem tp_mul_all : (List.range 3001).all (fun d => decide (d = 0) || decide (Sp.diaM (Sp.mulF 1000 1 (Sp.newS (d : Int) 1000).1 (Sp.newS (d : Int) 1000).2.1) = ((d : Int), 0))) = true := by kernel_rfl
theorem tp_mul {d : Int} (h0 : 1 ≤ d) (h1 : d ≤ 3000) : Sp.diaM (Sp.mulF 1000 1 (Sp.newS d 1000).1 (Sp.newS d 1000).2.1) = (d, 0) := by
  have h := List.all_eq_true.1 tp_mul_all d.toNat (List.mem_range.2 (by omega))
  have e : ((d.toNat : Nat) : Int) = d := by omega
  have z : ¬ d.toNat = 0 := by omega
  simpa [e, z] using h
theorem tp_dia (A : Option Addr) {d x a : Int} (d0 : 1 ≤ d) (d1 : d ≤ 3000) (x0 : 1 ≤ x) (a0 : 0 ≤ a) (a1 : a ≤ x) : Sp.diaS (tpL A) d x a = (d, 0) := by
  unfold Sp.diaS
  have q0 : 0 ≤ (1000 * a).tdiv x := Int.tdiv_nonneg (by omega) (by omega)
  have q1 : (1000 * a).tdiv x ≤ 1000 := by
    rw [Int.tdiv_eq_ediv_of_nonneg (by omega)]
    exact Int.ediv_le_of_le_mul (by omega) (by omega)
  rw [tp_eval A q0 q1]
  unfold Sp.diaQ
  rw [if_neg (fun k => k rfl)]
  exact tp_mul d0 d1
theorem fe_const (g : Int → Int × Int) (d : Int) : ∀ (n : Nat) (a : Int), (∀ z, a ≤ z → z < a + n → g z = (d, 0)) → Sp.fe g n a = 0
  | 0, _, _ => rfl
  | n + 1, a, h => by
    unfold Sp.fe
    rw [h a (by omega) (by push_cast; omega), if_neg (fun k => k rfl)]
    exact fe_const g d n (a + 1) (fun z h0 h1 => h z (by omega) (by push_cast; omega))
theorem fl_const (g : Int → Int × Int) (d : Int) (n : Nat) (a : Int) (h : ∀ z, a ≤ z → z < a + n → g z = (d, 0)) : Sp.fl g n a = List.replicate n d := by
  apply List.ext_getElem
  · simp [Sp.fl]
  · intro i h1 h2
    have hi : i < n := by simpa [Sp.fl] using h1
    simp [Sp.fl, h (a + (i : Int)) (by omega) (by omega)]
theorem pr_const (n : Nat) (d : Int) : prU (List.replicate (n + 1) d) n = List.replicate n (d, d) := by
  apply List.ext_getElem
  · simp [prU]
  · intro i h1 h2
    have hi : i < n := by simpa [prU] using h1
    have e1 : (List.replicate (n + 1) d)[i]?.getD 0 = d := by rw [List.getElem?_eq_getElem (by simp; omega)]; simp
    have e2 : (List.replicate (n + 1) d)[i + 1]?.getD 0 = d := by rw [List.getElem?_eq_getElem (by simp; omega)]; simp
    simp only [prU, List.getElem_map, List.getElem_range, e1, e2, List.getElem_replicate]
theorem lo_const (d : Int) : ∀ n : Nat, Sp.loS (List.replicate n (d, d)) = (n : Int) * (d * d) ∧ Sp.hiS (List.replicate n (d, d)) = (n : Int) * (d * d)
  | 0 => by simp [Sp.loS, Sp.hiS]
  | n + 1 => by
    obtain ⟨h1, h2⟩ := lo_const d n
    have e : ∀ l, Sp.loS ((d, d) :: l) = d * d + Sp.loS l ∧ Sp.hiS ((d, d) :: l) = d * d + Sp.hiS l := fun l => by simp [Sp.loS, Sp.hiS]
    rw [List.replicate_succ, (e _).1, (e _).2, h1, h2]
    push_cast
    rw [Int.add_mul, Int.one_mul]
    omega
theorem tp_cur (A1 A2 : Option Addr) : Sp.curE (lnL A1 3000 13 1 20) 1000 (tpL A2) = 0 := by kernel_rfl
theorem tp_stem (A1 A2 : Option Addr) {d x : Int} (d0 : 1 ≤ d) (d1 : d ≤ 3000) (x0 : 1 ≤ x) (x1 : x ≤ 100) : Sp.stemE (lnL A1 3000 13 1 20) 1000 (tpL A2) d x = 0 := by
  unfold Sp.stemE
  rw [tp_cur, if_neg (fun k => k rfl), if_neg (by simp; omega), if_neg (by simp; omega)]
theorem tp_vol (A1 A2 : Option Addr) {d x : Int} (d0 : 1 ≤ d) (d1 : d ≤ 3000) (x0 : 1 ≤ x) (x1 : x ≤ 100) : Sp.volE (lnL A1 3000 13 1 20) 1000 (tpL A2) d x = ((Sp.volS 1000 d x).1, (Sp.volS 1000 d x).2, 0) := by
  unfold Sp.volE
  rw [tp_stem A1 A2 d0 d1 x0 x1, if_neg (fun k => k rfl)]
theorem tp_diam (A1 A2 : Option Addr) {d x : Int} (d0 : 1 ≤ d) (d1 : d ≤ 3000) (x0 : 1 ≤ x) (x1 : x ≤ 100) : Sp.diamS (lnL A1 3000 13 1 20) 1000 (tpL A2) d x (x.tdiv 2) = (d, 0) := by
  have a0 : 0 ≤ x.tdiv 2 := Int.tdiv_nonneg (by omega) (by omega)
  have a1 : x.tdiv 2 ≤ x := by rw [Int.tdiv_eq_ediv_of_nonneg (by omega)]; exact Int.ediv_le_self _ (by omega)
  unfold Sp.diamS Sp.stemP
  rw [tp_stem A1 A2 d0 d1 x0 x1]
  have e : Sp.plE x [x.tdiv 2] = 0 := by unfold Sp.plE; rw [if_neg (by simp; exact ⟨a0, a1⟩)]; rfl
  rw [e]
  simp only [ne_eq, not_true_eq_false, if_false]
  exact tp_dia A2 d0 d1 x0 a0 a1
theorem tp_sec (A1 A2 : Option Addr) {d x : Int} (d0 : 1 ≤ d) (d1 : d ≤ 3000) (x0 : 1 ≤ x) (x1 : x ≤ 100) : Sp.secS (lnL A1 3000 13 1 20) 1000 (tpL A2) d x 0 x = ((Sp.volS 1000 d x).1, (Sp.volS 1000 d x).2, 0) := by
  obtain ⟨n, hn⟩ : ∃ n : Nat, x = (n : Int) := ⟨x.toNat, by omega⟩
  have hn1 : (x - 0 + 1).toNat = n + 1 := by omega
  have hg : ∀ z, (0 : Int) ≤ z → z < 0 + ((n + 1 : Nat) : Int) → Sp.diaS (tpL A2) d x z = (d, 0) := fun z h0 h1 => tp_dia A2 d0 d1 x0 h0 (by push_cast at h1; omega)
  unfold Sp.secS Sp.stemP
  rw [tp_stem A1 A2 d0 d1 x0 x1]
  have e : Sp.plE x [0, x] = 0 := by
    unfold Sp.plE
    rw [if_neg (by simp; omega)]
    unfold Sp.plE
    rw [if_neg (by simp; omega)]
    rfl
  rw [e]
  simp only [ne_eq, not_true_eq_false, if_false]
  rw [if_neg (by omega), hn1, fe_const _ d _ _ hg, if_neg (fun k => k rfl), fl_const _ d _ _ hg, Nat.add_sub_cancel, pr_const, (lo_const d n).1, (lo_const d n).2, ← hn]
  unfold Sp.volS
  have e1 : 1000 * d * d * x = 1000 * (x * (d * d)) := by
    rw [Int.mul_assoc 1000 d d, Int.mul_assoc 1000, Int.mul_comm (d * d) x]
  have dd := Sp.sq_bound (x := d) (by omega) d1
  have p0 : 0 ≤ x * (d * d) := Int.mul_nonneg (by omega) dd.1
  rw [e1]
  generalize x * (d * d) = m at p0
  have f1 : (785398 * m).tdiv 10000000000 = (785398 * (1000 * m)).tdiv 10000000000000 := by
    rw [Int.tdiv_eq_ediv_of_nonneg (by omega), Int.tdiv_eq_ediv_of_nonneg (by omega)]; omega
  have f2 : (785399 * m + 10000000000 - 1).tdiv 10000000000 = (785399 * (1000 * m) + 10000000000000 - 1).tdiv 10000000000000 := by
    rw [Int.tdiv_eq_ediv_of_nonneg (by omega), Int.tdiv_eq_ediv_of_nonneg (by omega)]; omega
  rw [f1, f2]
theorem tp_sized (A : Option Addr) : PcSized (tpL A) := by
  refine ⟨by simp [tpL], fun p hp => ?_⟩
  simp [tpL] at hp
  subst hp
  refine ⟨by simp only; omega, by simp only; omega, by simp, fun q hq => ?_⟩
  simp at hq
  subst hq
  simp only
  omega
end Go.Proofs.Ytdimncchejbaaaa
