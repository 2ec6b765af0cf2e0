/-
  couperef02.Parse, by contract, at any text: put together.
-/
import Derived.Test.YtjbnejhpfknfcaaDoorFtxr
import Derived.Test.YtjbnejhpfknfcaaDoorFnews
namespace Go.Proofs.YtjbnejhpfknfcaaDoor
open Go.RowKit
set_option linter.unusedVariables false
set_option linter.unusedSimpArgs false
theorem rest_pw {neg : Bool} {R : List UInt8} {n : Nat} {lo hi e a d : Int} {ok fine : Bool} (hn : R.length = n) (hv : Sp.restS neg R = (lo, hi, e)) (hp : Sp.numS (R.take (Sp.slash R)) = (a, ok)) (hq : Sp.numS (R.drop (Sp.slash R + 1)) = (d, fine)) (a0 : 0 ≤ a) (a1 : a < 10000000000000000) (d0 : 0 ≤ d) (d1 : d < 10000000000000000) :
    (decide (Sp.slash R < n) = false → PW true ok fine (if neg then -a else a) d lo hi e) ∧ (decide (Sp.slash R < n) = true → PW false ok fine (if neg then -a else a) d lo hi e) := by
  unfold Sp.restS at hv
  rw [hp, hq, hn] at hv
  simp only at hv
  have hA : -9223372036854775808 ≤ (if neg then -a else a) ∧ (if neg then -a else a) ≤ 9223372036854775807 := by split <;> omega
  generalize (if neg then -a else a) = A at hv hA
  constructor
  · intro h
    have h' : ¬ Sp.slash R < n := of_decide_eq_false h
    simp only [h', false_and, if_false] at hv
    cases ok with
    | false =>
      simp at hv
      exact .inl ⟨.inl rfl, hv.1.symm, hv.2.1.symm, hv.2.2.symm⟩
    | true =>
      simp only [Bool.true_eq_false, if_false] at hv
      exact .inr ⟨⟨rfl, .inl rfl⟩, fun w => rnew_any A 1 hA.1 hA.2 (by omega) (by omega) lo hi e hv w⟩
  · intro h
    have h' : Sp.slash R < n := of_decide_eq_true h
    simp only [h', true_and, if_true] at hv
    cases ok with
    | false =>
      simp at hv
      exact .inl ⟨.inl rfl, hv.1.symm, hv.2.1.symm, hv.2.2.symm⟩
    | true =>
      simp only [Bool.true_eq_false, if_false] at hv
      cases fine with
      | false =>
        simp at hv
        exact .inl ⟨.inr ⟨rfl, rfl⟩, hv.1.symm, hv.2.1.symm, hv.2.2.symm⟩
      | true =>
        simp only [Bool.true_eq_false, if_false] at hv
        exact .inr ⟨⟨rfl, .inr rfl⟩, fun w => rnew_any A d hA.1 hA.2 (by omega) (by omega) lo hi e hv w⟩
theorem rparse_any (t : ByteArray) (hs : t.data.toList.length ≤ 1000) (lo hi e : Int) (hv : Sp.parseS t.data.toList = (lo, hi, e)) (w : World) :
    Calls Tryd.prog 40 #[.string t] w (Gives (.tuple #[.agg #[.int .i64 lo, .int .i64 hi], .int .i64 e]) w) := by
  unfold Sp.parseS at hv
  -- what is read
  have core : ∀ (r : ByteArray) (neg : Bool) (hr : r.size ≤ 1000) (hv : Sp.restS neg r.data.toList = (lo, hi, e)), ∃ (s1 s2 : ByteArray) (a d : Int) (ok fine : Bool),
      (∀ w, Calls Tryd.prog 67 #[.string s1] w (Gives (.tuple #[.int .i64 a, .bool ok]) w)) ∧ (∀ w, Calls Tryd.prog 67 #[.string s2] w (Gives (.tuple #[.int .i64 d, .bool fine]) w)) ∧
      (∀ W, (Instr.slice 9 (.string r) none (some (.int .i64 (Sp.slash r.data.toList : Nat))) none).run Tryd.prog W = .ok (.string s1) W) ∧
      (Sp.slash r.data.toList < r.size → ∀ W, (Instr.slice 9 (.string r) (some (.int .i64 ((Sp.slash r.data.toList : Nat) + 1))) none none).run Tryd.prog W = .ok (.string s2) W) ∧
      0 ≤ a ∧ a < 10000000000000000 ∧
      ((decide (Sp.slash r.data.toList < r.size) = false → PW true ok fine (if neg then -a else a) d lo hi e) ∧ (decide (Sp.slash r.data.toList < r.size) = true → PW false ok fine (if neg then -a else a) d lo hi e)) := by
    intro r neg hr hv
    have hle := Sp.slash_le r.data.toList
    rw [← Lib.size_eq] at hle
    obtain ⟨a0, a1⟩ := Sp.numS_bound (r.data.toList.take (Sp.slash r.data.toList))
    obtain ⟨d0, d1⟩ := Sp.numS_bound (r.data.toList.drop (Sp.slash r.data.toList + 1))
    obtain ⟨⟨a, ok⟩, hp⟩ : ∃ p, Sp.numS (r.data.toList.take (Sp.slash r.data.toList)) = p := ⟨_, rfl⟩
    obtain ⟨⟨d, fine⟩, hq⟩ : ∃ p, Sp.numS (r.data.toList.drop (Sp.slash r.data.toList + 1)) = p := ⟨_, rfl⟩
    rw [hp] at a0 a1
    rw [hq] at d0 d1
    exact ⟨⟨(r.data.toList.take (Sp.slash r.data.toList)).toArray⟩, ⟨(r.data.toList.drop (Sp.slash r.data.toList + 1)).toArray⟩, a, d, ok, fine,
      fun w => rnum_any ⟨(r.data.toList.take (Sp.slash r.data.toList)).toArray⟩ a ok (by rw [toList_mk]; exact hp) w, fun w => rnum_any ⟨(r.data.toList.drop (Sp.slash r.data.toList + 1)).toArray⟩ d fine (by rw [toList_mk]; exact hq) w,
      run_take r _ hle, fun h => run_drop r _ (by omega) _ (by omega), a0, a1, rest_pw (Lib.size_eq r).symm hv hp hq a0 a1 d0 d1⟩
  have hz : t.size = t.data.toList.length := Lib.size_eq t
  by_cases h0 : t.size = 0
  · have hl : t.data.toList = [] := List.length_eq_zero_iff.1 (by omega)
    have e1 : Lib.hasPrefix t.data.toList [45] = false := by rw [hl]; rfl
    have e2 : Lib.trimPrefix t.data.toList [45] = t.data.toList := by rw [hl]; rfl
    rw [e1, e2] at hv
    obtain ⟨s1, s2, a, d, ok, fine, n1, n2, t1, t2, a0, a1, pw⟩ := core t false (by omega) hv
    exact rparse_empty t s1 s2 t.size a d lo hi e ok fine rfl (by omega) n1 n2 t1 t2 a0 a1 pw (by omega) w
  · have hk : 0 < t.data.toList.length := by omega
    have ix := run_byte t 0 hk
    have cb := (t.data.toList[0]).toNat_lt
    by_cases q : t.data.toList[0] = 45
    · rw [q] at ix
      obtain ⟨l, hl⟩ : ∃ l, t.data.toList = 45 :: l := by
        cases hL : t.data.toList with
        | nil => rw [hL] at hk; simp at hk
        | cons c l => simp only [hL, List.getElem_cons_zero] at q; exact ⟨l, by rw [q]⟩
      have e1 : Lib.hasPrefix t.data.toList [45] = true := by rw [hl]; simp [Lib.hasPrefix, List.isPrefixOf]
      have e2 : Lib.trimPrefix t.data.toList [45] = t.data.toList.drop 1 := by unfold Lib.trimPrefix; rw [e1]; rfl
      rw [e1, e2] at hv
      have sl := run_drop t 1 (by omega) 1 (by omega)
      have el : (⟨(t.data.toList.drop 1).toArray⟩ : ByteArray).data.toList = t.data.toList.drop 1 := toList_mk _
      rw [← el] at hv
      have hrz : (⟨(t.data.toList.drop 1).toArray⟩ : ByteArray).size ≤ 1000 := by rw [Lib.size_eq, el]; simp only [List.length_drop]; omega
      generalize (⟨(t.data.toList.drop 1).toArray⟩ : ByteArray) = r at hv sl hrz
      obtain ⟨s1, s2, a, d, ok, fine, n1, n2, t1, t2, a0, a1, pw⟩ := core r true hrz hv
      exact rparse_minus r s1 s2 t r.size a d lo hi e ok fine rfl hrz n1 n2 t1 t2 a0 a1 pw t.size rfl (by omega) (by omega) ix sl w
    · have e1 : Lib.hasPrefix t.data.toList [45] = false := by
        cases hL : t.data.toList with
        | nil => rfl
        | cons c l =>
          simp only [hL, List.getElem_cons_zero] at q
          have : (45 == c) = false := by simp only [beq_eq_false_iff_ne, ne_eq]; exact fun h => q h.symm
          simp [Lib.hasPrefix, List.isPrefixOf, this]
      have e2 : Lib.trimPrefix t.data.toList [45] = t.data.toList := by unfold Lib.trimPrefix; rw [e1]; rfl
      rw [e1, e2] at hv
      obtain ⟨s1, s2, a, d, ok, fine, n1, n2, t1, t2, a0, a1, pw⟩ := core t false (by omega) hv
      have cc : ¬ ((t.data.toList[0]).toNat : Int) = 45 := by
        intro h
        refine q (UInt8.toNat_inj.1 ?_)
        have : (t.data.toList[0]).toNat = 45 := by omega
        rw [this]; rfl
      exact rparse_plain t s1 s2 t.size a d lo hi e ok fine rfl (by omega) n1 n2 t1 t2 a0 a1 pw (by omega) _ ix cc (by omega) (by omega) w
end Go.Proofs.YtjbnejhpfknfcaaDoor
