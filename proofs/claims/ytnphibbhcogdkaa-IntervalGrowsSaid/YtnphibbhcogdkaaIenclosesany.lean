/-
  IntervalEncloses: its numbers.
-/
import Derived.Test.YtnphibbhcogdkaaIencloses
namespace Go.Proofs.Ytnphibbhcogdkaa
open Go.RowKit
set_option linter.unusedVariables false

theorem lim_cases (a b : Int) : (Sp.lim a b = (a, b, 0) ∧ -1000000000000000 ≤ a ∧ b ≤ 1000000000000000) ∨ (Sp.lim a b = (0, 0, 8) ∧ (a < -1000000000000000 ∨ 1000000000000000 < b)) := by
  unfold Sp.lim
  split
  · exact Or.inr ⟨rfl, by assumption⟩
  · exact Or.inl ⟨rfl, by omega, by omega⟩
theorem inB_true {a b x : Int} (h : a ≤ x ∧ x ≤ b ∧ -1000000000000000 ≤ a ∧ b ≤ 1000000000000000) : Sp.inB a b x = true := by
  unfold Sp.inB
  have e : Sp.chk a b = 0 := Sp.chk_zero.2 (by omega)
  rw [e]; simp; omega
theorem inB_false {a b x : Int} (h : x < a ∨ b < x) : Sp.inB a b x = false := by
  unfold Sp.inB
  simp; omega
theorem contains_as {a b x : Int} {v : Bool} (h : Sp.inB a b x = v) (w : World) : Calls Try.prog 64 #[.agg #[.int .i64 a, .int .i64 b], .int .i64 x] w (Gives (.bool v) w) := by
  rw [← h]; exact icontains_any a b x w
theorem encloses_any (a b c d x y : Int) (a0 : -9223372036854775808 ≤ a) (a1 : a ≤ 9223372036854775807) (b0 : -9223372036854775808 ≤ b) (b1 : b ≤ 9223372036854775807) (c0 : -9223372036854775808 ≤ c) (c1 : c ≤ 9223372036854775807) (d0 : -9223372036854775808 ≤ d) (d1 : d ≤ 9223372036854775807) (x0 : -9223372036854775808 ≤ x) (x1 : x ≤ 9223372036854775807) (y0 : -9223372036854775808 ≤ y) (y1 : y ≤ 9223372036854775807) (w : World) :
    Calls Try.prog 12 #[.agg #[.int .i64 a, .int .i64 b], .agg #[.int .i64 c, .int .i64 d], .agg #[.int .i64 x, .int .i64 y]] w (Gives (.bool true) w) := by
  have k1 := fun w => icheck_any a b w
  have k2 := fun w => icheck_any c d w
  by_cases ca : Sp.chk a b = 0
  · by_cases cb : Sp.chk c d = 0
    · rw [ca] at k1
      rw [cb] at k2
      by_cases hin : a ≤ x ∧ x ≤ b ∧ c ≤ y ∧ y ≤ d
      · obtain ⟨p0, p1, p2⟩ := Sp.chk_zero.1 ca
        obtain ⟨q0, q1, q2⟩ := Sp.chk_zero.1 cb
        have hb : Sp.both a b c d = 0 := Sp.both_zero.2 ⟨ca, cb⟩
        have eA : Sp.addS a b c d = Sp.lim (a + c) (b + d) := by unfold Sp.addS; rw [if_neg (by omega)]
        have eS : Sp.subS a b c d = Sp.lim (a - d) (b - c) := by unfold Sp.subS; rw [if_neg (by omega)]
        have eJ : Sp.joinS a b c d = (min a c, max b d, 0) := by unfold Sp.joinS; rw [if_neg (by omega)]
        have eM : Sp.meetS a b c d = if min b d < max a c then (0, 0, 6) else (max a c, min b d, 0) := by unfold Sp.meetS; rw [if_neg (by omega)]
        obtain ⟨⟨al, ah, ae⟩, hA⟩ : ∃ r, Sp.addS a b c d = r := ⟨_, rfl⟩
        obtain ⟨⟨sl, sh, se⟩, hS⟩ : ∃ r, Sp.subS a b c d = r := ⟨_, rfl⟩
        obtain ⟨⟨ml, mh, me⟩, hM⟩ : ∃ r, Sp.meetS a b c d = r := ⟨_, rfl⟩
        have fA : (ae = 0 → Sp.inB al ah (x + y) = true) ∧ (ae = 0 ∨ ae = 8) := by
          rw [eA] at hA
          rcases lim_cases (a + c) (b + d) with ⟨e, h1, h2⟩ | ⟨e, _⟩
          · rw [e] at hA
            simp only [Prod.mk.injEq] at hA
            obtain ⟨rfl, rfl, rfl⟩ := hA
            exact ⟨fun _ => inB_true (by omega), Or.inl rfl⟩
          · rw [e] at hA
            simp only [Prod.mk.injEq] at hA
            obtain ⟨rfl, rfl, rfl⟩ := hA
            exact ⟨fun h => by omega, Or.inr rfl⟩
        have fS : (se = 0 → Sp.inB sl sh (x - y) = true) ∧ (se = 0 ∨ se = 8) := by
          rw [eS] at hS
          rcases lim_cases (a - d) (b - c) with ⟨e, h1, h2⟩ | ⟨e, _⟩
          · rw [e] at hS
            simp only [Prod.mk.injEq] at hS
            obtain ⟨rfl, rfl, rfl⟩ := hS
            exact ⟨fun _ => inB_true (by omega), Or.inl rfl⟩
          · rw [e] at hS
            simp only [Prod.mk.injEq] at hS
            obtain ⟨rfl, rfl, rfl⟩ := hS
            exact ⟨fun h => by omega, Or.inr rfl⟩
        obtain ⟨v, hv⟩ : ∃ v, Sp.inB c d x = v := ⟨_, rfl⟩
        have fM : (me = 0 → Sp.inB ml mh x = v) ∧ (me = 0 ∨ (me = 6 ∧ v = false)) := by
          rw [eM] at hM
          by_cases hm : min b d < max a c
          · rw [if_pos hm] at hM
            simp only [Prod.mk.injEq] at hM
            obtain ⟨rfl, rfl, rfl⟩ := hM
            exact ⟨fun h => by omega, Or.inr ⟨rfl, by rw [← hv]; exact inB_false (by omega)⟩⟩
          · rw [if_neg hm] at hM
            simp only [Prod.mk.injEq] at hM
            obtain ⟨rfl, rfl, rfl⟩ := hM
            refine ⟨fun _ => ?_, Or.inl rfl⟩
            rw [← hv]
            by_cases hx : c ≤ x ∧ x ≤ d
            · rw [inB_true (by omega), inB_true (by omega)]
            · rw [inB_false (by omega), inB_false (by omega)]
        exact encloses_in a b c d x y al ah ae sl sh se (min a c) (max b d) ml mh me v w (by omega) (by omega) (by omega) (by omega) p1 p2 q1 q2 k1 k2
          (fun w => iadd_any a b c d al ah ae hA w) (fun w => isub_any a b c d sl sh se hS w) (fun w => ijoin_any a b c d _ _ 0 eJ w) (fun w => imeet_any a b c d ml mh me hM w)
          (fun h w => contains_as (fA.1 h) w) (fun h w => contains_as (fS.1 h) w) (fun w => contains_as (inB_true (by omega)) w) (fun w => contains_as (inB_true (by omega)) w) (fun h w => contains_as (fM.1 h) w) (fun w => contains_as hv w)
          fA.2 fS.2 fM.2
      · exact encloses_out a b c d x y 0 0 w k1 k2 (Or.inr (Or.inr ⟨rfl, rfl, by omega⟩))
    · rw [ca] at k1
      exact encloses_out a b c d x y 0 _ w k1 k2 (Or.inr (Or.inl ⟨rfl, by simpa using cb⟩))
  · exact encloses_out a b c d x y _ _ w k1 k2 (Or.inl (by simpa using ca))
end Go.Proofs.Ytnphibbhcogdkaa
