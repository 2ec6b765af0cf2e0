/-
  Layer 6: CodecSums, the walk.
-/
import Derived.Test.YtcjhgihkofmhgaaCza
namespace Go.Proofs.Ytcjhgihkofmhgaa
open Go.RowKit
attribute [local go_sem ↓] Go.wp_at_zero Go.wp_at_succ
set_option linter.unusedVariables false
set_option linter.unusedSimpArgs false

set_option maxRecDepth 100000 in
set_option maxHeartbeats 4000000 in
theorem csums_as (s : Int) (s0 : 0 ≤ s) (s1 : s ≤ 4294967295) (A : Option Addr) (ca : Nat) (L : List UInt8) (C : Option Addr) (cc : Nat) (M : List UInt8) (w : World)
    (hca : L.length ≤ ca) (hma : ca ≤ 9223372036854775807) (SL : Bs w w.heap.size A L) (hcc : M.length ≤ cc) (hmc : cc ≤ 9223372036854775807) (SM : Bs w w.heap.size C M) :
    Calls Try.prog 6 #[.slice A L.length ca, .slice C M.length cc, .int .u32 s] w (Gives (.bool true) w) := by
  obtain ⟨t, rfl⟩ : ∃ t : Nat, s = (t : Int) := ⟨s.toNat, by omega⟩
  by_cases c : 5000 < L.length ∨ 5000 < M.length
  · have aw := fun w => awake_any w
    have f1 : ((5000 : Int) < (L.length : Int)) ∨ ((5000 : Int) < (M.length : Int)) := by omega
    by_cases c1 : (5000 : Int) < (L.length : Int)
    · clear c s0 s1 hca hma SL hcc hmc SM f1
      go_enter Try.func6, Try.ntmps6
      go_wp2_with (go_at_call 11; refine (aw _).mono ?_; rintro e w1 ⟨rfl, hb⟩)
      go_ret
      exact Gives.mk rfl hb
    · have c2 : (5000 : Int) < (M.length : Int) := f1.resolve_left c1
      clear c s0 s1 hca hma SL hcc hmc SM f1
      go_enter Try.func6, Try.ntmps6
      go_wp2_with (go_at_call 11; refine (aw _).mono ?_; rintro e w1 ⟨rfl, hb⟩)
      go_ret
      exact Gives.mk rfl hb
  · have c1 : ¬ (5000 : Int) < (L.length : Int) := by omega
    have c2 : ¬ (5000 : Int) < (M.length : Int) := by omega
    have l1 := hid (show L.length ≤ 5000 by omega)
    have l2 := hid (show M.length ≤ 5000 by omega)
    have ht := hid (show t < 4294967296 by omega)
    have HL := hid SL
    have HM := hid SM
    clear c s0 s1 hca hma SL hcc hmc SM
    go_enter Try.func6, Try.ntmps6
    go_wp2_with fail
    refine (clone_any L A ca (by have := l1.out; omega) w.heap.size _ (Nat.le_refl _) HL.out).mono ?_
    rintro _ u1 ⟨v1, rfl, how, hb⟩
    have HO := hid how
    have B1 := hid hb
    have hb1 := hb
    clear how hb
    have HN : Hid (L.length + M.length ≤ 140737488355328) := by have := l1.out; have := l2.out; show _ ≤ _; omega
    have z1 := hid hb1.size
    have HM1 := hid (HM.out.below hb1)
    have HL1 := hid (HL.out.below hb1)
    clear hb1
    have hlL : Hid (L.length ≤ 9223372036854775807) := by have := l1.out; show _ ≤ _; omega
    have hlM : Hid (M.length ≤ 9223372036854775807) := by have := l2.out; show _ ≤ _; omega
    have hlN : Hid ((L ++ M).length ≤ 9223372036854775807) := by have := l1.out; have := l2.out; show _ ≤ _; simp; omega
    have hLM : Sp.updS (Sp.updS 0 L) M = Sp.updS 0 (L ++ M) := Sp.updS_append 0 L M
    obtain ⟨x1, hx1⟩ : ∃ x, Sp.updS 0 L = x := ⟨_, rfl⟩
    obtain ⟨x2, hx2⟩ : ∃ x, Sp.updS t M = x := ⟨_, rfl⟩
    obtain ⟨x3, hx3⟩ : ∃ x, Sp.updS 0 (L ++ M) = x := ⟨_, rfl⟩
    rw [hx1, hx3] at hLM
    have h1 : Hid (x1 < 4294967296) := by rw [← hx1]; exact Sp.updS_lt _ _
    have HX1 := hid hx1
    have HX2 := hid hx2
    have HX3 := hid hx3
    have HLM := hid hLM
    clear hx1 hx2 hx3 hLM
    go_wp2_with (at_builtin; refine appL rfl _ _ rfl w.heap.size _ L rfl HO.out C cc _ M rfl HM1.out HN z1.out ?_; intro v2 u2 how hOw; have hOw2 : Ow u1 u2 v1.ownBlock v2.ownBlock := hOw; have B12 := hid (hOw2.under z1.out (fun g hg => (HO.out.base_le hg).1)); clear hOw hOw2; obtain ⟨A3, cap3, rfl, hcap3, hbs3⟩ := how.form; have S3 := hid hbs3; clear hbs3 how)
    all_goals
      have SL2 := (HL1.out.below B12.out)
      have SM2 := (HM1.out.below B12.out)
      have sA := sum_any L A ca hlL.out _ _ (by have := z1.out; have := B12.out.size; omega) SL2
      have rA := rsum_any L A ca hlL.out _ _ (by have := z1.out; have := B12.out.size; omega) SL2
      have uB := update_any t ht.out M C cc hlM.out _ _ (by have := z1.out; have := B12.out.size; omega) SM2
      have vB := rupdate_any t ht.out M C cc hlM.out _ _ (by have := z1.out; have := B12.out.size; omega) SM2
      have xB := update_any x1 h1.out M C cc hlM.out _ _ (by have := z1.out; have := B12.out.size; omega) SM2
      have sN := sum_any (L ++ M) A3 cap3 hlN.out _ _ (Nat.le_refl _) S3.out
      rw [HX1.out] at sA rA
      rw [HX2.out] at uB vB
      have e1 : Sp.updS x1 M = x3 := by rw [← HX1.out, Sp.updS_append]; exact HX3.out
      rw [e1] at xB
      rw [HX3.out, List.length_append] at sN
      clear SL2 SM2 e1
      go_wp2_with (first
        | (go_at_call 32; (with_reducible refine sA.mono ?_); rintro e w1 ⟨rfl, rfl⟩)
        | (go_at_call 32; (with_reducible refine sN.mono ?_); rintro e w1 ⟨rfl, rfl⟩)
        | (go_at_call 33; (with_reducible refine rA.mono ?_); rintro e w1 ⟨rfl, rfl⟩)
        | (go_at_call 34; (with_reducible refine uB.mono ?_); rintro e w1 ⟨rfl, rfl⟩)
        | (go_at_call 34; (with_reducible refine xB.mono ?_); rintro e w1 ⟨rfl, rfl⟩)
        | (go_at_call 35; (with_reducible refine vB.mono ?_); rintro e w1 ⟨rfl, rfl⟩)
        | (go_at_call 11; refine (awake_any _).mono ?_; rintro e w1 ⟨rfl, hb⟩))
      go_ret
      exact Gives.mk rfl ((B1.out.trans B12.out).trans (hb.mono (by have := z1.out; have := B12.out.size; omega)))
end Go.Proofs.Ytcjhgihkofmhgaa
