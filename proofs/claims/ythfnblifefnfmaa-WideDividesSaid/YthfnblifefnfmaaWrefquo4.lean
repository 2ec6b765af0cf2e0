/-
  The functions of package couperef01, each by a contract: DivFloor, for every input.
-/
import Derived.Test.YthfnblifefnfmaaWrefquo3
import Derived.Test.YthfnblifefnfmaaWrefquo2
namespace Go.Proofs.Ythfnblifefnfmaa
open Go.RowKit
set_option linter.unusedVariables false

theorem rwDivFloor_any (n1 : Bool) (h1 l1 d : Int) (f1 : Wd.Fits ⟨n1, h1, l1⟩) (d0 : -9223372036854775808 ≤ d) (d1 : d ≤ 9223372036854775807) (n : Bool) (h l rs e : Int)
    (hv : Wd.divS ⟨n1, h1, l1⟩ d = (⟨n, h, l⟩, rs, e)) (w : World) :
    Calls Try.prog 26 #[.agg #[.bool n1, .int .u64 h1, .int .u64 l1], .int .i64 d] w (Gives (.tuple #[.agg #[.bool n, .int .u64 h, .int .u64 l], .int .i64 rs, .int .i64 e]) w) := by
  have F := f1
  obtain ⟨⟨b0, b1⟩, ⟨b2, b3⟩⟩ := f1
  simp only at b0 b1 b2 b3
  obtain ⟨c, hc⟩ : ∃ c, Wd.chk ⟨n1, h1, l1⟩ = c := ⟨_, rfl⟩
  have ck := fun w => refCheck_any n1 h1 l1 w b0 b2
  rw [hc] at ck
  unfold Wd.divS at hv
  rw [hc] at hv
  by_cases c0 : c = 0
  · subst c0
    rw [if_neg (by omega)] at hv
    by_cases dz : d = 0
    · subst dz
      rw [if_pos rfl] at hv
      obtain ⟨hz, hz2⟩ := Prod.mk.inj hv
      obtain ⟨rfl, rfl⟩ := Prod.mk.inj hz2
      obtain ⟨rfl, rfl, rfl⟩ := Wd.mk.inj hz
      exact rwdiv_zero n1 h1 l1 w ck
    · rw [if_neg dz] at hv
      obtain ⟨hz, hz2⟩ := Prod.mk.inj hv
      obtain ⟨hrs, rfl⟩ := Prod.mk.inj hz2
      have g : (d == 0) = false := by simp; exact dz
      have ma := fun w => size_any d d0 d1 w
      have hm0 := Wd.mag_nonneg _ F
      have hmT := Wd.mag_toInt _ F
      have hlt := Wd.toInt_lt _ hc F
      have hsgn := Wd.toInt_neg _ hc F
      have hh := chk_of hc
      simp only at hsgn
      have hmag : Wd.mag ⟨n1, h1, l1⟩ = h1 * 18446744073709551616 + l1 := rfl
      rw [hmag] at hm0 hmT
      obtain ⟨N, hN⟩ : ∃ N, Wd.toInt ⟨n1, h1, l1⟩ = N := ⟨_, rfl⟩
      rw [hN] at hz hrs hmT hlt hsgn
      obtain ⟨f, hf⟩ : ∃ f : Int, (d.natAbs : Int) = f := ⟨_, rfl⟩
      rw [hf] at ma
      obtain ⟨a, ha⟩ : ∃ x, (h1 * 18446744073709551616 + l1) / f / 18446744073709551616 = x := ⟨_, rfl⟩
      obtain ⟨b, hb⟩ : ∃ x, (h1 * 18446744073709551616 + l1) / f % 18446744073709551616 = x := ⟨_, rfl⟩
      obtain ⟨r, hr⟩ : ∃ x, (h1 * 18446744073709551616 + l1) % f = x := ⟨_, rfl⟩
      have dv := fun w => rdivide_any n1 h1 l1 f b0 hh b2 b3 (by omega) (by omega) a b r ha hb hr w
      obtain ⟨a0, a1, bb0, bb1, r0, r1, hM, hle, _⟩ := halves_of (r := r) hm0 (by omega) (by omega) ha hb hr
      obtain ⟨q, hq⟩ : ∃ q : Nat, (q : Int) = a * 18446744073709551616 + b := ⟨(a * 18446744073709551616 + b).toNat, by omega⟩
      obtain ⟨r', hr'⟩ : ∃ q : Nat, (q : Int) = r := ⟨r.toNat, by omega⟩
      have hMn : N.natAbs = d.natAbs * q + r' := by
        have : ((N.natAbs : Nat) : Int) = ((d.natAbs * q + r' : Nat) : Int) := by
          rw [Int.natCast_add, Int.natCast_mul, hmT, hf, hq, hr']; exact hM
        exact Int.ofNat.inj this
      have hrn : r' < d.natAbs := by omega
      by_cases hs : decide (N < 0) = decide (d < 0)
      · obtain ⟨e1, e2⟩ := Wd.div_same hMn hrn hs
        rw [e1] at hz
        rw [e2] at hrs
        have m := Wd.mk'_eq false a b a0 bb0 bb1
        have m2 : Wd.sv false (a * 18446744073709551616 + b) = (q : Int) := by rw [← hq]; rfl
        rw [m2, hz] at m
        obtain ⟨rfl, rfl, rfl⟩ := Wd.mk.inj m
        exact rwdiv_same n1 h1 l1 d f a b r w g (by rw [hsgn, hs]) rs (by rw [← hrs, hr']) r0 (by omega) ck ma dv
      · have hsd : decide (d < 0) = !n1 := by
          have hs' := hs
          clear hrs hz hM
          rw [hsgn]
          revert hs'
          generalize decide (N < 0) = x
          generalize decide (d < 0) = y
          cases x <;> cases y <;> decide
        have oo : ∀ w : World, Calls Try.prog 13 #[.int .i64 (-1)] w (Gives (.agg #[.bool true, .int .u64 0, .int .u64 1]) w) := fun w => rof_any (-1) (by omega) (by omega) w
        obtain ⟨nq, hnq⟩ : ∃ nq, (decide (0 < a) || decide (0 < b)) = nq := ⟨_, rfl⟩
        by_cases rz : r' = 0
        · subst rz
          have hr0 : r = 0 := by omega
          obtain ⟨e1, e2⟩ := Wd.div_exact (q := q) (by omega) dz hs
          rw [e1] at hz
          rw [e2] at hrs
          have m := Wd.mk'_eq true a b a0 bb0 bb1
          have m2 : Wd.sv true (a * 18446744073709551616 + b) = -(q : Int) := by rw [← hq]; rfl
          rw [m2, hz] at m
          obtain ⟨hn, rfl, rfl⟩ := Wd.mk.inj m
          have hnn : n = nq := by
            rw [← hnq, ← hn, Bool.eq_iff_iff]
            simp
            omega
          exact rwdiv_diff n1 h1 l1 d f a b r 0 nq n a b w g hsd a0 bb0 hnq rs (by rw [← hrs]; simp) (by omega) (by omega) (Or.inl ⟨hr0, rfl, hnn, rfl, rfl⟩) ck ma oo dv
        · obtain ⟨e1, e2⟩ := Wd.div_up hMn hrn rz hs
          rw [e1] at hz
          rw [e2] at hrs
          have f2 : 2 ≤ f := by omega
          have hbig : a * 18446744073709551616 + b < 170141183460469231731687303715884105727 := by
            have h2 : 2 * (a * 18446744073709551616 + b) ≤ f * (a * 18446744073709551616 + b) := Int.mul_le_mul_of_nonneg_right f2 (by omega)
            omega
          have hsv : Wd.sv nq (a * 18446744073709551616 + b) = -(q : Int) := by
            rw [← hq]
            cases nq
            · simp at hnq
              have : q = 0 := by omega
              subst this
              rfl
            · rfl
          have hlim : Wd.lim (Wd.sv nq (a * 18446744073709551616 + b) + Wd.sv true (0 * 18446744073709551616 + 1)) = (⟨n, h, l⟩, 0) := by
            have e3 : Wd.sv nq (a * 18446744073709551616 + b) + Wd.sv true (0 * 18446744073709551616 + 1) = -((q : Int) + 1) := by
              rw [hsv]; unfold Wd.sv; simp only [if_true]; omega
            rw [e3]
            unfold Wd.lim
            rw [if_pos (by omega), hz]
          have ad := fun w => rwadd_any nq true a b 0 1 a0 a1 bb0 bb1 (by omega) (by omega) (by omega) (by omega) n h l 0 hlim w
          exact rwdiv_diff n1 h1 l1 d f a b r (f - r) nq n h l w g hsd a0 bb0 hnq rs (by rw [← hrs, ← hr', ← hf]) (by omega) (by omega) (Or.inr ⟨by omega, by rw [IntKind.wrap_u64]; omega, ad⟩) ck ma oo dv
  · rw [if_pos c0] at hv
    obtain ⟨hz, hz2⟩ := Prod.mk.inj hv
    obtain ⟨rfl, rfl⟩ := Prod.mk.inj hz2
    obtain ⟨rfl, rfl, rfl⟩ := Wd.mk.inj hz
    exact rwdiv_bad n1 h1 l1 d c w c0 ck
end Go.Proofs.Ythfnblifefnfmaa
