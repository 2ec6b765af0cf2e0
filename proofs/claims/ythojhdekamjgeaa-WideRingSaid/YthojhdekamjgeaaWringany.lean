/-
  WideRing: its numbers.
-/
import Derived.Test.YthojhdekamjgeaaWring
namespace Go.Proofs.Ythojhdekamjgeaa
open Go.RowKit
set_option linter.unusedVariables false

theorem ring_any (a b c : Int) (a0 : -9223372036854775808 ≤ a) (a1 : a ≤ 9223372036854775807) (b0 : -9223372036854775808 ≤ b) (b1 : b ≤ 9223372036854775807) (c0 : -9223372036854775808 ≤ c) (c1 : c ≤ 9223372036854775807) (w : World) :
    Calls Try.prog 8 #[.int .i64 a, .int .i64 b, .int .i64 c] w (Gives (.bool true) w) := by
  obtain ⟨⟨na, ha, la⟩, hA⟩ : ∃ x, Wd.ofInt a = x := ⟨_, rfl⟩
  obtain ⟨⟨nb, hb, lb⟩, hB⟩ : ∃ x, Wd.ofInt b = x := ⟨_, rfl⟩
  obtain ⟨⟨nx, hx, lx⟩, hX⟩ : ∃ x, Wd.ofInt (a * b) = x := ⟨_, rfl⟩
  obtain ⟨⟨ns, hs, ls⟩, hS⟩ : ∃ x, Wd.ofInt (a + b) = x := ⟨_, rfl⟩
  obtain ⟨⟨np, hp, lp⟩, hP⟩ : ∃ x, Wd.ofInt (a * c) = x := ⟨_, rfl⟩
  obtain ⟨⟨nq, hq, lq⟩, hQ⟩ : ∃ x, Wd.ofInt (b * c) = x := ⟨_, rfl⟩
  obtain ⟨⟨⟨nl, hl, ll⟩, e⟩, hL⟩ : ∃ x, Wd.lim ((a + b) * c) = x := ⟨_, rfl⟩
  have sa : a.natAbs < 170141183460469231731687303715884105728 := by omega
  have sb : b.natAbs < 170141183460469231731687303715884105728 := by omega
  have ss : (a + b).natAbs < 170141183460469231731687303715884105728 := by omega
  have sp := mul_small a0 a1 c0 c1
  have sq := mul_small b0 b1 c0 c1
  have form : ∀ (z : Int) (n : Bool) (h l : Int), z.natAbs < 170141183460469231731687303715884105728 → Wd.ofInt z = ⟨n, h, l⟩ → Wd.Fits ⟨n, h, l⟩ ∧ Wd.chk ⟨n, h, l⟩ = 0 ∧ Wd.toInt ⟨n, h, l⟩ = z := fun z n h l hz he => by
    rw [← he]; exact ⟨Wd.fits_ofInt z (by omega), Wd.chk_ofInt z hz, Wd.toInt_ofInt z⟩
  obtain ⟨fa, ka, ta⟩ := form a _ _ _ sa hA
  obtain ⟨fb, kb, tb⟩ := form b _ _ _ sb hB
  obtain ⟨fs, ks, ts⟩ := form (a + b) _ _ _ ss hS
  obtain ⟨fp, kp, tp⟩ := form (a * c) _ _ _ sp hP
  obtain ⟨fq, kq, tq⟩ := form (b * c) _ _ _ sq hQ
  have dist : a * c + b * c = (a + b) * c := (Int.add_mul a b c).symm
  have limS : Wd.lim (a + b) = (⟨ns, hs, ls⟩, 0) := by unfold Wd.lim; rw [if_pos ss, hS]
  have limA : Wd.lim a = (⟨na, ha, la⟩, 0) := by unfold Wd.lim; rw [if_pos sa, hA]
  refine ring_walk a b c na ha la nb hb lb nx hx lx ns hs ls nl hl ll e np hp lp nq hq lq w (fun w => of_any a a0 a1 _ _ _ hA w) (fun w => of_any b b0 b1 _ _ _ hB w) (fun w => mul_any a b a0 a1 b0 b1 _ _ _ hX w)
    (fun w => mul_any b a b0 b1 a0 a1 _ _ _ (by rw [Int.mul_comm]; exact hX) w) (fun w => mul_any a c a0 a1 c0 c1 _ _ _ hP w) (fun w => mul_any b c b0 b1 c0 c1 _ _ _ hQ w)
    (fun w => add_any _ _ _ _ _ _ fa fb _ _ _ _ ?_ w) (fun w => add_any _ _ _ _ _ _ fb fa _ _ _ _ ?_ w) (fun w => times_any _ _ _ _ fs c0 c1 _ _ _ _ ?_ w) (fun w => add_any _ _ _ _ _ _ fp fq _ _ _ _ ?_ w) (fun w => sub_any _ _ _ _ _ _ fs fb _ _ _ _ ?_ w)
  · unfold Wd.addS; rw [ka, kb, ta, tb, if_neg (by omega), if_neg (by omega)]; exact limS
  · unfold Wd.addS; rw [ka, kb, ta, tb, if_neg (by omega), if_neg (by omega), Int.add_comm]; exact limS
  · unfold Wd.timesS; rw [ks, ts, if_neg (by omega)]; exact hL
  · unfold Wd.addS; rw [kp, kq, tp, tq, if_neg (by omega), if_neg (by omega), dist]; exact hL
  · unfold Wd.subS; rw [ks, kb, ts, tb, if_neg (by omega), if_neg (by omega), Int.add_sub_cancel]; exact limA
end Go.Proofs.Ythojhdekamjgeaa
