/-
  The functions of package couperef02, each by a contract: Mul and Div, for every input.
-/
import Derived.Test.YtdimncchejbaaaaFradd2a
import Derived.Test.YtdimncchejbaaaaFops2
import Derived.Test.YtdimncchejbaaaaFrmul
import Derived.Test.YtdimncchejbaaaaFmulm
namespace Go.Proofs.Ytdimncchejbaaaa
open Go.RowKit
set_option linter.unusedVariables false
set_option linter.unusedSimpArgs false

theorem rmul_pick {P V : Int} {s : Bool} :
    (if 1000000000000000 < P ∨ 1000000000000000 < V then ((0 : Int), (0 : Int), (8 : Int)) else (if s = true then -P else P, V, 0)) =
      if decide (P ≤ 1000000000000000) = true ∧ decide (V ≤ 1000000000000000) = true then (if s = true then -(if P ≤ 1000000000000000 then P else 1000000000000000) else (if P ≤ 1000000000000000 then P else 1000000000000000), (if V ≤ 1000000000000000 then V else 1000000000000000), 0) else (0, 0, 8) := by
  by_cases k1 : P ≤ 1000000000000000
  · by_cases k2 : V ≤ 1000000000000000
    · have a1 : ¬ (1000000000000000 < P ∨ 1000000000000000 < V) := by omega
      simp only [if_neg a1, if_pos k1, if_pos k2, decide_eq_true k1, decide_eq_true k2, and_self, if_true]
    · have a1 : 1000000000000000 < P ∨ 1000000000000000 < V := by omega
      rw [if_pos a1, if_neg (fun h => k2 (of_decide_eq_true h.2))]
  · have a1 : 1000000000000000 < P ∨ 1000000000000000 < V := by omega
    rw [if_pos a1, if_neg (fun h => k1 (of_decide_eq_true h.1))]
theorem rmul_valid (a b c d x y e : Int) (h1 : Sp.fchk a b = 0) (h2 : Sp.fchk c d = 0) (hv : Sp.prodF a b c d = (x, y, e)) (w : World) :
    Calls Try.prog 66 #[.agg #[.int .i64 a, .int .i64 b], .agg #[.int .i64 c, .int .i64 d]] w (Gives (.tuple #[.agg #[.int .i64 x, .int .i64 y], .int .i64 e]) w) := by
  obtain ⟨b0, _, an, bm⟩ := Sp.valid_of h1
  obtain ⟨d0, _, cn, dm⟩ := Sp.valid_of h2
  have tw := fun w => rtwo_any a b c d (by omega) (by omega) (by omega) (by omega) (by omega) (by omega) (by omega) (by omega) w
  rw [Sp.bothF_zero.2 ⟨h1, h2⟩] at tw
  obtain ⟨G, H, a', c', b', d', hG, G1, hH, H1, ta, tc, tb, td, a0, a1, c0, c1, b0', b1', d0', d1', hs⟩ := Sp.rmul_math h1 h2
  obtain ⟨A, hA⟩ : ∃ A : Int, (a.natAbs : Int) = A := ⟨_, rfl⟩
  obtain ⟨C, hC⟩ : ∃ C : Int, (c.natAbs : Int) = C := ⟨_, rfl⟩
  have aa := fun w => rabs_any a (by omega) (by omega) w
  have ac := fun w => rabs_any c (by omega) (by omega) w
  rw [hA] at hG ta aa
  rw [hC] at hH tc ac
  obtain ⟨V1, hV1⟩ : ∃ V : Int, (a'.natAbs : Int) * (c'.natAbs : Int) = V := ⟨_, rfl⟩
  obtain ⟨V3, hV3⟩ : ∃ V : Int, (b'.natAbs : Int) * (d'.natAbs : Int) = V := ⟨_, rfl⟩
  obtain ⟨n1, hn1⟩ : ∃ n, (decide (a' < 0) != decide (c' < 0)) = n := ⟨_, rfl⟩
  obtain ⟨n3, hn3⟩ : ∃ n, (decide (b' < 0) != decide (d' < 0)) = n := ⟨_, rfl⟩
  have p1 := prod_le15 (x := a') (y := c') (by omega) (by omega)
  have p3 := prod_le15 (x := b') (y := d') (by omega) (by omega)
  rw [hV1] at p1
  rw [hV3] at p3
  obtain ⟨q11, q12, q13, q14, q15⟩ := parts_of p1.1 1000000000000000 p1.2
  obtain ⟨q31, q32, q33, q34, q35⟩ := parts_of p3.1 1000000000000000 p3.2
  have qb := fun w => rquotient_any n1 (V1 / 1000000000000000) (V1 % 1000000000000000) 1 q11 (by omega) q13 q14 (by omega) (by omega) w
  have qc := fun w => rquotient_any n3 (V3 / 1000000000000000) (V3 % 1000000000000000) 1 q31 (by omega) q33 q34 (by omega) (by omega) w
  rw [q15] at qb
  rw [q35] at qc
  have gc := fun w => rgcd_any A d (by omega) (by omega) (by omega) (by omega) _ rfl w
  have gd := fun w => rgcd_any C b (by omega) (by omega) (by omega) (by omega) _ rfl w
  rw [hG] at gc
  rw [hH] at gd
  have nm := capQ_le (V := V1) (d := 1) (by omega) p1.1
  have dn := capQ_le (V := V3) (d := 1) (by omega) p3.1
  have v1 : V1 = a' * c' := by rw [← hV1]; congr 1 <;> omega
  have v3 : V3 = b' * d' := by rw [← hV3]; congr 1 <;> omega
  rw [hv, ← v1, ← v3] at hs
  have e1 : Sp.capQ V1 1 = if V1 ≤ 1000000000000000 then V1 else 1000000000000000 := by unfold Sp.capQ; rw [Int.ediv_one]
  have e3 : Sp.capQ V3 1 = if V3 ≤ 1000000000000000 then V3 else 1000000000000000 := by unfold Sp.capQ; rw [Int.ediv_one]
  have w15 : ∀ {z : Int}, 0 ≤ z → z ≤ 1000000000000000 → IntKind.i64.wrap z = z := fun z0 z1 => IntWalk.i64_in (by omega) (by omega)
  refine rmul_walk a b c d A C G H a' c' b' d' n1 (V1 / 1000000000000000) (V1 % 1000000000000000) n3 (V3 / 1000000000000000) (V3 % 1000000000000000) (Sp.capQ V1 1) _ (Sp.capQ V3 1) _ (decide (V1 / 1 ≤ 1000000000000000)) (decide (V3 / 1 ≤ 1000000000000000)) x y e w
    (by simp; omega) (by omega) G1 (by simp; omega) (by omega) H1 ta (w15 a0 a1) tc (w15 c0 c1) tb (w15 b0' b1') td (w15 d0' d1') nm.1 nm.2 dn.1 dn.2 (hid ?_) tw aa ac gc gd
    (fun w => rtimes_says a' c' (by omega) (by omega) (by omega) (by omega) V1 hV1 n1 hn1 w) qb (fun w => rtimes_says b' d' (by omega) (by omega) (by omega) (by omega) V3 hV3 n3 hn3 w) qc
  rw [hs, e1, e3, Int.ediv_one, Int.ediv_one]
  exact rmul_pick
theorem rmul_any (a b c d lo hi e : Int) (A0 : -9223372036854775808 ≤ a) (A1 : a ≤ 9223372036854775807) (B0 : -9223372036854775808 ≤ b) (B1 : b ≤ 9223372036854775807) (C0 : -9223372036854775808 ≤ c) (C1 : c ≤ 9223372036854775807) (D0 : -9223372036854775808 ≤ d) (D1 : d ≤ 9223372036854775807) (hv : Sp.mulF a b c d = (lo, hi, e)) (w : World) :
    Calls Try.prog 66 #[.agg #[.int .i64 a, .int .i64 b], .agg #[.int .i64 c, .int .i64 d]] w (Gives (.tuple #[.agg #[.int .i64 lo, .int .i64 hi], .int .i64 e]) w) := by
  unfold Sp.mulF at hv
  by_cases d0 : Sp.bothF a b c d = 0
  · rw [if_neg (by omega)] at hv
    obtain ⟨v1, v2⟩ := Sp.bothF_zero.1 d0
    exact rmul_valid a b c d lo hi e v1 v2 hv w
  · rw [if_pos d0] at hv
    simp only [Prod.mk.injEq] at hv
    obtain ⟨rfl, rfl, rfl⟩ := hv
    obtain ⟨y, hy⟩ : ∃ y, Sp.bothF a b c d = y := ⟨_, rfl⟩
    have tw := fun w => rtwo_any a b c d A0 A1 B0 B1 C0 C1 D0 D1 w
    rw [hy] at d0 tw ⊢
    clear hy
    have g : (y == 0) = false := by simp; exact d0
    go_enter Try.func66, Try.ntmps66
    go_wp2_with (go_at_call 82; refine (tw _).mono ?_; rintro _ w1 ⟨rfl, hb⟩; have rz : w.heap.size + 1 + 1 < (w1).heap.size := Nat.lt_of_lt_of_le (show w.heap.size + 1 + 1 < _ from (by first | assumption | (simp; done) | (simp; omega) | (dsimp only; omega) | omega)) hb.size; have r0 : (w1).cell? ⟨w.heap.size + 1 + 1, 0, none⟩ = some (.int .i64 0) := (hb.cell (p := ⟨w.heap.size + 1 + 1, 0, none⟩) (by first | assumption | (simp; done) | (simp; omega) | (dsimp only; omega) | omega)).trans (by first | assumption | (simp [go_sem]; done) | (simp [go_sem, *]; done)); have r1 : (w1).cell? ⟨w.heap.size + 1 + 1, 1, none⟩ = some (.int .i64 0) := (hb.cell (p := ⟨w.heap.size + 1 + 1, 1, none⟩) (by first | assumption | (simp; done) | (simp; omega) | (dsimp only; omega) | omega)).trans (by first | assumption | (simp [go_sem]; done) | (simp [go_sem, *]; done)); have rf : ∀ o, (w1).frozen? ⟨w.heap.size + 1 + 1, o, none⟩ = false := fun o => (hb.frozen (p := ⟨w.heap.size + 1 + 1, o, none⟩) (by first | assumption | (simp; done) | (simp; omega) | (dsimp only; omega) | omega)).trans (by first | (simp [go_sem]; done) | (simp [*]; done)))
    refine bodyPost_ret (v := .tuple #[.agg #[.int .i64 0, .int .i64 0], .int .i64 y]) (by simp [results, Try.results66, go_sem, r0, r1, rz]) rfl ?_
    exact Gives.mk rfl (by repeat' (first | (with_reducible exact Below.refl _ _) | (with_reducible refine Below.alloc ?_ ?_ _) | (with_reducible refine Below.setCell ?_ ?_ _) | (with_reducible refine Below.drew ?_) | (with_reducible refine Below.trans ?_ (Below.mono (by assumption) ?_)) | (simp; done) | (simp; omega) | omega))
end Go.Proofs.Ytdimncchejbaaaa
