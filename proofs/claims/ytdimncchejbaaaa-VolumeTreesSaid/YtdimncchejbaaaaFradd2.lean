/-
  The functions of package couperef02, each by a contract: two, for every input; Add for every input.
-/
import Derived.Test.YtdimncchejbaaaaFradd
import Derived.Test.YtdimncchejbaaaaFradd2a
namespace Go.Proofs.Ytdimncchejbaaaa
open Go.RowKit
set_option linter.unusedVariables false
set_option linter.unusedSimpArgs false

theorem radd_pick {N Q V : Int} {ns : Bool} (Q0 : 0 ≤ Q) (e2 : ns = true → N ≤ 0) (e3 : ns = false → 0 ≤ N) (nz : ¬ Q = 0 → ¬ N = 0) (hz : Q = 0 → V = 1) :
    (if 1000000000000000 < Q ∨ 1000000000000000 < V then ((0 : Int), (0 : Int), (8 : Int)) else (if N < 0 then -Q else Q, V, 0)) =
      if decide (Q ≤ 1000000000000000) = true ∧ decide (V ≤ 1000000000000000) = true then (if (if Q ≤ 1000000000000000 then Q else 1000000000000000) = 0 then (0, 1, 0) else (if ns = true then -(if Q ≤ 1000000000000000 then Q else 1000000000000000) else (if Q ≤ 1000000000000000 then Q else 1000000000000000), (if V ≤ 1000000000000000 then V else 1000000000000000), 0)) else (0, 0, 8) := by
  by_cases k1 : Q ≤ 1000000000000000
  · by_cases k2 : V ≤ 1000000000000000
    · have a1 : ¬ (1000000000000000 < Q ∨ 1000000000000000 < V) := by omega
      simp only [if_neg a1, if_pos k1, if_pos k2, decide_eq_true k1, decide_eq_true k2, and_self, if_true]
      by_cases z0 : Q = 0
      · have hv := hz z0
        subst z0 hv
        simp
      · rw [if_neg z0]
        cases ns
        · have := e3 rfl
          rw [if_neg (show ¬ N < 0 by omega)]
          simp
        · have := e2 rfl
          have := nz z0
          rw [if_pos (show N < 0 by omega)]
          simp
    · have a1 : 1000000000000000 < Q ∨ 1000000000000000 < V := by omega
      rw [if_pos a1, if_neg (fun h => k2 (of_decide_eq_true h.2))]
  · have a1 : 1000000000000000 < Q ∨ 1000000000000000 < V := by omega
    rw [if_pos a1, if_neg (fun h => k1 (of_decide_eq_true h.1))]
theorem radd_valid (a b c d x y e : Int) (h1 : Sp.fchk a b = 0) (h2 : Sp.fchk c d = 0) (hv : Sp.sumF a b c d = (x, y, e)) (w : World) :
    Calls Try.prog 92 #[.agg #[.int .i64 a, .int .i64 b], .agg #[.int .i64 c, .int .i64 d]] w (Gives (.tuple #[.agg #[.int .i64 x, .int .i64 y], .int .i64 e]) w) := by
  obtain ⟨b0, _, an, bm⟩ := Sp.valid_of h1
  obtain ⟨d0, _, cn, dm⟩ := Sp.valid_of h2
  have tw := fun w => rtwo_any a b c d (by omega) (by omega) (by omega) (by omega) (by omega) (by omega) (by omega) (by omega) w
  rw [Sp.bothF_zero.2 ⟨h1, h2⟩] at tw
  obtain ⟨G, b', d', N, R, d2, hG, G1, G2, tb, td, b'1, b'2, d'1, d'2, hN, hR, R1, R2, t2, d21, d22, hs, hz⟩ := Sp.radd_math h1 h2
  obtain ⟨V1, hV1⟩ : ∃ V : Int, (a.natAbs : Int) * (d'.natAbs : Int) = V := ⟨_, rfl⟩
  obtain ⟨V2, hV2⟩ : ∃ V : Int, (c.natAbs : Int) * (b'.natAbs : Int) = V := ⟨_, rfl⟩
  obtain ⟨V3, hV3⟩ : ∃ V : Int, (b'.natAbs : Int) * (d2.natAbs : Int) = V := ⟨_, rfl⟩
  obtain ⟨n1, hn1⟩ : ∃ n, (decide (a < 0) != decide (d' < 0)) = n := ⟨_, rfl⟩
  obtain ⟨n2, hn2⟩ : ∃ n, (decide (c < 0) != decide (b' < 0)) = n := ⟨_, rfl⟩
  obtain ⟨n3, hn3⟩ : ∃ n, (decide (b' < 0) != decide (d2 < 0)) = n := ⟨_, rfl⟩
  have p1 := prod_le15 (x := a) (y := d') (by omega) (by omega)
  have p2 := prod_le15 (x := c) (y := b') (by omega) (by omega)
  have p3 := prod_le15 (x := b') (y := d2) (by omega) (by omega)
  rw [hV1] at p1
  rw [hV2] at p2
  rw [hV3] at p3
  obtain ⟨q11, q12, q13, q14, q15⟩ := parts_of p1.1 1000000000000000 p1.2
  obtain ⟨q21, q22, q23, q24, q25⟩ := parts_of p2.1 1000000000000000 p2.2
  obtain ⟨q31, q32, q33, q34, q35⟩ := parts_of p3.1 1000000000000000 p3.2
  have s1 := Sp.times_sign (a := a) (k := d') (by omega)
  have s2 := Sp.times_sign (a := c) (k := b') (by omega)
  rw [hn1] at s1
  rw [hn2] at s2
  obtain ⟨e1, e2, e3⟩ := Sp.plus_signed s1 s2
  rw [hN] at e1 e2 e3
  rw [Int.natAbs_mul, Int.natAbs_mul, Int.natCast_mul, Int.natCast_mul, hV1, hV2] at e1 e2 e3
  obtain ⟨ns, hns⟩ : ∃ n, Sp.plusN n1 V1 n2 V2 = n := ⟨_, rfl⟩
  rw [hns] at e2 e3
  have pl := fun w => rplus_any n1 n2 (V1 / 1000000000000000) (V1 % 1000000000000000) (V2 / 1000000000000000) (V2 % 1000000000000000) q11 (by omega) q13 q14 q21 (by omega) q23 q24 ns (N.natAbs : Int) (by rw [q15, q25]; exact hns) (by rw [q15, q25]; exact e1) w
  have nb : (N.natAbs : Int) ≤ 2000000000000000 * 1000000000000000 := by
    have k1 : (a * d').natAbs ≤ 1000000000000000 * 1000000000000000 := by rw [Int.natAbs_mul]; omega
    have k2 : (c * b').natAbs ≤ 1000000000000000 * 1000000000000000 := by rw [Int.natAbs_mul]; omega
    omega
  obtain ⟨M, hM⟩ : ∃ M : Int, (N.natAbs : Int) = M := ⟨_, rfl⟩
  rw [hM] at pl nb hR hs hz
  have M0 : 0 ≤ M := by omega
  obtain ⟨q41, q42, q43, q44, q45⟩ := parts_of M0 2000000000000000 nb
  have qa := fun w => rquotient_any ns (M / 1000000000000000) (M % 1000000000000000) G q41 (by omega) q43 q44 (by omega) G2 w
  have qb := fun w => rquotient_any ns (M / 1000000000000000) (M % 1000000000000000) R q41 (by omega) q43 q44 (by omega) R2 w
  have qc := fun w => rquotient_any n3 (V3 / 1000000000000000) (V3 % 1000000000000000) 1 q31 (by omega) q33 q34 (by omega) (by omega) w
  rw [q45] at qa qb
  rw [q35] at qc
  have r0 := Int.emod_nonneg M (show G ≠ 0 by omega)
  have r1 := Int.emod_lt_of_pos M (show 0 < G by omega)
  have quiet : ∀ {f : FuncId} {xs : Array Value} {v : Value}, (∀ w : World, Calls Try.prog f xs w (Quiet v w)) → ∀ w : World, Calls Try.prog f xs w (Gives v w) := fun h w =>
    (h w).mono (by rintro _ w' ⟨rfl, q, rfl⟩; exact Gives.mk rfl (below_dn (Below.refl _ _) _))
  have gc := quiet (fun w => rgcd_any b d (by omega) (by omega) (by omega) (by omega) _ rfl w)
  have gr := quiet (fun w => rgcd_any (M % G) G (by omega) (by omega) (by omega) (by omega) _ rfl w)
  rw [hG] at gc
  rw [hR] at gr
  have nm := capQ_le (V := M) (d := R) (by omega) M0
  have dn := capQ_le (V := V3) (d := 1) (by omega) p3.1
  have v3 : V3 = b' * d2 := by rw [← hV3]; congr 1 <;> omega
  rw [hv, ← v3] at hs
  rw [← v3] at hz
  have c1 : Sp.capQ V3 1 = if V3 ≤ 1000000000000000 then V3 else 1000000000000000 := by unfold Sp.capQ; rw [Int.ediv_one]
  have c2 : Sp.capQ M R = if M / R ≤ 1000000000000000 then M / R else 1000000000000000 := rfl
  have w15 : ∀ {z : Int}, 0 ≤ z → z ≤ 1000000000000000 → IntKind.i64.wrap z = z := fun z0 z1 => IntWalk.i64_in (by omega) (by omega)
  refine radd_walk a b c d G b' d' n1 (V1 / 1000000000000000) (V1 % 1000000000000000) n2 (V2 / 1000000000000000) (V2 % 1000000000000000) ns (M / 1000000000000000) (M % 1000000000000000) n3 (V3 / 1000000000000000) (V3 % 1000000000000000) R d2 _ _ (Sp.capQ M R) _ (Sp.capQ V3 1) _ _ (decide (M / R ≤ 1000000000000000)) (decide (V3 / 1 ≤ 1000000000000000)) x y e w
    (by simp; omega) (by omega) G1 td (w15 (by omega) (by omega)) tb (w15 (by omega) (by omega)) (by simp; omega) (by omega) R1 t2 (w15 (by omega) (by omega)) nm.1 nm.2 dn.1 dn.2 (hid ?_) tw gc
    (fun w => rtimes_says a d' (by omega) (by omega) (by omega) (by omega) V1 hV1 n1 hn1 w) (fun w => rtimes_says c b' (by omega) (by omega) (by omega) (by omega) V2 hV2 n2 hn2 w) pl qa gr qb
    (fun w => rtimes_says b' d2 (by omega) (by omega) (by omega) (by omega) V3 hV3 n3 hn3 w) qc
  rw [hs, c1, c2, Int.ediv_one]
  obtain ⟨Q, hQ⟩ : ∃ Q, M / R = Q := ⟨_, rfl⟩
  rw [hQ] at hz ⊢
  have Q0 : 0 ≤ Q := by rw [← hQ]; exact Int.ediv_nonneg M0 (by omega)
  refine radd_pick Q0 e2 e3 (fun z0 h0 => z0 ?_) hz
  rw [← hQ, ← hM, h0]
  simp
end Go.Proofs.Ytdimncchejbaaaa
