/-
  Layer 15: rise and slope of couperef15, by contract.
-/
import Derived.Test.YtadicbpfbhpooaaTyd
import Derived.StillTactics
namespace Go.Proofs.Ytadicbpfbhpooaa
open Go.RowKit
set_option linter.unusedVariables false
set_option linter.unusedSimpArgs false
namespace Sp
def rs (a b : Int) : Int := max (a - b) (b - a)
end Sp
set_option maxRecDepth 100000 in
theorem rrise_any (a b : Int) (w : World) (ha : 0 ≤ a ∧ a ≤ 50000) (hb : 0 ≤ b ∧ b ≤ 50000) : Calls Try.prog 69 #[.int .i64 a, .int .i64 b] w (fun e w' => e = .returned (.int .i64 (Sp.rs a b)) ∧ w' = w) := by
  have y1 : wrap64 (a - b) = a - b := pw64 _ (by omega)
  have y2 : wrap64 (b - a) = b - a := pw64 _ (by omega)
  clear ha hb
  go_enter Try.func69, Try.ntmps69
  go_wp2_with fail
  go_ret
  exact ⟨rfl, rfl⟩
theorem max4_run (a b c d : Int) (W : World) : Sem.run Try.prog (Builtin.max_ #[3, 3, 3, 3] 3 #[.int .i64 a, .int .i64 b, .int .i64 c, .int .i64 d]) W = .ok (.int .i64 (max (max (max a b) c) d)) W := by
  have e : Sem.run Try.prog (Builtin.max_ #[3, 3, 3, 3] 3 #[.int .i64 a, .int .i64 b, .int .i64 c, .int .i64 d]) W = ((Sem.run Try.prog (Builtin.max2 (.int .i64 a) (.int .i64 b)) W).andThen fun x w' => (Sem.run Try.prog (Builtin.max2 x (.int .i64 c)) w').andThen fun y w'' => Sem.run Try.prog (Builtin.max2 y (.int .i64 d)) w'') := by
    simp [Builtin.max_, go_sem]
  rw [e, max2_run, Result.andThen_ok, max2_run, Result.andThen_ok]
  exact max2_run _ _ _
set_option maxRecDepth 100000 in
set_option maxHeartbeats 1000000 in
theorem rslope_walk (A : Option Addr) (cap : Nat) (c r k : Int) (z : List Int) (col row v0 v1 v2 v3 e0 e1 e2 e3 M X S : Int) (w : World) (h0 : Sp.rs v0 v1 = e0) (h1 : Sp.rs v0 v2 = e1) (h2 : Sp.rs v1 v3 = e2) (h3 : Sp.rs v2 v3 = e3) (hM : max (max (max e0 e1) e2) e3 = M) (hX : 1000 * M = X) (hS : (X + k - 1).tdiv k = S)
    (b0 : 0 ≤ v0 ∧ v0 ≤ 50000) (b1 : 0 ≤ v1 ∧ v1 ≤ 50000) (b2 : 0 ≤ v2 ∧ v2 ≤ 50000) (b3 : 0 ≤ v3 ∧ v3 ≤ 50000) (hk : 1 ≤ k ∧ k ≤ 1000) (bM : 0 ≤ M ∧ M ≤ 50000)
    (co : ∀ W, Below w.heap.size w W → Calls Try.prog 60 #[.agg #[.int .i64 c, .int .i64 r, .int .i64 k, .slice A z.length cap], .int .i64 col, .int .i64 row] W (Gives (.agg #[.int .i64 v0, .int .i64 v1, .int .i64 v2, .int .i64 v3]) W)) :
    Calls Try.prog 49 #[.agg #[.int .i64 c, .int .i64 r, .int .i64 k, .slice A z.length cap], .int .i64 col, .int .i64 row] w (Gives (.int .i64 S) w) := by
  have VB := trAt_new w c r k A z.length cap
  have bU : Below w.heap.size w (w.alloc (Obj.cells #[.int .i64 c, .int .i64 r, .int .i64 k, .slice A z.length cap] 24)) := balloc _ _
  generalize hU : w.alloc (Obj.cells #[.int .i64 c, .int .i64 r, .int .i64 k, .slice A z.length cap] 24) = U at VB bU
  have CO := hid (co U bU)
  have HU := hid hU
  have HB := hid bU
  have HC := hid VB
  have kz : ¬ k = 0 := by omega
  have ky : (k == 0) = false := by simp; omega
  have S0 : 0 ≤ S := by rw [← hS]; exact Int.tdiv_nonneg (by omega) (by omega)
  have S1 : S ≤ X + k - 1 := by rw [← hS, Int.tdiv_eq_ediv_of_nonneg (by omega)]; exact Int.ediv_le_self _ (by omega)
  have x1 : wrap64 X = X := pw64 _ (by omega)
  have x2 : wrap64 (X + k) = X + k := pw64 _ (by omega)
  have x3 : wrap64 (X + k - 1) = X + k - 1 := pw64 _ (by omega)
  have x4 : wrap64 S = S := pw64 _ (by omega)
  have M0 := fun W => max4_run e0 e1 e2 e3 W
  simp only [hM] at M0
  have A0 := fun W => rrise_any v0 v1 W b0 b1
  have A1 := fun W => rrise_any v0 v2 W b0 b2
  have A2 := fun W => rrise_any v1 v3 W b1 b3
  have A3 := fun W => rrise_any v2 v3 W b2 b3
  simp only [h0] at A0
  simp only [h1] at A1
  simp only [h2] at A2
  simp only [h3] at A3
  have R0 := hid A0
  have R1 := hid A1
  have R2 := hid A2
  have R3 := hid A3
  have c0 := VB.c0
  have c1 := VB.c1
  have c2 := VB.c2
  have c3 := VB.c3
  have cl := VB.lt
  clear hU VB bU co b0 b1 b2 b3 hk S0 S1 A0 A1 A2 A3 h0 h1 h2 h3 hM bM
  go_enter Try.func49, Try.ntmps49
  go_upto_region 1 with fail
  rw [HU.out]
  go_wp2_with fail
  refine CO.out.mono ?_
  rintro _ w5 ⟨rfl, hb⟩
  obtain ⟨V5, hV5⟩ : ∃ V5, w5.alloc (.cells #[.int .i64 v0, .int .i64 v1, .int .i64 v2, .int .i64 v3] 76) = V5 := ⟨_, rfl⟩
  have k5 : Below w5.heap.size w5 V5 := by rw [← hV5]; exact balloc _ _
  have B5 := hid (bthen HB.out (bthen hb k5))
  have Q5 := hid (HC.out.below (bthen hb k5))
  have f0 : V5.cell? ⟨w5.heap.size, 0, none⟩ = some (.int .i64 v0) := by rw [← hV5]; simp [go_sem]
  have f1 : V5.cell? ⟨w5.heap.size, 1, none⟩ = some (.int .i64 v1) := by rw [← hV5]; simp [go_sem]
  have f2 : V5.cell? ⟨w5.heap.size, 2, none⟩ = some (.int .i64 v2) := by rw [← hV5]; simp [go_sem]
  have f3 : V5.cell? ⟨w5.heap.size, 3, none⟩ = some (.int .i64 v3) := by rw [← hV5]; simp [go_sem]
  have fz : w5.heap.size < V5.heap.size := by rw [← hV5]; simp
  have HV5 := hid hV5
  clear hb c0 c1 c2 c3 cl hV5 k5
  go_upto_region 2 with fail
  rw [HV5.out]
  refine wp_region_still_lit (by rfl) (by kernel_rfl) ?_
  still_step
  still_step
  still_step
  still_step
  still_call (R0.out _)
  still_step
  still_step
  still_step
  still_step
  still_call (R1.out _)
  still_step
  still_step
  still_step
  still_step
  still_call (R2.out _)
  still_step
  still_step
  still_step
  still_step
  still_call (R3.out _)
  repeat still_step
  refine wpStill_nil ?_
  refine (show ∀ (K : Act → World → Prop) a, K a V5.drew → K a { V5 with drawn := V5.drawn + 1 } from fun K a h => h) _ _ ?_
  have hD : Below V5.heap.size V5 V5.drew := (Below.refl _ _).drew
  have B6 := hid (bthen B5.out hD)
  have Q6 := Q5.out.below hD
  have c2 := Q6.c2
  have cl := Q6.lt
  clear f0 f1 f2 f3 fz hD Q6
  generalize V5.drew = X5 at B6 c2 cl ⊢
  go_wp2_with fail
  go_ret
  exact Gives.mk (by first | rfl | exact i64_eq x4.symm | simp [x4]) B6.out
theorem Sp.ri_eq (v0 v1 v2 v3 : Int) : max (max (max (Sp.rs v0 v1) (Sp.rs v0 v3)) (Sp.rs v1 v2)) (Sp.rs v3 v2) = Sp.ri v0 v1 v2 v3 := by
  have r1 : max (max 0 (v0 - v3)) (v3 - v0) = Sp.rs v0 v3 := by unfold Sp.rs; omega
  have r2 : ∀ x a b : Int, max (max x (a - b)) (b - a) = max x (Sp.rs a b) := fun x a b => by unfold Sp.rs; omega
  have r3 : Sp.rs v1 v0 = Sp.rs v0 v1 := by unfold Sp.rs; omega
  have r4 : Sp.rs v2 v1 = Sp.rs v1 v2 := by unfold Sp.rs; omega
  unfold Sp.ri
  rw [r1, r2, r2, r2, r3, r4, Int.max_comm (Sp.rs v0 v1) (Sp.rs v0 v3)]
theorem Sp.ri_in {v0 v1 v2 v3 : Int} (b0 : 0 ≤ v0 ∧ v0 ≤ 50000) (b1 : 0 ≤ v1 ∧ v1 ≤ 50000) (b2 : 0 ≤ v2 ∧ v2 ≤ 50000) (b3 : 0 ≤ v3 ∧ v3 ≤ 50000) : 0 ≤ Sp.ri v0 v1 v2 v3 ∧ Sp.ri v0 v1 v2 v3 ≤ 50000 := by
  rw [← Sp.ri_eq]
  have q : ∀ a b : Int, 0 ≤ a ∧ a ≤ 50000 → 0 ≤ b ∧ b ≤ 50000 → 0 ≤ Sp.rs a b ∧ Sp.rs a b ≤ 50000 := fun a b _ _ => by unfold Sp.rs; omega
  have q1 := q v0 v1 b0 b1
  have q2 := q v0 v3 b0 b3
  have q3 := q v1 v2 b1 b2
  have q4 := q v3 v2 b3 b2
  omega
theorem rslope_any (A : Option Addr) (cap : Nat) (c r k : Int) (z : List Int) (col row : Int) (w : World) (hc : 2 ≤ c ∧ c ≤ 16) (hr : 2 ≤ r ∧ r ≤ 16) (hk : 1 ≤ k ∧ k ≤ 1000) (hl : (z.length : Int) = c * r) (hz : ∀ v ∈ z, 0 ≤ v ∧ v ≤ 50000) (h0 : 0 ≤ col) (h1 : col ≤ c - 2) (h2 : 0 ≤ row) (h3 : row ≤ r - 2) (hT : Ints w A z) :
    Calls Try.prog 49 #[.agg #[.int .i64 c, .int .i64 r, .int .i64 k, .slice A z.length cap], .int .i64 col, .int .i64 row] w (Gives (.int .i64 (Sp.sloS z c k col row)) w) := by
  have a0 := Sp.hz_in hz (row * c + col)
  have a1 := Sp.hz_in hz (row * c + col + 1)
  have a2 := Sp.hz_in hz (row * c + col + c + 1)
  have a3 := Sp.hz_in hz (row * c + col + c)
  exact rslope_walk A cap c r k z col row _ _ _ _ _ _ _ _ (Sp.ri (Sp.hz z (row * c + col)) (Sp.hz z (row * c + col + 1)) (Sp.hz z (row * c + col + c + 1)) (Sp.hz z (row * c + col + c))) _ _ w rfl rfl rfl rfl (Sp.ri_eq _ _ _ _) rfl rfl a0 a1 a3 a2 hk (Sp.ri_in a0 a1 a2 a3)
    (fun W hb => rcorners_any A cap c r k z col row W hc hr hl h0 h1 h2 h3 (hT.below hb))
end Go.Proofs.Ytadicbpfbhpooaa
