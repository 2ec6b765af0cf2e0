/-
  Layer 15: On and Height of couperef15, by contract.
-/
import Derived.Test.YtadicbpfbhpooaaTye
import Derived.Test.YtadicbpfbhpooaaQta
namespace Go.Proofs.Ytadicbpfbhpooaa
open Go.RowKit
set_option linter.unusedVariables false
set_option linter.unusedSimpArgs false
/-- Whether a point lies on the grid. -/
def Sp.onB (c r k px py : Int) : Bool := (decide (0 ≤ px) && decide (px ≤ (c - 1) * k)) && (decide (0 ≤ py) && decide (py ≤ (r - 1) * k))
set_option maxRecDepth 100000 in
theorem ron_walk (A : Option Addr) (cap : Nat) (c r k : Int) (z : List Int) (px py X Y : Int) (w : World) (hX : (c - 1) * k = X) (hY : (r - 1) * k = Y) (bX : 0 ≤ X ∧ X ≤ 100000) (bY : 0 ≤ Y ∧ Y ≤ 100000) (bc : 2 ≤ c ∧ c ≤ 16) (br : 2 ≤ r ∧ r ≤ 16) :
    Calls Try.prog 43 #[.agg #[.int .i64 c, .int .i64 r, .int .i64 k, .slice A z.length cap], .agg #[.int .i64 px, .int .i64 py]] w (Gives (.bool ((decide (0 ≤ px) && decide (px ≤ X)) && (decide (0 ≤ py) && decide (py ≤ Y)))) w) := by
  have wc : wrap64 (c - 1) = c - 1 := pw64 _ (by omega)
  have wr1 : wrap64 (r - 1) = r - 1 := pw64 _ (by omega)
  have wX : wrap64 X = X := pw64 _ (by omega)
  have wY : wrap64 Y = Y := pw64 _ (by omega)
  clear bX bY bc br
  by_cases l1 : 0 ≤ px
  · have e1 : decide (0 ≤ px) = true := decide_eq_true l1
    by_cases l2 : px ≤ X
    · have e2 : decide (px ≤ X) = true := decide_eq_true l2
      by_cases l3 : 0 ≤ py
      · have e3 : decide (0 ≤ py) = true := decide_eq_true l3
        rw [e1, e2, e3]
        simp only [Bool.and_self, Bool.true_and]
        go_enter Try.func43, Try.ntmps43
        go_wp2_with fail
        go_ret
        exact Gives.mk rfl (by repeat' (first | (with_reducible exact Below.refl _ _) | (with_reducible refine Below.alloc ?_ ?_ _) | (with_reducible refine Below.setCell ?_ ?_ _) | (with_reducible refine Below.drew ?_) | (with_reducible refine Below.trans ?_ (Below.mono (by assumption) ?_)) | (simp; done) | (simp; omega) | omega))
      · have e3 : decide (0 ≤ py) = false := decide_eq_false l3
        rw [e1, e2, e3]
        simp only [Bool.and_self, Bool.true_and, Bool.false_and]
        go_enter Try.func43, Try.ntmps43
        go_wp2_with fail
        go_ret
        exact Gives.mk rfl (by repeat' (first | (with_reducible exact Below.refl _ _) | (with_reducible refine Below.alloc ?_ ?_ _) | (with_reducible refine Below.setCell ?_ ?_ _) | (with_reducible refine Below.drew ?_) | (with_reducible refine Below.trans ?_ (Below.mono (by assumption) ?_)) | (simp; done) | (simp; omega) | omega))
    · have e2 : decide (px ≤ X) = false := decide_eq_false l2
      rw [e1, e2]
      simp only [Bool.and_false, Bool.false_and]
      go_enter Try.func43, Try.ntmps43
      go_wp2_with fail
      go_ret
      exact Gives.mk rfl (by repeat' (first | (with_reducible exact Below.refl _ _) | (with_reducible refine Below.alloc ?_ ?_ _) | (with_reducible refine Below.setCell ?_ ?_ _) | (with_reducible refine Below.drew ?_) | (with_reducible refine Below.trans ?_ (Below.mono (by assumption) ?_)) | (simp; done) | (simp; omega) | omega))
  · have e1 : decide (0 ≤ px) = false := decide_eq_false l1
    rw [e1]
    simp only [Bool.false_and]
    go_enter Try.func43, Try.ntmps43
    go_wp2_with fail
    go_ret
    exact Gives.mk rfl (by repeat' (first | (with_reducible exact Below.refl _ _) | (with_reducible refine Below.alloc ?_ ?_ _) | (with_reducible refine Below.setCell ?_ ?_ _) | (with_reducible refine Below.drew ?_) | (with_reducible refine Below.trans ?_ (Below.mono (by assumption) ?_)) | (simp; done) | (simp; omega) | omega))
theorem ron_any (A : Option Addr) (cap : Nat) (c r k : Int) (z : List Int) (px py : Int) (w : World) (bc : 2 ≤ c ∧ c ≤ 16) (br : 2 ≤ r ∧ r ≤ 16) (bk : 1 ≤ k ∧ k ≤ 1000) :
    Calls Try.prog 43 #[.agg #[.int .i64 c, .int .i64 r, .int .i64 k, .slice A z.length cap], .agg #[.int .i64 px, .int .i64 py]] w (Gives (.bool (Sp.onB c r k px py)) w) := by
  have x0 : 0 ≤ (c - 1) * k := Int.mul_nonneg (by omega) (by omega)
  have y0 : 0 ≤ (r - 1) * k := Int.mul_nonneg (by omega) (by omega)
  have x1 : (c - 1) * k ≤ 15 * 1000 := Int.mul_le_mul (by omega) (by omega) (by omega) (by omega)
  have y1 : (r - 1) * k ≤ 15 * 1000 := Int.mul_le_mul (by omega) (by omega) (by omega) (by omega)
  exact ron_walk A cap c r k z px py _ _ w rfl rfl ⟨x0, by omega⟩ ⟨y0, by omega⟩ bc br
theorem Sp.pts_on (c r k : Int) (z : List Int) (px py : Int) : Sp.ptsE c r k z [(px, py)] = if Sp.terE c r k z ≠ 0 then Sp.terE c r k z else if Sp.onB c r k px py = false then 2 else 0 := by
  unfold Sp.ptsE Sp.onB
  by_cases h : Sp.terE c r k z = 0
  · rw [if_neg (fun q => q h), if_neg (fun q => q h)]
    unfold Sp.onE
    simp only
    cases (decide (0 ≤ px) && decide (px ≤ (c - 1) * k)) <;> cases (decide (0 ≤ py) && decide (py ≤ (r - 1) * k)) <;> simp [Sp.onE]
  · rw [if_pos h, if_pos h]
set_option maxRecDepth 100000 in
set_option maxHeartbeats 1000000 in
theorem rHeight_walk (A : Option Addr) (cap : Nat) (c r k : Int) (z : List Int) (px py n d E : Int) (ON : Bool) (w : World)
    (x y u : Int) (hx : (if E ≠ 0 then ((0, 0, E) : Int × Int × Int) else if ON = false then (0, 0, 2) else (n, d, 0)) = (x, y, u))
    (CK : ∀ W, Below w.heap.size w W → Calls Try.prog 16 #[.agg #[.int .i64 c, .int .i64 r, .int .i64 k, .slice A z.length cap]] W (Gives (.int .i64 E) W))
    (CO : E = 0 → ∀ W, Calls Try.prog 43 #[.agg #[.int .i64 c, .int .i64 r, .int .i64 k, .slice A z.length cap], .agg #[.int .i64 px, .int .i64 py]] W (Gives (.bool ON) W))
    (HG : E = 0 → ON = true → ∀ W, Below w.heap.size w W → Calls Try.prog 44 #[.agg #[.int .i64 c, .int .i64 r, .int .i64 k, .slice A z.length cap], .agg #[.int .i64 px, .int .i64 py]] W (Gives (.agg #[.int .i64 n, .int .i64 d]) W)) :
    Calls Try.prog 14 #[.agg #[.int .i64 c, .int .i64 r, .int .i64 k, .slice A z.length cap], .agg #[.int .i64 px, .int .i64 py]] w (Gives (.tuple #[.agg #[.int .i64 x, .int .i64 y], .int .i64 u]) w) := by
  obtain ⟨U0, hU0⟩ : ∃ U0, ((w.alloc (Obj.cells #[.int .i64 c, .int .i64 r, .int .i64 k, .slice A z.length cap] 24)).alloc (.cells #[.int .i64 px, .int .i64 py] 26)).alloc (Obj.cells #[.int .i64 0, .int .i64 0] 30) = U0 := ⟨_, rfl⟩
  have T0 : TrAt U0 w.heap.size c r k A z.length cap := by rw [← hU0]; exact (trAt_new w c r k A z.length cap).below (bthen (balloc _ _) (balloc _ _))
  have b0 : Below w.heap.size w U0 := by rw [← hU0]; exact bthen (balloc _ _) (bthen (balloc _ _) (balloc _ _))
  have p0 : U0.cell? ⟨w.heap.size + 1, 0, none⟩ = some (.int .i64 px) := by rw [← hU0]; simp [go_sem]
  have p1 : U0.cell? ⟨w.heap.size + 1, 1, none⟩ = some (.int .i64 py) := by rw [← hU0]; simp [go_sem]
  have r0 : U0.cell? ⟨w.heap.size + 1 + 1, 0, none⟩ = some (.int .i64 0) := by rw [← hU0]; simp [go_sem]
  have r1 : U0.cell? ⟨w.heap.size + 1 + 1, 1, none⟩ = some (.int .i64 0) := by rw [← hU0]; simp [go_sem]
  have rf : ∀ o, U0.frozen? ⟨w.heap.size + 1 + 1, o, none⟩ = false := fun o => by rw [← hU0]; simp [go_sem]
  have rz : w.heap.size + 1 + 1 < U0.heap.size := by rw [← hU0]; simp
  have pz : w.heap.size + 1 < U0.heap.size := Nat.lt_of_succ_lt rz
  have KK := hid (fun (W : World) (hb : Below U0.heap.size U0 W) => (⟨bthen b0 hb, T0.below hb, (hb.cell (p := ⟨w.heap.size + 1, 0, none⟩) pz).trans p0, (hb.cell (p := ⟨w.heap.size + 1, 1, none⟩) pz).trans p1, (hb.cell (p := ⟨w.heap.size + 1 + 1, 0, none⟩) rz).trans r0, (hb.cell (p := ⟨w.heap.size + 1 + 1, 1, none⟩) rz).trans r1, fun o => (hb.frozen (p := ⟨w.heap.size + 1 + 1, o, none⟩) rz).trans (rf o), Nat.lt_of_lt_of_le rz hb.size⟩ : Below w.heap.size w W ∧ TrAt W w.heap.size c r k A z.length cap ∧ W.cell? ⟨w.heap.size + 1, 0, none⟩ = some (.int .i64 px) ∧ W.cell? ⟨w.heap.size + 1, 1, none⟩ = some (.int .i64 py) ∧ W.cell? ⟨w.heap.size + 1 + 1, 0, none⟩ = some (.int .i64 0) ∧ W.cell? ⟨w.heap.size + 1 + 1, 1, none⟩ = some (.int .i64 0) ∧ (∀ o, W.frozen? ⟨w.heap.size + 1 + 1, o, none⟩ = false) ∧ w.heap.size + 1 + 1 < W.heap.size))
  have CK1 := hid (CK U0 b0)
  have HU := hid hU0
  have HX := hid hx
  have HCO := hid CO
  have HHG := hid HG
  have c0 := T0.c0
  have c1 := T0.c1
  have c2 := T0.c2
  have c3 := T0.c3
  have cl := T0.lt
  clear hU0 T0 b0 r0 r1 rf rz hx CK CO HG p0 p1 pz
  go_enter Try.func14, Try.ntmps14
  go_upto_region 1 with fail
  rw [HU.out]
  go_wp2_with fail
  refine CK1.out.mono ?_
  rintro _ w5 ⟨rfl, hb⟩
  have B5 := hid hb
  clear hb c0 c1 c2 c3 cl
  by_cases cE : E = 0
  · subst cE
    have CO1 := hid (HCO.out (by first | rfl | trivial))
    obtain ⟨kb, kt, p0, p1, r0, r1, rf, rz⟩ := KK.out _ B5.out
    have pz : w.heap.size + 1 < w5.heap.size := Nat.lt_of_succ_lt rz
    have c0 := kt.c0
    have c1 := kt.c1
    have c2 := kt.c2
    have c3 := kt.c3
    have cl := kt.lt
    clear kb kt r0 r1 rf
    go_wp2_with fail
    refine (CO1.out _).mono ?_
    rintro _ w6 ⟨rfl, hb⟩
    have B6 := hid (bthen B5.out hb)
    clear hb c0 c1 c2 c3 cl p0 p1 pz rz
    obtain ⟨kb, kt, p0, p1, r0, r1, rf, rz⟩ := KK.out _ B6.out
    have KB := hid kb
    cases ON
    · have hx := HX.out
      simp at hx
      obtain ⟨rfl, rfl, rfl⟩ := hx
      clear kb kt
      go_wp2_with fail
      refine bodyPost_ret (v := .tuple #[.agg #[.int .i64 0, .int .i64 0], .int .i64 2]) (by simp [results, Try.results14, go_sem, r0, r1, rf, rz]) rfl ?_
      exact Gives.mk rfl (by have hB := KB.out; repeat' (first | (with_reducible exact Below.refl _ _) | (with_reducible refine Below.alloc ?_ ?_ _) | (with_reducible refine Below.setCell ?_ ?_ _) | (with_reducible refine Below.drew ?_) | (with_reducible refine Below.trans ?_ (Below.mono (by assumption) ?_)) | (simp; done) | (simp; omega) | omega))
    · have hx := HX.out
      simp at hx
      obtain ⟨rfl, rfl, rfl⟩ := hx
      have H1 := hid (HHG.out (by first | rfl | trivial) rfl w6 kb)
      have pz : w.heap.size + 1 < w6.heap.size := Nat.lt_of_succ_lt rz
      have c0 := kt.c0
      have c1 := kt.c1
      have c2 := kt.c2
      have c3 := kt.c3
      have cl := kt.lt
      clear kb kt r0 r1 rf HHG HCO
      go_wp2_with fail
      refine H1.out.mono ?_
      rintro _ w7 ⟨rfl, hb⟩
      have B7 := hid (bthen B6.out hb)
      clear hb c0 c1 c2 c3 cl p0 p1 pz rz
      obtain ⟨kb, -, -, -, r0, r1, rf, rz⟩ := KK.out _ B7.out
      have KB7 := hid kb
      clear kb
      go_wp2_with fail
      refine bodyPost_ret (v := .tuple #[.agg #[.int .i64 n, .int .i64 d], .int .i64 0]) (by simp [results, Try.results14, go_sem, r0, r1, rf, rz]) rfl ?_
      exact Gives.mk rfl (by have hB := KB7.out; repeat' (first | (with_reducible exact Below.refl _ _) | (with_reducible refine Below.alloc ?_ ?_ _) | (with_reducible refine Below.setCell ?_ ?_ _) | (with_reducible refine Below.drew ?_) | (with_reducible refine Below.trans ?_ (Below.mono (by assumption) ?_)) | (simp; done) | (simp; omega) | omega))
  · have hn : (E == 0) = false := by simpa using cE
    have hx := HX.out
    rw [if_pos cE] at hx
    simp only [Prod.mk.injEq] at hx
    obtain ⟨rfl, rfl, rfl⟩ := hx
    obtain ⟨kb, -, -, -, r0, r1, rf, rz⟩ := KK.out _ B5.out
    have KB := hid kb
    clear kb HHG HCO
    go_wp2_with fail
    refine bodyPost_ret (v := .tuple #[.agg #[.int .i64 0, .int .i64 0], .int .i64 E]) (by simp [results, Try.results14, go_sem, r0, r1, rf, rz]) rfl ?_
    exact Gives.mk rfl (by have hB := KB.out; repeat' (first | (with_reducible exact Below.refl _ _) | (with_reducible refine Below.alloc ?_ ?_ _) | (with_reducible refine Below.setCell ?_ ?_ _) | (with_reducible refine Below.drew ?_) | (with_reducible refine Below.trans ?_ (Below.mono (by assumption) ?_)) | (simp; done) | (simp; omega) | omega))
theorem rHeight_any (A : Option Addr) (cap : Nat) (c r k : Int) (z : List Int) (px py n d e : Int) (w : World) (hl : z.length ≤ 140737488355328) (hT : Ints w A z) (hv : Sp.heightS c r k z px py = (n, d, e)) :
    Calls Try.prog 14 #[.agg #[.int .i64 c, .int .i64 r, .int .i64 k, .slice A z.length cap], .agg #[.int .i64 px, .int .i64 py]] w (Gives (.tuple #[.agg #[.int .i64 n, .int .i64 d], .int .i64 e]) w) := by
  refine rHeight_walk A cap c r k z px py (Sp.hgt z c r k px py).1 (Sp.hgt z c r k px py).2.1 (Sp.terE c r k z) (Sp.onB c r k px py) w n d e ?_ (fun W hb => rcheck_any A cap c r k z W hl (hT.below hb)) ?_ ?_
  · rw [← hv]
    unfold Sp.heightS
    rw [Sp.pts_on]
    by_cases h : Sp.terE c r k z = 0
    · cases Sp.onB c r k px py <;> simp [h]
    · simp [h]
  · intro h W
    obtain ⟨h1, h2, h3, -, -⟩ := Sp.terE_zero h
    exact ron_any A cap c r k z px py W h1 h2 h3
  · intro h hon W hb
    obtain ⟨h1, h2, h3, h4, h5⟩ := Sp.terE_zero h
    unfold Sp.onB at hon
    simp at hon
    exact rheight_any A cap c r k z px py _ _ (Sp.hgt z c r k px py).2.2 W h1 h2 h3 h4 h5 hon.1.1 hon.1.2 hon.2.1 hon.2.2 (hT.below hb) rfl
end Go.Proofs.Ytadicbpfbhpooaa
