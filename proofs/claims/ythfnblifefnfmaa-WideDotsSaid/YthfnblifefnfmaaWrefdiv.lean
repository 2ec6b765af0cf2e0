/-
  The division of couperef01, by contract.
-/
import Derived.Test.YthfnblifefnfmaaWrefbit
namespace Go.Proofs.Ythfnblifefnfmaa
open Go.RowKit
set_option linter.unusedVariables false
set_option linter.unusedSimpArgs false

/-- A box that holds a wide integer, and may be stored into. -/
def WBox (wx : World) (k : Nat) (n : Bool) (h l : Int) : Prop := k < wx.heap.size ∧ wx.cell? ⟨k, 0, none⟩ = some (.bool n) ∧ wx.cell? ⟨k, 1, none⟩ = some (.int .u64 h) ∧ wx.cell? ⟨k, 2, none⟩ = some (.int .u64 l) ∧ ∀ o, wx.frozen? ⟨k, o, none⟩ = false
/-- The loop's head: bits from k on are done. -/
def Dl (M D : Nat) (n : Bool) (h l : Int) (w : World) (v7 v8 : Value) (wr : World) : Prop :=
  ∃ (k : Nat) (i hi lo r : Int), v7 = .int .u64 r ∧ v8 = .int .i64 i ∧ i + 1 = (k : Int) ∧ k ≤ 127 ∧ Bits M D k hi lo r ∧ WBox wr w.heap.size n h l ∧ WBox wr (w.heap.size + 1) false 0 0 ∧ WBox wr (w.heap.size + 1 + 1) false hi lo ∧ Below w.heap.size w wr
set_option maxRecDepth 100000 in
set_option maxHeartbeats 8000000 in
theorem rdivide_walk (n : Bool) (h l d : Int) (M D : Nat) (h0 : 0 ≤ h) (h1 : h < 9223372036854775808) (l0 : 0 ≤ l) (l1 : l < 18446744073709551616) (hM : h * 18446744073709551616 + l = (M : Int)) (hD : d = (D : Int)) (d0 : 0 < d) (d1 : d ≤ 9223372036854775808)
    (H L R : Int) (hq : H * 18446744073709551616 + L = ((M / D : Nat) : Int)) (L0 : 0 ≤ L) (L1 : L < 18446744073709551616) (hR : R = ((M % D : Nat) : Int)) (w : World) :
    Calls Try.prog 43 #[.agg #[.bool n, .int .u64 h, .int .u64 l], .int .u64 d] w (Gives (.tuple #[.agg #[.bool false, .int .u64 H, .int .u64 L], .int .u64 R]) w) := by
  have HM := hid hM
  have HQ := hid hq
  have HR := hid hR
  have HD := hid hD
  have hMb : M < 170141183460469231731687303715884105728 := by omega
  have hD0 : 0 < D := by omega
  clear hM hq hR
  go_enter Try.func43, Try.ntmps43
  go_wp2_with fail
  have BI := fun (i : Int) (k : Nat) (hk : i = (k : Int)) (k1 : k ≤ 126) (b : Int) (hb : ((M / 2 ^ k % 2 : Nat) : Int) = b) (w : World) => bit_any n h l i h0 (by omega) l0 l1 M k HM.out hk k1 b hb w
  have BIH := hid BI
  clear BI hD
  go_loopw [7, 8] (fun v7 v8 wr => Dl M D n h l w v7 v8 wr) (fun _ v8 _ => (intOf v8 + 1).toNat)
  case atStart =>
    have z2 : w.heap.size < w.heap.size + 1 + 1 := by omega
    have z3 : w.heap.size < w.heap.size + 1 + 1 + 1 := by omega
    refine ⟨127, 126, 0, 0, 0, rfl, rfl, by omega, by omega, ?_, ⟨by simp; omega, by simp [go_sem, z2, z3], by simp [go_sem, z2, z3], by simp [go_sem, z2, z3], fun o => by simp [go_sem, z2, z3]⟩, ⟨by simp, by simp [go_sem], by simp [go_sem], by simp [go_sem], fun o => by simp [go_sem]⟩, ⟨by simp, by simp [go_sem], by simp [go_sem], by simp [go_sem], fun o => by simp [go_sem]⟩, by repeat' (first | (with_reducible exact Below.refl _ _) | (with_reducible refine Below.alloc ?_ ?_ _) | (with_reducible refine Below.setCell ?_ ?_ _) | (with_reducible refine Below.drew ?_) | (with_reducible refine Below.trans ?_ (Below.mono (by assumption) ?_)) | (simp; done) | (simp; omega) | omega)⟩
    have e : M / 2 ^ 127 = 0 := Nat.div_eq_of_lt (by omega)
    exact ⟨by rw [e]; simp, by rw [e]; simp, by omega, by omega, by omega⟩
  case round =>
    obtain ⟨k, i, hi, lo, r, rfl, rfl, hk, k1, hb, ⟨pz, p0, p1, p2, pf⟩, ⟨rz, r0, r1, r2, rf⟩, ⟨qz, q0, q1, q2, qf⟩, hB⟩ := hrel
    have hsz := hB.size
    have BH := hid hB
    clear hB
    cases k with
    | zero =>
      have hi0 : i = -1 := by omega
      subst hi0
      obtain ⟨e1, e2, e3, e4, e5⟩ := hb
      have ee : hi = H ∧ lo = L ∧ r = R := by
        have hq := HQ.out
        have hR := HR.out
        rw [Nat.pow_zero, Nat.div_one] at e1 e2
        omega
      obtain ⟨rfl, rfl, rfl⟩ := ee
      clear e1 e2 e3 e4 e5
      go_wp2
      refine bodyPost_ret (v := .tuple #[.agg #[.bool false, .int .u64 hi, .int .u64 lo], .int .u64 r]) (by simp [results, Try.results43, go_sem, r0, r1, r2, q0, q1, q2]) rfl ?_
      have BB := BH.out
      exact Gives.mk rfl (by repeat' (first | (with_reducible exact Below.refl _ _) | (with_reducible refine Below.alloc ?_ ?_ _) | (with_reducible refine Below.setCell ?_ ?_ _) | (with_reducible refine Below.drew ?_) | (with_reducible refine Below.trans ?_ (Below.mono (by assumption) ?_)) | (simp; done) | (simp; omega) | omega))
    | succ j =>
      obtain ⟨b, hbb⟩ : ∃ b, ((M / 2 ^ j % 2 : Nat) : Int) = b := ⟨_, rfl⟩
      obtain ⟨b01, hib, rr0, rr1, st1, st2⟩ := hb.step hD0 hMb hbb
      have hi0 := hb.h0
      have lo0 := hb.l0
      have lo1 := hb.l1
      have S1 := hid st1
      have S2 := hid st2
      have rd : r < d := by have := HD.out; omega
      have bi := fun w => BIH.out i j (by omega) (by omega) b hbb w
      have ij : 0 ≤ i := by omega
      have i1 : i ≤ 126 := by omega
      have wl : IntKind.u64.wrap (lo * 2) = 2 * lo % 18446744073709551616 := by rw [IntKind.wrap_u64]; omega
      have e1 : bits BinOp.or IntKind.u64 (r * 2) b = 2 * r + b := by rw [Int.mul_comm r 2]; exact or_bit (by omega) (by omega) (by omega) b01
      have e2 : bits BinOp.or IntKind.u64 (hi * 2) (lo / 9223372036854775808) = 2 * hi + lo / 9223372036854775808 := by rw [Int.mul_comm hi 2]; exact or_bit (by omega) (by omega) (by omega) (by omega)
      have e3 : bits BinOp.or IntKind.u64 (IntKind.u64.wrap (lo * 2)) 1 = 2 * lo % 18446744073709551616 + 1 := by rw [wl]; exact or_bit (by omega) (by omega) (by omega) (Or.inr rfl)
      have E := hid (And.intro wl (And.intro e1 (And.intro e2 e3)))
      clear st1 st2 hb wl e1 e2 e3
      go_wp2_with (go_at_call 57; refine (bi _).mono ?_; rintro e w' ⟨rfl, rfl⟩)
      all_goals (
        rename_i hx hy
        obtain ⟨wl, e1, e2, e3⟩ := E.out
        have BB := BH.out
        simp only [e1, e2, e3, wl] at hy ⊢
        have hd := HD.out
        have n1 : ¬ w.heap.size = wr.heap.size := by omega
        have n2 : ¬ w.heap.size + 1 = wr.heap.size := by omega
        have n3 : ¬ w.heap.size + 1 + 1 = wr.heap.size := by omega
        have n4 : ¬ w.heap.size = w.heap.size + 1 + 1 := by omega
        have n5 : ¬ w.heap.size + 1 = w.heap.size + 1 + 1 := by omega)
      · have hge : d ≤ 2 * r + b := by
          rcases hy with hy | hy
          · simp at hy; omega
          · exact hy
        have hnew := S1.out (by omega)
        have ew : IntKind.u64.wrap (2 * r + b - d) = 2 * r + b - (D : Int) := by rw [IntKind.wrap_u64]; omega
        have e4 : bits BinOp.or IntKind.u64 (2 * lo % 18446744073709551616) 1 = 2 * lo % 18446744073709551616 + 1 := by rw [← wl]; rw [e3, wl]
        rw [ew, e4]
        clear E S1 S2 BIH bi HM HQ HR HD e1 e2 e3 e4 wl ew hy hx hbb
        have c2 : ((((wr.setCell ⟨w.heap.size + 1 + 1, 1, none⟩ (.int .u64 (2 * hi + lo / 9223372036854775808))).setCell ⟨w.heap.size + 1 + 1, 2, none⟩ (.int .u64 (2 * lo % 18446744073709551616))).setCell ⟨w.heap.size + 1 + 1, 2, none⟩ (.int .u64 (2 * lo % 18446744073709551616 + 1))).alloc (.cells #[.bool n, .int .u64 h, .int .u64 l] 24)).cell? ⟨w.heap.size + 1 + 1, 2, none⟩ = some (.int .u64 (2 * lo % 18446744073709551616 + 1)) := by
          rw [World.cell?_alloc_lt _ _ _ (by simpa using qz)]
          have a1 : (wr.setCell ⟨w.heap.size + 1 + 1, 1, none⟩ (.int .u64 (2 * hi + lo / 9223372036854775808))).cell? ⟨w.heap.size + 1 + 1, 2, none⟩ = some (.int .u64 lo) := (World.cell?_setCell_other _ _ _ _ (by simp)).trans q2
          exact World.cell?_setCell_same _ _ _ (World.cell?_setCell_same _ _ _ a1)
        have cB : Below w.heap.size w ((((wr.setCell ⟨w.heap.size + 1 + 1, 1, none⟩ (.int .u64 (2 * hi + lo / 9223372036854775808))).setCell ⟨w.heap.size + 1 + 1, 2, none⟩ (.int .u64 (2 * lo % 18446744073709551616))).setCell ⟨w.heap.size + 1 + 1, 2, none⟩ (.int .u64 (2 * lo % 18446744073709551616 + 1))).alloc (.cells #[.bool n, .int .u64 h, .int .u64 l] 24)) := by
          repeat' (first | (with_reducible exact Below.refl _ _) | (with_reducible refine Below.alloc ?_ ?_ _) | (with_reducible refine Below.setCell ?_ ?_ _) | (with_reducible refine Below.drew ?_) | (with_reducible refine Below.trans ?_ (Below.mono (by assumption) ?_)) | (simp; done) | (simp; omega) | omega)
        refine ⟨⟨j, i - 1, 2 * hi + lo / 9223372036854775808, 2 * lo % 18446744073709551616 + 1, 2 * r + b - D, rfl, rfl, ?_, ?_, hnew, ⟨?_, ?_, ?_, ?_, fun o => ?_⟩, ⟨?_, ?_, ?_, ?_, fun o => ?_⟩, ⟨?_, ?_, ?_, c2, fun o => ?_⟩, cB⟩, ?_⟩
        all_goals first
          | omega
          | (simp; omega)
          | (simp [intOf]; omega)
          | (simp [go_sem, *]; done)
          | (repeat' (first | (with_reducible exact Below.refl _ _) | (with_reducible refine Below.alloc ?_ ?_ _) | (with_reducible refine Below.setCell ?_ ?_ _) | (with_reducible refine Below.drew ?_) | (with_reducible refine Below.trans ?_ (Below.mono (by assumption) ?_)) | (simp; done) | (simp; omega) | omega); done)
      · have hge : 2 * r + b < d := hy.2
        have hnew := S2.out (by omega)
        clear E S1 S2 BIH bi HM HQ HR HD e1 e2 e3 wl hy hx hbb
        refine ⟨⟨j, i - 1, 2 * hi + lo / 9223372036854775808, 2 * lo % 18446744073709551616, 2 * r + b, rfl, rfl, ?_, ?_, hnew, ⟨?_, ?_, ?_, ?_, fun o => ?_⟩, ⟨?_, ?_, ?_, ?_, fun o => ?_⟩, ⟨?_, ?_, ?_, ?_, fun o => ?_⟩, ?_⟩, ?_⟩
        all_goals first
          | omega
          | (simp; omega)
          | (simp [intOf]; omega)
          | (simp [go_sem, *]; done)
          | (repeat' (first | (with_reducible exact Below.refl _ _) | (with_reducible refine Below.alloc ?_ ?_ _) | (with_reducible refine Below.setCell ?_ ?_ _) | (with_reducible refine Below.drew ?_) | (with_reducible refine Below.trans ?_ (Below.mono (by assumption) ?_)) | (simp; done) | (simp; omega) | omega))
end Go.Proofs.Ythfnblifefnfmaa
