/-
  Layer 15: the law's example, awake's callees at it, equal lists.
-/
import Derived.Test.YtmdaanigkhikfaaTr
import Derived.Test.YtmdaanigkhikfaaFnewsa
namespace Go.Proofs.Ytmdaanigkhikfaa
open Go.RowKit
set_option linter.unusedVariables false
set_option linter.unusedSimpArgs false
/-- Equal lists of ints are found equal. -/
theorem teq_any (A B : Option Addr) (ca cb : Nat) (l : List Int) (w : World) (hl : l.length ≤ 1000000) (hA : Ints w A l) (hB : Ints w B l) :
    Calls Try.prog 24 #[.slice A l.length ca, .slice B l.length cb] w (Gives (.bool true) w) := by
  by_cases h0 : 0 < l.length
  · obtain ⟨b, off, rfl, bl, q⟩ := hA h0
    obtain ⟨b', off', rfl, bl', q'⟩ := hB h0
    have H := Try.slices_Equal_int b off l.length ca b' off' l.length cb l l w (Nat.le_refl _) (Nat.le_refl _) (by omega) (by omega) (fun j hj => by rw [q j hj]; simp [List.getD, List.getElem?_eq_getElem hj]) (fun j hj => by rw [q' j hj]; simp [List.getD, List.getElem?_eq_getElem hj])
    refine H.mono ?_
    rintro e w' ⟨rfl, n, rfl⟩
    exact Gives.mk (by simp) (below_dn (Below.refl _ _) n)
  · have e : l = [] := List.eq_nil_of_length_eq_zero (by omega)
    subst e
    refine (Try.slices_Equal_int_empty A B ca 0 cb w (by omega)).mono ?_
    rintro e w' ⟨rfl, rfl⟩
    exact Gives.mk (by simp) (Below.refl _ _)
set_option maxRecDepth 100000 in
set_option maxHeartbeats 1000000 in
/-- Equal lists of fractions are found equal. -/
theorem tsame_any (A B : Option Addr) (ca cb : Nat) (l : List (Int × Int)) (w : World) (hl : l.length ≤ 1000000) (hA : Frs w A l) (hB : Frs w B l) :
    Calls Try.prog 19 #[.slice A l.length ca, .slice B l.length cb] w (Gives (.bool true) w) := by
  have HA := hid hA
  have HB := hid hB
  have LE := hid hl
  clear hA hB hl
  go_enter Try.func19, Try.ntmps19
  go_wp2_with fail
  go_loopw [5] (fun t wr => ∃ j : Nat, t = .int .i64 (j : Int) ∧ j ≤ l.length ∧ Below w.heap.size w wr) (fun t _ => l.length - (intOf t).toNat)
  case atStart => exact ⟨0, rfl, Nat.zero_le _, Below.refl _ _⟩
  case round =>
    obtain ⟨j, rfl, hj, hb⟩ := hrel
    have HBB := hid hb
    clear hb
    by_cases hlt : j < l.length
    · obtain ⟨b, off, rfl, bl, q⟩ := (HA.out.below HBB.out) (Nat.lt_of_le_of_lt (Nat.zero_le _) hlt)
      obtain ⟨b', off', rfl, bl', q'⟩ := (HB.out.below HBB.out) (Nat.lt_of_le_of_lt (Nat.zero_le _) hlt)
      obtain ⟨p0, p1⟩ := q j hlt
      obtain ⟨r0, r1⟩ := q' j hlt
      obtain ⟨⟨x, y⟩, hv⟩ : ∃ v, l[j]'hlt = v := ⟨_, rfl⟩
      rw [hv] at p0 p1 r0 r1
      simp only at p0 p1 r0 r1
      have p2 : wr.cell? ⟨b, off + j * 2 + 1, none⟩ = some (.int .i64 y) := p1
      have r2 : wr.cell? ⟨b', off' + j * 2 + 1, none⟩ = some (.int .i64 y) := r1
      obtain ⟨ej, eq, i0, i1⟩ := rjw j l.length hlt LE.out
      have EQ := hid eq
      have HJ := hid hlt
      have HM := hid (pmeas l.length j hlt)
      have hD := hid HBB.out.drew
      have SM := hid (fun W => rsame_true x y W)
      clear q q' hv eq hlt bl bl'
      go_wp2_with fail
      go_still_tail 8, (by rfl)
      refine (show ∀ (K : Act → World → Prop) a, K a wr.drew → K a { wr with drawn := wr.drawn + 1 } from fun K a h => h) _ _ ?_
      go_wp2_with fail
      refine (SM.out _).mono ?_
      rintro _ w5 ⟨rfl, hb⟩
      have B5 := hid (bthen hD.out hb)
      clear hb p0 p1 r0 r1 p2 r2
      go_wp2_with fail
      go_roundw
      case rel => exact ⟨j + 1, i64_eq (by first | exact EQ.out | exact ej.trans EQ.out), HJ.out, B5.out⟩
      case measure => first | exact HM.out | (rw [ej]; exact HM.out)
    · have i1 : ¬ (j : Int) < (l.length : Int) := fun k => hlt (Int.ofNat_lt.mp k)
      go_wp2_with fail
      go_ret
      exact Gives.mk rfl HBB.out
/-- The heights of the example. -/
def exZ : List Int := [0, 10, 20, 50]
def exT (A : Option Addr) : Value := .agg #[.int .i64 2, .int .i64 2, .int .i64 10, .slice A 4 4]
set_option maxRecDepth 100000 in
theorem ex_any (w : World) : Calls Try.prog 40 #[] w (fun e w' => Below w.heap.size w w' ∧ ∃ A, e = .returned (.agg #[.int .i64 2, .int .i64 2, .int .i64 10, .slice A 4 4]) ∧ Ints w' A [0, 10, 20, 50]) := by
  go_enter Try.func40, Try.ntmps40
  go_wp2_with fail
  refine bodyPost_ret (v := .agg #[.int .i64 2, .int .i64 2, .int .i64 10, .slice (some ⟨w.heap.size + 1, 0, none⟩) 4 4]) (by simp [results, Try.results40, go_sem]) rfl ?_
  refine ⟨by repeat' (first | (with_reducible exact Below.refl _ _) | (with_reducible refine Below.alloc ?_ ?_ _) | (with_reducible refine Below.setCell ?_ ?_ _) | (with_reducible refine Below.drew ?_) | (with_reducible refine Below.trans ?_ (Below.mono (by assumption) ?_)) | (simp; done) | (simp; omega) | omega), _, rfl, fun _ => ⟨w.heap.size + 1, 0, rfl, by simp, fun j hj => ?_⟩⟩
  match j, hj with
  | 0, _ => simp [go_sem]
  | 1, _ => simp [go_sem]
  | 2, _ => simp [go_sem]
  | 3, _ => simp [go_sem]
theorem ex_height (A : Option Addr) (w : World) (h : Ints w A [0, 10, 20, 50]) : Calls Try.prog 13 #[.agg #[.int .i64 2, .int .i64 2, .int .i64 10, .slice A 4 4], .agg #[.int .i64 5, .int .i64 5]] w (Gives (.tuple #[.agg #[.int .i64 20, .int .i64 1], .int .i64 0]) w) :=
  tHeight_any A 4 2 2 10 [0, 10, 20, 50] 5 5 20 1 0 w (by decide) h (by kernel_rfl)
theorem ex_slope (A : Option Addr) (w : World) (h : Ints w A [0, 10, 20, 50]) : Calls Try.prog 20 #[.agg #[.int .i64 2, .int .i64 2, .int .i64 10, .slice A 4 4], .int .i64 0, .int .i64 0] w (Gives (.tuple #[.int .i64 4000, .int .i64 0]) w) :=
  tSlope_any A 4 2 2 10 [0, 10, 20, 50] 0 0 4000 0 w (by decide) h (by kernel_rfl)
theorem ex_receiver (A : Option Addr) (w : World) (h : Ints w A [0, 10, 20, 50]) : Calls Try.prog 25 #[.agg #[.int .i64 2, .int .i64 2, .int .i64 10, .slice A 4 4]] w (fun e w' => Below w.heap.size w w' ∧ ∃ A' cap, e = .returned (.tuple #[.slice A' 4 cap, .int .i64 0]) ∧ Ints w' A' [-1, 0, 0, 1]) := by
  have H := tReceiver_any A 4 2 2 10 [0, 10, 20, 50] w (by decide) h
  have e1 : Sp.terE 2 2 10 [0, 10, 20, 50] = 0 := by kernel_rfl
  have e2 : Sp.tabL (Sp.rcvS [0, 10, 20, 50] 2 2) ([0, 10, 20, 50] : List Int).length = [-1, 0, 0, 1] := by kernel_rfl
  rw [e1, e2] at H
  refine H.mono ?_
  rintro e w' ⟨hb, ⟨h1, -⟩ | ⟨-, A', cap, rfl, h2⟩⟩
  · exact absurd rfl h1
  · exact ⟨hb, A', cap, rfl, h2⟩
theorem ex_catchment (A : Option Addr) (w : World) (h : Ints w A [0, 10, 20, 50]) : Calls Try.prog 27 #[.agg #[.int .i64 2, .int .i64 2, .int .i64 10, .slice A 4 4]] w (fun e w' => Below w.heap.size w w' ∧ ∃ A' cap, e = .returned (.tuple #[.slice A' 4 cap, .int .i64 0]) ∧ Ints w' A' [4, 2, 1, 1]) := by
  have H := tCatchment_any A 4 2 2 10 [0, 10, 20, 50] w (by decide) h
  have e1 : Sp.terE 2 2 10 [0, 10, 20, 50] = 0 := by kernel_rfl
  have e2 : Sp.catS [0, 10, 20, 50] 2 2 = [4, 2, 1, 1] := by kernel_rfl
  rw [e1, e2] at H
  refine H.mono ?_
  rintro e w' ⟨hb, ⟨h1, -⟩ | ⟨-, A', cap, rfl, h2⟩⟩
  · exact absurd rfl h1
  · exact ⟨hb, A', cap, rfl, h2⟩
theorem ex_profile (A : Option Addr) (w : World) (h : Ints w A [0, 10, 20, 50]) : Calls Try.prog 17 #[.agg #[.int .i64 2, .int .i64 2, .int .i64 10, .slice A 4 4], .agg #[.int .i64 0, .int .i64 0], .agg #[.int .i64 10, .int .i64 10], .int .i64 2] w (fun e w' => Below w.heap.size w w' ∧ ∃ A' cap, e = .returned (.tuple #[.slice A' 3 cap, .int .i64 0]) ∧ Frs w' A' [(0, 1), (20, 1), (50, 1)]) := by
  have H := tProfile_any A 4 2 2 10 [0, 10, 20, 50] 0 0 10 10 2 w (by decide) h
  have e1 : Sp.proE 2 2 10 [0, 10, 20, 50] 0 0 10 10 2 = 0 := by kernel_rfl
  have e2 : Sp.proL 2 2 10 [0, 10, 20, 50] 0 0 10 10 2 = [(0, 1), (20, 1), (50, 1)] := by kernel_rfl
  rw [e1, e2] at H
  refine H.mono ?_
  rintro e w' ⟨hb, ⟨h1, -⟩ | ⟨-, A', cap, rfl, h2⟩⟩
  · exact absurd rfl h1
  · exact ⟨hb, A', cap, rfl, h2⟩
end Go.Proofs.Ytmdaanigkhikfaa
