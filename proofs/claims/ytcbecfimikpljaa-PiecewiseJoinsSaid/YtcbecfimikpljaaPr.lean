/-
  Layer 12: the law's line, example and awake, by contract.
-/
import Derived.Test.YtcbecfimikpljaaPq
import Derived.Test.YtcbecfimikpljaaPz
namespace Go.Proofs.Ytcbecfimikpljaa
open Go.RowKit
set_option linter.unusedVariables false
set_option linter.unusedSimpArgs false

def LinePost (w : World) (f t : Int) (a b : Int × Int) (e : Ending) (w' : World) : Prop :=
  Below w.heap.size w w' ∧ ∃ g : Nat, e = .returned (.agg #[.int .i64 f, .int .i64 t, .slice (some ⟨g, 0, none⟩) 2 2]) ∧ Frs w' (some ⟨g, 0, none⟩) [a, b]
theorem frs_two {w : World} {g : Nat} {a b : Int × Int} (h : g < w.heap.size) (c0 : w.cell? ⟨g, 0, none⟩ = some (.int .i64 a.1)) (c1 : w.cell? ⟨g, 1, none⟩ = some (.int .i64 a.2)) (c2 : w.cell? ⟨g, 2, none⟩ = some (.int .i64 b.1)) (c3 : w.cell? ⟨g, 3, none⟩ = some (.int .i64 b.2)) : Frs w (some ⟨g, 0, none⟩) [a, b] := fun _ =>
  ⟨g, 0, rfl, h, fun j hj => by
    match j, hj with
    | 0, _ => exact ⟨c0, c1⟩
    | 1, _ => exact ⟨c2, c3⟩
    | j + 2, hj => simp at hj; omega⟩
set_option maxRecDepth 100000 in
set_option maxHeartbeats 1000000 in
theorem line_any (f t a1 a2 b1 b2 : Int) (w : World) :
    Calls Try.prog 27 #[.int .i64 f, .int .i64 t, .agg #[.int .i64 a1, .int .i64 a2], .agg #[.int .i64 b1, .int .i64 b2]] w (LinePost w f t (a1, a2) (b1, b2)) := by
  go_enter Try.func27, Try.ntmps27
  go_wp2_with fail
  refine bodyPost_ret (v := .agg #[.int .i64 f, .int .i64 t, .slice (some ⟨w.heap.size + 1 + 1 + 1, 0, none⟩) 2 2]) (by simp [results, Try.results27, go_sem]) rfl ?_
  exact ⟨by repeat' (first | (with_reducible exact Below.refl _ _) | (with_reducible refine Below.alloc ?_ ?_ _) | (with_reducible refine Below.setCell ?_ ?_ _) | (with_reducible refine Below.drew ?_) | (with_reducible refine Below.trans ?_ (Below.mono (by assumption) ?_)) | (simp; done) | (simp; omega) | omega), _, rfl, frs_two (by simp) (by simp [go_sem]) (by simp [go_sem]) (by simp [go_sem]) (by simp [go_sem])⟩
theorem bthen {a b c : World} (h : Below a.heap.size a b) (k : Below b.heap.size b c) : Below a.heap.size a c := h.trans (k.mono h.size)
theorem balloc (w : World) (o : Obj) : Below w.heap.size w (w.alloc o) := (Below.refl _ _).alloc (Nat.le_refl _) _
def ExPost (w : World) (c : Int) (e : Ending) (w' : World) : Prop :=
  Below w.heap.size w w' ∧ ∃ (A1 A2 : Option Addr) (g : Nat), e = .returned (.slice (some ⟨g, 0, none⟩) 2 2) ∧ Pcs w' (some ⟨g, 0, none⟩) (exL A1 A2 c)
set_option maxRecDepth 100000 in
set_option maxHeartbeats 1000000 in
theorem example_any (c : Int) (w : World) : Calls Try.prog 29 #[.int .i64 c] w (ExPost w c) := by
  go_enter Try.func29, Try.ntmps29
  go_wp2_with (first
    | (go_at_call 27; (with_reducible refine (line_any 0 100 13 1 1 2 _).mono ?_); rintro _ w5 ⟨hb5, g1, rfl, F1⟩; have B5 := hid hb5; have H1 := hid F1; clear hb5 F1)
    | (go_at_call 27; (with_reducible refine (line_any 100 300 c 1 1 5 _).mono ?_); rintro _ w6 ⟨hb6, g2, rfl, F2⟩; have B6 := hid hb6; have H2 := hid F2; clear hb6 F2))
  refine bodyPost_ret (v := .slice (some ⟨w6.heap.size, 0, none⟩) 2 2) (by simp [results, Try.results29, go_sem]) rfl ?_
  have ba := balloc w6 (.cells #[.int .i64 0, .int .i64 100, .slice (some ⟨g1, 0, none⟩) 2 2, .int .i64 100, .int .i64 300, .slice (some ⟨g2, 0, none⟩) 2 2] 49)
  refine ⟨bthen B5.out (bthen B6.out ba), some ⟨g1, 0, none⟩, some ⟨g2, 0, none⟩, w6.heap.size, rfl, ?_, ?_⟩
  · intro _
    refine ⟨_, 0, rfl, by simp, fun j hj => ?_⟩
    match j, hj with
    | 0, _ => exact ⟨by simp [go_sem, exL], by simp [go_sem, exL], by simp [go_sem, exL]⟩
    | 1, _ => exact ⟨by simp [go_sem, exL], by simp [go_sem, exL], by simp [go_sem, exL]⟩
    | j + 2, hj => simp [exL] at hj; omega
  · intro p hp
    simp [exL] at hp
    rcases hp with rfl | rfl
    · exact H1.out.below (bthen B6.out ba)
    · exact H2.out.below ba
theorem ex_sized (A1 A2 : Option Addr) (c : Int) (c0 : -1000 ≤ c) (c1 : c ≤ 1000) : PcSized (exL A1 A2 c) := by
  refine ⟨by simp [exL], fun p hp => ?_⟩
  simp [exL] at hp
  rcases hp with rfl | rfl
  · refine ⟨by simp only; omega, by simp only; omega, by simp, fun q hq => ?_⟩
    simp at hq
    rcases hq with rfl | rfl <;> (simp only; omega)
  · refine ⟨by simp only; omega, by simp only; omega, by simp, fun q hq => ?_⟩
    simp at hq
    rcases hq with rfl | rfl <;> (simp only; omega)
set_option maxRecDepth 100000 in
set_option maxHeartbeats 4000000 in
theorem pawake_any (w : World) : Calls Try.prog 11 #[] w (Gives (.bool true) w) := by
  go_enter Try.func11, Try.ntmps11
  go_wp2_with fail
  refine (example_any 43 _).mono ?_
  rintro _ w5 ⟨hb5, A1, A2, g, rfl, hP⟩
  have B5 := hid hb5
  have LN : ∀ c, (exL A1 A2 c).length = 2 := fun c => rfl
  have E1 := hid (fun (W : World) (h : Below w5.heap.size w5 W) => eval_any (some ⟨g, 0, none⟩) 2 (exL A1 A2 43) 0 13 1 0 W (ex_sized A1 A2 43 (by omega) (by omega)) (hP.below h) (ex_f1 A1 A2))
  have E2 := hid (fun (W : World) (h : Below w5.heap.size w5 W) => eval_any (some ⟨g, 0, none⟩) 2 (exL A1 A2 43) 300 103 1 0 W (ex_sized A1 A2 43 (by omega) (by omega)) (hP.below h) (ex_f2 A1 A2))
  have C1 := hid (fun (W : World) (h : Below w5.heap.size w5 W) => cont_any (some ⟨g, 0, none⟩) 2 (exL A1 A2 43) true 0 W (by simp [exL]) (ex_sized A1 A2 43 (by omega) (by omega)) (hP.below h) (ex_f3 A1 A2))
  have I1 := hid (fun (W : World) (h : Below w5.heap.size w5 W) => inc_any (some ⟨g, 0, none⟩) 2 (exL A1 A2 43) true 0 W (ex_sized A1 A2 43 (by omega) (by omega)) (hP.below h) (ex_f4 A1 A2))
  have R1 := hid (fun (W : World) (h : Below w5.heap.size w5 W) => range_any (some ⟨g, 0, none⟩) 2 (exL A1 A2 43) 1 99 13 63 0 W (ex_sized A1 A2 43 (by omega) (by omega)) (hP.below h) (ex_f5 A1 A2))
  simp only [LN] at E1 E2 C1 I1 R1
  clear hb5 hP LN
  go_wp2_with fail
  refine (E1.out _ (Below.refl _ _)).mono ?_
  rintro _ w6 ⟨rfl, hb6⟩
  have B6 := hid hb6
  clear hb6
  go_wp2_with fail
  refine (E2.out _ (bthen B6.out (balloc _ _))).mono ?_
  rintro _ w7 ⟨rfl, hb7⟩
  have B7 := hid hb7
  have T7 := hid (bthen B6.out (bthen (balloc _ _) hb7))
  clear hb7
  go_wp2_with fail
  refine (C1.out _ (bthen T7.out (balloc _ _))).mono ?_
  rintro _ w8 ⟨rfl, hb8⟩
  have B8 := hid hb8
  have T8 := hid (bthen T7.out (bthen (balloc _ _) hb8))
  clear hb8
  go_wp2_with fail
  refine (I1.out _ T8.out).mono ?_
  rintro _ w9 ⟨rfl, hb9⟩
  have B9 := hid hb9
  have T9 := hid (bthen T8.out hb9)
  clear hb9
  go_wp2_with fail
  refine (R1.out _ T9.out).mono ?_
  rintro _ w10 ⟨rfl, hb10⟩
  have B10 := hid hb10
  have T10 := hid (bthen T9.out hb10)
  clear hb10
  go_wp2_with fail
  refine (example_any 44 _).mono ?_
  rintro _ w11 ⟨hb11, A3, A4, g3, rfl, hP3⟩
  have B11 := hid hb11
  have C3 := hid (cont_any (some ⟨g3, 0, none⟩) 2 (exL A3 A4 44) false 0 w11 (by simp [exL]) (ex_sized A3 A4 44 (by omega) (by omega)) hP3 (ex_f6 A3 A4))
  have LN3 : (exL A3 A4 44).length = 2 := rfl
  rw [LN3] at C3
  clear hb11 hP3 LN3
  go_wp2_with fail
  refine C3.out.mono ?_
  rintro _ w12 ⟨rfl, hb12⟩
  have B12 := hid hb12
  clear hb12
  go_wp2_with fail
  refine (example_any 20 _).mono ?_
  rintro _ w13 ⟨hb13, A5, A6, g5, rfl, hP5⟩
  have B13 := hid hb13
  have I5 := hid (inc_any (some ⟨g5, 0, none⟩) 2 (exL A5 A6 20) false 0 w13 (ex_sized A5 A6 20 (by omega) (by omega)) hP5 (ex_f7 A5 A6))
  have LN5 : (exL A5 A6 20).length = 2 := rfl
  rw [LN5] at I5
  clear hb13 hP5 LN5
  go_wp2_with fail
  refine I5.out.mono ?_
  rintro _ w14 ⟨rfl, hb14⟩
  have B14 := hid hb14
  clear hb14
  have K10 := bthen B11.out (bthen B12.out (bthen B13.out B14.out))
  have k0 : w14.cell? ⟨w10.heap.size, 0, none⟩ = some (.int .i64 13) := (K10.cell (p := ⟨w10.heap.size, 0, none⟩) (by simp)).trans (by simp [go_sem])
  have k1 : w14.cell? ⟨w10.heap.size, 1, none⟩ = some (.int .i64 63) := (K10.cell (p := ⟨w10.heap.size, 1, none⟩) (by simp)).trans (by simp [go_sem])
  have K7 := bthen B8.out (bthen B9.out (bthen B10.out (bthen (balloc w10 (Obj.cells #[.int .i64 13, .int .i64 63] 36)) K10)))
  have k2 : w14.cell? ⟨w7.heap.size, 0, none⟩ = some (.int .i64 103) := (K7.cell (p := ⟨w7.heap.size, 0, none⟩) (by simp)).trans (by simp [go_sem])
  have k3 : w14.cell? ⟨w7.heap.size, 1, none⟩ = some (.int .i64 1) := (K7.cell (p := ⟨w7.heap.size, 1, none⟩) (by simp)).trans (by simp [go_sem])
  have K6 := bthen B7.out (bthen (balloc w7 (Obj.cells #[.int .i64 103, .int .i64 1] 26)) K7)
  have k4 : w14.cell? ⟨w6.heap.size, 0, none⟩ = some (.int .i64 13) := (K6.cell (p := ⟨w6.heap.size, 0, none⟩) (by simp)).trans (by simp [go_sem])
  have k5 : w14.cell? ⟨w6.heap.size, 1, none⟩ = some (.int .i64 1) := (K6.cell (p := ⟨w6.heap.size, 1, none⟩) (by simp)).trans (by simp [go_sem])
  have KA := hid (bthen B5.out (bthen B6.out (bthen (balloc w6 (Obj.cells #[.int .i64 13, .int .i64 1] 26)) K6)))
  clear K10 K7 K6
  go_wp2_with fail
  go_ret
  exact Gives.mk rfl KA.out
end Go.Proofs.Ytcbecfimikpljaa
