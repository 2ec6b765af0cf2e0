/-
  Layer 15: awake of the laws, by contract.
-/
import Derived.Test.YtmdaanigkhikfaaTva
namespace Go.Proofs.Ytmdaanigkhikfaa
open Go.RowKit
set_option linter.unusedVariables false
set_option linter.unusedSimpArgs false
set_option maxRecDepth 100000 in
set_option maxHeartbeats 4000000 in
theorem tawake_any (w : World) : Calls Try.prog 12 #[] w (Gives (.bool true) w) := by
  go_enter Try.func12, Try.ntmps12
  go_wp2_with fail
  refine (ex_any _).mono ?_
  rintro _ w1 ⟨hb1, A1, rfl, i1⟩
  have C1 := hid (ex_height A1 w1 i1)
  have B1 := hid hb1
  clear hb1 i1
  go_wp2_with fail
  refine C1.out.mono ?_
  rintro _ w2 ⟨rfl, hb⟩
  have B2 := hid (bthen B1.out hb)
  clear hb
  go_wp2_with fail
  refine (ex_any _).mono ?_
  rintro _ w3 ⟨hb, A3, rfl, i3⟩
  have B3 := hid (bthen B2.out (bthen (balloc w2 (Obj.cells #[.int .i64 20, .int .i64 1] 30)) hb))
  have g0 : w3.cell? ⟨w2.heap.size, 0, none⟩ = some (.int .i64 20) := (hb.cell (p := ⟨w2.heap.size, 0, none⟩) (by simp)).trans (by simp [go_sem])
  have g1 : w3.cell? ⟨w2.heap.size, 1, none⟩ = some (.int .i64 1) := (hb.cell (p := ⟨w2.heap.size, 1, none⟩) (by simp)).trans (by simp [go_sem])
  have gz : w2.heap.size < w3.heap.size := by have := hb.size; simp at this; omega
  have KG := hid (fun (W : World) (hb : Below w3.heap.size w3 W) => (⟨(hb.cell (p := ⟨w2.heap.size, 0, none⟩) gz).trans g0, (hb.cell (p := ⟨w2.heap.size, 1, none⟩) gz).trans g1, Nat.lt_of_lt_of_le gz hb.size⟩ : W.cell? ⟨w2.heap.size, 0, none⟩ = some (.int .i64 20) ∧ W.cell? ⟨w2.heap.size, 1, none⟩ = some (.int .i64 1) ∧ w2.heap.size < W.heap.size))
  have C3 := hid (ex_slope A3 w3 i3)
  clear hb i3 g0 g1 gz C1 B1 B2
  go_wp2_with fail
  refine C3.out.mono ?_
  rintro _ w4 ⟨rfl, hb4⟩
  have D4 := hid hb4
  clear hb4
  go_wp2_with fail
  refine (ex_any _).mono ?_
  rintro _ w5 ⟨hb, A5, rfl, i5⟩
  have D5 := hid (bthen D4.out hb)
  have C5 := hid (ex_receiver A5 w5 i5)
  clear hb i5 C3 D4
  go_wp2_with fail
  refine C5.out.mono ?_
  rintro _ w6 ⟨hb, R6, k6, rfl, r6⟩
  have D6 := hid (bthen D5.out hb)
  have I6 := hid (fun (W : World) (hb : Below w6.heap.size w6 W) => r6.below hb)
  clear hb r6 C5 D5
  go_wp2_with fail
  refine (ex_any _).mono ?_
  rintro _ w7 ⟨hb, A7, rfl, i7⟩
  have D7 := hid hb
  have C7 := hid (ex_catchment A7 w7 i7)
  clear hb i7
  go_wp2_with fail
  refine C7.out.mono ?_
  rintro _ w8 ⟨hb, R8, k8, rfl, r8⟩
  have D8 := hid (bthen D7.out hb)
  have I8 := hid (fun (W : World) (hb : Below w8.heap.size w8 W) => r8.below hb)
  clear hb r8 C7 D7
  go_wp2_with fail
  refine (ex_any _).mono ?_
  rintro _ w9 ⟨hb, A9, rfl, i9⟩
  have D9 := hid hb
  have C9 := hid (ex_volume A9 w9 i9)
  clear hb i9
  go_wp2_with fail
  refine C9.out.mono ?_
  rintro _ w10 ⟨rfl, hb⟩
  have D10 := hid (bthen D9.out hb)
  clear hb C9 D9
  go_wp2_with fail
  refine (ex_any _).mono ?_
  rintro _ w11 ⟨hb, A11, rfl, i11⟩
  have D11 := hid (bthen D10.out (bthen (balloc w10 (Obj.cells #[.int .i64 0, .int .i64 750] 50)) (bthen (balloc _ (Obj.cells #[.int .i64 0, .int .i64 750] 50)) hb)))
  have s0 : w11.cell? ⟨w10.heap.size, 0, none⟩ = some (.int .i64 0) := (hb.cell (p := ⟨w10.heap.size, 0, none⟩) (by simp; omega)).trans (by simp [go_sem])
  have s1 : w11.cell? ⟨w10.heap.size, 1, none⟩ = some (.int .i64 750) := (hb.cell (p := ⟨w10.heap.size, 1, none⟩) (by simp; omega)).trans (by simp [go_sem])
  have s2 : w11.cell? ⟨w10.heap.size + 1, 0, none⟩ = some (.int .i64 0) := (hb.cell (p := ⟨w10.heap.size + 1, 0, none⟩) (by simp)).trans (by simp [go_sem])
  have s3 : w11.cell? ⟨w10.heap.size + 1, 1, none⟩ = some (.int .i64 750) := (hb.cell (p := ⟨w10.heap.size + 1, 1, none⟩) (by simp)).trans (by simp [go_sem])
  have sz : w10.heap.size + 1 < w11.heap.size := by have := hb.size; simp at this; omega
  have KS := hid (fun (W : World) (hb : Below w11.heap.size w11 W) => (⟨(hb.cell (p := ⟨w10.heap.size, 0, none⟩) (Nat.lt_of_succ_lt sz)).trans s0, (hb.cell (p := ⟨w10.heap.size, 1, none⟩) (Nat.lt_of_succ_lt sz)).trans s1, (hb.cell (p := ⟨w10.heap.size + 1, 0, none⟩) sz).trans s2, (hb.cell (p := ⟨w10.heap.size + 1, 1, none⟩) sz).trans s3, Nat.lt_of_lt_of_le sz hb.size⟩ :
    W.cell? ⟨w10.heap.size, 0, none⟩ = some (.int .i64 0) ∧ W.cell? ⟨w10.heap.size, 1, none⟩ = some (.int .i64 750) ∧ W.cell? ⟨w10.heap.size + 1, 0, none⟩ = some (.int .i64 0) ∧ W.cell? ⟨w10.heap.size + 1, 1, none⟩ = some (.int .i64 750) ∧ w10.heap.size + 1 < W.heap.size))
  have C11 := hid (ex_profile A11 w11 i11)
  clear hb i11 s0 s1 s2 s3 sz D10
  go_wp2_with fail
  refine C11.out.mono ?_
  rintro _ w12 ⟨hb, R12, k12, rfl, r12⟩
  have D12 := hid hb
  have I12 := hid (fun (W : World) (hb : Below w12.heap.size w12 W) => r12.below hb)
  have E8 := hid (bthen D11.out D12.out)
  have E6 := hid (bthen D8.out E8.out)
  have E3 := hid (bthen D6.out E6.out)
  obtain ⟨g0, g1, gz⟩ := KG.out _ E3.out
  have gn : ¬ w2.heap.size = w12.heap.size := by omega
  clear hb r12 C11
  go_wp2_with fail
  have e1 := hid (I6.out _ (bthen E6.out (balloc w12 (.cells #[.int .i64 (-1), .int .i64 0, .int .i64 0, .int .i64 1] 3))))
  have e2 : Ints (w12.alloc (.cells #[.int .i64 (-1), .int .i64 0, .int .i64 0, .int .i64 1] 3)) (some ⟨w12.heap.size, 0, none⟩) [-1, 0, 0, 1] := fun _ => ⟨w12.heap.size, 0, rfl, by simp, fun j hj => by
    match j, hj with
    | 0, _ => simp [go_sem]
    | 1, _ => simp [go_sem]
    | 2, _ => simp [go_sem]
    | 3, _ => simp [go_sem]⟩
  refine (teq_any R6 (some ⟨w12.heap.size, 0, none⟩) k6 4 [-1, 0, 0, 1] _ (by decide) e1.out e2).mono ?_
  rintro _ w13 ⟨rfl, hb⟩
  have F13 := hid (bthen (balloc w12 (.cells #[.int .i64 (-1), .int .i64 0, .int .i64 0, .int .i64 1] 3)) hb)
  clear hb e1 e2 g0 g1 gz gn
  go_wp2_with fail
  have e1 := hid (I8.out _ (bthen E8.out (bthen F13.out (balloc w13 (.cells #[.int .i64 4, .int .i64 2, .int .i64 1, .int .i64 1] 3)))))
  have e2 : Ints (w13.alloc (.cells #[.int .i64 4, .int .i64 2, .int .i64 1, .int .i64 1] 3)) (some ⟨w13.heap.size, 0, none⟩) [4, 2, 1, 1] := fun _ => ⟨w13.heap.size, 0, rfl, by simp, fun j hj => by
    match j, hj with
    | 0, _ => simp [go_sem]
    | 1, _ => simp [go_sem]
    | 2, _ => simp [go_sem]
    | 3, _ => simp [go_sem]⟩
  refine (teq_any R8 (some ⟨w13.heap.size, 0, none⟩) k8 4 [4, 2, 1, 1] _ (by decide) e1.out e2).mono ?_
  rintro _ w14 ⟨rfl, hb⟩
  have F14 := hid (bthen F13.out (bthen (balloc w13 (.cells #[.int .i64 4, .int .i64 2, .int .i64 1, .int .i64 1] 3)) hb))
  clear hb e1 e2
  obtain ⟨s0, s1, s2, s3, sz⟩ := KS.out _ (bthen D12.out F14.out)
  have sz0 : w10.heap.size < w14.heap.size := Nat.lt_of_succ_lt sz
  go_wp2_with fail
  have e1 := hid (I12.out _ (bthen F14.out (balloc w14 (.cells #[.int .i64 0, .int .i64 1, .int .i64 20, .int .i64 1, .int .i64 50, .int .i64 1] 30))))
  have e2 : Frs (w14.alloc (.cells #[.int .i64 0, .int .i64 1, .int .i64 20, .int .i64 1, .int .i64 50, .int .i64 1] 30)) (some ⟨w14.heap.size, 0, none⟩) [(0, 1), (20, 1), (50, 1)] := fun _ => ⟨w14.heap.size, 0, rfl, by simp, fun j hj => by
    match j, hj with
    | 0, _ => exact ⟨by simp [go_sem], by simp [go_sem]⟩
    | 1, _ => exact ⟨by simp [go_sem], by simp [go_sem]⟩
    | 2, _ => exact ⟨by simp [go_sem], by simp [go_sem]⟩⟩
  refine (tsame_any R12 (some ⟨w14.heap.size, 0, none⟩) k12 3 [(0, 1), (20, 1), (50, 1)] _ (by decide) e1.out e2).mono ?_
  rintro _ w15 ⟨rfl, hb⟩
  have F15 := hid (bthen F14.out (bthen (balloc w14 _) hb))
  clear hb e1 e2 s0 s1 s2 s3 sz sz0
  go_wp2_with fail
  go_ret
  exact Gives.mk rfl (bthen B3.out (bthen E3.out F15.out))
end Go.Proofs.Ytmdaanigkhikfaa
