/-
  Layer 15: the walk of TerrainVolumes.
-/
import Derived.Test.YtmdaanigkhikfaaTyq
import Derived.Test.YtmdaanigkhikfaaTw
import Derived.Test.YtmdaanigkhikfaaTpar
namespace Go.Proofs.Ytmdaanigkhikfaa
open Go.RowKit
set_option linter.unusedVariables false
set_option linter.unusedSimpArgs false
set_option maxRecDepth 100000 in
set_option maxHeartbeats 4000000 in
theorem tvls_walk (A : Option Addr) (cap : Nat) (c r k : Int) (z : List Int) (lv a1 a2 a3 a4 e : Int) (F : Bool) (w : World)
    (AW : ∀ W, Calls Try.prog 12 #[] W (Gives (.bool true) W))
    (FW : ∀ W, Calls Try.prog 11 #[.agg #[.int .i64 c, .int .i64 r, .int .i64 k, .slice A z.length cap]] W (Gives (.bool F) W))
    (R1 : ∀ W, Below w.heap.size w W → Calls Try.prog 29 #[.agg #[.int .i64 c, .int .i64 r, .int .i64 k, .slice A z.length cap], .int .i64 lv] W (Gives (.tuple #[.agg #[.int .i64 a1, .int .i64 a2], .agg #[.int .i64 a3, .int .i64 a4], .int .i64 e]) W))
    (R2 : ∀ W, Below w.heap.size w W → Calls Try.prog 30 #[.agg #[.int .i64 c, .int .i64 r, .int .i64 k, .slice A z.length cap], .int .i64 lv] W (Gives (.tuple #[.agg #[.int .i64 a1, .int .i64 a2], .agg #[.int .i64 a3, .int .i64 a4], .int .i64 e]) W)) :
    Calls Try.prog 7 #[.agg #[.int .i64 c, .int .i64 r, .int .i64 k, .slice A z.length cap], .int .i64 lv] w (Gives (.bool true) w) := by
  have VB := trAt_new w c r k A z.length cap
  have b0 : Below w.heap.size w (w.alloc (Obj.cells #[.int .i64 c, .int .i64 r, .int .i64 k, .slice A z.length cap] 24)) := balloc _ _
  generalize hU : w.alloc (Obj.cells #[.int .i64 c, .int .i64 r, .int .i64 k, .slice A z.length cap] 24) = U at VB b0
  have HAW := hid AW
  have HFW := hid FW
  have H1 := hid R1
  have H2 := hid R2
  have HU := hid hU
  have HB := hid b0
  have HC := hid VB
  clear hU b0 VB AW FW R1 R2
  go_enter Try.func7, Try.ntmps7
  go_upto_region 1 with fail
  rw [HU.out]
  have k0 := HC.out.c0
  have k1 := HC.out.c1
  have k2 := HC.out.c2
  have k3 := HC.out.c3
  have kl := HC.out.lt
  go_wp2_with fail
  refine (HFW.out _).mono ?_
  rintro _ w5 ⟨rfl, hb⟩
  have B5 := hid (bthen HB.out hb)
  have Q5 := hid (HC.out.below hb)
  clear hb k0 k1 k2 k3 kl
  cases F
  · go_wp2_with fail
    refine (HAW.out _).mono ?_
    rintro _ w6 ⟨rfl, hb⟩
    have B6 := hid (bthen B5.out hb)
    clear hb
    go_wp2_with fail
    go_ret
    exact Gives.mk rfl B6.out
  · have k0 := Q5.out.c0
    have k1 := Q5.out.c1
    have k2 := Q5.out.c2
    have k3 := Q5.out.c3
    have kl := Q5.out.lt
    go_wp2_with fail
    refine (H1.out _ B5.out).mono ?_
    rintro _ w6 ⟨rfl, hb⟩
    obtain ⟨V6, hV6⟩ : ∃ V6, (w6.alloc (Obj.cells #[.int .i64 a1, .int .i64 a2] 50)).alloc (Obj.cells #[.int .i64 a3, .int .i64 a4] 50) = V6 := ⟨_, rfl⟩
    have kb6 : Below w6.heap.size w6 V6 := by rw [← hV6]; exact bthen (balloc _ _) (balloc _ _)
    have F6 := hid (show V6.cell? ⟨w6.heap.size, 0, none⟩ = some (.int .i64 a1) ∧ V6.cell? ⟨w6.heap.size, 1, none⟩ = some (.int .i64 a2) ∧ V6.cell? ⟨w6.heap.size + 1, 0, none⟩ = some (.int .i64 a3) ∧ V6.cell? ⟨w6.heap.size + 1, 1, none⟩ = some (.int .i64 a4) ∧ w6.heap.size + 1 < V6.heap.size from by rw [← hV6]; exact ⟨by simp [go_sem], by simp [go_sem], by simp [go_sem], by simp [go_sem], by simp⟩)
    have B6 := hid (bthen B5.out (bthen hb kb6))
    have Q6 := hid (Q5.out.below (bthen hb kb6))
    have HV6 := hid hV6
    clear hb k0 k1 k2 k3 kl hV6 kb6
    have k0 := Q6.out.c0
    have k1 := Q6.out.c1
    have k2 := Q6.out.c2
    have k3 := Q6.out.c3
    have kl := Q6.out.lt
    go_upto_region 4 with fail
    rw [HV6.out]
    go_wp2_with fail
    refine (H2.out _ B6.out).mono ?_
    rintro _ w7 ⟨rfl, hb⟩
    obtain ⟨V7, hV7⟩ : ∃ V7, (w7.alloc (Obj.cells #[.int .i64 a1, .int .i64 a2] 50)).alloc (Obj.cells #[.int .i64 a3, .int .i64 a4] 50) = V7 := ⟨_, rfl⟩
    have kb7 : Below w7.heap.size w7 V7 := by rw [← hV7]; exact bthen (balloc _ _) (balloc _ _)
    have F7 := hid (show V7.cell? ⟨w7.heap.size, 0, none⟩ = some (.int .i64 a1) ∧ V7.cell? ⟨w7.heap.size, 1, none⟩ = some (.int .i64 a2) ∧ V7.cell? ⟨w7.heap.size + 1, 0, none⟩ = some (.int .i64 a3) ∧ V7.cell? ⟨w7.heap.size + 1, 1, none⟩ = some (.int .i64 a4) ∧ w7.heap.size + 1 < V7.heap.size from by rw [← hV7]; exact ⟨by simp [go_sem], by simp [go_sem], by simp [go_sem], by simp [go_sem], by simp⟩)
    have kb : Below V6.heap.size V6 V7 := bthen hb kb7
    have fz := F6.out.2.2.2.2
    have G6 := hid (show V7.cell? ⟨w6.heap.size, 0, none⟩ = some (.int .i64 a1) ∧ V7.cell? ⟨w6.heap.size, 1, none⟩ = some (.int .i64 a2) ∧ V7.cell? ⟨w6.heap.size + 1, 0, none⟩ = some (.int .i64 a3) ∧ V7.cell? ⟨w6.heap.size + 1, 1, none⟩ = some (.int .i64 a4) from
      ⟨(kb.cell (p := ⟨w6.heap.size, 0, none⟩) (Nat.lt_of_succ_lt fz)).trans F6.out.1, (kb.cell (p := ⟨w6.heap.size, 1, none⟩) (Nat.lt_of_succ_lt fz)).trans F6.out.2.1, (kb.cell (p := ⟨w6.heap.size + 1, 0, none⟩) fz).trans F6.out.2.2.1, (kb.cell (p := ⟨w6.heap.size + 1, 1, none⟩) fz).trans F6.out.2.2.2.1⟩)
    have B7 := hid (bthen B6.out kb)
    have HV7 := hid hV7
    clear hb k0 k1 k2 k3 kl hV7 kb7 kb fz
    go_upto_region 5 with fail
    rw [HV7.out]
    obtain ⟨g0, g1, g2, g3⟩ := G6.out
    obtain ⟨f0, f1, f2, f3, fz⟩ := F7.out
    have ee : (e == e) = true := by simp
    go_wp2_with fail
    refine (HAW.out _).mono ?_
    rintro _ w8 ⟨rfl, hb⟩
    have B8 := hid (bthen B7.out hb)
    clear hb g0 g1 g2 g3 f0 f1 f2 f3 fz
    go_wp2_with fail
    go_ret
    exact Gives.mk rfl B8.out
theorem tvls_as (lv : Int) (_ : -9223372036854775808 ≤ lv) (_ : lv ≤ 9223372036854775807) (A : Option Addr) (cap : Nat) (c r k : Int) (z : List Int) (w : World) (hl : z.length ≤ 140737488355328) (hT : Ints w A z) :
    Calls Try.prog 7 #[.agg #[.int .i64 c, .int .i64 r, .int .i64 k, .slice A z.length cap], .int .i64 lv] w (Gives (.bool true) w) :=
  tvls_walk A cap c r k z lv _ _ _ _ _ (decide ((z.length : Int) ≤ 300)) w tawake_any (fun W => rfew_any A cap c r k z W) (fun W hb => tVolume_any A cap c r k z lv W hl (hT.below hb)) (fun W hb => rVolume_any A cap c r k z lv W hl (hT.below hb))
end Go.Proofs.Ytmdaanigkhikfaa
