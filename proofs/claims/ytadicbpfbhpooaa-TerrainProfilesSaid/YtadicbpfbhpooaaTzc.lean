/-
  Layer 15: the walk of TerrainProfiles.
-/
import Derived.Test.YtadicbpfbhpooaaTyg
import Derived.Test.YtadicbpfbhpooaaTw
import Derived.Test.YtadicbpfbhpooaaTpar
import Derived.Test.YtadicbpfbhpooaaPar2
namespace Go.Proofs.Ytadicbpfbhpooaa
open Go.RowKit
set_option linter.unusedVariables false
set_option linter.unusedSimpArgs false
theorem FlPost.can {w : World} {E : Int} {L : List (Int × Int)} {e : Ending} {w' : World} (h : FlPost w E L e w') :
    Below w.heap.size w w' ∧ ∃ A cap, e = .returned (.tuple #[.slice A (if E = 0 then L else []).length cap, .int .i64 E]) ∧ Frs w' A (if E = 0 then L else []) := by
  obtain ⟨hb, ⟨h1, rfl⟩ | ⟨rfl, A, cap, rfl, h2⟩⟩ := h
  · rw [if_neg h1]; exact ⟨hb, none, 0, rfl, fun h0 => absurd h0 (by simp)⟩
  · rw [if_pos rfl]; exact ⟨hb, A, cap, rfl, h2⟩
set_option maxRecDepth 100000 in
set_option maxHeartbeats 1000000 in
theorem tprf_walk (A : Option Addr) (cap : Nat) (c r k : Int) (z : List Int) (fx fy tx ty s : Int) (F : Bool) (E : Int) (L : List (Int × Int)) (w : World) (ll : L.length ≤ 1000000)
    (AW : ∀ W, Calls Try.prog 12 #[] W (Gives (.bool true) W))
    (FW : ∀ W, Calls Try.prog 11 #[.agg #[.int .i64 c, .int .i64 r, .int .i64 k, .slice A z.length cap]] W (Gives (.bool F) W))
    (R1 : ∀ W, Below w.heap.size w W → Calls Try.prog 17 #[.agg #[.int .i64 c, .int .i64 r, .int .i64 k, .slice A z.length cap], .agg #[.int .i64 fx, .int .i64 fy], .agg #[.int .i64 tx, .int .i64 ty], .int .i64 s] W (fun e w' => Below W.heap.size W w' ∧ ∃ A cap, e = .returned (.tuple #[.slice A L.length cap, .int .i64 E]) ∧ Frs w' A L))
    (R2 : ∀ W, Below w.heap.size w W → Calls Try.prog 18 #[.agg #[.int .i64 c, .int .i64 r, .int .i64 k, .slice A z.length cap], .agg #[.int .i64 fx, .int .i64 fy], .agg #[.int .i64 tx, .int .i64 ty], .int .i64 s] W (fun e w' => Below W.heap.size W w' ∧ ∃ A cap, e = .returned (.tuple #[.slice A L.length cap, .int .i64 E]) ∧ Frs w' A L)) :
    Calls Try.prog 4 #[.agg #[.int .i64 c, .int .i64 r, .int .i64 k, .slice A z.length cap], .agg #[.int .i64 fx, .int .i64 fy, .int .i64 tx, .int .i64 ty], .int .i64 s] w (Gives (.bool true) w) := by
  obtain ⟨U, hU⟩ : ∃ U, (w.alloc (Obj.cells #[.int .i64 c, .int .i64 r, .int .i64 k, .slice A z.length cap] 24)).alloc (.cells #[.int .i64 fx, .int .i64 fy, .int .i64 tx, .int .i64 ty] 35) = U := ⟨_, rfl⟩
  have T0 : TrAt U w.heap.size c r k A z.length cap := by rw [← hU]; exact (trAt_new w c r k A z.length cap).below (balloc _ _)
  have b0 : Below w.heap.size w U := by rw [← hU]; exact bthen (balloc _ _) (balloc _ _)
  have p0 : U.cell? ⟨w.heap.size + 1, 0, none⟩ = some (.int .i64 fx) := by rw [← hU]; simp [go_sem]
  have p1 : U.cell? ⟨w.heap.size + 1, 1, none⟩ = some (.int .i64 fy) := by rw [← hU]; simp [go_sem]
  have p2 : U.cell? ⟨w.heap.size + 1, 2, none⟩ = some (.int .i64 tx) := by rw [← hU]; simp [go_sem]
  have p3 : U.cell? ⟨w.heap.size + 1, 3, none⟩ = some (.int .i64 ty) := by rw [← hU]; simp [go_sem]
  have pz : w.heap.size + 1 < U.heap.size := by rw [← hU]; simp
  have KK := hid (fun (W : World) (hb : Below U.heap.size U W) => (⟨bthen b0 hb, T0.below hb, (hb.cell (p := ⟨w.heap.size + 1, 0, none⟩) pz).trans p0, (hb.cell (p := ⟨w.heap.size + 1, 1, none⟩) pz).trans p1, (hb.cell (p := ⟨w.heap.size + 1, 2, none⟩) pz).trans p2, (hb.cell (p := ⟨w.heap.size + 1, 3, none⟩) pz).trans p3, Nat.lt_of_lt_of_le pz hb.size⟩ : Below w.heap.size w W ∧ TrAt W w.heap.size c r k A z.length cap ∧ W.cell? ⟨w.heap.size + 1, 0, none⟩ = some (.int .i64 fx) ∧ W.cell? ⟨w.heap.size + 1, 1, none⟩ = some (.int .i64 fy) ∧ W.cell? ⟨w.heap.size + 1, 2, none⟩ = some (.int .i64 tx) ∧ W.cell? ⟨w.heap.size + 1, 3, none⟩ = some (.int .i64 ty) ∧ w.heap.size + 1 < W.heap.size))
  have HAW := hid AW
  have HFW := hid FW
  have H1 := hid R1
  have H2 := hid R2
  have HU := hid hU
  have LL := hid ll
  have k0 := T0.c0
  have k1 := T0.c1
  have k2 := T0.c2
  have k3 := T0.c3
  have kl := T0.lt
  clear hU b0 T0 AW FW R1 R2 p0 p1 p2 p3 pz ll
  go_enter Try.func4, Try.ntmps4
  go_upto_region 1 with fail
  rw [HU.out]
  go_wp2_with fail
  refine (HFW.out _).mono ?_
  rintro _ w5 ⟨rfl, hb⟩
  have B5 := hid hb
  clear hb k0 k1 k2 k3 kl
  cases F
  · go_wp2_with fail
    refine (HAW.out _).mono ?_
    rintro _ w6 ⟨rfl, hb⟩
    have B6 := hid (bthen B5.out hb)
    clear hb
    go_wp2_with fail
    go_ret
    exact Gives.mk rfl (KK.out _ B6.out).1
  · obtain ⟨kb, kt, p0, p1, p2, p3, pz⟩ := KK.out _ B5.out
    have k0 := kt.c0
    have k1 := kt.c1
    have k2 := kt.c2
    have k3 := kt.c3
    have kl := kt.lt
    have R5 := hid (H1.out _ kb)
    clear kb kt
    go_wp2_with fail
    refine R5.out.mono ?_
    rintro _ w6 ⟨hb, A1, q1, rfl, t1⟩
    have B6 := hid (bthen B5.out hb)
    have T1 := hid t1
    clear hb k0 k1 k2 k3 kl p0 p1 p2 p3 pz t1 R5
    obtain ⟨kb, kt, p0, p1, p2, p3, pz⟩ := KK.out _ B6.out
    have k0 := kt.c0
    have k1 := kt.c1
    have k2 := kt.c2
    have k3 := kt.c3
    have kl := kt.lt
    have R6 := hid (H2.out _ kb)
    clear kb kt
    go_wp2_with fail
    refine R6.out.mono ?_
    rintro _ w7 ⟨hb, A2, q2, rfl, t2⟩
    have B7 := hid (bthen B6.out hb)
    have EQ1 := hid (tsame_any A1 A2 q1 q2 L w7 LL.out (T1.out.below hb) t2)
    have ee : (E == E) = true := by simp
    clear hb k0 k1 k2 k3 kl p0 p1 p2 p3 pz t2 R6
    go_wp2_with fail
    refine EQ1.out.mono ?_
    rintro _ w8 ⟨rfl, hb⟩
    have B8 := hid (bthen B7.out hb)
    clear hb
    go_wp2_with fail
    refine (HAW.out _).mono ?_
    rintro _ w9 ⟨rfl, hb⟩
    have B9 := hid (bthen B8.out hb)
    clear hb
    go_wp2_with fail
    go_ret
    exact Gives.mk rfl (KK.out _ B9.out).1
theorem tprf_as (s : Int) (s0 : -9223372036854775808 ≤ s) (s1 : s ≤ 9223372036854775807) (A : Option Addr) (cap : Nat) (c r k : Int) (z : List Int) (fx fy tx ty : Int) (w : World) (hl : z.length ≤ 140737488355328) (hT : Ints w A z) :
    Calls Try.prog 4 #[.agg #[.int .i64 c, .int .i64 r, .int .i64 k, .slice A z.length cap], .agg #[.int .i64 fx, .int .i64 fy, .int .i64 tx, .int .i64 ty], .int .i64 s] w (Gives (.bool true) w) := by
  refine tprf_walk A cap c r k z fx fy tx ty s (decide ((z.length : Int) ≤ 300)) (Sp.proE c r k z fx fy tx ty s) (if Sp.proE c r k z fx fy tx ty s = 0 then Sp.proL c r k z fx fy tx ty s else []) w ?_ tawake_any (fun W => rfew_any A cap c r k z W) ?_ ?_
  · by_cases h : Sp.proE c r k z fx fy tx ty s = 0
    · rw [if_pos h]
      unfold Sp.proL
      rw [Sp.tabF_len]
      unfold Sp.proE at h
      by_cases g : Sp.ptsE c r k z [(fx, fy), (tx, ty)] = 0
      · rw [if_neg (fun q => q g)] at h
        by_cases b : (decide (1 ≤ s) && decide (s ≤ 64)) = false
        · rw [if_pos b] at h; exact absurd h (by decide)
        · simp at b; omega
      · rw [if_pos g] at h; exact absurd h g
    · rw [if_neg h]; simp
  · exact fun W hb => (tProfile_any A cap c r k z fx fy tx ty s W hl (hT.below hb)).mono fun e w' h => h.can
  · exact fun W hb => (rProfile_any A cap c r k z fx fy tx ty s W hl (hT.below hb)).mono fun e w' h => h.can
end Go.Proofs.Ytadicbpfbhpooaa
