/-
  Layer 15: the walk of TerrainSlopes.
-/
import Derived.Test.YtadicbpfbhpooaaTyj
import Derived.Test.YtadicbpfbhpooaaTw
import Derived.Test.YtadicbpfbhpooaaTpar
import Derived.Test.YtadicbpfbhpooaaFarr2
namespace Go.Proofs.Ytadicbpfbhpooaa
open Go.RowKit
set_option linter.unusedVariables false
set_option linter.unusedSimpArgs false
theorem IlPost.can {w : World} {E : Int} {L : List Int} {e : Ending} {w' : World} (h : IlPost w E L e w') :
    Below w.heap.size w w' ∧ ∃ A cap, e = .returned (.tuple #[.slice A (if E = 0 then L else []).length cap, .int .i64 E]) ∧ Ints w' A (if E = 0 then L else []) := by
  obtain ⟨hb, ⟨h1, rfl⟩ | ⟨rfl, A, cap, rfl, h2⟩⟩ := h
  · rw [if_neg h1]; exact ⟨hb, none, 0, rfl, fun h0 => absurd h0 (by simp)⟩
  · rw [if_pos rfl]; exact ⟨hb, A, cap, rfl, h2⟩
set_option maxRecDepth 100000 in
set_option maxHeartbeats 2000000 in
theorem tslp_walk (A : Option Addr) (cap : Nat) (c r k : Int) (z : List Int) (B : Option Addr) (bcap : Nat) (l : List Int) (x y s e : Int) (F : Bool) (E : Int) (L : List Int) (w : World) (ll : L.length ≤ 1000000)
    (AW : ∀ W, Calls Try.prog 12 #[] W (Gives (.bool true) W))
    (FW : ∀ W, Calls Try.prog 11 #[.agg #[.int .i64 c, .int .i64 r, .int .i64 k, .slice A z.length cap]] W (Gives (.bool F) W))
    (R1 : ∀ W, Below w.heap.size w W → Calls Try.prog 20 #[.agg #[.int .i64 c, .int .i64 r, .int .i64 k, .slice A z.length cap], .int .i64 x, .int .i64 y] W (Gives (.tuple #[.int .i64 s, .int .i64 e]) W))
    (R2 : ∀ W, Below w.heap.size w W → Calls Try.prog 21 #[.agg #[.int .i64 c, .int .i64 r, .int .i64 k, .slice A z.length cap], .int .i64 x, .int .i64 y] W (Gives (.tuple #[.int .i64 s, .int .i64 e]) W))
    (R3 : l.length ≤ 20 → ∀ W, Below w.heap.size w W → Calls Try.prog 22 #[.agg #[.int .i64 c, .int .i64 r, .int .i64 k, .slice A z.length cap], .slice B l.length bcap] W (fun e w' => Below W.heap.size W w' ∧ ∃ A cap, e = .returned (.tuple #[.slice A L.length cap, .int .i64 E]) ∧ Ints w' A L))
    (R4 : l.length ≤ 20 → ∀ W, Below w.heap.size w W → Calls Try.prog 23 #[.agg #[.int .i64 c, .int .i64 r, .int .i64 k, .slice A z.length cap], .slice B l.length bcap] W (fun e w' => Below W.heap.size W w' ∧ ∃ A cap, e = .returned (.tuple #[.slice A L.length cap, .int .i64 E]) ∧ Ints w' A L)) :
    Calls Try.prog 5 #[.agg #[.int .i64 c, .int .i64 r, .int .i64 k, .slice A z.length cap], .slice B l.length bcap, .agg #[.int .i64 x, .int .i64 y]] w (Gives (.bool true) w) := by
  obtain ⟨U, hU⟩ : ∃ U, (w.alloc (Obj.cells #[.int .i64 c, .int .i64 r, .int .i64 k, .slice A z.length cap] 24)).alloc (.cells #[.int .i64 x, .int .i64 y] 41) = U := ⟨_, rfl⟩
  have T0 : TrAt U w.heap.size c r k A z.length cap := by rw [← hU]; exact (trAt_new w c r k A z.length cap).below (balloc _ _)
  have b0 : Below w.heap.size w U := by rw [← hU]; exact bthen (balloc _ _) (balloc _ _)
  have p0 : U.cell? ⟨w.heap.size + 1, 0, none⟩ = some (.int .i64 x) := by rw [← hU]; simp [go_sem]
  have p1 : U.cell? ⟨w.heap.size + 1, 1, none⟩ = some (.int .i64 y) := by rw [← hU]; simp [go_sem]
  have pz : w.heap.size + 1 < U.heap.size := by rw [← hU]; simp
  have KP := hid (fun (W : World) (hb : Below U.heap.size U W) => (⟨(hb.cell (p := ⟨w.heap.size + 1, 0, none⟩) pz).trans p0, (hb.cell (p := ⟨w.heap.size + 1, 1, none⟩) pz).trans p1, Nat.lt_of_lt_of_le pz hb.size⟩ : W.cell? ⟨w.heap.size + 1, 0, none⟩ = some (.int .i64 x) ∧ W.cell? ⟨w.heap.size + 1, 1, none⟩ = some (.int .i64 y) ∧ w.heap.size + 1 < W.heap.size))
  have HAW := hid AW
  have HFW := hid FW
  have H1 := hid R1
  have H2 := hid R2
  have H3 := hid R3
  have H4 := hid R4
  have HU := hid hU
  have HB := hid b0
  have HC := hid T0
  have LL := hid ll
  have k0 := T0.c0
  have k1 := T0.c1
  have k2 := T0.c2
  have k3 := T0.c3
  have kl := T0.lt
  clear hU b0 T0 AW FW R1 R2 R3 R4 p0 p1 pz ll
  go_enter Try.func5, Try.ntmps5
  go_upto_region 1 with fail
  rw [HU.out]
  go_wp2_with fail
  refine (HFW.out _).mono ?_
  rintro _ w5 ⟨rfl, hb⟩
  have D5 := hid hb
  have B5 := hid (bthen HB.out hb)
  have Q5 := hid (HC.out.below hb)
  clear hb k0 k1 k2 k3 kl
  cases F
  · go_wp2_with fail
    refine (HAW.out _).mono ?_
    rintro _ w6 ⟨rfl, hb⟩
    have B6 := hid (bthen B5.out hb)
    clear hb
    go_wp2_with fail
    go_ret
    exact Gives.mk rfl B6.out
  by_cases g : 20 < (l.length : Int)
  · have f : decide (20 < (l.length : Int)) = true := decide_eq_true g
    go_wp2_with fail
    refine (HAW.out _).mono ?_
    rintro _ w6 ⟨rfl, hb⟩
    have B6 := hid (bthen B5.out hb)
    clear hb
    go_wp2_with fail
    go_ret
    exact Gives.mk rfl B6.out
  · have f : decide (20 < (l.length : Int)) = false := decide_eq_false g
    have l20 : l.length ≤ 20 := by omega
    have G3 := hid (H3.out l20)
    have G4 := hid (H4.out l20)
    clear g l20 H3 H4
    have k0 := Q5.out.c0
    have k1 := Q5.out.c1
    have k2 := Q5.out.c2
    have k3 := Q5.out.c3
    have kl := Q5.out.lt
    obtain ⟨p0, p1, pz⟩ := KP.out _ D5.out
    go_wp2_with fail
    refine (H1.out _ B5.out).mono ?_
    rintro _ w6 ⟨rfl, hb⟩
    have B6 := hid (bthen B5.out hb)
    have D6 := hid (bthen D5.out hb)
    have Q6 := hid (Q5.out.below hb)
    clear hb k0 k1 k2 k3 kl p0 p1 pz
    have k0 := Q6.out.c0
    have k1 := Q6.out.c1
    have k2 := Q6.out.c2
    have k3 := Q6.out.c3
    have kl := Q6.out.lt
    obtain ⟨p0, p1, pz⟩ := KP.out _ D6.out
    go_wp2_with fail
    refine (H2.out _ B6.out).mono ?_
    rintro _ w7 ⟨rfl, hb⟩
    have B7 := hid (bthen B6.out hb)
    have D7 := hid (bthen D6.out hb)
    have Q7 := hid (Q6.out.below hb)
    clear hb k0 k1 k2 k3 kl p0 p1 pz
    have k0 := Q7.out.c0
    have k1 := Q7.out.c1
    have k2 := Q7.out.c2
    have k3 := Q7.out.c3
    have kl := Q7.out.lt
    obtain ⟨p0, p1, pz⟩ := KP.out _ D7.out
    go_wp2_with fail
    refine (G3.out _ B7.out).mono ?_
    rintro _ w8 ⟨hb, A3, q3, rfl, t3⟩
    have B8 := hid (bthen B7.out hb)
    have Q8 := hid (Q7.out.below hb)
    have T3 := hid t3
    clear hb k0 k1 k2 k3 kl p0 p1 pz t3
    have k0 := Q8.out.c0
    have k1 := Q8.out.c1
    have k2 := Q8.out.c2
    have k3 := Q8.out.c3
    have kl := Q8.out.lt
    go_wp2_with fail
    refine (G4.out _ B8.out).mono ?_
    rintro _ w9 ⟨hb, A4, q4, rfl, t4⟩
    have B9 := hid (bthen B8.out hb)
    have EQ1 := hid (teq_any A3 A4 q3 q4 L w9 LL.out (T3.out.below hb) t4)
    have e1 : (s == s) = true := by simp
    have e2 : (e == e) = true := by simp
    have e3 : (E == E) = true := by simp
    clear hb k0 k1 k2 k3 kl t4
    go_wp2_with fail
    refine EQ1.out.mono ?_
    rintro _ w10 ⟨rfl, hb⟩
    have B10 := hid (bthen B9.out hb)
    clear hb
    go_wp2_with fail
    refine (HAW.out _).mono ?_
    rintro _ w12 ⟨rfl, hb⟩
    have B12 := hid (bthen B10.out hb)
    clear hb
    go_wp2_with fail
    go_ret
    exact Gives.mk rfl B12.out
theorem tslp_as (x y : Int) (_ : -9223372036854775808 ≤ x) (_ : x ≤ 9223372036854775807) (_ : -9223372036854775808 ≤ y) (_ : y ≤ 9223372036854775807) (A : Option Addr) (cap : Nat) (c r k : Int) (z : List Int) (B : Option Addr) (bcap : Nat) (l : List Int) (w : World)
    (hl : z.length ≤ 140737488355328) (hT : Ints w A z) (_ : ∀ y ∈ l, -9223372036854775808 ≤ y ∧ y ≤ 9223372036854775807) (_ : l.length ≤ 140737488355328) (hB : Ints w B l) :
    Calls Try.prog 5 #[.agg #[.int .i64 c, .int .i64 r, .int .i64 k, .slice A z.length cap], .slice B l.length bcap, .agg #[.int .i64 x, .int .i64 y]] w (Gives (.bool true) w) := by
  refine tslp_walk A cap c r k z B bcap l x y (Sp.slopeS c r k z x y).1 (Sp.slopeS c r k z x y).2 (decide ((z.length : Int) ≤ 300)) (Sp.clsE c r k z l) (if Sp.clsE c r k z l = 0 then Sp.clsL c r k z l else []) w ?_ tawake_any (fun W => rfew_any A cap c r k z W)
    (fun W hb => tSlope_any A cap c r k z x y _ _ W hl (hT.below hb) rfl) (fun W hb => rSlope_any A cap c r k z x y _ _ W hl (hT.below hb) rfl) ?_ ?_
  · by_cases h : Sp.clsE c r k z l = 0
    · rw [if_pos h]
      unfold Sp.clsE at h
      by_cases t : Sp.terE c r k z = 0
      · obtain ⟨h1, h2, -, -, -⟩ := Sp.terE_zero t
        unfold Sp.clsL
        rw [List.length_map, cellU_len]
        have q : (r - 1).toNat * (c - 1).toNat ≤ 15 * 15 := Nat.mul_le_mul (by omega) (by omega)
        omega
      · rw [if_pos t] at h; exact absurd h t
    · rw [if_neg h]; simp
  · exact fun h W hb => (tClasses_any A cap c r k z B bcap l W hl (by omega) (hB.below hb) (hT.below hb)).mono fun e w' h => h.can
  · exact fun h W hb => (rClasses_any A cap c r k z B bcap l W hl (by omega) (hB.below hb) (hT.below hb)).mono fun e w' h => h.can
end Go.Proofs.Ytadicbpfbhpooaa
