/-
  Layer 15: the walk of TerrainWater.
-/
import Derived.Test.YtadicbpfbhpooaaTyc
import Derived.Test.YtadicbpfbhpooaaTw
import Derived.Test.YtadicbpfbhpooaaTpar
namespace Go.Proofs.Ytadicbpfbhpooaa
open Go.RowKit
set_option linter.unusedVariables false
set_option linter.unusedSimpArgs false
theorem IlPost.can {w : World} {E : Int} {L : List Int} {e : Ending} {w' : World} (h : IlPost w E L e w') :
    Below w.heap.size w w' ∧ ∃ A cap, e = .returned (.tuple #[.slice A (if E = 0 then L else []).length cap, .int .i64 E]) ∧ Ints w' A (if E = 0 then L else []) := by
  obtain ⟨hb, ⟨h1, rfl⟩ | ⟨rfl, A, cap, rfl, h2⟩⟩ := h
  · rw [if_neg h1]; exact ⟨hb, none, 0, rfl, fun h0 => absurd h0 (by simp)⟩
  · rw [if_pos rfl]; exact ⟨hb, A, cap, rfl, h2⟩
set_option maxRecDepth 100000 in
set_option maxHeartbeats 1000000 in
theorem twater_walk (A : Option Addr) (cap : Nat) (c r k : Int) (z : List Int) (F : Bool) (E : Int) (L M : List Int) (w : World) (ll : L.length ≤ 1000000) (lm : M.length ≤ 1000000)
    (AW : ∀ W, Calls Try.prog 12 #[] W (Gives (.bool true) W))
    (FW : ∀ W, Calls Try.prog 11 #[.agg #[.int .i64 c, .int .i64 r, .int .i64 k, .slice A z.length cap]] W (Gives (.bool F) W))
    (R1 : ∀ W, Below w.heap.size w W → Calls Try.prog 25 #[.agg #[.int .i64 c, .int .i64 r, .int .i64 k, .slice A z.length cap]] W (fun e w' => Below W.heap.size W w' ∧ ∃ A cap, e = .returned (.tuple #[.slice A L.length cap, .int .i64 E]) ∧ Ints w' A L))
    (R2 : ∀ W, Below w.heap.size w W → Calls Try.prog 26 #[.agg #[.int .i64 c, .int .i64 r, .int .i64 k, .slice A z.length cap]] W (fun e w' => Below W.heap.size W w' ∧ ∃ A cap, e = .returned (.tuple #[.slice A L.length cap, .int .i64 E]) ∧ Ints w' A L))
    (R3 : ∀ W, Below w.heap.size w W → Calls Try.prog 27 #[.agg #[.int .i64 c, .int .i64 r, .int .i64 k, .slice A z.length cap]] W (fun e w' => Below W.heap.size W w' ∧ ∃ A cap, e = .returned (.tuple #[.slice A M.length cap, .int .i64 E]) ∧ Ints w' A M))
    (R4 : ∀ W, Below w.heap.size w W → Calls Try.prog 28 #[.agg #[.int .i64 c, .int .i64 r, .int .i64 k, .slice A z.length cap]] W (fun e w' => Below W.heap.size W w' ∧ ∃ A cap, e = .returned (.tuple #[.slice A M.length cap, .int .i64 E]) ∧ Ints w' A M)) :
    Calls Try.prog 6 #[.agg #[.int .i64 c, .int .i64 r, .int .i64 k, .slice A z.length cap]] w (Gives (.bool true) w) := by
  have VB := trAt_new w c r k A z.length cap
  have b0 : Below w.heap.size w (w.alloc (Obj.cells #[.int .i64 c, .int .i64 r, .int .i64 k, .slice A z.length cap] 24)) := balloc _ _
  generalize hU : w.alloc (Obj.cells #[.int .i64 c, .int .i64 r, .int .i64 k, .slice A z.length cap] 24) = U at VB b0
  have HAW := hid AW
  have HFW := hid FW
  have H1 := hid R1
  have H2 := hid R2
  have H3 := hid R3
  have H4 := hid R4
  have HU := hid hU
  have HB := hid b0
  have HC := hid VB
  have LL := hid ll
  have LM := hid lm
  clear hU b0 VB AW FW R1 R2 R3 R4 ll lm
  go_enter Try.func6, Try.ntmps6
  go_upto_region 1 with fail
  rw [HU.out]
  have k0 := HC.out.c0
  have k1 := HC.out.c1
  have k2 := HC.out.c2
  have k3 := HC.out.c3
  have kl := HC.out.lt
  go_wp2_with fail
  refine (HFW.out _).mono ?_
  rintro _ w5 ⟨rfl, hb⟩
  have B5 := hid (bthen HB.out hb)
  have Q5 := hid (HC.out.below hb)
  clear hb k0 k1 k2 k3 kl
  cases F
  · go_wp2_with fail
    refine (HAW.out _).mono ?_
    rintro _ w6 ⟨rfl, hb⟩
    have B6 := hid (bthen B5.out hb)
    clear hb
    go_wp2_with fail
    go_ret
    exact Gives.mk rfl B6.out
  · have k0 := Q5.out.c0
    have k1 := Q5.out.c1
    have k2 := Q5.out.c2
    have k3 := Q5.out.c3
    have kl := Q5.out.lt
    go_wp2_with fail
    refine (H1.out _ B5.out).mono ?_
    rintro _ w6 ⟨hb, A1, q1, rfl, t1⟩
    have B6 := hid (bthen B5.out hb)
    have Q6 := hid (Q5.out.below hb)
    have T1 := hid t1
    clear hb k0 k1 k2 k3 kl t1
    have k0 := Q6.out.c0
    have k1 := Q6.out.c1
    have k2 := Q6.out.c2
    have k3 := Q6.out.c3
    have kl := Q6.out.lt
    go_wp2_with fail
    refine (H2.out _ B6.out).mono ?_
    rintro _ w7 ⟨hb, A2, q2, rfl, t2⟩
    have B7 := hid (bthen B6.out hb)
    have Q7 := hid (Q6.out.below hb)
    have T2 := hid t2
    have D7 := hid hb
    clear hb k0 k1 k2 k3 kl t2
    have k0 := Q7.out.c0
    have k1 := Q7.out.c1
    have k2 := Q7.out.c2
    have k3 := Q7.out.c3
    have kl := Q7.out.lt
    go_wp2_with fail
    refine (H3.out _ B7.out).mono ?_
    rintro _ w8 ⟨hb, A3, q3, rfl, t3⟩
    have B8 := hid (bthen B7.out hb)
    have Q8 := hid (Q7.out.below hb)
    have T3 := hid t3
    have D8 := hid hb
    clear hb k0 k1 k2 k3 kl t3
    have k0 := Q8.out.c0
    have k1 := Q8.out.c1
    have k2 := Q8.out.c2
    have k3 := Q8.out.c3
    have kl := Q8.out.lt
    go_wp2_with fail
    refine (H4.out _ B8.out).mono ?_
    rintro _ w9 ⟨hb, A4, q4, rfl, t4⟩
    have B9 := hid (bthen B8.out hb)
    have T4 := hid t4
    have D9 := hid hb
    clear hb k0 k1 k2 k3 kl t4
    have D89 := hid (bthen D8.out D9.out)
    have D79 := hid (bthen D7.out D89.out)
    have EQ1 := hid (teq_any A1 A2 q1 q2 L w9 LL.out (T1.out.below D79.out) (T2.out.below D89.out))
    go_wp2_with fail
    refine EQ1.out.mono ?_
    rintro _ w10 ⟨rfl, hb⟩
    have B10 := hid (bthen B9.out hb)
    have EQ2 := hid (teq_any A3 A4 q3 q4 M w10 LM.out (T3.out.below (bthen D9.out hb)) (T4.out.below hb))
    have ee : (E == E) = true := by simp
    clear hb
    go_wp2_with fail
    refine EQ2.out.mono ?_
    rintro _ w11 ⟨rfl, hb⟩
    have B11 := hid (bthen B10.out hb)
    clear hb
    go_wp2_with fail
    refine (HAW.out _).mono ?_
    rintro _ w12 ⟨rfl, hb⟩
    have B12 := hid (bthen B11.out hb)
    clear hb
    go_wp2_with fail
    go_ret
    exact Gives.mk rfl B12.out
theorem twater_law (AW : ∀ W, Calls Try.prog 12 #[] W (Gives (.bool true) W)) (A : Option Addr) (cap : Nat) (c r k : Int) (z : List Int) (w : World) (hl : z.length ≤ 140737488355328) (hT : Ints w A z) :
    Calls Try.prog 6 #[.agg #[.int .i64 c, .int .i64 r, .int .i64 k, .slice A z.length cap]] w (Gives (.bool true) w) := by
  have zb : Sp.terE c r k z = 0 → z.length ≤ 256 := fun h => by
    obtain ⟨h1, h2, h3, h4, h5⟩ := Sp.terE_zero h
    have P : c * r ≤ 16 * 16 := Int.mul_le_mul h1.2 h2.2 (by omega) (by omega)
    omega
  refine twater_walk A cap c r k z (decide ((z.length : Int) ≤ 300)) (Sp.terE c r k z) (if Sp.terE c r k z = 0 then Sp.tabL (Sp.rcvS z c r) z.length else []) (if Sp.terE c r k z = 0 then Sp.catS z c r else []) w ?_ ?_ AW (fun W => rfew_any A cap c r k z W) ?_ ?_ ?_ ?_
  · by_cases h : Sp.terE c r k z = 0
    · rw [if_pos h, Sp.tabL_len]; have := zb h; omega
    · rw [if_neg h]; simp
  · by_cases h : Sp.terE c r k z = 0
    · rw [if_pos h]; unfold Sp.catS; rw [Sp.catJ_len]; have := zb h; omega
    · rw [if_neg h]; simp
  · exact fun W hb => (tReceiver_any A cap c r k z W hl (hT.below hb)).mono fun e w' h => h.can
  · exact fun W hb => (rReceiver_any A cap c r k z W hl (hT.below hb)).mono fun e w' h => h.can
  · exact fun W hb => (tCatchment_any A cap c r k z W hl (hT.below hb)).mono fun e w' h => h.can
  · exact fun W hb => (rCatchment_any A cap c r k z W hl (hT.below hb)).mono fun e w' h => h.can
theorem twater_as (A : Option Addr) (cap : Nat) (c r k : Int) (z : List Int) (w : World) (hl : z.length ≤ 140737488355328) (hT : Ints w A z) :
    Calls Try.prog 6 #[.agg #[.int .i64 c, .int .i64 r, .int .i64 k, .slice A z.length cap]] w (Gives (.bool true) w) := twater_law tawake_any A cap c r k z w hl hT
end Go.Proofs.Ytadicbpfbhpooaa
