/-
  Layer 6: CodecBursts, the walk.
-/
import Derived.Test.YtcjhgihkofmhgaaCza
import Derived.Test.YtcjhgihkofmhgaaCzd
import Derived.Test.YtcjhgihkofmhgaaCze
namespace Go.Proofs.Ytcjhgihkofmhgaa
open Go.RowKit
attribute [local go_sem ↓] Go.wp_at_zero Go.wp_at_succ
set_option linter.unusedVariables false
set_option linter.unusedSimpArgs false

/-- An owned row, as one that may be written. -/
theorem OwnB.row {W : World} {base : Nat} {v : Value} {L : List UInt8} (h : OwnB W base v L) (h0 : 0 < L.length) : ∃ g cap, v = .slice (some ⟨g, 0, none⟩) L.length cap ∧ base ≤ g ∧ RowB W g L := by
  rcases h.2 with ⟨rfl, h1⟩ | ⟨g, cap, cur, rfl, hb, hg, hn, hm, hs, ht⟩
  · omega
  · refine ⟨g, cap, rfl, hb, (Array.getElem?_eq_some_iff.1 hg).1, fun j hj => ?_, fun o => ?_⟩
    · have hc := World.ownsRow.cells h (g := g) rfl j _ (byt_get L j hj)
      have e : (⟨g, 0, none⟩ : Addr).add j = ⟨g, j, none⟩ := by by_cases j0 : j = 0 <;> simp [Addr.add, j0]
      rw [← e]
      exact hc
    · unfold World.frozen?
      rw [hg]
      simp
theorem w64_in (n : Int) (h : -9223372036854775808 ≤ n ∧ n ≤ 9223372036854775807) : wrap64 n = n := by unfold wrap64; omega
def BurRel (w : World) (g : Nat) (b : List UInt8) (k : Nat) (xs : Nat → UInt8) (c t : Value) (W : World) : Prop :=
  ∃ j : Nat, t = .int .i64 (j : Int) ∧ c = .bool (Sp.chg b.length k j xs) ∧ j ≤ 4 ∧ RowB W g (Sp.xorL b (Sp.dl b.length k j xs)) ∧ Below w.heap.size w W
theorem u8_bne (x : UInt8) : (((x.toNat : Nat) : Int) != 0) = (x != 0) := by
  by_cases h : x = 0
  · subst h; rfl
  · have h0 : x.toNat ≠ 0 := fun e => h (UInt8.toNat_inj.1 (by rw [e]; rfl))
    have h1 : (((x.toNat : Nat) : Int) != 0) = true := by simp only [bne_iff_ne, ne_eq]; omega
    have h2 : (x != 0) = true := by simpa using h
    rw [h1, h2]
theorem bur_step {w W : World} {g k j : Nat} {L : List UInt8} {xs : Nat → UInt8} {x b : UInt8} {c v : Value} {n : Int} (hx : xs j = x)
    (hs : (Sp.xorL L (Sp.dl L.length k j xs)).set (k + j) (b ^^^ xs j) = Sp.xorL L (Sp.dl L.length k (j + 1) xs)) (hc : Sp.chg L.length k (j + 1) xs = (Sp.chg L.length k j xs || (xs j != 0)))
    (hr : RowB W g (Sp.xorL L (Sp.dl L.length k j xs))) (hB : Below w.heap.size w W) (hg : w.heap.size ≤ g) (hj : j + 1 ≤ 4) (hv : v = .int .u8 ((b ^^^ x).toNat : Int)) (hcc : c = .bool (Sp.chg L.length k j xs || (x != 0))) (hn : n = ((j + 1 : Nat) : Int)) :
    BurRel w g L k xs c (.int .i64 n) (W.setCell ⟨g, k + j, none⟩ v) := by
  subst hx hn
  refine ⟨j + 1, rfl, by rw [hcc, hc], hj, ?_, hB.setCell hg _⟩
  rw [← hs]
  exact hr.set (k + j) (b ^^^ xs j) v hv
set_option maxRecDepth 100000 in
set_option maxHeartbeats 4000000 in
theorem cbur_as (q : Int) (y0 y1 y2 y3 : Int) (q0 : 0 ≤ q) (q1 : q ≤ 65535) (r0 : 0 ≤ y0) (r1 : y0 ≤ 255) (r2 : 0 ≤ y1) (r3 : y1 ≤ 255) (r4 : 0 ≤ y2) (r5 : y2 ≤ 255) (r6 : 0 ≤ y3) (r7 : y3 ≤ 255)
    (A : Option Addr) (ca : Nat) (L : List UInt8) (w : World)
    (hca : L.length ≤ ca) (hma : ca ≤ 9223372036854775807) (SL : Bs w w.heap.size A L) :
    Calls Try.prog 9 #[.slice A L.length ca, .int .u16 q, .agg #[.int .u8 y0, .int .u8 y1, .int .u8 y2, .int .u8 y3]] w (Gives (.bool true) w) := by
  by_cases c : L.length = 0 ∨ 5000 < L.length
  · by_cases c1 : L.length = 0
    · have f1 : (L.length : Int) = 0 := by omega
      clear hca hma SL c
      go_enter Try.func9, Try.ntmps9
      go_wp2_with (go_at_call 11; refine (awake_any _).mono ?_; rintro e w1 ⟨rfl, hb⟩)
      go_ret
      exact Gives.mk rfl (((Below.refl _ _).alloc (Nat.le_refl _) _).trans (hb.mono (by simp)))
    · have f1 : ¬ (L.length : Int) = 0 := by omega
      have f2 : (5000 : Int) < (L.length : Int) := by omega
      clear hca hma SL c
      go_enter Try.func9, Try.ntmps9
      go_wp2_with (go_at_call 11; refine (awake_any _).mono ?_; rintro e w1 ⟨rfl, hb⟩)
      go_ret
      exact Gives.mk rfl (((Below.refl _ _).alloc (Nat.le_refl _) _).trans (hb.mono (by simp)))
  · obtain ⟨t, rfl⟩ : ∃ t : Nat, q = (t : Int) := ⟨q.toNat, by omega⟩
    have hb : ∀ z : Int, 0 ≤ z → z ≤ 255 → ∃ x : UInt8, z = (x.toNat : Int) := fun z h0 h1 => ⟨UInt8.ofNat z.toNat, by rw [UInt8.toNat_ofNat_of_lt' (show z.toNat < 256 by omega)]; omega⟩
    obtain ⟨x0, rfl⟩ := hb y0 r0 r1
    obtain ⟨x1, rfl⟩ := hb y1 r2 r3
    obtain ⟨x2, rfl⟩ := hb y2 r4 r5
    obtain ⟨x3, rfl⟩ := hb y3 r6 r7
    have f1 : ((L.length : Int) == 0) = false := by simp; exact fun e => by rw [e] at c; exact c (.inl rfl)
    have f3 : ¬ (L.length : Int) = 0 := by omega
    have f2 : ¬ (5000 : Int) < (L.length : Int) := by omega
    have l5 := hid (show L.length ≤ 5000 by omega)
    have lp := hid (show 0 < L.length by omega)
    have er : ((t : Int).tmod (L.length : Int)) = ((t % L.length : Nat) : Int) := by
      rw [Int.tmod_eq_emod_of_nonneg (by omega)]
      omega
    have HK := hid (show t % L.length < L.length from Nat.mod_lt _ lp.out)
    have wt : wrap64 (t : Int) = (t : Int) := w64_in _ (by omega)
    have HL := hid SL
    clear c hb r0 r1 r2 r3 r4 r5 r6 r7 q0 q1 hca hma SL
    generalize t % L.length = k at er HK
    have wk : wrap64 (k : Int) = (k : Int) := w64_in _ (by have := HK.out; have := l5.out; omega)
    go_enter Try.func9, Try.ntmps9
    go_wp2_with fail
    refine (clone_any L A ca (by have := l5.out; omega) w.heap.size _ (by simp) (HL.out.below ((Below.refl _ _).alloc (Nat.le_refl _) _))).mono ?_
    rintro _ u1 ⟨v1, rfl, how, hb⟩
    obtain ⟨g, cap, rfl, hg, hR⟩ := how.row lp.out
    obtain ⟨z0, hz0⟩ : ∃ u : World, w.alloc (.cells #[.int .u8 (x0.toNat : Int), .int .u8 (x1.toNat : Int), .int .u8 (x2.toNat : Int), .int .u8 (x3.toNat : Int)] 50) = u := ⟨_, rfl⟩
    have B0 : Below w.heap.size w z0 := by rw [← hz0]; exact (Below.refl _ _).alloc (Nat.le_refl _) _
    have s0 : z0.heap.size = w.heap.size + 1 := by rw [← hz0]; simp
    have a0 : z0.cell? ⟨w.heap.size, 0, none⟩ = some (.int .u8 (x0.toNat : Int)) := by rw [← hz0]; simp [go_sem]
    have a1 : z0.cell? ⟨w.heap.size, 1, none⟩ = some (.int .u8 (x1.toNat : Int)) := by rw [← hz0]; simp [go_sem]
    have a2 : z0.cell? ⟨w.heap.size, 2, none⟩ = some (.int .u8 (x2.toNat : Int)) := by rw [← hz0]; simp [go_sem]
    have a3 : z0.cell? ⟨w.heap.size, 3, none⟩ = some (.int .u8 (x3.toNat : Int)) := by rw [← hz0]; simp [go_sem]
    rw [hz0] at hb hg
    have b0 := (hb.cell (p := ⟨w.heap.size, 0, none⟩) (by simp; omega)).trans a0
    have b1 := (hb.cell (p := ⟨w.heap.size, 1, none⟩) (by simp; omega)).trans a1
    have b2 := (hb.cell (p := ⟨w.heap.size, 2, none⟩) (by simp; omega)).trans a2
    have b3 := (hb.cell (p := ⟨w.heap.size, 3, none⟩) (by simp; omega)).trans a3
    have HB := hid (B0.trans (hb.mono (by omega)))
    have HG := hid (show w.heap.size ≤ g by omega)
    have HR := hid hR
    clear hb hg hR a0 a1 a2 a3 s0 B0 hz0 how
    obtain ⟨xs, hxs⟩ : ∃ xs : Nat → UInt8, xs = fun i => if i = 0 then x0 else if i = 1 then x1 else if i = 2 then x2 else x3 := ⟨_, rfl⟩
    have e0 : xs 0 = x0 := by rw [hxs]; rfl
    have e1 : xs 1 = x1 := by rw [hxs]; rfl
    have e2 : xs 2 = x2 := by rw [hxs]; rfl
    have e3 : xs 3 = x3 := by rw [hxs]; rfl
    have E0 := hid e0
    have E1 := hid e1
    have E2 := hid e2
    have E3 := hid e3
    clear e0 e1 e2 e3 hxs
    have i0 : ∀ W, (Instr.index 50 (.agg #[.int .u8 (x0.toNat : Int), .int .u8 (x1.toNat : Int), .int .u8 (x2.toNat : Int), .int .u8 (x3.toNat : Int)]) (.int .i64 0)).run Try.prog W = .ok (.int .u8 (x0.toNat : Int)) W := fun _ => by kernel_rfl
    have i1 : ∀ W, (Instr.index 50 (.agg #[.int .u8 (x0.toNat : Int), .int .u8 (x1.toNat : Int), .int .u8 (x2.toNat : Int), .int .u8 (x3.toNat : Int)]) (.int .i64 1)).run Try.prog W = .ok (.int .u8 (x1.toNat : Int)) W := fun _ => by kernel_rfl
    have i2 : ∀ W, (Instr.index 50 (.agg #[.int .u8 (x0.toNat : Int), .int .u8 (x1.toNat : Int), .int .u8 (x2.toNat : Int), .int .u8 (x3.toNat : Int)]) (.int .i64 2)).run Try.prog W = .ok (.int .u8 (x2.toNat : Int)) W := fun _ => by kernel_rfl
    have i3 : ∀ W, (Instr.index 50 (.agg #[.int .u8 (x0.toNat : Int), .int .u8 (x1.toNat : Int), .int .u8 (x2.toNat : Int), .int .u8 (x3.toNat : Int)]) (.int .i64 3)).run Try.prog W = .ok (.int .u8 (x3.toNat : Int)) W := fun _ => by kernel_rfl
    go_wp2_with fail
    go_loopw [8, 24] (fun c t wr => BurRel w g L k xs c t wr) (fun _ t _ => 4 - (intOf t).toNat)
    case atStart => exact ⟨0, rfl, rfl, by omega, by rw [Sp.dl_zero, Sp.xorL_zero]; exact HR.out, HB.out⟩
    case round =>
      obtain ⟨j, rfl, rfl, hj, hRw, hBw⟩ := hrel
      have RW := hid hRw
      have HW := hid hBw
      clear hRw hBw
      by_cases c4 : j = 4
      · subst c4
        have hML : (Sp.xorL L (Sp.dl L.length k 4 xs)).length = L.length := Sp.xorL_len _ _ (by rw [Sp.dl_len])
        have bs := Sp.burst_sum L k xs HK.out
        have s1 := sum_any L A ca (by have := l5.out; omega) w.heap.size wr HW.out.size (HL.out.below HW.out)
        have s2 := sum_any (Sp.xorL L (Sp.dl L.length k 4 xs)) (some ⟨g, 0, none⟩) cap (by have := l5.out; omega) wr.heap.size wr (Nat.le_refl _) RW.out.bs
        rw [hML] at s2
        obtain ⟨y1, hy1⟩ : ∃ y, Sp.updS 0 L = y := ⟨_, rfl⟩
        obtain ⟨y2, hy2⟩ : ∃ y, Sp.updS 0 (Sp.xorL L (Sp.dl L.length k 4 xs)) = y := ⟨_, rfl⟩
        obtain ⟨q, hq⟩ : ∃ q, Sp.chg L.length k 4 xs = q := ⟨_, rfl⟩
        rw [hy1] at s1 bs
        rw [hy2] at s2 bs
        rw [hq] at bs ⊢
        have fe : ((y1 : Int) != (y2 : Int)) = q := by
          by_cases h : y1 = y2
          · subst h
            simp at bs
            rw [bs]
            simp
          · rw [decide_eq_false h] at bs
            have : q = true := by simpa using bs.symm
            rw [this]
            simp only [bne_iff_ne, ne_eq]
            omega
        have S2 := hid s2
        have FE := hid fe
        have aw := fun w => awake_any w
        clear bs hy1 hy2 hq hML s2 fe E0 E1 E2 E3 i0 i1 i2 i3 f1 f3 f2 er wt wk b0 b1 b2 b3
        go_wp2_with fail
        refine s1.mono ?_
        rintro _ _ ⟨rfl, rfl⟩
        have s2 := S2.out
        go_wp2_with fail
        refine s2.mono ?_
        rintro _ _ ⟨rfl, rfl⟩
        have fe := FE.out
        cases q
        · have e2 : (y1 : Int) = (y2 : Int) := by simpa using fe
          go_wp2_with (go_at_call 11; refine (aw _).mono ?_; rintro e w1 ⟨rfl, hb⟩)
          go_ret
          exact Gives.mk rfl (HW.out.trans (hb.mono HW.out.size))
        · have e2 : ¬ (y1 : Int) = (y2 : Int) := by simpa using fe
          go_wp2_with (go_at_call 11; refine (aw _).mono ?_; rintro e w1 ⟨rfl, hb⟩)
          go_ret
          exact Gives.mk rfl (HW.out.trans (hb.mono HW.out.size))
      · have hx : ∃ x : UInt8, xs j = x := ⟨_, rfl⟩
        by_cases cj : k + j < L.length
        · have hLx := List.getElem?_eq_getElem cj
          obtain ⟨d1, d2⟩ := Sp.dl_set (xs := xs) (k := k) (j := j) (b := L) (n := L.length) rfl cj hLx
          obtain ⟨hlt, d3⟩ := List.getElem?_eq_some_iff.1 d1
          have cw := RW.out.cell (k + j) hlt
          rw [d3] at cw
          have fw := RW.out.fr (k + j)
          have HS := hid d2
          have HC := hid (Sp.chg_in (xs := xs) (k := k) (j := j) (n := L.length) cj)
          have kx := hid cj
          obtain ⟨b, hb⟩ : ∃ b, L[k + j]'cj = b := ⟨_, rfl⟩
          simp only [hb] at cw HS
          clear d1 d2 hlt d3 hLx hb hx
          obtain rfl | rfl | rfl | rfl : j = 0 ∨ j = 1 ∨ j = 2 ∨ j = 3 := by omega
          · have ex := xor8 b x0
            simp only [Nat.add_zero] at cw fw
            have wj : wrap64 ((k : Int) + 0) = (k : Int) + 0 := w64_in _ (by have := HK.out; have := l5.out; omega)
            have kj : (k : Int) + 0 < (L.length : Int) := by omega
            clear c4 cj hj
            go_wp2_with fail
            all_goals exact ⟨bur_step (j := 0) E0.out HS.out HC.out RW.out HW.out HG.out (by omega) (by simp [UInt8.toNat_xor]) (by first | (simp [*]; done) | (rw [u8_bne]; simp [*]; done) | (rw [u8_bne, Sp.chg_zero]; rfl)) rfl, by simp [intOf]⟩
          · have ex := xor8 b x1
            have wj : wrap64 ((k : Int) + 1) = (k : Int) + 1 := w64_in _ (by have := HK.out; have := l5.out; omega)
            have kj : (k : Int) + 1 < (L.length : Int) := by omega
            clear c4 cj hj
            go_wp2_with fail
            all_goals exact ⟨bur_step (j := 1) E1.out HS.out HC.out RW.out HW.out HG.out (by omega) (by simp [UInt8.toNat_xor]) (by first | (simp [*]; done) | (rw [u8_bne]; simp [*]; done) | (rw [u8_bne, Sp.chg_zero]; rfl)) rfl, by simp [intOf]⟩
          · have ex := xor8 b x2
            have wj : wrap64 ((k : Int) + 2) = (k : Int) + 2 := w64_in _ (by have := HK.out; have := l5.out; omega)
            have kj : (k : Int) + 2 < (L.length : Int) := by omega
            clear c4 cj hj
            go_wp2_with fail
            all_goals exact ⟨bur_step (j := 2) E2.out HS.out HC.out RW.out HW.out HG.out (by omega) (by simp [UInt8.toNat_xor]) (by first | (simp [*]; done) | (rw [u8_bne]; simp [*]; done) | (rw [u8_bne, Sp.chg_zero]; rfl)) rfl, by simp [intOf]⟩
          · have ex := xor8 b x3
            have wj : wrap64 ((k : Int) + 3) = (k : Int) + 3 := w64_in _ (by have := HK.out; have := l5.out; omega)
            have kj : (k : Int) + 3 < (L.length : Int) := by omega
            clear c4 cj hj
            go_wp2_with fail
            all_goals exact ⟨bur_step (j := 3) E3.out HS.out HC.out RW.out HW.out HG.out (by omega) (by simp [UInt8.toNat_xor]) (by first | (simp [*]; done) | (rw [u8_bne]; simp [*]; done) | (rw [u8_bne, Sp.chg_zero]; rfl)) rfl, by simp [intOf]⟩
        · have j0 : j ≠ 0 := fun e => by have := HK.out; omega
          have HC := hid (Sp.chg_out (xs := xs) (k := k) (j := j) (n := L.length) (by omega))
          have HS := hid (Sp.dl_out (xs := xs) (k := k) (j := j) (n := L.length) (by omega))
          clear hx
          obtain rfl | rfl | rfl : j = 1 ∨ j = 2 ∨ j = 3 := by omega
          · have wj : wrap64 ((k : Int) + 1) = (k : Int) + 1 := w64_in _ (by have := HK.out; have := l5.out; omega)
            have kj : ¬ ((k : Int) + 1 < (L.length : Int)) := by omega
            clear c4 cj hj
            go_wp2_with fail
            exact ⟨⟨2, rfl, by rw [HC.out], by omega, by rw [HS.out]; exact RW.out, HW.out⟩, by simp [intOf]⟩
          · have wj : wrap64 ((k : Int) + 2) = (k : Int) + 2 := w64_in _ (by have := HK.out; have := l5.out; omega)
            have kj : ¬ ((k : Int) + 2 < (L.length : Int)) := by omega
            clear c4 cj hj
            go_wp2_with fail
            exact ⟨⟨3, rfl, by rw [HC.out], by omega, by rw [HS.out]; exact RW.out, HW.out⟩, by simp [intOf]⟩
          · have wj : wrap64 ((k : Int) + 3) = (k : Int) + 3 := w64_in _ (by have := HK.out; have := l5.out; omega)
            have kj : ¬ ((k : Int) + 3 < (L.length : Int)) := by omega
            clear c4 cj hj
            go_wp2_with fail
            exact ⟨⟨4, rfl, by rw [HC.out], by omega, by rw [HS.out]; exact RW.out, HW.out⟩, by simp [intOf]⟩
end Go.Proofs.Ytcjhgihkofmhgaa
