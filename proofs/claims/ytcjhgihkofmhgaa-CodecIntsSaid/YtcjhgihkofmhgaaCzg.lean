/-
  Layer 6: CodecInts, the walk.
-/
import Derived.Test.YtcjhgihkofmhgaaCza
namespace Go.Proofs.Ytcjhgihkofmhgaa
open Go.RowKit
attribute [local go_sem ↓] Go.wp_at_zero Go.wp_at_succ
set_option linter.unusedVariables false
set_option linter.unusedSimpArgs false

set_option maxRecDepth 100000 in
set_option maxHeartbeats 4000000 in
theorem cints_as (n at_ : Int) (n0 : -9223372036854775808 ≤ n) (n1 : n ≤ 9223372036854775807) (a0 : -9223372036854775808 ≤ at_) (a1 : at_ ≤ 9223372036854775807)
    (A : Option Addr) (ca : Nat) (L : List UInt8) (w : World) (hca : L.length ≤ ca) (hma : ca ≤ 9223372036854775807) (SL : Bs w w.heap.size A L) :
    Calls Try.prog 3 #[.int .i64 n, .slice A L.length ca, .int .i64 at_] w (Gives (.bool true) w) := by
  by_cases c : (5000 : Int) < (L.length : Int)
  · clear hca hma SL n0 n1 a0 a1
    go_enter Try.func3, Try.ntmps3
    go_wp2_with (go_at_call 11; refine (awake_any _).mono ?_; rintro e w1 ⟨rfl, hb⟩)
    go_ret
    exact Gives.mk rfl hb
  · have l1 : L.length ≤ 5000 := by omega
    have gi := getInt_any L A ca at_ hca (by omega) w.heap.size w (Nat.le_refl _) SL
    have rgi := rgetInt_any L A ca at_ hca (by omega) w.heap.size w (Nat.le_refl _) SL
    have gt := getText_any L A ca at_ hca (by omega) w.heap.size w (Nat.le_refl _) SL
    have rgt := rgetText_any L A ca at_ hca (by omega) w.heap.size w (Nat.le_refl _) SL
    obtain ⟨G, hG⟩ : ∃ G, Sp.getS L at_ = G := ⟨_, rfl⟩
    obtain ⟨T, hT⟩ : ∃ T, Sp.textS L at_ = T := ⟨_, rfl⟩
    rw [hG] at gi rgi
    rw [hT] at gt rgt
    clear hG hT
    obtain ⟨g0, g1, g2⟩ := G
    obtain ⟨t0, t1, t2⟩ := T
    simp only at gi rgi gt rgt
    obtain ⟨y, hy⟩ : ∃ y : ByteArray, (⟨t0.toArray⟩ : ByteArray) = y := ⟨_, rfl⟩
    rw [hy] at gt rgt
    clear hy
    obtain ⟨z, hz⟩ : ∃ z : ByteArray, (⟨L.toArray⟩ : ByteArray) = z := ⟨_, rfl⟩
    have zs : z.size = L.length := by rw [← hz]; simp [ByteArray.size]
    have TR : ∀ W, Bs W W.heap.size A L → (convert 22 9 (.slice A L.length ca)).run Try.prog W = .ok (.string z) W := fun W h => by rw [← hz]; exact text_run h ca
    have pn := fun w => putInt_any n n0 n1 w
    have rpn := fun w => rputInt_any n n0 n1 w
    have pt := fun w => putText_any z (by omega) w
    have rpt := fun w => rputText_any z (by omega) w
    have pl := Sp.putS_len n
    have ml := Sp.putS_len (z.size : Int)
    have ml2 : (Sp.putS (z.size : Int) ++ z.data.toList).length ≤ 6000 := by
      have : z.data.toList.length = z.size := (size_list z).symm
      simp only [List.length_append]
      omega
    obtain ⟨N, hN⟩ : ∃ N, Sp.putS n = N := ⟨_, rfl⟩
    obtain ⟨M, hM⟩ : ∃ M, Sp.putS (z.size : Int) ++ z.data.toList = M := ⟨_, rfl⟩
    rw [hN] at pn rpn pl
    rw [hM] at pt rpt ml2
    have HPN : Hid (N.length ≤ 9223372036854775807) := by show _ ≤ _; omega
    have HPM : Hid (M.length ≤ 9223372036854775807) := by show _ ≤ _; omega
    have HL := hid SL
    clear hca hma SL n0 n1 a0 a1 l1 zs hz pl ml ml2 hN hM
    go_enter Try.func3, Try.ntmps3
    go_wp2_with fail
    refine gi.mono ?_
    rintro _ _ ⟨rfl, rfl⟩
    go_wp2_with fail
    refine rgi.mono ?_
    rintro _ _ ⟨rfl, rfl⟩
    go_wp2_with fail
    refine gt.mono ?_
    rintro _ _ ⟨rfl, rfl⟩
    go_wp2_with fail
    refine rgt.mono ?_
    rintro _ _ ⟨rfl, rfl⟩
    go_wp2_with fail
    refine region_inv (by kernel_rfl) [SP.eq (.int .i64 n), ⟨fun v w => ∃ A c, v = .slice A (N).length c ∧ Bs w w.heap.size A (N), fun v w w3 ⟨A, c, h1, h2⟩ hk => ⟨A, c, h1, h2.kc hk⟩⟩, SP.eq (.int .i64 n), ⟨fun v w => ∃ A c, v = .slice A (N).length c ∧ Bs w w.heap.size A (N), fun v w w3 ⟨A, c, h1, h2⟩ hk => ⟨A, c, h1, h2.kc hk⟩⟩, SP.eq (.bool true), SP.eq (.bool true), SP.eq (.slice A L.length ca), SP.eq (.string z), ⟨fun v w => ∃ A c, v = .slice A (M).length c ∧ Bs w w.heap.size A (M), fun v w w3 ⟨A, c, h1, h2⟩ hk => ⟨A, c, h1, h2.kc hk⟩⟩, SP.eq (.slice A L.length ca), SP.eq (.string z), ⟨fun v w => ∃ A c, v = .slice A (M).length c ∧ Bs w w.heap.size A (M), fun v w w3 ⟨A, c, h1, h2⟩ hk => ⟨A, c, h1, h2.kc hk⟩⟩, SP.eq (.bool true), SP.eq (.bool true), SP.eq (.bool true), SP.eq (.int .i64 g0), SP.eq (.int .i64 g0), SP.eq (.bool true), SP.eq (.bool true), SP.eq (.bool true), SP.eq (.int .i64 g1), SP.eq (.int .i64 g1), SP.eq (.bool true), SP.eq (.bool true), SP.eq (.bool true), SP.eq (.int .i64 g2), SP.eq (.int .i64 g2), SP.eq (.bool true), SP.eq (.bool true), SP.eq (.bool true), SP.eq (.string y), SP.eq (.string y), SP.eq (.bool true), SP.eq (.bool true), SP.eq (.bool true), SP.eq (.int .i64 t1), SP.eq (.int .i64 t1), SP.eq (.bool true), SP.eq (.bool true), SP.eq (.bool true), SP.eq (.int .i64 t2), SP.eq (.int .i64 t2), SP.eq (.bool true), SP.eq (.bool true), SP.eq (.bool true), SP.eq (.bool true), SP.eq (.bool true), SP.eq (.bool true)] (by kernel_rfl) ?_ ?_
    · intro i hi a w2 FR DP BW
      have hc : i = 0 ∨ i = 1 ∨ i = 2 ∨ i = 3 ∨ i = 4 ∨ i = 5 ∨ i = 6 ∨ i = 7 ∨ i = 8 ∨ i = 9 ∨ i = 10 ∨ i = 11 ∨ i = 12 ∨ i = 13 ∨ i = 14 ∨ i = 15 ∨ i = 16 ∨ i = 17 ∨ i = 18 ∨ i = 19 ∨ i = 20 ∨ i = 21 ∨ i = 22 ∨ i = 23 ∨ i = 24 ∨ i = 25 ∨ i = 26 ∨ i = 27 ∨ i = 28 ∨ i = 29 ∨ i = 30 ∨ i = 31 ∨ i = 32 ∨ i = 33 ∨ i = 34 ∨ i = 35 ∨ i = 36 ∨ i = 37 ∨ i = 38 ∨ i = 39 ∨ i = 40 ∨ i = 41 ∨ i = 42 ∨ i = 43 ∨ i = 44 ∨ i = 45 ∨ i = 46 ∨ i = 47 := by
        have hi2 : i < 48 := hi
        omega
      clear hi
      rcases hc with rfl | rfl | rfl | rfl | rfl | rfl | rfl | rfl | rfl | rfl | rfl | rfl | rfl | rfl | rfl | rfl | rfl | rfl | rfl | rfl | rfl | rfl | rfl | rfl | rfl | rfl | rfl | rfl | rfl | rfl | rfl | rfl | rfl | rfl | rfl | rfl | rfl | rfl | rfl | rfl | rfl | rfl | rfl | rfl | rfl | rfl | rfl | rfl
      · -- 0: Op.move (Operand.tmp 0)
        have g0 : a.tmps[0]? = some _ := (FR 0 (by kernel_rfl)).trans rfl
        refine wpOp_run rfl (wanted_none rfl) fun K2 hK => ?_
        clear FR DP
        go_simp
        exact hK _ _ ⟨_, 51, rfl, rfl, KR.refl _ _, rfl⟩
      · -- 1: Op.call { callee := Callee.value (Operand.func 17), args := #[Operand.
        obtain ⟨_, g51, rfl⟩ := DP 0 51 (by kernel_rfl) (by kernel_rfl)
        refine wpOp_run rfl (wanted_none rfl) fun K2 hK => ?_
        clear FR DP
        go_simp
        refine (pn _).mono ?_
        rintro _ w3 ⟨v3, rfl, how, hb3⟩
        obtain ⟨A3, c3, rfl, hc3, hs3⟩ := how.form
        exact hK _ _ ⟨_, 52, rfl, rfl, KR.of BW.size hb3, A3, c3, rfl, hs3⟩
      · -- 2: Op.move (Operand.tmp 0)
        have g0 : a.tmps[0]? = some _ := (FR 0 (by kernel_rfl)).trans rfl
        refine wpOp_run rfl (wanted_none rfl) fun K2 hK => ?_
        clear FR DP
        go_simp
        exact hK _ _ ⟨_, 53, rfl, rfl, KR.refl _ _, rfl⟩
      · -- 3: Op.call { callee := Callee.value (Operand.func 18), args := #[Operand.
        obtain ⟨_, g53, rfl⟩ := DP 2 53 (by kernel_rfl) (by kernel_rfl)
        refine wpOp_run rfl (wanted_none rfl) fun K2 hK => ?_
        clear FR DP
        go_simp
        refine (rpn _).mono ?_
        rintro _ w3 ⟨v3, rfl, how, hb3⟩
        obtain ⟨A3, c3, rfl, hc3, hs3⟩ := how.form
        exact hK _ _ ⟨_, 54, rfl, rfl, KR.of BW.size hb3, A3, c3, rfl, hs3⟩
      · -- 4: Op.call { callee := Callee.value (Operand.func 16), args := #[Operand.
        obtain ⟨v52, g52, p52⟩ := DP 1 52 (by kernel_rfl) (by kernel_rfl)
        obtain ⟨A52, c52, e52, s52⟩ := p52
        cases e52
        obtain ⟨v54, g54, p54⟩ := DP 3 54 (by kernel_rfl) (by kernel_rfl)
        obtain ⟨A54, c54, e54, s54⟩ := p54
        cases e54
        refine wpOp_run rfl (wanted_none rfl) fun K2 hK => ?_
        clear FR DP
        go_simp
        have q := sameBytes_any N N A52 A54 c52 c54 w2.heap.size w2 (Nat.le_refl _) HPN.out s52 s54
        rw [decide_eq_true rfl] at q
        refine q.mono ?_
        rintro _ w3 ⟨rfl, hb3⟩
        exact hK _ _ ⟨_, 55, rfl, rfl, KR.of BW.size hb3, rfl⟩
      · -- 5: Op.move (Operand.tmp 55)
        obtain ⟨_, g55, rfl⟩ := DP 4 55 (by kernel_rfl) (by kernel_rfl)
        refine wpOp_run rfl (wanted_none rfl) fun K2 hK => ?_
        clear FR DP
        go_simp
        exact hK _ _ ⟨_, 56, rfl, rfl, KR.refl _ _, rfl⟩
      · -- 6: Op.move (Operand.tmp 1)
        obtain ⟨_, g56, rfl⟩ := DP 5 56 (by kernel_rfl) (by kernel_rfl)
        have g1 : a.tmps[1]? = some _ := (FR 1 (by kernel_rfl)).trans rfl
        refine wpOp_run rfl (wanted_true rfl (by kernel_rfl) g56) fun K2 hK => ?_
        clear FR DP
        go_simp
        exact hK _ _ ⟨_, 57, rfl, rfl, KR.refl _ _, rfl⟩
      · -- 7: Op.convert 22 9 (Operand.tmp 57)
        obtain ⟨_, g56, rfl⟩ := DP 5 56 (by kernel_rfl) (by kernel_rfl)
        obtain ⟨_, g57, rfl⟩ := DP 6 57 (by kernel_rfl) (by kernel_rfl)
        refine wpOp_run rfl (wanted_true rfl (by kernel_rfl) g56) fun K2 hK => ?_
        clear FR DP
        go_simp
        rw [TR _ (HL.out.below BW).own]
        exact hK _ _ ⟨_, 58, rfl, rfl, KR.refl _ _, rfl⟩
      · -- 8: Op.call { callee := Callee.value (Operand.func 19), args := #[Operand.
        obtain ⟨_, g56, rfl⟩ := DP 5 56 (by kernel_rfl) (by kernel_rfl)
        obtain ⟨_, g58, rfl⟩ := DP 7 58 (by kernel_rfl) (by kernel_rfl)
        refine wpOp_run rfl (wanted_true rfl (by kernel_rfl) g56) fun K2 hK => ?_
        clear FR DP
        go_simp
        refine (pt _).mono ?_
        rintro _ w3 ⟨v3, rfl, how, hb3⟩
        obtain ⟨A3, c3, rfl, hc3, hs3⟩ := how.form
        exact hK _ _ ⟨_, 59, rfl, rfl, KR.of BW.size hb3, A3, c3, rfl, hs3⟩
      · -- 9: Op.move (Operand.tmp 1)
        obtain ⟨_, g56, rfl⟩ := DP 5 56 (by kernel_rfl) (by kernel_rfl)
        have g1 : a.tmps[1]? = some _ := (FR 1 (by kernel_rfl)).trans rfl
        refine wpOp_run rfl (wanted_true rfl (by kernel_rfl) g56) fun K2 hK => ?_
        clear FR DP
        go_simp
        exact hK _ _ ⟨_, 60, rfl, rfl, KR.refl _ _, rfl⟩
      · -- 10: Op.convert 22 9 (Operand.tmp 60)
        obtain ⟨_, g56, rfl⟩ := DP 5 56 (by kernel_rfl) (by kernel_rfl)
        obtain ⟨_, g60, rfl⟩ := DP 9 60 (by kernel_rfl) (by kernel_rfl)
        refine wpOp_run rfl (wanted_true rfl (by kernel_rfl) g56) fun K2 hK => ?_
        clear FR DP
        go_simp
        rw [TR _ (HL.out.below BW).own]
        exact hK _ _ ⟨_, 61, rfl, rfl, KR.refl _ _, rfl⟩
      · -- 11: Op.call { callee := Callee.value (Operand.func 20), args := #[Operand.
        obtain ⟨_, g56, rfl⟩ := DP 5 56 (by kernel_rfl) (by kernel_rfl)
        obtain ⟨_, g61, rfl⟩ := DP 10 61 (by kernel_rfl) (by kernel_rfl)
        refine wpOp_run rfl (wanted_true rfl (by kernel_rfl) g56) fun K2 hK => ?_
        clear FR DP
        go_simp
        refine (rpt _).mono ?_
        rintro _ w3 ⟨v3, rfl, how, hb3⟩
        obtain ⟨A3, c3, rfl, hc3, hs3⟩ := how.form
        exact hK _ _ ⟨_, 62, rfl, rfl, KR.of BW.size hb3, A3, c3, rfl, hs3⟩
      · -- 12: Op.call { callee := Callee.value (Operand.func 16), args := #[Operand.
        obtain ⟨_, g56, rfl⟩ := DP 5 56 (by kernel_rfl) (by kernel_rfl)
        obtain ⟨v59, g59, p59⟩ := DP 8 59 (by kernel_rfl) (by kernel_rfl)
        obtain ⟨A59, c59, e59, s59⟩ := p59
        cases e59
        obtain ⟨v62, g62, p62⟩ := DP 11 62 (by kernel_rfl) (by kernel_rfl)
        obtain ⟨A62, c62, e62, s62⟩ := p62
        cases e62
        refine wpOp_run rfl (wanted_true rfl (by kernel_rfl) g56) fun K2 hK => ?_
        clear FR DP
        go_simp
        have q := sameBytes_any M M A59 A62 c59 c62 w2.heap.size w2 (Nat.le_refl _) HPM.out s59 s62
        rw [decide_eq_true rfl] at q
        refine q.mono ?_
        rintro _ w3 ⟨rfl, hb3⟩
        exact hK _ _ ⟨_, 63, rfl, rfl, KR.of BW.size hb3, rfl⟩
      · -- 13: Op.pick (Operand.tmp 56) (Operand.tmp 63) (Operand.const (Value.bool f
        obtain ⟨_, g56, rfl⟩ := DP 5 56 (by kernel_rfl) (by kernel_rfl)
        obtain ⟨_, g63, rfl⟩ := DP 12 63 (by kernel_rfl) (by kernel_rfl)
        refine wpOp_run rfl (wanted_none rfl) fun K2 hK => ?_
        clear FR DP
        go_simp
        exact hK _ _ ⟨_, 64, rfl, rfl, KR.refl _ _, rfl⟩
      · -- 14: Op.move (Operand.tmp 64)
        obtain ⟨_, g64, rfl⟩ := DP 13 64 (by kernel_rfl) (by kernel_rfl)
        refine wpOp_run rfl (wanted_none rfl) fun K2 hK => ?_
        clear FR DP
        go_simp
        exact hK _ _ ⟨_, 65, rfl, rfl, KR.refl _ _, rfl⟩
      · -- 15: Op.move (Operand.tmp 7)
        obtain ⟨_, g65, rfl⟩ := DP 14 65 (by kernel_rfl) (by kernel_rfl)
        have g7 : a.tmps[7]? = some _ := (FR 7 (by kernel_rfl)).trans rfl
        refine wpOp_run rfl (wanted_true rfl (by kernel_rfl) g65) fun K2 hK => ?_
        clear FR DP
        go_simp
        exact hK _ _ ⟨_, 66, rfl, rfl, KR.refl _ _, rfl⟩
      · -- 16: Op.move (Operand.tmp 10)
        obtain ⟨_, g65, rfl⟩ := DP 14 65 (by kernel_rfl) (by kernel_rfl)
        have g10 : a.tmps[10]? = some _ := (FR 10 (by kernel_rfl)).trans rfl
        refine wpOp_run rfl (wanted_true rfl (by kernel_rfl) g65) fun K2 hK => ?_
        clear FR DP
        go_simp
        exact hK _ _ ⟨_, 67, rfl, rfl, KR.refl _ _, rfl⟩
      · -- 17: Op.binOp BinOp.eql 3 (Operand.tmp 66) (Operand.tmp 67) 3
        obtain ⟨_, g65, rfl⟩ := DP 14 65 (by kernel_rfl) (by kernel_rfl)
        obtain ⟨_, g66, rfl⟩ := DP 15 66 (by kernel_rfl) (by kernel_rfl)
        obtain ⟨_, g67, rfl⟩ := DP 16 67 (by kernel_rfl) (by kernel_rfl)
        refine wpOp_run rfl (wanted_true rfl (by kernel_rfl) g65) fun K2 hK => ?_
        clear FR DP
        go_simp
        exact hK _ _ ⟨_, 68, rfl, rfl, KR.refl _ _, rfl⟩
      · -- 18: Op.pick (Operand.tmp 65) (Operand.tmp 68) (Operand.const (Value.bool f
        obtain ⟨_, g65, rfl⟩ := DP 14 65 (by kernel_rfl) (by kernel_rfl)
        obtain ⟨_, g68, rfl⟩ := DP 17 68 (by kernel_rfl) (by kernel_rfl)
        refine wpOp_run rfl (wanted_none rfl) fun K2 hK => ?_
        clear FR DP
        go_simp
        exact hK _ _ ⟨_, 69, rfl, rfl, KR.refl _ _, rfl⟩
      · -- 19: Op.move (Operand.tmp 69)
        obtain ⟨_, g69, rfl⟩ := DP 18 69 (by kernel_rfl) (by kernel_rfl)
        refine wpOp_run rfl (wanted_none rfl) fun K2 hK => ?_
        clear FR DP
        go_simp
        exact hK _ _ ⟨_, 70, rfl, rfl, KR.refl _ _, rfl⟩
      · -- 20: Op.move (Operand.tmp 8)
        obtain ⟨_, g70, rfl⟩ := DP 19 70 (by kernel_rfl) (by kernel_rfl)
        have g8 : a.tmps[8]? = some _ := (FR 8 (by kernel_rfl)).trans rfl
        refine wpOp_run rfl (wanted_true rfl (by kernel_rfl) g70) fun K2 hK => ?_
        clear FR DP
        go_simp
        exact hK _ _ ⟨_, 71, rfl, rfl, KR.refl _ _, rfl⟩
      · -- 21: Op.move (Operand.tmp 11)
        obtain ⟨_, g70, rfl⟩ := DP 19 70 (by kernel_rfl) (by kernel_rfl)
        have g11 : a.tmps[11]? = some _ := (FR 11 (by kernel_rfl)).trans rfl
        refine wpOp_run rfl (wanted_true rfl (by kernel_rfl) g70) fun K2 hK => ?_
        clear FR DP
        go_simp
        exact hK _ _ ⟨_, 72, rfl, rfl, KR.refl _ _, rfl⟩
      · -- 22: Op.binOp BinOp.eql 3 (Operand.tmp 71) (Operand.tmp 72) 3
        obtain ⟨_, g70, rfl⟩ := DP 19 70 (by kernel_rfl) (by kernel_rfl)
        obtain ⟨_, g71, rfl⟩ := DP 20 71 (by kernel_rfl) (by kernel_rfl)
        obtain ⟨_, g72, rfl⟩ := DP 21 72 (by kernel_rfl) (by kernel_rfl)
        refine wpOp_run rfl (wanted_true rfl (by kernel_rfl) g70) fun K2 hK => ?_
        clear FR DP
        go_simp
        exact hK _ _ ⟨_, 73, rfl, rfl, KR.refl _ _, rfl⟩
      · -- 23: Op.pick (Operand.tmp 70) (Operand.tmp 73) (Operand.const (Value.bool f
        obtain ⟨_, g70, rfl⟩ := DP 19 70 (by kernel_rfl) (by kernel_rfl)
        obtain ⟨_, g73, rfl⟩ := DP 22 73 (by kernel_rfl) (by kernel_rfl)
        refine wpOp_run rfl (wanted_none rfl) fun K2 hK => ?_
        clear FR DP
        go_simp
        exact hK _ _ ⟨_, 74, rfl, rfl, KR.refl _ _, rfl⟩
      · -- 24: Op.move (Operand.tmp 74)
        obtain ⟨_, g74, rfl⟩ := DP 23 74 (by kernel_rfl) (by kernel_rfl)
        refine wpOp_run rfl (wanted_none rfl) fun K2 hK => ?_
        clear FR DP
        go_simp
        exact hK _ _ ⟨_, 75, rfl, rfl, KR.refl _ _, rfl⟩
      · -- 25: Op.move (Operand.tmp 9)
        obtain ⟨_, g75, rfl⟩ := DP 24 75 (by kernel_rfl) (by kernel_rfl)
        have g9 : a.tmps[9]? = some _ := (FR 9 (by kernel_rfl)).trans rfl
        refine wpOp_run rfl (wanted_true rfl (by kernel_rfl) g75) fun K2 hK => ?_
        clear FR DP
        go_simp
        exact hK _ _ ⟨_, 76, rfl, rfl, KR.refl _ _, rfl⟩
      · -- 26: Op.move (Operand.tmp 12)
        obtain ⟨_, g75, rfl⟩ := DP 24 75 (by kernel_rfl) (by kernel_rfl)
        have g12 : a.tmps[12]? = some _ := (FR 12 (by kernel_rfl)).trans rfl
        refine wpOp_run rfl (wanted_true rfl (by kernel_rfl) g75) fun K2 hK => ?_
        clear FR DP
        go_simp
        exact hK _ _ ⟨_, 77, rfl, rfl, KR.refl _ _, rfl⟩
      · -- 27: Op.binOp BinOp.eql 3 (Operand.tmp 76) (Operand.tmp 77) 3
        obtain ⟨_, g75, rfl⟩ := DP 24 75 (by kernel_rfl) (by kernel_rfl)
        obtain ⟨_, g76, rfl⟩ := DP 25 76 (by kernel_rfl) (by kernel_rfl)
        obtain ⟨_, g77, rfl⟩ := DP 26 77 (by kernel_rfl) (by kernel_rfl)
        refine wpOp_run rfl (wanted_true rfl (by kernel_rfl) g75) fun K2 hK => ?_
        clear FR DP
        go_simp
        exact hK _ _ ⟨_, 78, rfl, rfl, KR.refl _ _, rfl⟩
      · -- 28: Op.pick (Operand.tmp 75) (Operand.tmp 78) (Operand.const (Value.bool f
        obtain ⟨_, g75, rfl⟩ := DP 24 75 (by kernel_rfl) (by kernel_rfl)
        obtain ⟨_, g78, rfl⟩ := DP 27 78 (by kernel_rfl) (by kernel_rfl)
        refine wpOp_run rfl (wanted_none rfl) fun K2 hK => ?_
        clear FR DP
        go_simp
        exact hK _ _ ⟨_, 79, rfl, rfl, KR.refl _ _, rfl⟩
      · -- 29: Op.move (Operand.tmp 79)
        obtain ⟨_, g79, rfl⟩ := DP 28 79 (by kernel_rfl) (by kernel_rfl)
        refine wpOp_run rfl (wanted_none rfl) fun K2 hK => ?_
        clear FR DP
        go_simp
        exact hK _ _ ⟨_, 80, rfl, rfl, KR.refl _ _, rfl⟩
      · -- 30: Op.move (Operand.tmp 13)
        obtain ⟨_, g80, rfl⟩ := DP 29 80 (by kernel_rfl) (by kernel_rfl)
        have g13 : a.tmps[13]? = some _ := (FR 13 (by kernel_rfl)).trans rfl
        refine wpOp_run rfl (wanted_true rfl (by kernel_rfl) g80) fun K2 hK => ?_
        clear FR DP
        go_simp
        exact hK _ _ ⟨_, 81, rfl, rfl, KR.refl _ _, rfl⟩
      · -- 31: Op.move (Operand.tmp 16)
        obtain ⟨_, g80, rfl⟩ := DP 29 80 (by kernel_rfl) (by kernel_rfl)
        have g16 : a.tmps[16]? = some _ := (FR 16 (by kernel_rfl)).trans rfl
        refine wpOp_run rfl (wanted_true rfl (by kernel_rfl) g80) fun K2 hK => ?_
        clear FR DP
        go_simp
        exact hK _ _ ⟨_, 82, rfl, rfl, KR.refl _ _, rfl⟩
      · -- 32: Op.binOp BinOp.eql 9 (Operand.tmp 81) (Operand.tmp 82) 9
        obtain ⟨_, g80, rfl⟩ := DP 29 80 (by kernel_rfl) (by kernel_rfl)
        obtain ⟨_, g81, rfl⟩ := DP 30 81 (by kernel_rfl) (by kernel_rfl)
        obtain ⟨_, g82, rfl⟩ := DP 31 82 (by kernel_rfl) (by kernel_rfl)
        refine wpOp_run rfl (wanted_true rfl (by kernel_rfl) g80) fun K2 hK => ?_
        clear FR DP
        go_simp
        exact hK _ _ ⟨_, 83, rfl, rfl, KR.refl _ _, rfl⟩
      · -- 33: Op.pick (Operand.tmp 80) (Operand.tmp 83) (Operand.const (Value.bool f
        obtain ⟨_, g80, rfl⟩ := DP 29 80 (by kernel_rfl) (by kernel_rfl)
        obtain ⟨_, g83, rfl⟩ := DP 32 83 (by kernel_rfl) (by kernel_rfl)
        refine wpOp_run rfl (wanted_none rfl) fun K2 hK => ?_
        clear FR DP
        go_simp
        exact hK _ _ ⟨_, 84, rfl, rfl, KR.refl _ _, rfl⟩
      · -- 34: Op.move (Operand.tmp 84)
        obtain ⟨_, g84, rfl⟩ := DP 33 84 (by kernel_rfl) (by kernel_rfl)
        refine wpOp_run rfl (wanted_none rfl) fun K2 hK => ?_
        clear FR DP
        go_simp
        exact hK _ _ ⟨_, 85, rfl, rfl, KR.refl _ _, rfl⟩
      · -- 35: Op.move (Operand.tmp 14)
        obtain ⟨_, g85, rfl⟩ := DP 34 85 (by kernel_rfl) (by kernel_rfl)
        have g14 : a.tmps[14]? = some _ := (FR 14 (by kernel_rfl)).trans rfl
        refine wpOp_run rfl (wanted_true rfl (by kernel_rfl) g85) fun K2 hK => ?_
        clear FR DP
        go_simp
        exact hK _ _ ⟨_, 86, rfl, rfl, KR.refl _ _, rfl⟩
      · -- 36: Op.move (Operand.tmp 17)
        obtain ⟨_, g85, rfl⟩ := DP 34 85 (by kernel_rfl) (by kernel_rfl)
        have g17 : a.tmps[17]? = some _ := (FR 17 (by kernel_rfl)).trans rfl
        refine wpOp_run rfl (wanted_true rfl (by kernel_rfl) g85) fun K2 hK => ?_
        clear FR DP
        go_simp
        exact hK _ _ ⟨_, 87, rfl, rfl, KR.refl _ _, rfl⟩
      · -- 37: Op.binOp BinOp.eql 3 (Operand.tmp 86) (Operand.tmp 87) 3
        obtain ⟨_, g85, rfl⟩ := DP 34 85 (by kernel_rfl) (by kernel_rfl)
        obtain ⟨_, g86, rfl⟩ := DP 35 86 (by kernel_rfl) (by kernel_rfl)
        obtain ⟨_, g87, rfl⟩ := DP 36 87 (by kernel_rfl) (by kernel_rfl)
        refine wpOp_run rfl (wanted_true rfl (by kernel_rfl) g85) fun K2 hK => ?_
        clear FR DP
        go_simp
        exact hK _ _ ⟨_, 88, rfl, rfl, KR.refl _ _, rfl⟩
      · -- 38: Op.pick (Operand.tmp 85) (Operand.tmp 88) (Operand.const (Value.bool f
        obtain ⟨_, g85, rfl⟩ := DP 34 85 (by kernel_rfl) (by kernel_rfl)
        obtain ⟨_, g88, rfl⟩ := DP 37 88 (by kernel_rfl) (by kernel_rfl)
        refine wpOp_run rfl (wanted_none rfl) fun K2 hK => ?_
        clear FR DP
        go_simp
        exact hK _ _ ⟨_, 89, rfl, rfl, KR.refl _ _, rfl⟩
      · -- 39: Op.move (Operand.tmp 89)
        obtain ⟨_, g89, rfl⟩ := DP 38 89 (by kernel_rfl) (by kernel_rfl)
        refine wpOp_run rfl (wanted_none rfl) fun K2 hK => ?_
        clear FR DP
        go_simp
        exact hK _ _ ⟨_, 90, rfl, rfl, KR.refl _ _, rfl⟩
      · -- 40: Op.move (Operand.tmp 15)
        obtain ⟨_, g90, rfl⟩ := DP 39 90 (by kernel_rfl) (by kernel_rfl)
        have g15 : a.tmps[15]? = some _ := (FR 15 (by kernel_rfl)).trans rfl
        refine wpOp_run rfl (wanted_true rfl (by kernel_rfl) g90) fun K2 hK => ?_
        clear FR DP
        go_simp
        exact hK _ _ ⟨_, 91, rfl, rfl, KR.refl _ _, rfl⟩
      · -- 41: Op.move (Operand.tmp 18)
        obtain ⟨_, g90, rfl⟩ := DP 39 90 (by kernel_rfl) (by kernel_rfl)
        have g18 : a.tmps[18]? = some _ := (FR 18 (by kernel_rfl)).trans rfl
        refine wpOp_run rfl (wanted_true rfl (by kernel_rfl) g90) fun K2 hK => ?_
        clear FR DP
        go_simp
        exact hK _ _ ⟨_, 92, rfl, rfl, KR.refl _ _, rfl⟩
      · -- 42: Op.binOp BinOp.eql 3 (Operand.tmp 91) (Operand.tmp 92) 3
        obtain ⟨_, g90, rfl⟩ := DP 39 90 (by kernel_rfl) (by kernel_rfl)
        obtain ⟨_, g91, rfl⟩ := DP 40 91 (by kernel_rfl) (by kernel_rfl)
        obtain ⟨_, g92, rfl⟩ := DP 41 92 (by kernel_rfl) (by kernel_rfl)
        refine wpOp_run rfl (wanted_true rfl (by kernel_rfl) g90) fun K2 hK => ?_
        clear FR DP
        go_simp
        exact hK _ _ ⟨_, 93, rfl, rfl, KR.refl _ _, rfl⟩
      · -- 43: Op.pick (Operand.tmp 90) (Operand.tmp 93) (Operand.const (Value.bool f
        obtain ⟨_, g90, rfl⟩ := DP 39 90 (by kernel_rfl) (by kernel_rfl)
        obtain ⟨_, g93, rfl⟩ := DP 42 93 (by kernel_rfl) (by kernel_rfl)
        refine wpOp_run rfl (wanted_none rfl) fun K2 hK => ?_
        clear FR DP
        go_simp
        exact hK _ _ ⟨_, 94, rfl, rfl, KR.refl _ _, rfl⟩
      · -- 44: Op.move (Operand.tmp 94)
        obtain ⟨_, g94, rfl⟩ := DP 43 94 (by kernel_rfl) (by kernel_rfl)
        refine wpOp_run rfl (wanted_none rfl) fun K2 hK => ?_
        clear FR DP
        go_simp
        exact hK _ _ ⟨_, 95, rfl, rfl, KR.refl _ _, rfl⟩
      · -- 45: Op.call { callee := Callee.value (Operand.func 11), args := #[], argTy
        obtain ⟨_, g95, rfl⟩ := DP 44 95 (by kernel_rfl) (by kernel_rfl)
        refine wpOp_run rfl (wanted_true rfl (by kernel_rfl) g95) fun K2 hK => ?_
        clear FR DP
        go_simp
        refine (awake_any _).mono ?_
        rintro _ w3 ⟨rfl, hb3⟩
        exact hK _ _ ⟨_, 96, rfl, rfl, KR.of BW.size hb3, rfl⟩
      · -- 46: Op.pick (Operand.tmp 95) (Operand.tmp 96) (Operand.const (Value.bool f
        obtain ⟨_, g95, rfl⟩ := DP 44 95 (by kernel_rfl) (by kernel_rfl)
        obtain ⟨_, g96, rfl⟩ := DP 45 96 (by kernel_rfl) (by kernel_rfl)
        refine wpOp_run rfl (wanted_none rfl) fun K2 hK => ?_
        clear FR DP
        go_simp
        exact hK _ _ ⟨_, 97, rfl, rfl, KR.refl _ _, rfl⟩
      · -- 47: Op.assign (Operand.tmp 97)
        obtain ⟨_, g97, rfl⟩ := DP 46 97 (by kernel_rfl) (by kernel_rfl)
        refine wpOp_run rfl (wanted_none rfl) fun K2 hK => ?_
        clear FR DP
        go_simp
        exact hK _ _ ⟨_, 6, rfl, rfl, KR.refl _ _, rfl⟩
    · intro a w2 FR DP BW DF AZ
      obtain ⟨_, g6, rfl⟩ := DP 47 6 (by kernel_rfl)
      refine (by assumption : ∀ (a : Act) (w_1 : World), Code.wp Try.prog Code.ret (bodyPost Try.prog Try.f3 (Gives (Value.bool true) w)) a w_1 → _) _ _ ?_
      refine wp_ret (bodyPost_ret (fn := Try.f3) (v := .bool true) (by simp [results, Try.results3, g6]) DF ?_)
      exact Gives.mk rfl BW
end Go.Proofs.Ytcjhgihkofmhgaa
