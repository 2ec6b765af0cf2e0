/-
  The functions of package couperef01, each by a contract: Of, Int, Gcd.
-/
import Derived.Test.YthfnblifefnfmaaWrefdiv
import Derived.Test.YthfnblifefnfmaaWrefadd3
import Derived.Test.YthfnblifefnfmaaWint
namespace Go.Proofs.Ythfnblifefnfmaa
open Go.RowKit
set_option linter.unusedVariables false
set_option linter.unusedSimpArgs false

/-- The division, its quotient and rest as ints. -/
theorem rdivide_any (n : Bool) (h l d : Int) (h0 : 0 ≤ h) (h1 : h < 9223372036854775808) (l0 : 0 ≤ l) (l1 : l < 18446744073709551616) (d0 : 0 < d) (d1 : d ≤ 9223372036854775808)
    (a b r : Int) (ha : (h * 18446744073709551616 + l) / d / 18446744073709551616 = a) (hb : (h * 18446744073709551616 + l) / d % 18446744073709551616 = b) (hr : (h * 18446744073709551616 + l) % d = r) (w : World) :
    Calls Try.prog 43 #[.agg #[.bool n, .int .u64 h, .int .u64 l], .int .u64 d] w (Gives (.tuple #[.agg #[.bool false, .int .u64 a, .int .u64 b], .int .u64 r]) w) := by
  obtain ⟨M, hM⟩ := Int.eq_ofNat_of_zero_le (show 0 ≤ h * 18446744073709551616 + l by omega)
  obtain ⟨D, rfl⟩ := Int.eq_ofNat_of_zero_le (show 0 ≤ d by omega)
  have e1 : (M : Int) / (D : Int) = ((M / D : Nat) : Int) := by simp
  have e2 : (M : Int) % (D : Int) = ((M % D : Nat) : Int) := by simp
  rw [hM] at ha hb hr
  rw [e1] at ha hb
  rw [e2] at hr
  exact rdivide_walk n h l (D : Int) M D h0 h1 l0 l1 hM rfl d0 d1 a b r (by omega) (by omega) (by omega) hr.symm w
theorem rwInt_any (n : Bool) (h l : Int) (f : Wd.Fits ⟨n, h, l⟩) (v e : Int) (hv : Wd.intS ⟨n, h, l⟩ = (v, e)) (w : World) :
    Calls Try.prog 9 #[.agg #[.bool n, .int .u64 h, .int .u64 l]] w (Gives (.tuple #[.int .i64 v, .int .i64 e]) w) := by
  obtain ⟨⟨b0, b1⟩, ⟨b2, b3⟩⟩ := f
  simp only at b0 b1 b2 b3
  obtain ⟨c, hc⟩ : ∃ c, Wd.chk ⟨n, h, l⟩ = c := ⟨_, rfl⟩
  have ck := fun w => refCheck_any n h l w b0 b2
  rw [hc] at ck
  unfold Wd.intS at hv
  rw [hc] at hv
  by_cases c0 : c = 0
  · subst c0
    rw [if_neg (by omega)] at hv
    have hT : Wd.toInt ⟨n, h, l⟩ = Wd.sv n (h * 18446744073709551616 + l) := rfl
    rw [hT] at hv
    have V := hid hv
    clear hv hT hc
    by_cases hh : h = 0
    · subst hh
      by_cases hl : 9223372036854775808 < l
      · go_enter Try.func9, Try.ntmps9
        go_wp2_with (go_at_call 11; refine (ck _).mono ?_; rintro e w' ⟨rfl, rfl⟩)
        go_ret2
        have hv := V.out
        rw [if_neg (by unfold Wd.sv; split <;> omega)] at hv
        obtain ⟨rfl, rfl⟩ := Prod.mk.inj hv
        exact Gives.mk rfl (by repeat' (first | (with_reducible exact Below.refl _ _) | (with_reducible refine Below.alloc ?_ ?_ _) | (with_reducible refine Below.setCell ?_ ?_ _) | (with_reducible refine Below.drew ?_) | (with_reducible refine Below.trans ?_ (Below.mono (by assumption) ?_)) | (simp; done) | (simp; omega) | omega))
      · by_cases hl2 : l = 9223372036854775808
        · subst hl2
          cases n
          · go_enter Try.func9, Try.ntmps9
            go_wp2_with (go_at_call 11; refine (ck _).mono ?_; rintro e w' ⟨rfl, rfl⟩)
            go_ret2
            have hv := V.out
            rw [if_neg (by unfold Wd.sv; simp)] at hv
            obtain ⟨rfl, rfl⟩ := Prod.mk.inj hv
            exact Gives.mk rfl (by repeat' (first | (with_reducible exact Below.refl _ _) | (with_reducible refine Below.alloc ?_ ?_ _) | (with_reducible refine Below.setCell ?_ ?_ _) | (with_reducible refine Below.drew ?_) | (with_reducible refine Below.trans ?_ (Below.mono (by assumption) ?_)) | (simp; done) | (simp; omega) | omega))
          · go_enter Try.func9, Try.ntmps9
            go_wp2_with (go_at_call 11; refine (ck _).mono ?_; rintro e w' ⟨rfl, rfl⟩)
            go_ret2
            have hv := V.out
            rw [if_pos (by unfold Wd.sv; simp)] at hv
            obtain ⟨rfl, rfl⟩ := Prod.mk.inj hv
            exact Gives.mk (tup2 (by unfold Wd.sv; simp [wrap64, IntKind.wrap_u64]) rfl) (by repeat' (first | (with_reducible exact Below.refl _ _) | (with_reducible refine Below.alloc ?_ ?_ _) | (with_reducible refine Below.setCell ?_ ?_ _) | (with_reducible refine Below.drew ?_) | (with_reducible refine Below.trans ?_ (Below.mono (by assumption) ?_)) | (simp; done) | (simp; omega) | omega))
        · have hlt : l < 9223372036854775808 := by omega
          have hne : (l == 9223372036854775808) = false := by simp; omega
          clear hl hl2
          cases n
          · go_enter Try.func9, Try.ntmps9
            go_wp2_with (go_at_call 11; refine (ck _).mono ?_; rintro e w' ⟨rfl, rfl⟩)
            go_ret2
            have hv := V.out
            rw [if_pos (by unfold Wd.sv; simp; omega)] at hv
            obtain ⟨rfl, rfl⟩ := Prod.mk.inj hv
            exact Gives.mk (tup2 (by unfold Wd.sv; simp) rfl) (by repeat' (first | (with_reducible exact Below.refl _ _) | (with_reducible refine Below.alloc ?_ ?_ _) | (with_reducible refine Below.setCell ?_ ?_ _) | (with_reducible refine Below.drew ?_) | (with_reducible refine Below.trans ?_ (Below.mono (by assumption) ?_)) | (simp; done) | (simp; omega) | omega))
          · go_enter Try.func9, Try.ntmps9
            go_wp2_with (go_at_call 11; refine (ck _).mono ?_; rintro e w' ⟨rfl, rfl⟩)
            go_ret2
            have hv := V.out
            rw [if_pos (by unfold Wd.sv; simp; omega)] at hv
            obtain ⟨rfl, rfl⟩ := Prod.mk.inj hv
            refine Gives.mk (tup2 ?_ rfl) (by repeat' (first | (with_reducible exact Below.refl _ _) | (with_reducible refine Below.alloc ?_ ?_ _) | (with_reducible refine Below.setCell ?_ ?_ _) | (with_reducible refine Below.drew ?_) | (with_reducible refine Below.trans ?_ (Below.mono (by assumption) ?_)) | (simp; done) | (simp; omega) | omega))
            unfold Wd.sv
            simp only [if_true, IntKind.wrap_u64, wrap64]
            omega
    · go_enter Try.func9, Try.ntmps9
      go_wp2_with (go_at_call 11; refine (ck _).mono ?_; rintro e w' ⟨rfl, rfl⟩)
      go_ret2
      have hv := V.out
      rw [if_neg (by unfold Wd.sv; split <;> omega)] at hv
      obtain ⟨rfl, rfl⟩ := Prod.mk.inj hv
      exact Gives.mk rfl (by repeat' (first | (with_reducible exact Below.refl _ _) | (with_reducible refine Below.alloc ?_ ?_ _) | (with_reducible refine Below.setCell ?_ ?_ _) | (with_reducible refine Below.drew ?_) | (with_reducible refine Below.trans ?_ (Below.mono (by assumption) ?_)) | (simp; done) | (simp; omega) | omega))
  · rw [if_pos c0] at hv
    obtain ⟨rfl, rfl⟩ := Prod.mk.inj hv
    clear hc
    go_enter Try.func9, Try.ntmps9
    go_wp2_with (go_at_call 11; refine (ck _).mono ?_; rintro e w' ⟨rfl, rfl⟩)
    go_ret2
    exact Gives.mk rfl (by repeat' (first | (with_reducible exact Below.refl _ _) | (with_reducible refine Below.alloc ?_ ?_ _) | (with_reducible refine Below.setCell ?_ ?_ _) | (with_reducible refine Below.drew ?_) | (with_reducible refine Below.trans ?_ (Below.mono (by assumption) ?_)) | (simp; done) | (simp; omega) | omega))

theorem rwgcd_bad (n : Bool) (h l a c : Int) (w : World) (c0 : ¬ c = 0)
    (ck : ∀ w : World, Calls Try.prog 11 #[.agg #[.bool n, .int .u64 h, .int .u64 l]] w fun e w' => e = .returned (.int .i64 c) ∧ w' = w.alloc (Obj.cells #[.bool n, .int .u64 h, .int .u64 l] 24)) :
    Calls Try.prog 28 #[.agg #[.bool n, .int .u64 h, .int .u64 l], .int .i64 a] w (Gives (.tuple #[.int .i64 0, .int .i64 c]) w) := by
  go_enter Try.func28, Try.ntmps28
  go_wp2_with (go_at_call 11; refine (ck _).mono ?_; rintro e w' ⟨rfl, rfl⟩)
  go_ret2
  exact Gives.mk rfl (by repeat' (first | (with_reducible exact Below.refl _ _) | (with_reducible refine Below.alloc ?_ ?_ _) | (with_reducible refine Below.setCell ?_ ?_ _) | (with_reducible refine Below.drew ?_) | (with_reducible refine Below.trans ?_ (Below.mono (by assumption) ?_)) | (simp; done) | (simp; omega) | omega))
theorem rwgcd_zero (n : Bool) (h l v e : Int) (w : World)
    (ck : ∀ w : World, Calls Try.prog 11 #[.agg #[.bool n, .int .u64 h, .int .u64 l]] w fun e w' => e = .returned (.int .i64 0) ∧ w' = w.alloc (Obj.cells #[.bool n, .int .u64 h, .int .u64 l] 24))
    (it : ∀ w : World, Calls Try.prog 9 #[.agg #[.bool false, .int .u64 h, .int .u64 l]] w (Gives (.tuple #[.int .i64 v, .int .i64 e]) w)) :
    Calls Try.prog 28 #[.agg #[.bool n, .int .u64 h, .int .u64 l], .int .i64 0] w (Gives (.tuple #[.int .i64 v, .int .i64 e]) w) := by
  go_enter Try.func28, Try.ntmps28
  go_wp2_with (first | (go_at_call 11; refine (ck _).mono ?_; rintro e w' ⟨rfl, rfl⟩) | (go_at_call 9; refine (it _).mono ?_; rintro e w' ⟨rfl, hb⟩))
  go_ret2
  exact Gives.mk rfl (by repeat' (first | (with_reducible exact Below.refl _ _) | (with_reducible refine Below.alloc ?_ ?_ _) | (with_reducible refine Below.setCell ?_ ?_ _) | (with_reducible refine Below.drew ?_) | (with_reducible refine Below.trans ?_ (Below.mono (by assumption) ?_)) | (simp; done) | (simp; omega) | omega))
set_option maxRecDepth 100000 in
set_option maxHeartbeats 4000000 in
theorem rwgcd_walk (n : Bool) (h l a f q1 q2 r : Int) (G : Nat) (v e : Int) (w : World) (g : (a == 0) = false) (f0 : 1 ≤ f) (f1 : f ≤ 9223372036854775808) (r0 : 0 ≤ r) (r1 : r < f) (hG : Int.gcd f r = G)
    (hv : (if (G : Int) < 9223372036854775808 then ((G : Int), (0 : Int)) else (0, 8)) = (v, e))
    (ck : ∀ w : World, Calls Try.prog 11 #[.agg #[.bool n, .int .u64 h, .int .u64 l]] w fun e w' => e = .returned (.int .i64 0) ∧ w' = w.alloc (Obj.cells #[.bool n, .int .u64 h, .int .u64 l] 24))
    (ma : ∀ w : World, Calls Try.prog 41 #[.int .i64 a] w fun e w' => e = .returned (.int .u64 f) ∧ w' = w)
    (dv : ∀ w : World, Calls Try.prog 43 #[.agg #[.bool n, .int .u64 h, .int .u64 l], .int .u64 f] w (Gives (.tuple #[.agg #[.bool false, .int .u64 q1, .int .u64 q2], .int .u64 r]) w)) :
    Calls Try.prog 28 #[.agg #[.bool n, .int .u64 h, .int .u64 l], .int .i64 a] w (Gives (.tuple #[.int .i64 v, .int .i64 e]) w) := by
  have HG := hid hG
  have HV := hid hv
  clear hG hv
  go_enter Try.func28, Try.ntmps28
  go_wp2_with (first | (go_at_call 11; refine (ck _).mono ?_; rintro e w' ⟨rfl, rfl⟩) | (go_at_call 41; refine (ma _).mono ?_; rintro e w' ⟨rfl, rfl⟩) | (go_at_call 43; refine (dv _).mono ?_; rintro e w1 ⟨rfl, hb⟩))
  have hB : Below w.heap.size w w1 := (by repeat' (first | (with_reducible exact Below.refl _ _) | (with_reducible refine Below.alloc ?_ ?_ _) | (with_reducible refine Below.setCell ?_ ?_ _) | (with_reducible refine Below.drew ?_) | (with_reducible refine Below.trans ?_ (Below.mono (by assumption) ?_)) | (simp; done) | (simp; omega) | omega))
  clear hb
  go_loopw [7, 9] (fun v v' wr => Gc G w v v' wr) (fun _ v _ => (intOf v).toNat)
  case atStart => exact ⟨f, r, rfl, rfl, by omega, f1, r0, by omega, HG.out, by have hz := hB.size; exact Below.trans hB (by repeat' (first | (with_reducible exact Below.refl _ _) | (with_reducible refine Below.alloc ?_ ?_ _) | (with_reducible refine Below.setCell ?_ ?_ _) | (with_reducible refine Below.drew ?_) | (with_reducible refine Below.trans ?_ (Below.mono (by assumption) ?_)) | (simp; done) | (simp; omega) | omega))⟩
  case round =>
    obtain ⟨x, y, rfl, rfl, x0, x1, y0, y1, hg, hBr⟩ := hrel
    have GH := hid hg
    clear hg hB g ck ma dv
    by_cases hy : ¬ 0 < y
    · have hx : x = (G : Int) := by
        have := GH.out
        have y00 : y = 0 := by omega
        rw [y00, Int.gcd_zero_right] at this
        omega
      have HX := hid hx
      clear hx
      by_cases hlt : x < 9223372036854775808
      · have hge : ¬ 9223372036854775808 ≤ x := by omega
        have xl : x ≤ 9223372036854775807 := by omega
        clear x1
        go_wp2
        go_ret2
        have hv := HV.out
        rw [if_pos (by rw [← HX.out]; exact hlt), ← HX.out] at hv
        obtain ⟨rfl, rfl⟩ := Prod.mk.inj hv
        have hsz := hBr.size
        exact Gives.mk (by first | rfl | (refine tup2 ?_ rfl; simp [wrap64]; omega)) (hBr.trans (by repeat' (first | (with_reducible exact Below.refl _ _) | (with_reducible refine Below.alloc ?_ ?_ _) | (with_reducible refine Below.setCell ?_ ?_ _) | (with_reducible refine Below.drew ?_) | (with_reducible refine Below.trans ?_ (Below.mono (by assumption) ?_)) | (simp; done) | (simp; omega) | omega)))
      · have hge : 9223372036854775808 ≤ x := by omega
        clear x1
        go_wp2
        go_ret2
        have hv := HV.out
        rw [if_neg (by rw [← HX.out]; omega)] at hv
        obtain ⟨rfl, rfl⟩ := Prod.mk.inj hv
        have hsz := hBr.size
        exact Gives.mk rfl (hBr.trans (by repeat' (first | (with_reducible exact Below.refl _ _) | (with_reducible refine Below.alloc ?_ ?_ _) | (with_reducible refine Below.setCell ?_ ?_ _) | (with_reducible refine Below.drew ?_) | (with_reducible refine Below.trans ?_ (Below.mono (by assumption) ?_)) | (simp; done) | (simp; omega) | omega)))
    · have hy1 : 0 < y := by omega
      have gy : (y == 0) = false := by simp; omega
      have hy : ¬ y = 0 := by omega
      have m0 := Int.emod_nonneg x hy
      have m1 := Int.emod_lt_of_pos x (show 0 < y by omega)
      have st := hid (gcd_step (x := x) x0 y0)
      go_wp2
      go_quiet (fail)
      go_wp2
      go_roundw
      case rel => exact ⟨y, x % y, rfl, rfl, by omega, by omega, by omega, by omega, by rw [st.out]; exact GH.out, hBr.trans ((below_drewN _).mono hBr.size)⟩
      case measure => simp [intOf]; omega
theorem rwgcd_any (n : Bool) (h l a : Int) (F : Wd.Fits ⟨n, h, l⟩) (a0 : -9223372036854775808 ≤ a) (a1 : a ≤ 9223372036854775807) (v e : Int)
    (hv : Wd.gcdS ⟨n, h, l⟩ a = (v, e)) (w : World) :
    Calls Try.prog 28 #[.agg #[.bool n, .int .u64 h, .int .u64 l], .int .i64 a] w (Gives (.tuple #[.int .i64 v, .int .i64 e]) w) := by
  have F' := F
  obtain ⟨⟨b0, b1⟩, ⟨b2, b3⟩⟩ := F
  simp only at b0 b1 b2 b3
  obtain ⟨c, hc⟩ : ∃ c, Wd.chk ⟨n, h, l⟩ = c := ⟨_, rfl⟩
  have ck := fun w => refCheck_any n h l w b0 b2
  rw [hc] at ck
  unfold Wd.gcdS at hv
  rw [hc] at hv
  by_cases c0 : c = 0
  · subst c0
    rw [if_neg (by omega)] at hv
    have hh := chk_of hc
    have hchk : ∀ l', Wd.chk ⟨false, h, l'⟩ = 0 := fun l' => by
      unfold Wd.chk; rw [if_neg (by simp only; omega), if_neg (by simp)]
    have hm : Wd.mag ⟨n, h, l⟩ = h * 18446744073709551616 + l := rfl
    rw [hm] at hv
    by_cases az : a = 0
    · subst az
      have hi : Wd.intS ⟨false, h, l⟩ = (v, e) := by
        rw [← hv]
        unfold Wd.intS
        rw [hchk l, if_neg (by omega), Int.gcd_zero_right]
        have hT : Wd.toInt ⟨false, h, l⟩ = h * 18446744073709551616 + l := rfl
        rw [hT]
        have hna : ((h * 18446744073709551616 + l).natAbs : Int) = h * 18446744073709551616 + l := by omega
        by_cases hb : h * 18446744073709551616 + l ≤ 9223372036854775807
        · rw [if_pos (by omega), if_pos (by omega), hna]
        · rw [if_neg (by omega), if_neg (by omega)]
      exact rwgcd_zero n h l v e w ck (fun w => rwInt_any false h l ⟨⟨b0, b1⟩, ⟨b2, b3⟩⟩ v e hi w)
    · have ma := fun w => size_any a a0 a1 w
      rw [gcd_abs] at hv
      obtain ⟨f, hf⟩ : ∃ f : Int, (a.natAbs : Int) = f := ⟨_, rfl⟩
      rw [hf] at ma hv
      obtain ⟨q1, ha⟩ : ∃ x, (h * 18446744073709551616 + l) / f / 18446744073709551616 = x := ⟨_, rfl⟩
      obtain ⟨q2, hb⟩ : ∃ x, (h * 18446744073709551616 + l) / f % 18446744073709551616 = x := ⟨_, rfl⟩
      obtain ⟨r, hr⟩ : ∃ x, (h * 18446744073709551616 + l) % f = x := ⟨_, rfl⟩
      have dv := fun w => rdivide_any n h l f b0 (by omega) b2 b3 (by omega) (by omega) q1 q2 r ha hb hr w
      have r0 := Int.emod_nonneg (h * 18446744073709551616 + l) (show f ≠ 0 by omega)
      have r1 := Int.emod_lt_of_pos (h * 18446744073709551616 + l) (show 0 < f by omega)
      have st := gcd_step (x := h * 18446744073709551616 + l) (y := f) (by omega) (by omega)
      rw [hr] at r0 r1 st
      rw [← st] at hv
      obtain ⟨G, hG⟩ : ∃ G, Int.gcd f r = G := ⟨_, rfl⟩
      rw [hG] at hv
      have hv' : (if (G : Int) < 9223372036854775808 then ((G : Int), (0 : Int)) else (0, 8)) = (v, e) := by
        rw [← hv]
        by_cases c : (G : Int) < 9223372036854775808
        · rw [if_pos c, if_pos (by omega)]
        · rw [if_neg c, if_neg (by omega)]
      exact rwgcd_walk n h l a f q1 q2 r G v e w (by simp; exact az) (by omega) (by omega) r0 r1 hG hv' ck ma dv
  · rw [if_pos c0] at hv
    obtain ⟨rfl, rfl⟩ := Prod.mk.inj hv
    exact rwgcd_bad n h l a c w c0 ck

end Go.Proofs.Ythfnblifefnfmaa
