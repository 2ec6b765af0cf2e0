/-
  The exported functions of package wide, each by a contract: ints, greatest common divisors, comparisons.
-/
import Derived.Test.YtdimncchejbaaaaWquo
namespace Go.Proofs.Ytdimncchejbaaaa
open Go.RowKit
set_option linter.unusedVariables false

theorem tup2 {a b c d : Int} (h1 : a = c) (h2 : b = d) : Value.tuple #[.int .i64 a, .int .i64 b] = .tuple #[.int .i64 c, .int .i64 d] := by rw [h1, h2]
theorem int_any (n : Bool) (h l : Int) (f : Wd.Fits ⟨n, h, l⟩) (v e : Int) (hv : Wd.intS ⟨n, h, l⟩ = (v, e)) (w : World) :
    Calls Try.prog 99 #[.agg #[.bool n, .int .u64 h, .int .u64 l]] w (Gives (.tuple #[.int .i64 v, .int .i64 e]) w) := by
  obtain ⟨⟨b0, b1⟩, ⟨b2, b3⟩⟩ := f
  simp only at b0 b1 b2 b3
  obtain ⟨c, hc⟩ : ∃ c, Wd.chk ⟨n, h, l⟩ = c := ⟨_, rfl⟩
  have ck := fun w => check_any n h l w
  rw [hc] at ck
  unfold Wd.intS at hv
  rw [hc] at hv
  by_cases c0 : c = 0
  · subst c0
    rw [if_neg (by omega)] at hv
    have hT : Wd.toInt ⟨n, h, l⟩ = Wd.sv n (h * 18446744073709551616 + l) := rfl
    rw [hT] at hv
    have V := hid hv
    clear hv hT hc
    by_cases hh : h = 0
    · subst hh
      by_cases hl : 9223372036854775808 < l
      · go_enter Try.func99, Try.ntmps99
        go_wp2_with (go_at_call 107; refine (ck _).mono ?_; rintro e w' ⟨rfl, rfl⟩)
        go_ret2
        have hv := V.out
        rw [if_neg (by unfold Wd.sv; split <;> omega)] at hv
        obtain ⟨rfl, rfl⟩ := Prod.mk.inj hv
        exact Gives.mk rfl (by repeat' (first | (with_reducible exact Below.refl _ _) | (with_reducible refine Below.alloc ?_ ?_ _) | (with_reducible refine Below.setCell ?_ ?_ _) | (with_reducible refine Below.drew ?_) | (with_reducible refine Below.trans ?_ (Below.mono (by assumption) ?_)) | (simp; done) | (simp; omega) | omega))
      · by_cases hl2 : l = 9223372036854775808
        · subst hl2
          cases n
          · go_enter Try.func99, Try.ntmps99
            go_wp2_with (go_at_call 107; refine (ck _).mono ?_; rintro e w' ⟨rfl, rfl⟩)
            go_ret2
            have hv := V.out
            rw [if_neg (by unfold Wd.sv; simp)] at hv
            obtain ⟨rfl, rfl⟩ := Prod.mk.inj hv
            exact Gives.mk rfl (by repeat' (first | (with_reducible exact Below.refl _ _) | (with_reducible refine Below.alloc ?_ ?_ _) | (with_reducible refine Below.setCell ?_ ?_ _) | (with_reducible refine Below.drew ?_) | (with_reducible refine Below.trans ?_ (Below.mono (by assumption) ?_)) | (simp; done) | (simp; omega) | omega))
          · go_enter Try.func99, Try.ntmps99
            go_wp2_with (go_at_call 107; refine (ck _).mono ?_; rintro e w' ⟨rfl, rfl⟩)
            go_ret2
            have hv := V.out
            rw [if_pos (by unfold Wd.sv; simp)] at hv
            obtain ⟨rfl, rfl⟩ := Prod.mk.inj hv
            exact Gives.mk (tup2 (by unfold Wd.sv; simp [wrap64, IntKind.wrap_u64]) rfl) (by repeat' (first | (with_reducible exact Below.refl _ _) | (with_reducible refine Below.alloc ?_ ?_ _) | (with_reducible refine Below.setCell ?_ ?_ _) | (with_reducible refine Below.drew ?_) | (with_reducible refine Below.trans ?_ (Below.mono (by assumption) ?_)) | (simp; done) | (simp; omega) | omega))
        · have hlt : l < 9223372036854775808 := by omega
          have hne : (l == 9223372036854775808) = false := by simp; omega
          clear hl hl2
          cases n
          · go_enter Try.func99, Try.ntmps99
            go_wp2_with (go_at_call 107; refine (ck _).mono ?_; rintro e w' ⟨rfl, rfl⟩)
            go_ret2
            have hv := V.out
            rw [if_pos (by unfold Wd.sv; simp; omega)] at hv
            obtain ⟨rfl, rfl⟩ := Prod.mk.inj hv
            exact Gives.mk (tup2 (by unfold Wd.sv; simp) rfl) (by repeat' (first | (with_reducible exact Below.refl _ _) | (with_reducible refine Below.alloc ?_ ?_ _) | (with_reducible refine Below.setCell ?_ ?_ _) | (with_reducible refine Below.drew ?_) | (with_reducible refine Below.trans ?_ (Below.mono (by assumption) ?_)) | (simp; done) | (simp; omega) | omega))
          · go_enter Try.func99, Try.ntmps99
            go_wp2_with (go_at_call 107; refine (ck _).mono ?_; rintro e w' ⟨rfl, rfl⟩)
            go_ret2
            have hv := V.out
            rw [if_pos (by unfold Wd.sv; simp; omega)] at hv
            obtain ⟨rfl, rfl⟩ := Prod.mk.inj hv
            refine Gives.mk (tup2 ?_ rfl) (by repeat' (first | (with_reducible exact Below.refl _ _) | (with_reducible refine Below.alloc ?_ ?_ _) | (with_reducible refine Below.setCell ?_ ?_ _) | (with_reducible refine Below.drew ?_) | (with_reducible refine Below.trans ?_ (Below.mono (by assumption) ?_)) | (simp; done) | (simp; omega) | omega))
            unfold Wd.sv
            simp only [if_true, IntKind.wrap_u64, wrap64]
            omega
    · go_enter Try.func99, Try.ntmps99
      go_wp2_with (go_at_call 107; refine (ck _).mono ?_; rintro e w' ⟨rfl, rfl⟩)
      go_ret2
      have hv := V.out
      rw [if_neg (by unfold Wd.sv; split <;> omega)] at hv
      obtain ⟨rfl, rfl⟩ := Prod.mk.inj hv
      exact Gives.mk rfl (by repeat' (first | (with_reducible exact Below.refl _ _) | (with_reducible refine Below.alloc ?_ ?_ _) | (with_reducible refine Below.setCell ?_ ?_ _) | (with_reducible refine Below.drew ?_) | (with_reducible refine Below.trans ?_ (Below.mono (by assumption) ?_)) | (simp; done) | (simp; omega) | omega))
  · rw [if_pos c0] at hv
    obtain ⟨rfl, rfl⟩ := Prod.mk.inj hv
    clear hc
    go_enter Try.func99, Try.ntmps99
    go_wp2_with (go_at_call 107; refine (ck _).mono ?_; rintro e w' ⟨rfl, rfl⟩)
    go_ret2
    exact Gives.mk rfl (by repeat' (first | (with_reducible exact Below.refl _ _) | (with_reducible refine Below.alloc ?_ ?_ _) | (with_reducible refine Below.setCell ?_ ?_ _) | (with_reducible refine Below.drew ?_) | (with_reducible refine Below.trans ?_ (Below.mono (by assumption) ?_)) | (simp; done) | (simp; omega) | omega))

/-- The loop of the greatest common divisor. -/
def Gc (G : Nat) (w : World) (v v' : Value) (wr : World) : Prop :=
  ∃ x y : Int, v = .int .u64 x ∧ v' = .int .u64 y ∧ 0 ≤ x ∧ x ≤ 9223372036854775808 ∧ 0 ≤ y ∧ y ≤ 9223372036854775808 ∧ Int.gcd x y = G ∧ Below w.heap.size w wr
theorem gcd_step {x y : Int} (x0 : 0 ≤ x) (y0 : 0 ≤ y) : Int.gcd y (x % y) = Int.gcd x y := by
  obtain ⟨x, rfl⟩ := Int.eq_ofNat_of_zero_le x0
  obtain ⟨y, rfl⟩ := Int.eq_ofNat_of_zero_le y0
  rw [← Int.natCast_emod]
  simp only [Int.gcd_natCast_natCast]
  rw [Nat.gcd_comm y, ← Nat.gcd_rec, Nat.gcd_comm]
theorem gcd_abs (m a : Int) : Int.gcd m a = Int.gcd m (a.natAbs : Int) := by
  simp [Int.gcd]
theorem gcd_bad (n : Bool) (h l a c : Int) (w : World) (c0 : ¬ c = 0)
    (ck : ∀ w : World, Calls Try.prog 107 #[.agg #[.bool n, .int .u64 h, .int .u64 l]] w fun e w' => e = .returned (.int .i64 c) ∧ w' = w.alloc (Obj.cells #[.bool n, .int .u64 h, .int .u64 l] 114)) :
    Calls Try.prog 104 #[.agg #[.bool n, .int .u64 h, .int .u64 l], .int .i64 a] w (Gives (.tuple #[.int .i64 0, .int .i64 c]) w) := by
  go_enter Try.func104, Try.ntmps104
  go_wp2_with (go_at_call 107; refine (ck _).mono ?_; rintro e w' ⟨rfl, rfl⟩)
  go_ret2
  exact Gives.mk rfl (by repeat' (first | (with_reducible exact Below.refl _ _) | (with_reducible refine Below.alloc ?_ ?_ _) | (with_reducible refine Below.setCell ?_ ?_ _) | (with_reducible refine Below.drew ?_) | (with_reducible refine Below.trans ?_ (Below.mono (by assumption) ?_)) | (simp; done) | (simp; omega) | omega))
theorem gcd_zero (n : Bool) (h l v e : Int) (w : World)
    (ck : ∀ w : World, Calls Try.prog 107 #[.agg #[.bool n, .int .u64 h, .int .u64 l]] w fun e w' => e = .returned (.int .i64 0) ∧ w' = w.alloc (Obj.cells #[.bool n, .int .u64 h, .int .u64 l] 114))
    (it : ∀ w : World, Calls Try.prog 99 #[.agg #[.bool false, .int .u64 h, .int .u64 l]] w (Gives (.tuple #[.int .i64 v, .int .i64 e]) w)) :
    Calls Try.prog 104 #[.agg #[.bool n, .int .u64 h, .int .u64 l], .int .i64 0] w (Gives (.tuple #[.int .i64 v, .int .i64 e]) w) := by
  go_enter Try.func104, Try.ntmps104
  go_wp2_with (first | (go_at_call 107; refine (ck _).mono ?_; rintro e w' ⟨rfl, rfl⟩) | (go_at_call 99; refine (it _).mono ?_; rintro e w' ⟨rfl, hb⟩))
  go_ret2
  exact Gives.mk rfl (by repeat' (first | (with_reducible exact Below.refl _ _) | (with_reducible refine Below.alloc ?_ ?_ _) | (with_reducible refine Below.setCell ?_ ?_ _) | (with_reducible refine Below.drew ?_) | (with_reducible refine Below.trans ?_ (Below.mono (by assumption) ?_)) | (simp; done) | (simp; omega) | omega))
set_option maxHeartbeats 400000 in
theorem gcd_walk (n : Bool) (h l a f q1 q2 r : Int) (G : Nat) (v e : Int) (w : World) (g : (a == 0) = false) (f0 : 1 ≤ f) (f1 : f ≤ 9223372036854775808) (r0 : 0 ≤ r) (r1 : r < f) (hG : Int.gcd f r = G)
    (ck : ∀ w : World, Calls Try.prog 107 #[.agg #[.bool n, .int .u64 h, .int .u64 l]] w fun e w' => e = .returned (.int .i64 0) ∧ w' = w.alloc (Obj.cells #[.bool n, .int .u64 h, .int .u64 l] 114))
    (ma : ∀ w : World, Calls Try.prog 101 #[.int .i64 a] w fun e w' => e = .returned (.int .u64 f) ∧ w' = w)
    (dv : ∀ w : World, Calls Try.prog 110 #[.int .u64 h, .int .u64 l, .int .u64 f] w (Gives (.tuple #[.int .u64 q1, .int .u64 q2, .int .u64 r]) w))
    (sg : ∀ w : World, Calls Try.prog 102 #[.bool false, .int .u64 0, .int .u64 (G : Int)] w fun e w' => e = .returned (.agg #[.bool false, .int .u64 0, .int .u64 (G : Int)]) ∧ w' = w.alloc (Obj.cells #[.bool false, .int .u64 0, .int .u64 (G : Int)] 114))
    (it : ∀ w : World, Calls Try.prog 99 #[.agg #[.bool false, .int .u64 0, .int .u64 (G : Int)]] w (Gives (.tuple #[.int .i64 v, .int .i64 e]) w)) :
    Calls Try.prog 104 #[.agg #[.bool n, .int .u64 h, .int .u64 l], .int .i64 a] w (Gives (.tuple #[.int .i64 v, .int .i64 e]) w) := by
  have HG := hid hG
  clear hG
  go_enter Try.func104, Try.ntmps104
  go_wp2_with (first | (go_at_call 107; refine (ck _).mono ?_; rintro e w' ⟨rfl, rfl⟩) | (go_at_call 101; refine (ma _).mono ?_; rintro e w' ⟨rfl, rfl⟩) | (go_at_call 110; refine (dv _).mono ?_; rintro e w1 ⟨rfl, hb⟩))
  have hB : Below w.heap.size w w1 := (by repeat' (first | (with_reducible exact Below.refl _ _) | (with_reducible refine Below.alloc ?_ ?_ _) | (with_reducible refine Below.setCell ?_ ?_ _) | (with_reducible refine Below.drew ?_) | (with_reducible refine Below.trans ?_ (Below.mono (by assumption) ?_)) | (simp; done) | (simp; omega) | omega))
  clear hb
  go_loopw [7, 10] (fun v v' wr => Gc G w v v' wr) (fun _ v _ => (intOf v).toNat)
  case atStart => exact ⟨f, r, rfl, rfl, by omega, f1, r0, by omega, HG.out, hB⟩
  case round =>
    obtain ⟨x, y, rfl, rfl, x0, x1, y0, y1, hg, hBr⟩ := hrel
    have GH := hid hg
    clear hg
    by_cases hy : y = 0
    · subst hy
      have hx : x = (G : Int) := by
        have := GH.out
        rw [Int.gcd_zero_right] at this
        omega
      subst hx
      go_wp2_with (first | (go_at_call 102; refine (sg _).mono ?_; rintro e w' ⟨rfl, rfl⟩) | (go_at_call 99; refine (it _).mono ?_; rintro e w2 ⟨rfl, hb⟩))
      go_ret2
      have hsz := hBr.size
      exact Gives.mk rfl (hBr.trans (by repeat' (first | (with_reducible exact Below.refl _ _) | (with_reducible refine Below.alloc ?_ ?_ _) | (with_reducible refine Below.setCell ?_ ?_ _) | (with_reducible refine Below.drew ?_) | (with_reducible refine Below.trans ?_ (Below.mono (by assumption) ?_)) | (simp; done) | (simp; omega) | omega)))
    · have hy1 : 1 ≤ y := by omega
      have gy : (y == 0) = false := by simp; exact hy
      have gyn : (y != 0) = true := by simp; exact hy
      have m0 := Int.emod_nonneg x hy
      have m1 := Int.emod_lt_of_pos x (show 0 < y by omega)
      have st := hid (gcd_step (x := x) x0 y0)
      go_wp2
      go_quiet (fail)
      go_wp2
      go_roundw
      case rel => exact ⟨y, x % y, rfl, rfl, by omega, by omega, by omega, by omega, by rw [st.out]; exact GH.out, hBr.trans ((below_drewN _).mono hBr.size)⟩
      case measure => simp [intOf]; omega

theorem gcd_any (n : Bool) (h l a : Int) (F : Wd.Fits ⟨n, h, l⟩) (a0 : -9223372036854775808 ≤ a) (a1 : a ≤ 9223372036854775807) (v e : Int)
    (hv : Wd.gcdS ⟨n, h, l⟩ a = (v, e)) (w : World) :
    Calls Try.prog 104 #[.agg #[.bool n, .int .u64 h, .int .u64 l], .int .i64 a] w (Gives (.tuple #[.int .i64 v, .int .i64 e]) w) := by
  have F' := F
  obtain ⟨⟨b0, b1⟩, ⟨b2, b3⟩⟩ := F
  simp only at b0 b1 b2 b3
  obtain ⟨c, hc⟩ : ∃ c, Wd.chk ⟨n, h, l⟩ = c := ⟨_, rfl⟩
  have ck := fun w => check_any n h l w
  rw [hc] at ck
  unfold Wd.gcdS at hv
  rw [hc] at hv
  by_cases c0 : c = 0
  · subst c0
    rw [if_neg (by omega)] at hv
    have hh := chk_of hc
    have hchk : ∀ l', Wd.chk ⟨false, h, l'⟩ = 0 := fun l' => by
      unfold Wd.chk; rw [if_neg (by simp only; omega), if_neg (by simp)]
    have hm : Wd.mag ⟨n, h, l⟩ = h * 18446744073709551616 + l := rfl
    rw [hm] at hv
    by_cases az : a = 0
    · subst az
      have hi : Wd.intS ⟨false, h, l⟩ = (v, e) := by
        rw [← hv]
        unfold Wd.intS
        rw [hchk l, if_neg (by omega), Int.gcd_zero_right]
        have hT : Wd.toInt ⟨false, h, l⟩ = h * 18446744073709551616 + l := rfl
        rw [hT]
        have hna : ((h * 18446744073709551616 + l).natAbs : Int) = h * 18446744073709551616 + l := by omega
        by_cases hb : h * 18446744073709551616 + l ≤ 9223372036854775807
        · rw [if_pos (by omega), if_pos (by omega), hna]
        · rw [if_neg (by omega), if_neg (by omega)]
      exact gcd_zero n h l v e w ck (fun w => int_any false h l ⟨⟨b0, b1⟩, ⟨b2, b3⟩⟩ v e hi w)
    · have ma := fun w => magnitude_any a a0 a1 w
      rw [gcd_abs] at hv
      obtain ⟨f, hf⟩ : ∃ f : Int, (a.natAbs : Int) = f := ⟨_, rfl⟩
      rw [hf] at ma hv
      obtain ⟨q1, ha⟩ : ∃ x, (h * 18446744073709551616 + l) / f / 18446744073709551616 = x := ⟨_, rfl⟩
      obtain ⟨q2, hb⟩ : ∃ x, (h * 18446744073709551616 + l) / f % 18446744073709551616 = x := ⟨_, rfl⟩
      obtain ⟨r, hr⟩ : ∃ x, (h * 18446744073709551616 + l) % f = x := ⟨_, rfl⟩
      have dv := fun w => divide_any h l f b0 b1 b2 b3 (by omega) (by omega) q1 q2 r ha hb hr w
      have r0 := Int.emod_nonneg (h * 18446744073709551616 + l) (show f ≠ 0 by omega)
      have r1 := Int.emod_lt_of_pos (h * 18446744073709551616 + l) (show 0 < f by omega)
      have st := gcd_step (x := h * 18446744073709551616 + l) (y := f) (by omega) (by omega)
      rw [hr] at r0 r1 st
      rw [← st] at hv
      obtain ⟨G, hG⟩ : ∃ G, Int.gcd f r = G := ⟨_, rfl⟩
      rw [hG] at hv
      have hGle : (G : Int) ≤ f := by
        have := Int.gcd_le_left (a := f) r (by omega)
        rw [hG] at this; exact this
      have m := fun w => signed_any false 0 (G : Int) (by omega) (by omega) (by omega) (by omega) false rfl w
      have hi : Wd.intS ⟨false, 0, (G : Int)⟩ = (v, e) := by
        rw [← hv]
        unfold Wd.intS
        have hck : Wd.chk ⟨false, 0, (G : Int)⟩ = 0 := by unfold Wd.chk; simp
        have hT : Wd.toInt ⟨false, 0, (G : Int)⟩ = (G : Int) := by unfold Wd.toInt Wd.sv Wd.mag; simp
        rw [hck, if_neg (by omega), hT]
        by_cases hb : (G : Int) ≤ 9223372036854775807
        · rw [if_pos (by omega), if_pos (by omega)]
        · rw [if_neg (by omega), if_neg (by omega)]
      have it := fun w => int_any false 0 (G : Int) (by unfold Wd.Fits; simp only; omega) v e hi w
      exact gcd_walk n h l a f q1 q2 r G v e w (by simp; exact az) (by omega) (by omega) r0 r1 hG ck ma dv m it
  · rw [if_pos c0] at hv
    obtain ⟨rfl, rfl⟩ := Prod.mk.inj hv
    exact gcd_bad n h l a c w c0 ck
end Go.Proofs.Ytdimncchejbaaaa
