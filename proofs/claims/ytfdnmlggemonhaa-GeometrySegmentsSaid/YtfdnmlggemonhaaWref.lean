/-
  The functions of package couperef01, each by a contract.
-/
import Derived.Test.YtfdnmlggemonhaaWawake
namespace Go.Proofs.Ytfdnmlggemonhaa
open Go.RowKit
set_option linter.unusedVariables false

theorem parts_any (h l : Int) (h0 : 0 ≤ h) (h1 : h < 18446744073709551616) (l0 : 0 ≤ l) (l1 : l < 18446744073709551616) (w : World) :
    Calls Try.prog 105 #[.int .u64 h, .int .u64 l] w fun e w' => e = .returned (.agg #[.int .u64 (l % 4294967296), .int .u64 (l / 4294967296), .int .u64 (h % 4294967296), .int .u64 (h / 4294967296)]) ∧ w' = w.alloc (.cells #[.int .u64 (l % 4294967296), .int .u64 (l / 4294967296), .int .u64 (h % 4294967296), .int .u64 (h / 4294967296)] 114) := by
  go_enter Try.func105, Try.ntmps105
  go_wp2
  go_returns
  exact ⟨rfl, rfl⟩
theorem size_any (a : Int) (h0 : -9223372036854775808 ≤ a) (h1 : a ≤ 9223372036854775807) (w : World) :
    Calls Try.prog 102 #[.int .i64 a] w fun e w' => e = .returned (.int .u64 (a.natAbs : Int)) ∧ w' = w := by
  by_cases c : a < 0
  · go_enter Try.func102, Try.ntmps102
    go_wp2
    go_ret
    refine ⟨ret_u64 ?_, rfl⟩
    first | omega | (simp only [IntKind.wrap_u64]; omega) | (simp only [IntKind.wrap_u64, wrap64]; omega)
  · go_enter Try.func102, Try.ntmps102
    go_wp2
    go_ret
    refine ⟨ret_u64 ?_, rfl⟩
    omega

theorem or32 {a b : Int} (a0 : 0 ≤ a) (a1 : a < 4294967296) (b0 : 0 ≤ b) (b1 : b < 4294967296) : bits .or .u64 (b * 4294967296) a = b * 4294967296 + a := by
  obtain ⟨a, rfl⟩ := Int.eq_ofNat_of_zero_le a0
  obtain ⟨b, rfl⟩ := Int.eq_ofNat_of_zero_le b0
  have e : ((b : Int) * 4294967296) = ((b * 4294967296 : Nat) : Int) := by omega
  rw [e, bits_or_u64_nat _ _ (by omega) (by omega)]
  have h := Nat.two_pow_add_eq_or_of_lt (show a < 2 ^ 32 by omega) b
  have e2 : b * 4294967296 = 2 ^ 32 * b := by omega
  rw [e2, ← h]
  omega
theorem made_any (s : Bool) (a b c d : Int) (a0 : 0 ≤ a) (a1 : a < 4294967296) (b0 : 0 ≤ b) (b1 : b < 4294967296) (c0 : 0 ≤ c) (c1 : c < 4294967296) (d0 : 0 ≤ d) (d1 : d < 4294967296) (n : Bool) (H L : Int)
    (hH : d * 4294967296 + c = H) (hL : b * 4294967296 + a = L) (hs : Wd.mk' s H L = ⟨n, H, L⟩) (w : World) :
    Calls Try.prog 104 #[.bool s, .agg #[.int .u64 a, .int .u64 b, .int .u64 c, .int .u64 d]] w (Gives (.agg #[.bool n, .int .u64 H, .int .u64 L]) w) := by
  have e1 : bits .or .u64 (d * 4294967296) c = H := by rw [or32 c0 c1 d0 d1, hH]
  have e0 : bits .or .u64 (b * 4294967296) a = L := by rw [or32 a0 a1 b0 b1, hL]
  have H0 : 0 ≤ H := by omega
  have L0 : 0 ≤ L := by omega
  unfold Wd.mk' at hs
  have hn := (Wd.mk.inj hs).1
  clear hs hH hL
  cases s
  · have e : n = false := by rw [← hn]; rfl
    subst e
    go_enter Try.func104, Try.ntmps104
    go_wp2
    go_returns
    exact Gives.mk rfl (by repeat' (first | (with_reducible exact Below.refl _ _) | (with_reducible refine Below.alloc ?_ ?_ _) | (with_reducible refine Below.setCell ?_ ?_ _) | (with_reducible refine Below.drew ?_) | (with_reducible refine Below.trans ?_ (Below.mono (by assumption) ?_)) | (simp; done) | (simp; omega) | omega))
  · by_cases hz : 0 < H
    · have e : n = true := by rw [← hn]; simp; omega
      subst e
      clear hn
      go_enter Try.func104, Try.ntmps104
      go_wp2
      go_returns
      exact Gives.mk rfl (by repeat' (first | (with_reducible exact Below.refl _ _) | (with_reducible refine Below.alloc ?_ ?_ _) | (with_reducible refine Below.setCell ?_ ?_ _) | (with_reducible refine Below.drew ?_) | (with_reducible refine Below.trans ?_ (Below.mono (by assumption) ?_)) | (simp; done) | (simp; omega) | omega))
    · have h0 : H = 0 := by omega
      by_cases lz : 0 < L
      · have e : n = true := by rw [← hn]; simp; omega
        subst e
        clear hn h0
        go_enter Try.func104, Try.ntmps104
        go_wp2
        go_returns
        exact Gives.mk rfl (by repeat' (first | (with_reducible exact Below.refl _ _) | (with_reducible refine Below.alloc ?_ ?_ _) | (with_reducible refine Below.setCell ?_ ?_ _) | (with_reducible refine Below.drew ?_) | (with_reducible refine Below.trans ?_ (Below.mono (by assumption) ?_)) | (simp; done) | (simp; omega) | omega))
      · have e : n = false := by rw [← hn]; simp; omega
        subst e
        clear hn h0
        go_enter Try.func104, Try.ntmps104
        go_wp2
        go_returns
        exact Gives.mk rfl (by repeat' (first | (with_reducible exact Below.refl _ _) | (with_reducible refine Below.alloc ?_ ?_ _) | (with_reducible refine Below.setCell ?_ ?_ _) | (with_reducible refine Below.drew ?_) | (with_reducible refine Below.trans ?_ (Below.mono (by assumption) ?_)) | (simp; done) | (simp; omega) | omega))
/-- Which magnitude is greater. -/
theorem order_any (a b : Bool) (h l h' l' : Int) (l0 : 0 ≤ l) (l1 : l < 18446744073709551616) (l0' : 0 ≤ l') (l1' : l' < 18446744073709551616) (w : World) :
    Calls Try.prog 92 #[.agg #[.bool a, .int .u64 h, .int .u64 l], .agg #[.bool b, .int .u64 h', .int .u64 l']] w fun e w' => e = .returned (.int .i64 (Wd.cmpI (h * 18446744073709551616 + l) (h' * 18446744073709551616 + l'))) ∧ w' = (w.alloc (Obj.cells #[.bool a, .int .u64 h, .int .u64 l] 81)).alloc (Obj.cells #[.bool b, .int .u64 h', .int .u64 l'] 81) := by
  by_cases e1 : h = h'
  · subst e1
    by_cases e2 : l = l'
    · subst e2
      go_enter Try.func92, Try.ntmps92
      go_wp2
      go_ret
      exact ⟨ret_i64 (by unfold Wd.cmpI; simp), rfl⟩
    · have g : (l == l') = false := by simp; exact e2
      by_cases e3 : l < l'
      · go_enter Try.func92, Try.ntmps92
        go_wp2
        go_ret
        exact ⟨ret_i64 (by unfold Wd.cmpI; rw [if_pos (by omega)]), rfl⟩
      · go_enter Try.func92, Try.ntmps92
        go_wp2
        go_ret
        exact ⟨ret_i64 (by unfold Wd.cmpI; rw [if_neg (by omega), if_neg (by omega)]), rfl⟩
  · have g : (h == h') = false := by simp; exact e1
    have g2 : (h != h') = true := by simp; exact e1
    by_cases e3 : h < h'
    · go_enter Try.func92, Try.ntmps92
      go_wp2
      go_ret
      exact ⟨ret_i64 (by unfold Wd.cmpI; rw [if_pos (by omega)]), rfl⟩
    · go_enter Try.func92, Try.ntmps92
      go_wp2
      go_ret
      exact ⟨ret_i64 (by unfold Wd.cmpI; rw [if_neg (by omega), if_neg (by omega)]), rfl⟩
end Go.Proofs.Ytfdnmlggemonhaa
