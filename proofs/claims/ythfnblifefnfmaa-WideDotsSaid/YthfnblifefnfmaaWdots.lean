/-
  WideDots: the walk.
-/
import Derived.Test.YthfnblifefnfmaaWrefdot
import Derived.Test.YthfnblifefnfmaaWslice
import Derived.Test.YthfnblifefnfmaaWawake
namespace Go.Proofs.Ythfnblifefnfmaa
open Go.RowKit
set_option linter.unusedVariables false
set_option linter.unusedSimpArgs false

def dotS (xs ys : List Int) : Wd × Int := if ¬ xs.length = ys.length then (Wd.zero, 1) else if 1000 < xs.length then (Wd.zero, 8) else Wd.dotGo 0 xs ys

theorem wdot_unequal (p q : Option Addr) (la lb ca cb : Nat) (hn : ¬ (la : Int) = (lb : Int)) (w : World) :
    Calls Try.prog 29 #[.slice p la ca, .slice q lb cb] w (Gives (.tuple #[.agg #[.bool false, .int .u64 0, .int .u64 0], .int .i64 1]) w) := by
  have h1 : ((la : Int) == (lb : Int)) = false := by simpa using hn
  go_enter Try.func29, Try.ntmps29
  go_wp2
  go_returns
  exact Gives.mk rfl (by repeat' (first | (with_reducible exact Below.refl _ _) | (with_reducible refine Below.alloc ?_ ?_ _) | (with_reducible refine Below.setCell ?_ ?_ _) | (with_reducible refine Below.drew ?_) | (with_reducible refine Below.trans ?_ (Below.mono (by assumption) ?_)) | (simp; done) | (simp; omega) | omega))
theorem rdot_unequal (p q : Option Addr) (la lb ca cb : Nat) (hn : ¬ (la : Int) = (lb : Int)) (w : World) :
    Calls Try.prog 30 #[.slice p la ca, .slice q lb cb] w (Gives (.tuple #[.agg #[.bool false, .int .u64 0, .int .u64 0], .int .i64 1]) w) := by
  have h1 : ((la : Int) == (lb : Int)) = false := by simpa using hn
  go_enter Try.func30, Try.ntmps30
  go_wp2
  go_returns
  exact Gives.mk rfl (by repeat' (first | (with_reducible exact Below.refl _ _) | (with_reducible refine Below.alloc ?_ ?_ _) | (with_reducible refine Below.setCell ?_ ?_ _) | (with_reducible refine Below.drew ?_) | (with_reducible refine Below.trans ?_ (Below.mono (by assumption) ?_)) | (simp; done) | (simp; omega) | omega))
theorem wdot_long (p q : Option Addr) (la ca cb : Nat) (hn : 1000 < la) (w : World) :
    Calls Try.prog 29 #[.slice p la ca, .slice q la cb] w (Gives (.tuple #[.agg #[.bool false, .int .u64 0, .int .u64 0], .int .i64 8]) w) := by
  have h1 : decide ((1000 : Int) < (la : Int)) = true := by simp; omega
  go_enter Try.func29, Try.ntmps29
  go_wp2
  go_returns
  exact Gives.mk rfl (by repeat' (first | (with_reducible exact Below.refl _ _) | (with_reducible refine Below.alloc ?_ ?_ _) | (with_reducible refine Below.setCell ?_ ?_ _) | (with_reducible refine Below.drew ?_) | (with_reducible refine Below.trans ?_ (Below.mono (by assumption) ?_)) | (simp; done) | (simp; omega) | omega))
theorem rdot_long (p q : Option Addr) (la ca cb : Nat) (hn : 1000 < la) (w : World) :
    Calls Try.prog 30 #[.slice p la ca, .slice q la cb] w (Gives (.tuple #[.agg #[.bool false, .int .u64 0, .int .u64 0], .int .i64 8]) w) := by
  have h1 : decide ((1000 : Int) < (la : Int)) = true := by simp; omega
  go_enter Try.func30, Try.ntmps30
  go_wp2
  go_returns
  exact Gives.mk rfl (by repeat' (first | (with_reducible exact Below.refl _ _) | (with_reducible refine Below.alloc ?_ ?_ _) | (with_reducible refine Below.setCell ?_ ?_ _) | (with_reducible refine Below.drew ?_) | (with_reducible refine Below.trans ?_ (Below.mono (by assumption) ?_)) | (simp; done) | (simp; omega) | omega))
theorem wdot_zero (p q : Option Addr) (ca cb : Nat) (w : World) :
    Calls Try.prog 29 #[.slice p 0 ca, .slice q 0 cb] w (Gives (.tuple #[.agg #[.bool false, .int .u64 0, .int .u64 0], .int .i64 0]) w) := by
  go_enter Try.func29, Try.ntmps29
  go_wp2
  refine wp_loop_rounds 1 ?_
  rw [rounds_succ]
  go_wp2
  go_returns
  exact Gives.mk rfl (by repeat' (first | (with_reducible exact Below.refl _ _) | (with_reducible refine Below.alloc ?_ ?_ _) | (with_reducible refine Below.setCell ?_ ?_ _) | (with_reducible refine Below.drew ?_) | (with_reducible refine Below.trans ?_ (Below.mono (by assumption) ?_)) | (simp; done) | (simp; omega) | omega))
theorem rdot_zero (p q : Option Addr) (ca cb : Nat) (w : World) :
    Calls Try.prog 30 #[.slice p 0 ca, .slice q 0 cb] w (Gives (.tuple #[.agg #[.bool false, .int .u64 0, .int .u64 0], .int .i64 0]) w) := by
  go_enter Try.func30, Try.ntmps30
  go_wp2
  refine wp_loop_rounds 1 ?_
  rw [rounds_succ]
  go_wp2
  go_returns
  exact Gives.mk rfl (by repeat' (first | (with_reducible exact Below.refl _ _) | (with_reducible refine Below.alloc ?_ ?_ _) | (with_reducible refine Below.setCell ?_ ?_ _) | (with_reducible refine Below.drew ?_) | (with_reducible refine Below.trans ?_ (Below.mono (by assumption) ?_)) | (simp; done) | (simp; omega) | omega))
/-- Dot of both packages, of every two slices of ints. -/
theorem dots_any (p q : Option Addr) (la lb ca cb : Nat) (xs ys : List Int) (n : Bool) (h l e : Int) (hv : dotS xs ys = (⟨n, h, l⟩, e)) (w : World) (X : IntsAt w p la xs) (Y : IntsAt w q lb ys) :
    Calls Try.prog 29 #[.slice p la ca, .slice q lb cb] w (Gives (.tuple #[.agg #[.bool n, .int .u64 h, .int .u64 l], .int .i64 e]) w) ∧
    Calls Try.prog 30 #[.slice p la ca, .slice q lb cb] w (Gives (.tuple #[.agg #[.bool n, .int .u64 h, .int .u64 l], .int .i64 e]) w) := by
  have lx := X.length
  have ly := Y.length
  unfold dotS at hv
  by_cases hl : la = lb
  · subst hl
    rw [if_neg (by omega)] at hv
    by_cases big : 1000 < la
    · rw [if_pos (by omega)] at hv
      obtain ⟨hz, rfl⟩ := Prod.mk.inj hv
      obtain ⟨rfl, rfl, rfl⟩ := Wd.mk.inj hz
      exact ⟨wdot_long p q la ca cb big w, rdot_long p q la ca cb big w⟩
    · rw [if_neg (by omega)] at hv
      by_cases z : la = 0
      · subst z
        have ex : xs = [] := List.eq_nil_of_length_eq_zero lx
        have ey : ys = [] := List.eq_nil_of_length_eq_zero ly
        subst ex ey
        have h0 : Wd.dotGo 0 [] [] = (Wd.zero, 0) := rfl
        rw [h0] at hv
        obtain ⟨hz, rfl⟩ := Prod.mk.inj hv
        obtain ⟨rfl, rfl, rfl⟩ := Wd.mk.inj hz
        exact ⟨wdot_zero p q ca cb w, rdot_zero p q ca cb w⟩
      · obtain ⟨b1, o1, rfl, lt1, c1⟩ := X.cell z
        obtain ⟨b2, o2, rfl, lt2, c2⟩ := Y.cell z
        have fx := X.fit
        have fy := Y.fit
        subst lx
        exact ⟨dot_walk ⟨b1, o1, none⟩ ⟨b2, o2, none⟩ xs ys ca cb ly (by omega) z fx fy n h l e hv w rfl rfl c1 c2 lt1 lt2,
          rdot_walk ⟨b1, o1, none⟩ ⟨b2, o2, none⟩ xs ys ca cb ly (by omega) z fx fy n h l e hv w rfl rfl c1 c2 lt1 lt2⟩
  · rw [if_pos (by omega)] at hv
    obtain ⟨hz, rfl⟩ := Prod.mk.inj hv
    obtain ⟨rfl, rfl, rfl⟩ := Wd.mk.inj hz
    exact ⟨wdot_unequal p q la lb ca cb (by omega) w, rdot_unequal p q la lb ca cb (by omega) w⟩
set_option maxRecDepth 100000 in
set_option maxHeartbeats 2000000 in
theorem wdots_walk (p q : Option Addr) (la lb ca cb : Nat) (hla : la ≤ 1100) (hlb : lb ≤ 1100) (n : Bool) (h l e : Int) (w : World)
    (dt : Calls Try.prog 29 #[.slice p la ca, .slice q lb cb] w (Gives (.tuple #[.agg #[.bool n, .int .u64 h, .int .u64 l], .int .i64 e]) w))
    (rd : ∀ W', Below w.heap.size w W' → Calls Try.prog 30 #[.slice p la ca, .slice q lb cb] W' (Gives (.tuple #[.agg #[.bool n, .int .u64 h, .int .u64 l], .int .i64 e]) W')) :
    Calls Try.prog 6 #[.slice p la ca, .slice q lb cb] w (Gives (.bool true) w) := by
  have g1 : decide ((1100 : Int) < (la : Int)) = false := by simp; omega
  have g2 : decide ((1100 : Int) < (lb : Int)) = false := by simp; omega
  go_enter Try.func6, Try.ntmps6
  go_wp2_with fail
  refine dt.mono ?_; rintro e u1 ⟨rfl, hb⟩
  have BN : Below w.heap.size w u1 := hb
  have BH := hid BN
  have hsz := BN.size
  clear BN hb
  go_wp2_with fail
  have BB := BH.out
  refine (rd _ (by repeat' (first | (with_reducible exact Below.refl _ _) | (with_reducible refine Below.alloc ?_ ?_ _) | (with_reducible refine Below.setCell ?_ ?_ _) | (with_reducible refine Below.drew ?_) | (with_reducible refine Below.trans ?_ (Below.mono (by assumption) ?_)) | (simp; done) | (simp; omega) | omega))).mono ?_; rintro e u2 ⟨rfl, hb⟩
  have BN : Below w.heap.size w u2 := by repeat' (first | (with_reducible exact Below.refl _ _) | (with_reducible refine Below.alloc ?_ ?_ _) | (with_reducible refine Below.setCell ?_ ?_ _) | (with_reducible refine Below.drew ?_) | (with_reducible refine Below.trans ?_ (Below.mono (by assumption) ?_)) | (simp; done) | (simp; omega) | omega)
  have baz : u1.heap.size < (u2).heap.size := Nat.lt_of_lt_of_le (show u1.heap.size < _ from (by first | assumption | (simp; done) | (simp; omega) | (dsimp only; omega) | omega)) hb.size; have ba0 : (u2).cell? ⟨u1.heap.size, 0, none⟩ = some (.bool n) := (hb.cell (p := ⟨u1.heap.size, 0, none⟩) (by first | assumption | (simp; done) | (simp; omega) | (dsimp only; omega) | omega)).trans (by first | assumption | (simp [go_sem]; done) | (simp [go_sem, *]; done)); have ba1 : (u2).cell? ⟨u1.heap.size, 1, none⟩ = some (.int .u64 h) := (hb.cell (p := ⟨u1.heap.size, 1, none⟩) (by first | assumption | (simp; done) | (simp; omega) | (dsimp only; omega) | omega)).trans (by first | assumption | (simp [go_sem]; done) | (simp [go_sem, *]; done)); have ba2 : (u2).cell? ⟨u1.heap.size, 2, none⟩ = some (.int .u64 l) := (hb.cell (p := ⟨u1.heap.size, 2, none⟩) (by first | assumption | (simp; done) | (simp; omega) | (dsimp only; omega) | omega)).trans (by first | assumption | (simp [go_sem]; done) | (simp [go_sem, *]; done))
  clear BB BH hsz
  have BH := hid BN
  have hsz := BN.size
  clear BN hb
  go_wp2_with fail
  refine (awake_any _).mono ?_; rintro e u7 ⟨rfl, hb⟩
  have BB := BH.out
  go_wp2_with fail
  go_ret
  exact Gives.mk rfl (by repeat' (first | (with_reducible exact Below.refl _ _) | (with_reducible refine Below.alloc ?_ ?_ _) | (with_reducible refine Below.setCell ?_ ?_ _) | (with_reducible refine Below.drew ?_) | (with_reducible refine Below.trans ?_ (Below.mono (by assumption) ?_)) | (simp; done) | (simp; omega) | omega))
theorem wdots_big (p q : Option Addr) (la lb ca cb : Nat) (hbig : 1100 < la ∨ 1100 < lb) (w : World) :
    Calls Try.prog 6 #[.slice p la ca, .slice q lb cb] w (Gives (.bool true) w) := by
  by_cases h1 : 1100 < la
  · have g1 : decide ((1100 : Int) < (la : Int)) = true := by simp; omega
    go_enter Try.func6, Try.ntmps6
    go_wp2_with fail
    refine (awake_any _).mono ?_; rintro e u7 ⟨rfl, hb⟩
    go_wp2_with fail
    go_ret
    exact Gives.mk rfl (by repeat' (first | (with_reducible exact Below.refl _ _) | (with_reducible refine Below.alloc ?_ ?_ _) | (with_reducible refine Below.setCell ?_ ?_ _) | (with_reducible refine Below.drew ?_) | (with_reducible refine Below.trans ?_ (Below.mono (by assumption) ?_)) | (simp; done) | (simp; omega) | omega))
  · have h2 : 1100 < lb := by omega
    have g1 : decide ((1100 : Int) < (la : Int)) = false := by simp; omega
    have g2 : decide ((1100 : Int) < (lb : Int)) = true := by simp; omega
    go_enter Try.func6, Try.ntmps6
    go_wp2_with fail
    refine (awake_any _).mono ?_; rintro e u7 ⟨rfl, hb⟩
    go_wp2_with fail
    go_ret
    exact Gives.mk rfl (by repeat' (first | (with_reducible exact Below.refl _ _) | (with_reducible refine Below.alloc ?_ ?_ _) | (with_reducible refine Below.setCell ?_ ?_ _) | (with_reducible refine Below.drew ?_) | (with_reducible refine Below.trans ?_ (Below.mono (by assumption) ?_)) | (simp; done) | (simp; omega) | omega))
theorem wdots_as (p q : Option Addr) (la lb ca cb : Nat) (xs ys : List Int) (w : World) (X : IntsAt w p la xs) (Y : IntsAt w q lb ys) :
    Calls Try.prog 6 #[.slice p la ca, .slice q lb cb] w (Gives (.bool true) w) := by
  by_cases hb : 1100 < la ∨ 1100 < lb
  · exact wdots_big p q la lb ca cb hb w
  · obtain ⟨⟨⟨n, h, l⟩, e⟩, hv⟩ : ∃ r, dotS xs ys = r := ⟨_, rfl⟩
    exact wdots_walk p q la lb ca cb (by omega) (by omega) n h l e w (dots_any p q la lb ca cb xs ys n h l e hv w X Y).1
      (fun W' B => (dots_any p q la lb ca cb xs ys n h l e hv W' (X.below B) (Y.below B)).2)
end Go.Proofs.Ythfnblifefnfmaa
