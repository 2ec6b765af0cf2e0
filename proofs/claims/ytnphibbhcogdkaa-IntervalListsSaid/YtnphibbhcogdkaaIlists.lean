/-
  IntervalLists: the walk.
-/
import Derived.Test.YtnphibbhcogdkaaIlist
namespace Go.Proofs.Ytnphibbhcogdkaa
open Go.RowKit
set_option linter.unusedVariables false
set_option linter.unusedSimpArgs false

theorem isum_nil (p : Option Addr) (cap : Nat) (w : World) : Calls Try.prog 68 #[.slice p 0 cap] w (Gives (.tuple #[.agg #[.int .i64 0, .int .i64 0], .int .i64 0]) w) := by
  go_enter Try.func68, Try.ntmps68
  go_wp2
  all_goals
    refine wp_loop_rounds 1 ?_
    rw [rounds_succ]
    go_wp2
    refine wp_loop_rounds 1 ?_
    rw [rounds_succ]
    go_wp2
    go_returns
    exact Gives.mk rfl (by repeat' (first | (with_reducible exact Below.refl _ _) | (with_reducible refine Below.alloc ?_ ?_ _) | (with_reducible refine Below.setCell ?_ ?_ _) | (with_reducible refine Below.drew ?_) | (with_reducible refine Below.trans ?_ (Below.mono (by assumption) ?_)) | (simp; done) | (simp; omega) | omega))
theorem rsum_nil (p : Option Addr) (cap : Nat) (w : World) : Calls Try.prog 69 #[.slice p 0 cap] w (Gives (.tuple #[.agg #[.int .i64 0, .int .i64 0], .int .i64 0]) w) := by
  go_enter Try.func69, Try.ntmps69
  go_wp2
  refine wp_loop_rounds 1 ?_
  rw [rounds_succ]
  go_wp2
  refine wp_loop_rounds 1 ?_
  rw [rounds_succ]
  go_wp2
  go_returns
  exact Gives.mk rfl (by repeat' (first | (with_reducible exact Below.refl _ _) | (with_reducible refine Below.alloc ?_ ?_ _) | (with_reducible refine Below.setCell ?_ ?_ _) | (with_reducible refine Below.drew ?_) | (with_reducible refine Below.trans ?_ (Below.mono (by assumption) ?_)) | (simp; done) | (simp; omega) | omega))
set_option maxHeartbeats 2000000 in
theorem lists_long (p : Option Addr) (len cap : Nat) (w : World) (hl : 2000 < len) (hm : len ≤ 9223372036854775807) :
    Calls Try.prog 11 #[.slice p len cap] w (Gives (.bool true) w) := by
  go_enter Try.func11, Try.ntmps11
  go_wp2_with fail
  refine (iawake_any _).mono ?_; rintro e u1 ⟨rfl, hb⟩
  go_wp2_with fail
  go_ret
  exact Gives.mk rfl (by repeat' (first | (with_reducible exact Below.refl _ _) | (with_reducible refine Below.alloc ?_ ?_ _) | (with_reducible refine Below.setCell ?_ ?_ _) | (with_reducible refine Below.drew ?_) | (with_reducible refine Below.trans ?_ (Below.mono (by assumption) ?_)) | (simp; done) | (simp; omega) | omega))
set_option maxHeartbeats 2000000 in
theorem lists_short (p : Option Addr) (len cap : Nat) (lo hi e : Int) (w : World) (hl : len ≤ 2000)
    (su : ∀ W : World, Below w.heap.size w W → Calls Try.prog 68 #[.slice p len cap] W (Gives (.tuple #[.agg #[.int .i64 lo, .int .i64 hi], .int .i64 e]) W))
    (su2 : ∀ W : World, Below w.heap.size w W → Calls Try.prog 69 #[.slice p len cap] W (Gives (.tuple #[.agg #[.int .i64 lo, .int .i64 hi], .int .i64 e]) W)) :
    Calls Try.prog 11 #[.slice p len cap] w (Gives (.bool true) w) := by
  have S1 := hid su
  have S2 := hid su2
  clear su su2
  go_enter Try.func11, Try.ntmps11
  go_wp2_with fail
  refine (S1.out _ (by repeat' (first | (with_reducible exact Below.refl _ _) | (with_reducible refine Below.alloc ?_ ?_ _) | (with_reducible refine Below.setCell ?_ ?_ _) | (with_reducible refine Below.drew ?_) | (with_reducible refine Below.trans ?_ (Below.mono (by assumption) ?_)) | (simp; done) | (simp; omega) | omega))).mono ?_; rintro e' u1 ⟨rfl, hb⟩
  have BN : Below w.heap.size w u1 := by repeat' (first | (with_reducible exact Below.refl _ _) | (with_reducible refine Below.alloc ?_ ?_ _) | (with_reducible refine Below.setCell ?_ ?_ _) | (with_reducible refine Below.drew ?_) | (with_reducible refine Below.trans ?_ (Below.mono (by assumption) ?_)) | (simp; done) | (simp; omega) | omega)
  have BH := hid BN
  have hsz := BN.size
  clear hb BN
  go_wp2_with fail
  have BB := BH.out
  refine (S2.out _ (by repeat' (first | (with_reducible exact Below.refl _ _) | (with_reducible refine Below.alloc ?_ ?_ _) | (with_reducible refine Below.setCell ?_ ?_ _) | (with_reducible refine Below.drew ?_) | (with_reducible refine Below.trans ?_ (Below.mono (by assumption) ?_)) | (simp; done) | (simp; omega) | omega))).mono ?_; rintro e' u2 ⟨rfl, hb⟩
  have xz : u1.heap.size < (u2).heap.size := Nat.lt_of_lt_of_le (show u1.heap.size < _ from (by first | assumption | (simp; done) | (simp; omega) | (dsimp only; omega) | omega)) hb.size; have x0 : (u2).cell? ⟨u1.heap.size, 0, none⟩ = some (.int .i64 (lo)) := (hb.cell (p := ⟨u1.heap.size, 0, none⟩) (by first | assumption | (simp; done) | (simp; omega) | (dsimp only; omega) | omega)).trans (by first | assumption | (simp [go_sem]; done) | (simp [go_sem, *]; done)); have x1 : (u2).cell? ⟨u1.heap.size, 1, none⟩ = some (.int .i64 (hi)) := (hb.cell (p := ⟨u1.heap.size, 1, none⟩) (by first | assumption | (simp; done) | (simp; omega) | (dsimp only; omega) | omega)).trans (by first | assumption | (simp [go_sem]; done) | (simp [go_sem, *]; done))
  have BN : Below w.heap.size w u2 := by repeat' (first | (with_reducible exact Below.refl _ _) | (with_reducible refine Below.alloc ?_ ?_ _) | (with_reducible refine Below.setCell ?_ ?_ _) | (with_reducible refine Below.drew ?_) | (with_reducible refine Below.trans ?_ (Below.mono (by assumption) ?_)) | (simp; done) | (simp; omega) | omega)
  clear BB BH hsz
  have BH := hid BN
  have hsz := BN.size
  clear hb BN
  go_wp2_with fail
  refine (iawake_any _).mono ?_; rintro e' u3 ⟨rfl, hb⟩
  have BB := BH.out
  go_wp2_with fail
  go_ret
  exact Gives.mk rfl (by repeat' (first | (with_reducible exact Below.refl _ _) | (with_reducible refine Below.alloc ?_ ?_ _) | (with_reducible refine Below.setCell ?_ ?_ _) | (with_reducible refine Below.drew ?_) | (with_reducible refine Below.trans ?_ (Below.mono (by assumption) ?_)) | (simp; done) | (simp; omega) | omega))
theorem lists_nil (p : Option Addr) (cap : Nat) (w : World) : Calls Try.prog 11 #[.slice p 0 cap] w (Gives (.bool true) w) :=
  lists_short p 0 cap 0 0 0 w (by omega) (fun W _ => isum_nil p cap W) (fun W _ => rsum_nil p cap W)
theorem lists_some (X Y : Nat → Int) (b off len cap : Nat) (hm : len ≤ 9223372036854775807) (w : World) (S : Sl w b off len X Y) :
    Calls Try.prog 11 #[.slice (some ⟨b, off, none⟩) len cap] w (Gives (.bool true) w) := by
  by_cases hl : len ≤ 2000
  · obtain ⟨⟨lo, hi, e⟩, hR⟩ : ∃ r, Sp.listS X Y len = r := ⟨_, rfl⟩
    exact lists_short _ len cap lo hi e w hl (fun W hW => isum_list X Y b off len cap hl lo hi e hR W (S.below hW)) (fun W hW => rsum_list X Y b off len cap hl lo hi e hR W (S.below hW))
  · exact lists_long _ len cap w (by omega) hm
end Go.Proofs.Ytnphibbhcogdkaa
