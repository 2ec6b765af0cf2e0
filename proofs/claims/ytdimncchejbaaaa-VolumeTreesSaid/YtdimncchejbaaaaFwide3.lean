/-
  The numbers of two parts of package couperef02: Plus, by a contract.
-/
import Derived.Test.YtdimncchejbaaaaFwide2
import Derived.Deep.DeepCutAuto
import Derived.Deep.QuietTactic
import Derived.BigQuiet
namespace Go.Proofs.Ytdimncchejbaaaa
open Go.RowKit
set_option linter.unusedVariables false
set_option linter.unusedSimpArgs false

/-- Behind the exchange: both boxes and that of the result. -/
def PlRel (w : World) (n1 : Bool) (h1 l1 : Int) (n2 : Bool) (h2 l2 : Int) (v : Value) (wx : World) : Prop :=
  w.heap.size + 1 + 1 < wx.heap.size ∧
    (wx.cell? ⟨w.heap.size, 0, none⟩ = some (.bool n1) ∧ wx.cell? ⟨w.heap.size, 1, none⟩ = some (.int .i64 h1) ∧ wx.cell? ⟨w.heap.size, 2, none⟩ = some (.int .i64 l1)) ∧
    (wx.cell? ⟨w.heap.size + 1, 1, none⟩ = some (.int .i64 h2) ∧ wx.cell? ⟨w.heap.size + 1, 2, none⟩ = some (.int .i64 l2)) ∧
    (wx.cell? ⟨w.heap.size + 1 + 1, 0, none⟩ = some (.bool false) ∧ wx.cell? ⟨w.heap.size + 1 + 1, 1, none⟩ = some (.int .i64 0) ∧ wx.cell? ⟨w.heap.size + 1 + 1, 2, none⟩ = some (.int .i64 0) ∧ ∀ o, wx.frozen? ⟨w.heap.size + 1 + 1, o, none⟩ = false) ∧
    Below w.heap.size w wx
set_option maxRecDepth 100000 in
set_option maxHeartbeats 1000000 in
theorem rplus_same (n : Bool) (H L G M h l : Int) (H0 : 0 ≤ H) (H1 : H ≤ 4000000000000000) (L0 : 0 ≤ L) (L1 : L < 1000000000000000) (G0 : 0 ≤ G) (G1 : G ≤ 4000000000000000) (M0 : 0 ≤ M) (M1 : M < 1000000000000000)
    (e1 : H + G + (L + M) / 1000000000000000 = h) (e2 : (L + M) % 1000000000000000 = l) (w : World) :
    Calls Try.prog 98 #[.agg #[.bool n, .int .i64 H, .int .i64 L], .agg #[.bool n, .int .i64 G, .int .i64 M]] w (Gives (.agg #[.bool n, .int .i64 h, .int .i64 l]) w) := by
  have E1 := hid e1
  have E2 := hid e2
  clear e1 e2
  go_enter Try.func98, Try.ntmps98
  go_wp2
  refine bodyPost_ret (v := .agg #[.bool n, .int .i64 h, .int .i64 l]) (by simp [results, Try.results98, go_sem, ← E1.out, ← E2.out]) rfl ?_
  exact Gives.mk rfl (by repeat' (first | (with_reducible exact Below.refl _ _) | (with_reducible refine Below.alloc ?_ ?_ _) | (with_reducible refine Below.setCell ?_ ?_ _) | (with_reducible refine Below.drew ?_) | (with_reducible refine below_dn ?_ _) | (with_reducible refine Below.trans ?_ (Below.mono (by assumption) ?_)) | (simp; done) | (simp; omega) | omega))
set_option maxRecDepth 100000 in
set_option maxHeartbeats 1000000 in
theorem rplus_swap_borrow (n m : Bool) (H L G M h l r : Int) (H0 : 0 ≤ H) (H1 : H ≤ 4000000000000000) (L0 : 0 ≤ L) (L1 : L < 1000000000000000) (G0 : 0 ≤ G) (G1 : G ≤ 4000000000000000) (M0 : 0 ≤ M) (M1 : M < 1000000000000000)
    (cn : (n == m) = false) (r1 : r = -1) (c2 : M < L)
    (cm : ∀ w : World, Calls Try.prog 106 #[.agg #[.bool n, .int .i64 H, .int .i64 L], .agg #[.bool m, .int .i64 G, .int .i64 M]] w (Gives (.int .i64 r) w))
    (e1 : G - H - 1 = h) (e2 : M - L + 1000000000000000 = l) (w : World) :
    Calls Try.prog 98 #[.agg #[.bool n, .int .i64 H, .int .i64 L], .agg #[.bool m, .int .i64 G, .int .i64 M]] w (Gives (.agg #[.bool m, .int .i64 h, .int .i64 l]) w) := by
  have E1 := hid e1
  have E2 := hid e2
  clear e1 e2
  subst r1
  go_enter Try.func98, Try.ntmps98
  go_upto_if 34 with (go_at_call 106; refine (cm _).mono ?_; rintro _ w1 ⟨rfl, hb⟩; have pz : w.heap.size < (w1).heap.size := Nat.lt_of_lt_of_le (show w.heap.size < _ from (by first | assumption | (simp; done) | (simp; omega) | (dsimp only; omega) | omega)) hb.size; have p0 : (w1).cell? ⟨w.heap.size, 0, none⟩ = some (.bool n) := (hb.cell (p := ⟨w.heap.size, 0, none⟩) (by first | assumption | (simp; done) | (simp; omega) | (dsimp only; omega) | omega)).trans (by first | assumption | (simp [go_sem]; done)); have p1 : (w1).cell? ⟨w.heap.size, 1, none⟩ = some (.int .i64 H) := (hb.cell (p := ⟨w.heap.size, 1, none⟩) (by first | assumption | (simp; done) | (simp; omega) | (dsimp only; omega) | omega)).trans (by first | assumption | (simp [go_sem]; done)); have p2 : (w1).cell? ⟨w.heap.size, 2, none⟩ = some (.int .i64 L) := (hb.cell (p := ⟨w.heap.size, 2, none⟩) (by first | assumption | (simp; done) | (simp; omega) | (dsimp only; omega) | omega)).trans (by first | assumption | (simp [go_sem]; done)); have pf : ∀ o, (w1).frozen? ⟨w.heap.size, o, none⟩ = false := fun o => (hb.frozen (p := ⟨w.heap.size, o, none⟩) (by first | assumption | (simp; done) | (simp; omega) | (dsimp only; omega) | omega)).trans (by first | (simp [go_sem]; done) | (simp [*]; done)); have qz : w.heap.size + 1 < (w1).heap.size := Nat.lt_of_lt_of_le (show w.heap.size + 1 < _ from (by first | assumption | (simp; done) | (simp; omega) | (dsimp only; omega) | omega)) hb.size; have q0 : (w1).cell? ⟨w.heap.size + 1, 0, none⟩ = some (.bool m) := (hb.cell (p := ⟨w.heap.size + 1, 0, none⟩) (by first | assumption | (simp; done) | (simp; omega) | (dsimp only; omega) | omega)).trans (by first | assumption | (simp [go_sem]; done)); have q1 : (w1).cell? ⟨w.heap.size + 1, 1, none⟩ = some (.int .i64 G) := (hb.cell (p := ⟨w.heap.size + 1, 1, none⟩) (by first | assumption | (simp; done) | (simp; omega) | (dsimp only; omega) | omega)).trans (by first | assumption | (simp [go_sem]; done)); have q2 : (w1).cell? ⟨w.heap.size + 1, 2, none⟩ = some (.int .i64 M) := (hb.cell (p := ⟨w.heap.size + 1, 2, none⟩) (by first | assumption | (simp; done) | (simp; omega) | (dsimp only; omega) | omega)).trans (by first | assumption | (simp [go_sem]; done)); have qf : ∀ o, (w1).frozen? ⟨w.heap.size + 1, o, none⟩ = false := fun o => (hb.frozen (p := ⟨w.heap.size + 1, o, none⟩) (by first | assumption | (simp; done) | (simp; omega) | (dsimp only; omega) | omega)).trans (by first | (simp [go_sem]; done) | (simp [*]; done)); have xz : w.heap.size + 1 + 1 < (w1).heap.size := Nat.lt_of_lt_of_le (show w.heap.size + 1 + 1 < _ from (by first | assumption | (simp; done) | (simp; omega) | (dsimp only; omega) | omega)) hb.size; have x0 : (w1).cell? ⟨w.heap.size + 1 + 1, 0, none⟩ = some (.bool false) := (hb.cell (p := ⟨w.heap.size + 1 + 1, 0, none⟩) (by first | assumption | (simp; done) | (simp; omega) | (dsimp only; omega) | omega)).trans (by first | assumption | (simp [go_sem]; done)); have x1 : (w1).cell? ⟨w.heap.size + 1 + 1, 1, none⟩ = some (.int .i64 0) := (hb.cell (p := ⟨w.heap.size + 1 + 1, 1, none⟩) (by first | assumption | (simp; done) | (simp; omega) | (dsimp only; omega) | omega)).trans (by first | assumption | (simp [go_sem]; done)); have x2 : (w1).cell? ⟨w.heap.size + 1 + 1, 2, none⟩ = some (.int .i64 0) := (hb.cell (p := ⟨w.heap.size + 1 + 1, 2, none⟩) (by first | assumption | (simp; done) | (simp; omega) | (dsimp only; omega) | omega)).trans (by first | assumption | (simp [go_sem]; done)); have xf : ∀ o, (w1).frozen? ⟨w.heap.size + 1 + 1, o, none⟩ = false := fun o => (hb.frozen (p := ⟨w.heap.size + 1 + 1, o, none⟩) (by first | assumption | (simp; done) | (simp; omega) | (dsimp only; omega) | omega)).trans (by first | (simp [go_sem]; done) | (simp [*]; done)))
  go_cut [35] (fun v wx => PlRel w m G M n H L v wx)
  case first =>
    go_wp2_with fail
    go_meet
    refine ⟨?_, ⟨?_, ?_, ?_⟩, ⟨?_, ?_⟩, ⟨?_, ?_, ?_, ?_⟩, by repeat' (first | (with_reducible exact Below.refl _ _) | (with_reducible refine Below.alloc ?_ ?_ _) | (with_reducible refine Below.setCell ?_ ?_ _) | (with_reducible refine Below.drew ?_) | (with_reducible refine below_dn ?_ _) | (with_reducible refine Below.trans ?_ (Below.mono (by assumption) ?_)) | (simp; done) | (simp; omega) | omega)⟩
    all_goals first | omega | (simp; done) | (simp; omega) | (simp [go_sem]; done) | (simp [go_sem, p0, p1, p2, q0, q1, q2, x0, x1, x2, xf]; done)
  case rest =>
    obtain ⟨hz, ⟨a0, a1, a2⟩, ⟨b1, b2⟩, ⟨x0, x1, x2, xf⟩, hB⟩ := hcut
    have BH := hid hB
    have hsz := hB.size
    clear hB
    go_wp2_with fail
    go_quiet (fail)
    go_wp2_with fail
    refine bodyPost_ret (v := .agg #[.bool m, .int .i64 h, .int .i64 l]) (by simp [results, Try.results98, go_sem, x0, x1, x2, ← E1.out, ← E2.out]) rfl ?_
    have BB := BH.out
    exact Gives.mk rfl (by repeat' (first | (with_reducible exact Below.refl _ _) | (with_reducible refine Below.alloc ?_ ?_ _) | (with_reducible refine Below.setCell ?_ ?_ _) | (with_reducible refine Below.drew ?_) | (with_reducible refine below_dn ?_ _) | (with_reducible refine Below.trans ?_ (Below.mono (by assumption) ?_)) | (simp; done) | (simp; omega) | omega))
set_option maxRecDepth 100000 in
set_option maxHeartbeats 1000000 in
theorem rplus_swap (n m : Bool) (H L G M h l r : Int) (H0 : 0 ≤ H) (H1 : H ≤ 4000000000000000) (L0 : 0 ≤ L) (L1 : L < 1000000000000000) (G0 : 0 ≤ G) (G1 : G ≤ 4000000000000000) (M0 : 0 ≤ M) (M1 : M < 1000000000000000)
    (cn : (n == m) = false) (r1 : r = -1) (c2 : L ≤ M)
    (cm : ∀ w : World, Calls Try.prog 106 #[.agg #[.bool n, .int .i64 H, .int .i64 L], .agg #[.bool m, .int .i64 G, .int .i64 M]] w (Gives (.int .i64 r) w))
    (e1 : G - H = h) (e2 : M - L = l) (w : World) :
    Calls Try.prog 98 #[.agg #[.bool n, .int .i64 H, .int .i64 L], .agg #[.bool m, .int .i64 G, .int .i64 M]] w (Gives (.agg #[.bool m, .int .i64 h, .int .i64 l]) w) := by
  have E1 := hid e1
  have E2 := hid e2
  clear e1 e2
  subst r1
  go_enter Try.func98, Try.ntmps98
  go_upto_if 34 with (go_at_call 106; refine (cm _).mono ?_; rintro _ w1 ⟨rfl, hb⟩; have pz : w.heap.size < (w1).heap.size := Nat.lt_of_lt_of_le (show w.heap.size < _ from (by first | assumption | (simp; done) | (simp; omega) | (dsimp only; omega) | omega)) hb.size; have p0 : (w1).cell? ⟨w.heap.size, 0, none⟩ = some (.bool n) := (hb.cell (p := ⟨w.heap.size, 0, none⟩) (by first | assumption | (simp; done) | (simp; omega) | (dsimp only; omega) | omega)).trans (by first | assumption | (simp [go_sem]; done)); have p1 : (w1).cell? ⟨w.heap.size, 1, none⟩ = some (.int .i64 H) := (hb.cell (p := ⟨w.heap.size, 1, none⟩) (by first | assumption | (simp; done) | (simp; omega) | (dsimp only; omega) | omega)).trans (by first | assumption | (simp [go_sem]; done)); have p2 : (w1).cell? ⟨w.heap.size, 2, none⟩ = some (.int .i64 L) := (hb.cell (p := ⟨w.heap.size, 2, none⟩) (by first | assumption | (simp; done) | (simp; omega) | (dsimp only; omega) | omega)).trans (by first | assumption | (simp [go_sem]; done)); have pf : ∀ o, (w1).frozen? ⟨w.heap.size, o, none⟩ = false := fun o => (hb.frozen (p := ⟨w.heap.size, o, none⟩) (by first | assumption | (simp; done) | (simp; omega) | (dsimp only; omega) | omega)).trans (by first | (simp [go_sem]; done) | (simp [*]; done)); have qz : w.heap.size + 1 < (w1).heap.size := Nat.lt_of_lt_of_le (show w.heap.size + 1 < _ from (by first | assumption | (simp; done) | (simp; omega) | (dsimp only; omega) | omega)) hb.size; have q0 : (w1).cell? ⟨w.heap.size + 1, 0, none⟩ = some (.bool m) := (hb.cell (p := ⟨w.heap.size + 1, 0, none⟩) (by first | assumption | (simp; done) | (simp; omega) | (dsimp only; omega) | omega)).trans (by first | assumption | (simp [go_sem]; done)); have q1 : (w1).cell? ⟨w.heap.size + 1, 1, none⟩ = some (.int .i64 G) := (hb.cell (p := ⟨w.heap.size + 1, 1, none⟩) (by first | assumption | (simp; done) | (simp; omega) | (dsimp only; omega) | omega)).trans (by first | assumption | (simp [go_sem]; done)); have q2 : (w1).cell? ⟨w.heap.size + 1, 2, none⟩ = some (.int .i64 M) := (hb.cell (p := ⟨w.heap.size + 1, 2, none⟩) (by first | assumption | (simp; done) | (simp; omega) | (dsimp only; omega) | omega)).trans (by first | assumption | (simp [go_sem]; done)); have qf : ∀ o, (w1).frozen? ⟨w.heap.size + 1, o, none⟩ = false := fun o => (hb.frozen (p := ⟨w.heap.size + 1, o, none⟩) (by first | assumption | (simp; done) | (simp; omega) | (dsimp only; omega) | omega)).trans (by first | (simp [go_sem]; done) | (simp [*]; done)); have xz : w.heap.size + 1 + 1 < (w1).heap.size := Nat.lt_of_lt_of_le (show w.heap.size + 1 + 1 < _ from (by first | assumption | (simp; done) | (simp; omega) | (dsimp only; omega) | omega)) hb.size; have x0 : (w1).cell? ⟨w.heap.size + 1 + 1, 0, none⟩ = some (.bool false) := (hb.cell (p := ⟨w.heap.size + 1 + 1, 0, none⟩) (by first | assumption | (simp; done) | (simp; omega) | (dsimp only; omega) | omega)).trans (by first | assumption | (simp [go_sem]; done)); have x1 : (w1).cell? ⟨w.heap.size + 1 + 1, 1, none⟩ = some (.int .i64 0) := (hb.cell (p := ⟨w.heap.size + 1 + 1, 1, none⟩) (by first | assumption | (simp; done) | (simp; omega) | (dsimp only; omega) | omega)).trans (by first | assumption | (simp [go_sem]; done)); have x2 : (w1).cell? ⟨w.heap.size + 1 + 1, 2, none⟩ = some (.int .i64 0) := (hb.cell (p := ⟨w.heap.size + 1 + 1, 2, none⟩) (by first | assumption | (simp; done) | (simp; omega) | (dsimp only; omega) | omega)).trans (by first | assumption | (simp [go_sem]; done)); have xf : ∀ o, (w1).frozen? ⟨w.heap.size + 1 + 1, o, none⟩ = false := fun o => (hb.frozen (p := ⟨w.heap.size + 1 + 1, o, none⟩) (by first | assumption | (simp; done) | (simp; omega) | (dsimp only; omega) | omega)).trans (by first | (simp [go_sem]; done) | (simp [*]; done)))
  go_cut [35] (fun v wx => PlRel w m G M n H L v wx)
  case first =>
    go_wp2_with fail
    go_meet
    refine ⟨?_, ⟨?_, ?_, ?_⟩, ⟨?_, ?_⟩, ⟨?_, ?_, ?_, ?_⟩, by repeat' (first | (with_reducible exact Below.refl _ _) | (with_reducible refine Below.alloc ?_ ?_ _) | (with_reducible refine Below.setCell ?_ ?_ _) | (with_reducible refine Below.drew ?_) | (with_reducible refine below_dn ?_ _) | (with_reducible refine Below.trans ?_ (Below.mono (by assumption) ?_)) | (simp; done) | (simp; omega) | omega)⟩
    all_goals first | omega | (simp; done) | (simp; omega) | (simp [go_sem]; done) | (simp [go_sem, p0, p1, p2, q0, q1, q2, x0, x1, x2, xf]; done)
  case rest =>
    obtain ⟨hz, ⟨a0, a1, a2⟩, ⟨b1, b2⟩, ⟨x0, x1, x2, xf⟩, hB⟩ := hcut
    have BH := hid hB
    have hsz := hB.size
    clear hB
    go_wp2_with fail
    go_quiet (fail)
    go_wp2_with fail
    refine bodyPost_ret (v := .agg #[.bool m, .int .i64 h, .int .i64 l]) (by simp [results, Try.results98, go_sem, x0, x1, x2, ← E1.out, ← E2.out]) rfl ?_
    have BB := BH.out
    exact Gives.mk rfl (by repeat' (first | (with_reducible exact Below.refl _ _) | (with_reducible refine Below.alloc ?_ ?_ _) | (with_reducible refine Below.setCell ?_ ?_ _) | (with_reducible refine Below.drew ?_) | (with_reducible refine below_dn ?_ _) | (with_reducible refine Below.trans ?_ (Below.mono (by assumption) ?_)) | (simp; done) | (simp; omega) | omega))
set_option maxRecDepth 100000 in
set_option maxHeartbeats 1000000 in
theorem rplus_keep_borrow (n m : Bool) (H L G M h l r : Int) (H0 : 0 ≤ H) (H1 : H ≤ 4000000000000000) (L0 : 0 ≤ L) (L1 : L < 1000000000000000) (G0 : 0 ≤ G) (G1 : G ≤ 4000000000000000) (M0 : 0 ≤ M) (M1 : M < 1000000000000000)
    (cn : (n == m) = false) (r0 : 0 ≤ r) (r1 : r ≤ 1) (c2 : L < M)
    (cm : ∀ w : World, Calls Try.prog 106 #[.agg #[.bool n, .int .i64 H, .int .i64 L], .agg #[.bool m, .int .i64 G, .int .i64 M]] w (Gives (.int .i64 r) w))
    (e1 : H - G - 1 = h) (e2 : L - M + 1000000000000000 = l) (w : World) :
    Calls Try.prog 98 #[.agg #[.bool n, .int .i64 H, .int .i64 L], .agg #[.bool m, .int .i64 G, .int .i64 M]] w (Gives (.agg #[.bool n, .int .i64 h, .int .i64 l]) w) := by
  have E1 := hid e1
  have E2 := hid e2
  clear e1 e2
  skip
  go_enter Try.func98, Try.ntmps98
  go_upto_if 34 with (go_at_call 106; refine (cm _).mono ?_; rintro _ w1 ⟨rfl, hb⟩; have pz : w.heap.size < (w1).heap.size := Nat.lt_of_lt_of_le (show w.heap.size < _ from (by first | assumption | (simp; done) | (simp; omega) | (dsimp only; omega) | omega)) hb.size; have p0 : (w1).cell? ⟨w.heap.size, 0, none⟩ = some (.bool n) := (hb.cell (p := ⟨w.heap.size, 0, none⟩) (by first | assumption | (simp; done) | (simp; omega) | (dsimp only; omega) | omega)).trans (by first | assumption | (simp [go_sem]; done)); have p1 : (w1).cell? ⟨w.heap.size, 1, none⟩ = some (.int .i64 H) := (hb.cell (p := ⟨w.heap.size, 1, none⟩) (by first | assumption | (simp; done) | (simp; omega) | (dsimp only; omega) | omega)).trans (by first | assumption | (simp [go_sem]; done)); have p2 : (w1).cell? ⟨w.heap.size, 2, none⟩ = some (.int .i64 L) := (hb.cell (p := ⟨w.heap.size, 2, none⟩) (by first | assumption | (simp; done) | (simp; omega) | (dsimp only; omega) | omega)).trans (by first | assumption | (simp [go_sem]; done)); have pf : ∀ o, (w1).frozen? ⟨w.heap.size, o, none⟩ = false := fun o => (hb.frozen (p := ⟨w.heap.size, o, none⟩) (by first | assumption | (simp; done) | (simp; omega) | (dsimp only; omega) | omega)).trans (by first | (simp [go_sem]; done) | (simp [*]; done)); have qz : w.heap.size + 1 < (w1).heap.size := Nat.lt_of_lt_of_le (show w.heap.size + 1 < _ from (by first | assumption | (simp; done) | (simp; omega) | (dsimp only; omega) | omega)) hb.size; have q0 : (w1).cell? ⟨w.heap.size + 1, 0, none⟩ = some (.bool m) := (hb.cell (p := ⟨w.heap.size + 1, 0, none⟩) (by first | assumption | (simp; done) | (simp; omega) | (dsimp only; omega) | omega)).trans (by first | assumption | (simp [go_sem]; done)); have q1 : (w1).cell? ⟨w.heap.size + 1, 1, none⟩ = some (.int .i64 G) := (hb.cell (p := ⟨w.heap.size + 1, 1, none⟩) (by first | assumption | (simp; done) | (simp; omega) | (dsimp only; omega) | omega)).trans (by first | assumption | (simp [go_sem]; done)); have q2 : (w1).cell? ⟨w.heap.size + 1, 2, none⟩ = some (.int .i64 M) := (hb.cell (p := ⟨w.heap.size + 1, 2, none⟩) (by first | assumption | (simp; done) | (simp; omega) | (dsimp only; omega) | omega)).trans (by first | assumption | (simp [go_sem]; done)); have qf : ∀ o, (w1).frozen? ⟨w.heap.size + 1, o, none⟩ = false := fun o => (hb.frozen (p := ⟨w.heap.size + 1, o, none⟩) (by first | assumption | (simp; done) | (simp; omega) | (dsimp only; omega) | omega)).trans (by first | (simp [go_sem]; done) | (simp [*]; done)); have xz : w.heap.size + 1 + 1 < (w1).heap.size := Nat.lt_of_lt_of_le (show w.heap.size + 1 + 1 < _ from (by first | assumption | (simp; done) | (simp; omega) | (dsimp only; omega) | omega)) hb.size; have x0 : (w1).cell? ⟨w.heap.size + 1 + 1, 0, none⟩ = some (.bool false) := (hb.cell (p := ⟨w.heap.size + 1 + 1, 0, none⟩) (by first | assumption | (simp; done) | (simp; omega) | (dsimp only; omega) | omega)).trans (by first | assumption | (simp [go_sem]; done)); have x1 : (w1).cell? ⟨w.heap.size + 1 + 1, 1, none⟩ = some (.int .i64 0) := (hb.cell (p := ⟨w.heap.size + 1 + 1, 1, none⟩) (by first | assumption | (simp; done) | (simp; omega) | (dsimp only; omega) | omega)).trans (by first | assumption | (simp [go_sem]; done)); have x2 : (w1).cell? ⟨w.heap.size + 1 + 1, 2, none⟩ = some (.int .i64 0) := (hb.cell (p := ⟨w.heap.size + 1 + 1, 2, none⟩) (by first | assumption | (simp; done) | (simp; omega) | (dsimp only; omega) | omega)).trans (by first | assumption | (simp [go_sem]; done)); have xf : ∀ o, (w1).frozen? ⟨w.heap.size + 1 + 1, o, none⟩ = false := fun o => (hb.frozen (p := ⟨w.heap.size + 1 + 1, o, none⟩) (by first | assumption | (simp; done) | (simp; omega) | (dsimp only; omega) | omega)).trans (by first | (simp [go_sem]; done) | (simp [*]; done)))
  go_cut [35] (fun v wx => PlRel w n H L m G M v wx)
  case first =>
    go_wp2_with fail
    go_meet
    refine ⟨?_, ⟨?_, ?_, ?_⟩, ⟨?_, ?_⟩, ⟨?_, ?_, ?_, ?_⟩, by repeat' (first | (with_reducible exact Below.refl _ _) | (with_reducible refine Below.alloc ?_ ?_ _) | (with_reducible refine Below.setCell ?_ ?_ _) | (with_reducible refine Below.drew ?_) | (with_reducible refine below_dn ?_ _) | (with_reducible refine Below.trans ?_ (Below.mono (by assumption) ?_)) | (simp; done) | (simp; omega) | omega)⟩
    all_goals first | omega | (simp; done) | (simp; omega) | (simp [go_sem]; done) | (simp [go_sem, p0, p1, p2, q0, q1, q2, x0, x1, x2, xf]; done)
  case rest =>
    obtain ⟨hz, ⟨a0, a1, a2⟩, ⟨b1, b2⟩, ⟨x0, x1, x2, xf⟩, hB⟩ := hcut
    have BH := hid hB
    have hsz := hB.size
    clear hB
    go_wp2_with fail
    go_quiet (fail)
    go_wp2_with fail
    refine bodyPost_ret (v := .agg #[.bool n, .int .i64 h, .int .i64 l]) (by simp [results, Try.results98, go_sem, x0, x1, x2, ← E1.out, ← E2.out]) rfl ?_
    have BB := BH.out
    exact Gives.mk rfl (by repeat' (first | (with_reducible exact Below.refl _ _) | (with_reducible refine Below.alloc ?_ ?_ _) | (with_reducible refine Below.setCell ?_ ?_ _) | (with_reducible refine Below.drew ?_) | (with_reducible refine below_dn ?_ _) | (with_reducible refine Below.trans ?_ (Below.mono (by assumption) ?_)) | (simp; done) | (simp; omega) | omega))
set_option maxRecDepth 100000 in
set_option maxHeartbeats 1000000 in
theorem rplus_keep (n m : Bool) (H L G M h l r : Int) (H0 : 0 ≤ H) (H1 : H ≤ 4000000000000000) (L0 : 0 ≤ L) (L1 : L < 1000000000000000) (G0 : 0 ≤ G) (G1 : G ≤ 4000000000000000) (M0 : 0 ≤ M) (M1 : M < 1000000000000000)
    (cn : (n == m) = false) (r0 : 0 ≤ r) (r1 : r ≤ 1) (c2 : M ≤ L)
    (cm : ∀ w : World, Calls Try.prog 106 #[.agg #[.bool n, .int .i64 H, .int .i64 L], .agg #[.bool m, .int .i64 G, .int .i64 M]] w (Gives (.int .i64 r) w))
    (e1 : H - G = h) (e2 : L - M = l) (w : World) :
    Calls Try.prog 98 #[.agg #[.bool n, .int .i64 H, .int .i64 L], .agg #[.bool m, .int .i64 G, .int .i64 M]] w (Gives (.agg #[.bool n, .int .i64 h, .int .i64 l]) w) := by
  have E1 := hid e1
  have E2 := hid e2
  clear e1 e2
  skip
  go_enter Try.func98, Try.ntmps98
  go_upto_if 34 with (go_at_call 106; refine (cm _).mono ?_; rintro _ w1 ⟨rfl, hb⟩; have pz : w.heap.size < (w1).heap.size := Nat.lt_of_lt_of_le (show w.heap.size < _ from (by first | assumption | (simp; done) | (simp; omega) | (dsimp only; omega) | omega)) hb.size; have p0 : (w1).cell? ⟨w.heap.size, 0, none⟩ = some (.bool n) := (hb.cell (p := ⟨w.heap.size, 0, none⟩) (by first | assumption | (simp; done) | (simp; omega) | (dsimp only; omega) | omega)).trans (by first | assumption | (simp [go_sem]; done)); have p1 : (w1).cell? ⟨w.heap.size, 1, none⟩ = some (.int .i64 H) := (hb.cell (p := ⟨w.heap.size, 1, none⟩) (by first | assumption | (simp; done) | (simp; omega) | (dsimp only; omega) | omega)).trans (by first | assumption | (simp [go_sem]; done)); have p2 : (w1).cell? ⟨w.heap.size, 2, none⟩ = some (.int .i64 L) := (hb.cell (p := ⟨w.heap.size, 2, none⟩) (by first | assumption | (simp; done) | (simp; omega) | (dsimp only; omega) | omega)).trans (by first | assumption | (simp [go_sem]; done)); have pf : ∀ o, (w1).frozen? ⟨w.heap.size, o, none⟩ = false := fun o => (hb.frozen (p := ⟨w.heap.size, o, none⟩) (by first | assumption | (simp; done) | (simp; omega) | (dsimp only; omega) | omega)).trans (by first | (simp [go_sem]; done) | (simp [*]; done)); have qz : w.heap.size + 1 < (w1).heap.size := Nat.lt_of_lt_of_le (show w.heap.size + 1 < _ from (by first | assumption | (simp; done) | (simp; omega) | (dsimp only; omega) | omega)) hb.size; have q0 : (w1).cell? ⟨w.heap.size + 1, 0, none⟩ = some (.bool m) := (hb.cell (p := ⟨w.heap.size + 1, 0, none⟩) (by first | assumption | (simp; done) | (simp; omega) | (dsimp only; omega) | omega)).trans (by first | assumption | (simp [go_sem]; done)); have q1 : (w1).cell? ⟨w.heap.size + 1, 1, none⟩ = some (.int .i64 G) := (hb.cell (p := ⟨w.heap.size + 1, 1, none⟩) (by first | assumption | (simp; done) | (simp; omega) | (dsimp only; omega) | omega)).trans (by first | assumption | (simp [go_sem]; done)); have q2 : (w1).cell? ⟨w.heap.size + 1, 2, none⟩ = some (.int .i64 M) := (hb.cell (p := ⟨w.heap.size + 1, 2, none⟩) (by first | assumption | (simp; done) | (simp; omega) | (dsimp only; omega) | omega)).trans (by first | assumption | (simp [go_sem]; done)); have qf : ∀ o, (w1).frozen? ⟨w.heap.size + 1, o, none⟩ = false := fun o => (hb.frozen (p := ⟨w.heap.size + 1, o, none⟩) (by first | assumption | (simp; done) | (simp; omega) | (dsimp only; omega) | omega)).trans (by first | (simp [go_sem]; done) | (simp [*]; done)); have xz : w.heap.size + 1 + 1 < (w1).heap.size := Nat.lt_of_lt_of_le (show w.heap.size + 1 + 1 < _ from (by first | assumption | (simp; done) | (simp; omega) | (dsimp only; omega) | omega)) hb.size; have x0 : (w1).cell? ⟨w.heap.size + 1 + 1, 0, none⟩ = some (.bool false) := (hb.cell (p := ⟨w.heap.size + 1 + 1, 0, none⟩) (by first | assumption | (simp; done) | (simp; omega) | (dsimp only; omega) | omega)).trans (by first | assumption | (simp [go_sem]; done)); have x1 : (w1).cell? ⟨w.heap.size + 1 + 1, 1, none⟩ = some (.int .i64 0) := (hb.cell (p := ⟨w.heap.size + 1 + 1, 1, none⟩) (by first | assumption | (simp; done) | (simp; omega) | (dsimp only; omega) | omega)).trans (by first | assumption | (simp [go_sem]; done)); have x2 : (w1).cell? ⟨w.heap.size + 1 + 1, 2, none⟩ = some (.int .i64 0) := (hb.cell (p := ⟨w.heap.size + 1 + 1, 2, none⟩) (by first | assumption | (simp; done) | (simp; omega) | (dsimp only; omega) | omega)).trans (by first | assumption | (simp [go_sem]; done)); have xf : ∀ o, (w1).frozen? ⟨w.heap.size + 1 + 1, o, none⟩ = false := fun o => (hb.frozen (p := ⟨w.heap.size + 1 + 1, o, none⟩) (by first | assumption | (simp; done) | (simp; omega) | (dsimp only; omega) | omega)).trans (by first | (simp [go_sem]; done) | (simp [*]; done)))
  go_cut [35] (fun v wx => PlRel w n H L m G M v wx)
  case first =>
    go_wp2_with fail
    go_meet
    refine ⟨?_, ⟨?_, ?_, ?_⟩, ⟨?_, ?_⟩, ⟨?_, ?_, ?_, ?_⟩, by repeat' (first | (with_reducible exact Below.refl _ _) | (with_reducible refine Below.alloc ?_ ?_ _) | (with_reducible refine Below.setCell ?_ ?_ _) | (with_reducible refine Below.drew ?_) | (with_reducible refine below_dn ?_ _) | (with_reducible refine Below.trans ?_ (Below.mono (by assumption) ?_)) | (simp; done) | (simp; omega) | omega)⟩
    all_goals first | omega | (simp; done) | (simp; omega) | (simp [go_sem]; done) | (simp [go_sem, p0, p1, p2, q0, q1, q2, x0, x1, x2, xf]; done)
  case rest =>
    obtain ⟨hz, ⟨a0, a1, a2⟩, ⟨b1, b2⟩, ⟨x0, x1, x2, xf⟩, hB⟩ := hcut
    have BH := hid hB
    have hsz := hB.size
    clear hB
    go_wp2_with fail
    go_quiet (fail)
    go_wp2_with fail
    refine bodyPost_ret (v := .agg #[.bool n, .int .i64 h, .int .i64 l]) (by simp [results, Try.results98, go_sem, x0, x1, x2, ← E1.out, ← E2.out]) rfl ?_
    have BB := BH.out
    exact Gives.mk rfl (by repeat' (first | (with_reducible exact Below.refl _ _) | (with_reducible refine Below.alloc ?_ ?_ _) | (with_reducible refine Below.setCell ?_ ?_ _) | (with_reducible refine Below.drew ?_) | (with_reducible refine below_dn ?_ _) | (with_reducible refine Below.trans ?_ (Below.mono (by assumption) ?_)) | (simp; done) | (simp; omega) | omega))
theorem rplus_any (n m : Bool) (H L G M : Int) (H0 : 0 ≤ H) (H1 : H ≤ 4000000000000000) (L0 : 0 ≤ L) (L1 : L < 1000000000000000) (G0 : 0 ≤ G) (G1 : G ≤ 4000000000000000) (M0 : 0 ≤ M) (M1 : M < 1000000000000000)
    (s : Bool) (V : Int) (hs : Sp.plusN n (H * 1000000000000000 + L) m (G * 1000000000000000 + M) = s) (hV : Sp.plusV n (H * 1000000000000000 + L) m (G * 1000000000000000 + M) = V) (w : World) :
    Calls Try.prog 98 #[.agg #[.bool n, .int .i64 H, .int .i64 L], .agg #[.bool m, .int .i64 G, .int .i64 M]] w (Gives (.agg #[.bool s, .int .i64 (V / 1000000000000000), .int .i64 (V % 1000000000000000)]) w) := by
  unfold Sp.plusN at hs
  unfold Sp.plusV at hV
  by_cases c : n = m
  · subst c
    rw [if_pos rfl] at hs hV
    subst hs
    exact rplus_same n H L G M _ _ H0 H1 L0 L1 G0 G1 M0 M1 (by omega) (by omega) w
  · rw [if_neg c] at hs hV
    have cn : (n == m) = false := by simp [c]
    have cm := fun w => rcmpsize_any n m H L G M H0 (by omega) L0 L1 G0 (by omega) M0 M1 w
    by_cases lt : H * 1000000000000000 + L < G * 1000000000000000 + M
    · rw [if_pos lt] at hs hV
      have r1 : Sp.cmpV (H * 1000000000000000 + L) (G * 1000000000000000 + M) = -1 := by unfold Sp.cmpV; rw [if_pos lt]
      subst hs
      by_cases c2 : M < L
      · exact rplus_swap_borrow n m H L G M _ _ _ H0 H1 L0 L1 G0 G1 M0 M1 cn r1 c2 cm (by omega) (by omega) w
      · exact rplus_swap n m H L G M _ _ _ H0 H1 L0 L1 G0 G1 M0 M1 cn r1 (by omega) cm (by omega) (by omega) w
    · rw [if_neg lt] at hs hV
      have r0 : 0 ≤ Sp.cmpV (H * 1000000000000000 + L) (G * 1000000000000000 + M) := by
        unfold Sp.cmpV; rw [if_neg lt]
        split <;> omega
      have r1 : Sp.cmpV (H * 1000000000000000 + L) (G * 1000000000000000 + M) ≤ 1 := by
        unfold Sp.cmpV; rw [if_neg lt]
        split <;> omega
      subst hs
      by_cases c2 : L < M
      · exact rplus_keep_borrow n m H L G M _ _ _ H0 H1 L0 L1 G0 G1 M0 M1 cn r0 r1 c2 cm (by omega) (by omega) w
      · exact rplus_keep n m H L G M _ _ _ H0 H1 L0 L1 G0 G1 M0 M1 cn r0 r1 (by omega) cm (by omega) (by omega) w
end Go.Proofs.Ytdimncchejbaaaa
