/-
  The functions of package fraction, each by a contract: product.
-/
import Derived.Test.YtdimncchejbaaaaFlim
import Derived.Deep.DeepCutAuto
import Derived.Deep.RegionHeld3
import Derived.Deep.QuietTactic
import Derived.BigQuiet
namespace Go.Proofs.Ytdimncchejbaaaa
open Go.RowKit
set_option linter.unusedVariables false
set_option linter.unusedSimpArgs false

def PrRel (w : World) (a b c d G : Int) (v : Value) (wx : World) : Prop :=
  v = .int .i64 G ∧ w.heap.size + 1 + 1 < wx.heap.size ∧ wx.cell? ⟨w.heap.size, 0, none⟩ = some (.int .i64 a) ∧ wx.cell? ⟨w.heap.size, 1, none⟩ = some (.int .i64 b) ∧ wx.cell? ⟨w.heap.size + 1, 0, none⟩ = some (.int .i64 c) ∧ wx.cell? ⟨w.heap.size + 1, 1, none⟩ = some (.int .i64 d) ∧
    (wx.cell? ⟨w.heap.size + 1 + 1, 0, none⟩ = some (.int .i64 0) ∧ wx.cell? ⟨w.heap.size + 1 + 1, 1, none⟩ = some (.int .i64 0) ∧ ∀ o, wx.frozen? ⟨w.heap.size + 1 + 1, o, none⟩ = false) ∧ Below w.heap.size w wx
set_option maxRecDepth 100000 in
set_option maxHeartbeats 8000000 in
theorem fprod_walk (a b c d A C G K' a' c' b' d' : Int) (nx : Bool) (hx lx : Int) (ny : Bool) (hy ly : Int) (x y e : Int) (w : World)
    (gg : (G == 0) = false) (gne : ¬ G = 0) (gw : IntKind.i64.wrap G = G) (kk : (K' == 0) = false) (kne : ¬ K' = 0) (kw : IntKind.i64.wrap K' = K') (G0 : 1 ≤ G) (K0 : 1 ≤ K')
    (ea : a.tdiv G = a') (eaw : IntKind.i64.wrap a' = a') (ec : c.tdiv K' = c') (ecw : IntKind.i64.wrap c' = c') (eb : b.tdiv K' = b') (ebw : IntKind.i64.wrap b' = b') (ed : d.tdiv G = d') (edw : IntKind.i64.wrap d' = d')
    (ga : ∀ w : World, Calls Try.prog 75 #[.int .i64 a] w fun e w' => e = .returned (.int .u64 A) ∧ w' = w) (gb : ∀ w : World, Calls Try.prog 75 #[.int .i64 b] w fun e w' => e = .returned (.int .u64 b) ∧ w' = w) (gc : ∀ w : World, Calls Try.prog 75 #[.int .i64 c] w fun e w' => e = .returned (.int .u64 C) ∧ w' = w) (gd : ∀ w : World, Calls Try.prog 75 #[.int .i64 d] w fun e w' => e = .returned (.int .u64 d) ∧ w' = w)
    (dv : ∀ w : World, Calls Try.prog 74 #[.int .u64 A, .int .u64 d] w (Quiet (.int .u64 G) w))
    (dv2 : ∀ w : World, Calls Try.prog 74 #[.int .u64 C, .int .u64 b] w (Quiet (.int .u64 K') w))
    (m1 : ∀ w : World, Calls Try.prog 95 #[.int .i64 a', .int .i64 c'] w fun e w' => e = .returned (.agg #[.bool nx, .int .u64 hx, .int .u64 lx]) ∧ w' = (w.alloc (Obj.cells #[.bool nx, .int .u64 hx, .int .u64 lx] 114)).alloc (Obj.cells #[.bool nx, .int .u64 hx, .int .u64 lx] 114))
    (m2 : ∀ w : World, Calls Try.prog 95 #[.int .i64 b', .int .i64 d'] w fun e w' => e = .returned (.agg #[.bool ny, .int .u64 hy, .int .u64 ly]) ∧ w' = (w.alloc (Obj.cells #[.bool ny, .int .u64 hy, .int .u64 ly] 114)).alloc (Obj.cells #[.bool ny, .int .u64 hy, .int .u64 ly] 114))
    (li : ∀ w : World, Calls Try.prog 94 #[.agg #[.bool nx, .int .u64 hx, .int .u64 lx], .agg #[.bool ny, .int .u64 hy, .int .u64 ly]] w (Gives (.tuple #[.agg #[.int .i64 x, .int .i64 y], .int .i64 e]) w)) :
    Calls Try.prog 81 #[.agg #[.int .i64 a, .int .i64 b], .agg #[.int .i64 c, .int .i64 d]] w (Gives (.tuple #[.agg #[.int .i64 x, .int .i64 y], .int .i64 e]) w) := by
  go_enter Try.func81, Try.ntmps81
  go_wp2_with fail
  go_cut [6] (fun v wx => PrRel w a b c d G v wx)
  case first =>
    go_quiet ((first | (go_at_call 75; (with_reducible exact Calls.quiet_of_same (ga _))) | (go_at_call 75; (with_reducible exact Calls.quiet_of_same (gd _))) | (go_at_call 74; (with_reducible exact Calls.quiet_of (dv _)))))
    go_wp2_with fail
    go_meet
    refine ⟨rfl, ?_, ?_, ?_, ?_, ?_, ⟨?_, ?_, ?_⟩, by repeat' (first | (with_reducible exact Below.refl _ _) | (with_reducible refine Below.alloc ?_ ?_ _) | (with_reducible refine Below.setCell ?_ ?_ _) | (with_reducible refine Below.drew ?_) | (with_reducible refine below_dn ?_ _) | (with_reducible refine Below.trans ?_ (Below.mono (by assumption) ?_)) | (simp; done) | (simp; omega) | omega)⟩
    all_goals first | (simp; done) | (simp; omega) | (simp [go_sem]; done)
  case rest =>
    obtain ⟨rfl, hsz, pa, pb, qc, qd, ⟨x0, x1, xf⟩, hB⟩ := hcut
    have BH := hid hB
    clear hB
    have pz : w.heap.size < wc.heap.size := by omega
    have qz : w.heap.size + 1 < wc.heap.size := by omega
    have xne : ¬ w.heap.size + 1 + 1 = wc.heap.size := by omega
    have xz1 : w.heap.size + 1 + 1 < wc.heap.size + 1 := by omega
    have xz2 : w.heap.size + 1 + 1 < wc.heap.size + 1 + 1 := by omega
    have xz3 : w.heap.size + 1 + 1 < wc.heap.size + 1 + 1 + 1 := by omega
    go_wp2_with fail
    go_quiet ((first | (go_at_call 75; (with_reducible exact Calls.quiet_of_same (gc _))) | (go_at_call 75; (with_reducible exact Calls.quiet_of_same (gb _))) | (go_at_call 74; (with_reducible exact Calls.quiet_of (dv2 _)))))
    go_wp2_with fail
    have K : Hid (∀ W', Below (w.heap.size + 1 + 1) wc W' → (Below (w.heap.size + 1 + 1) wc W' ∧ w.heap.size + 1 + 1 < W'.heap.size ∧ W'.cell? ⟨w.heap.size, 0, none⟩ = some (.int .i64 a) ∧ W'.cell? ⟨w.heap.size, 1, none⟩ = some (.int .i64 b) ∧ W'.cell? ⟨w.heap.size + 1, 0, none⟩ = some (.int .i64 c) ∧ W'.cell? ⟨w.heap.size + 1, 1, none⟩ = some (.int .i64 d))) := hid fun W' B =>
      ⟨B, Nat.lt_of_lt_of_le hsz B.size, (B.cell (p := ⟨w.heap.size, 0, none⟩) (by first | assumption | (simp; done) | (simp; omega) | (dsimp only; omega) | omega)).trans pa, (B.cell (p := ⟨w.heap.size, 1, none⟩) (by first | assumption | (simp; done) | (simp; omega) | (dsimp only; omega) | omega)).trans pb, (B.cell (p := ⟨w.heap.size + 1, 0, none⟩) (by first | assumption | (simp; done) | (simp; omega) | (dsimp only; omega) | omega)).trans qc, (B.cell (p := ⟨w.heap.size + 1, 1, none⟩) (by first | assumption | (simp; done) | (simp; omega) | (dsimp only; omega) | omega)).trans qd⟩
    go_region_held3 (fun W' => Below (w.heap.size + 1 + 1) wc W' ∧ w.heap.size + 1 + 1 < W'.heap.size ∧ W'.cell? ⟨w.heap.size, 0, none⟩ = some (.int .i64 a) ∧ W'.cell? ⟨w.heap.size, 1, none⟩ = some (.int .i64 b) ∧ W'.cell? ⟨w.heap.size + 1, 0, none⟩ = some (.int .i64 c) ∧ W'.cell? ⟨w.heap.size + 1, 1, none⟩ = some (.int .i64 d)) ((exact K.out _ (by repeat' (first | (with_reducible exact Below.refl _ _) | (with_reducible refine Below.alloc ?_ ?_ _) | (with_reducible refine Below.setCell ?_ ?_ _) | (with_reducible refine Below.drew ?_) | (with_reducible refine below_dn ?_ _) | (with_reducible refine Below.trans ?_ (Below.mono (by assumption) ?_)) | (simp; done) | (simp; omega) | omega))))
      (first | (go_at_call 95; (with_reducible refine (m1 _).mono ?_); rintro e w5 ⟨rfl, rfl⟩) | (go_at_call 95; (with_reducible refine (m2 _).mono ?_); rintro e w5 ⟨rfl, rfl⟩) | (go_at_call 94; refine (li _).mono ?_; rintro e w6 ⟨rfl, hb⟩; have hb3 : Below wc.heap.size wc w6 := (by repeat' (first | (with_reducible exact Below.refl _ _) | (with_reducible refine Below.alloc ?_ ?_ _) | (with_reducible refine Below.setCell ?_ ?_ _) | (with_reducible refine Below.drew ?_) | (with_reducible refine below_dn ?_ _) | (with_reducible refine Below.trans ?_ (Below.mono (by assumption) ?_)) | (simp; done) | (simp; omega) | omega)); have y0 := (hb3.cell (p := ⟨w.heap.size + 1 + 1, 0, none⟩) hsz).trans x0; have y1 := (hb3.cell (p := ⟨w.heap.size + 1 + 1, 1, none⟩) hsz).trans x1; have yf : ∀ o, w6.frozen? ⟨w.heap.size + 1 + 1, o, none⟩ = false := (fun o => (hb3.frozen (p := ⟨w.heap.size + 1 + 1, o, none⟩) hsz).trans (xf o)); have yz : w.heap.size + 1 + 1 < w6.heap.size := Nat.lt_of_lt_of_le hsz hb3.size; clear hb))
    all_goals
      go_wp2
      have BB := BH.out
      have hz3 := hb3.size
      refine bodyPost_ret (v := .tuple #[.agg #[.int .i64 x, .int .i64 y], .int .i64 e]) (by simp [results, Try.results81, go_sem, y0, y1]) rfl ?_
      exact Gives.mk rfl (by repeat' (first | (with_reducible exact Below.refl _ _) | (with_reducible refine Below.alloc ?_ ?_ _) | (with_reducible refine Below.setCell ?_ ?_ _) | (with_reducible refine Below.drew ?_) | (with_reducible refine below_dn ?_ _) | (with_reducible refine Below.trans ?_ (Below.mono (by assumption) ?_)) | (simp; done) | (simp; omega) | omega))
end Go.Proofs.Ytdimncchejbaaaa
