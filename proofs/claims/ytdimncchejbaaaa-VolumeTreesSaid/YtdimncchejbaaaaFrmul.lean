/-
  The functions of package couperef02, each by a contract: Mul, for every input.
-/
import Derived.Test.YtdimncchejbaaaaFwide3
import Derived.Test.YtdimncchejbaaaaFwide4
import Derived.Deep.RegionHeld3
namespace Go.Proofs.Ytdimncchejbaaaa
open Go.RowKit
set_option linter.unusedVariables false
set_option linter.unusedSimpArgs false

/-- Behind a part of the product: the fractions' boxes, that of the result. -/
def RmRel (w : World) (a b c d : Int) (num : Int) (ok : Bool) (vd vf : Value) (wx : World) : Prop :=
  vd = .int .i64 num ∧ vf = .bool ok ∧ wx.cell? ⟨w.heap.size, 0, none⟩ = some (.int .i64 a) ∧ wx.cell? ⟨w.heap.size, 1, none⟩ = some (.int .i64 b) ∧ wx.cell? ⟨w.heap.size + 1, 0, none⟩ = some (.int .i64 c) ∧ wx.cell? ⟨w.heap.size + 1, 1, none⟩ = some (.int .i64 d) ∧
    wx.cell? ⟨w.heap.size + 1 + 1, 0, none⟩ = some (.int .i64 0) ∧ wx.cell? ⟨w.heap.size + 1 + 1, 1, none⟩ = some (.int .i64 0) ∧ (∀ o, wx.frozen? ⟨w.heap.size + 1 + 1, o, none⟩ = false) ∧
    w.heap.size + 1 + 1 < wx.heap.size ∧ Below w.heap.size w wx
set_option maxRecDepth 100000 in
set_option maxHeartbeats 8000000 in
theorem rmul_walk (a b c d A C G H a' c' b' d' : Int) (n1 : Bool) (h1 l1 : Int) (n3 : Bool) (h3 l3 : Int) (num r1 den r2 : Int) (ok fine : Bool) (x y e : Int) (w : World)
    (gg : (G == 0) = false) (gne : ¬ G = 0) (G0 : 1 ≤ G) (hh : (H == 0) = false) (hne : ¬ H = 0) (H0 : 1 ≤ H)
    (ea : A.tdiv G = a') (eaw : IntKind.i64.wrap a' = a') (ec : C.tdiv H = c') (ecw : IntKind.i64.wrap c' = c') (eb : b.tdiv H = b') (ebw : IntKind.i64.wrap b' = b') (ed : d.tdiv G = d') (edw : IntKind.i64.wrap d' = d')
    (num0 : 0 ≤ num) (num1 : num ≤ 1000000000000000) (den0 : 0 ≤ den) (den1 : den ≤ 1000000000000000)
    (hres : Hid ((x, y, e) = if ok = true ∧ fine = true then (if (decide (a < 0) != decide (c < 0)) = true then -num else num, den, 0) else (0, 0, 8)))
    (tw : ∀ w : World, Calls Try.prog 82 #[.agg #[.int .i64 a, .int .i64 b], .agg #[.int .i64 c, .int .i64 d]] w (Gives (.int .i64 0) w))
    (aa : ∀ w : World, Calls Try.prog 59 #[.int .i64 a] w fun e w' => e = .returned (.int .i64 A) ∧ w' = w)
    (ac : ∀ w : World, Calls Try.prog 59 #[.int .i64 c] w fun e w' => e = .returned (.int .i64 C) ∧ w' = w)
    (gc : ∀ w : World, Calls Try.prog 83 #[.int .i64 A, .int .i64 d] w (Quiet (.int .i64 G) w))
    (gd : ∀ w : World, Calls Try.prog 83 #[.int .i64 C, .int .i64 b] w (Quiet (.int .i64 H) w))
    (m1 : ∀ w : World, Calls Try.prog 85 #[.int .i64 a', .int .i64 c'] w fun e w' => e = .returned (.agg #[.bool n1, .int .i64 h1, .int .i64 l1]) ∧ w' = w.alloc (Obj.cells #[.bool n1, .int .i64 h1, .int .i64 l1] 103))
    (qb : ∀ w : World, Calls Try.prog 84 #[.agg #[.bool n1, .int .i64 h1, .int .i64 l1], .int .i64 1] w (Gives (.tuple #[.int .i64 num, .int .i64 r1, .bool ok]) w))
    (m3 : ∀ w : World, Calls Try.prog 85 #[.int .i64 b', .int .i64 d'] w fun e w' => e = .returned (.agg #[.bool n3, .int .i64 h3, .int .i64 l3]) ∧ w' = w.alloc (Obj.cells #[.bool n3, .int .i64 h3, .int .i64 l3] 103))
    (qc : ∀ w : World, Calls Try.prog 84 #[.agg #[.bool n3, .int .i64 h3, .int .i64 l3], .int .i64 1] w (Gives (.tuple #[.int .i64 den, .int .i64 r2, .bool fine]) w)) :
    Calls Try.prog 66 #[.agg #[.int .i64 a, .int .i64 b], .agg #[.int .i64 c, .int .i64 d]] w (Gives (.tuple #[.agg #[.int .i64 x, .int .i64 y], .int .i64 e]) w) := by
  go_enter Try.func66, Try.ntmps66
  go_wp2_with (go_at_call 82; refine (tw _).mono ?_; rintro _ w1 ⟨rfl, hb⟩; have pz : w.heap.size < (w1).heap.size := Nat.lt_of_lt_of_le (show w.heap.size < _ from (by first | assumption | (simp; done) | (simp; omega) | (dsimp only; omega) | omega)) hb.size; have p0 : (w1).cell? ⟨w.heap.size, 0, none⟩ = some (.int .i64 (a)) := (hb.cell (p := ⟨w.heap.size, 0, none⟩) (by first | assumption | (simp; done) | (simp; omega) | (dsimp only; omega) | omega)).trans (by first | assumption | (simp [go_sem]; done) | (simp [go_sem, *]; done)); have p1 : (w1).cell? ⟨w.heap.size, 1, none⟩ = some (.int .i64 (b)) := (hb.cell (p := ⟨w.heap.size, 1, none⟩) (by first | assumption | (simp; done) | (simp; omega) | (dsimp only; omega) | omega)).trans (by first | assumption | (simp [go_sem]; done) | (simp [go_sem, *]; done)); have pf : ∀ o, (w1).frozen? ⟨w.heap.size, o, none⟩ = false := fun o => (hb.frozen (p := ⟨w.heap.size, o, none⟩) (by first | assumption | (simp; done) | (simp; omega) | (dsimp only; omega) | omega)).trans (by first | (simp [go_sem]; done) | (simp [go_sem, *]; done)); have qz : w.heap.size + 1 < (w1).heap.size := Nat.lt_of_lt_of_le (show w.heap.size + 1 < _ from (by first | assumption | (simp; done) | (simp; omega) | (dsimp only; omega) | omega)) hb.size; have q0 : (w1).cell? ⟨w.heap.size + 1, 0, none⟩ = some (.int .i64 (c)) := (hb.cell (p := ⟨w.heap.size + 1, 0, none⟩) (by first | assumption | (simp; done) | (simp; omega) | (dsimp only; omega) | omega)).trans (by first | assumption | (simp [go_sem]; done) | (simp [go_sem, *]; done)); have q1 : (w1).cell? ⟨w.heap.size + 1, 1, none⟩ = some (.int .i64 (d)) := (hb.cell (p := ⟨w.heap.size + 1, 1, none⟩) (by first | assumption | (simp; done) | (simp; omega) | (dsimp only; omega) | omega)).trans (by first | assumption | (simp [go_sem]; done) | (simp [go_sem, *]; done)); have qf : ∀ o, (w1).frozen? ⟨w.heap.size + 1, o, none⟩ = false := fun o => (hb.frozen (p := ⟨w.heap.size + 1, o, none⟩) (by first | assumption | (simp; done) | (simp; omega) | (dsimp only; omega) | omega)).trans (by first | (simp [go_sem]; done) | (simp [go_sem, *]; done)); have xz : w.heap.size + 1 + 1 < (w1).heap.size := Nat.lt_of_lt_of_le (show w.heap.size + 1 + 1 < _ from (by first | assumption | (simp; done) | (simp; omega) | (dsimp only; omega) | omega)) hb.size; have x0 : (w1).cell? ⟨w.heap.size + 1 + 1, 0, none⟩ = some (.int .i64 (0)) := (hb.cell (p := ⟨w.heap.size + 1 + 1, 0, none⟩) (by first | assumption | (simp; done) | (simp; omega) | (dsimp only; omega) | omega)).trans (by first | assumption | (simp [go_sem]; done) | (simp [go_sem, *]; done)); have x1 : (w1).cell? ⟨w.heap.size + 1 + 1, 1, none⟩ = some (.int .i64 (0)) := (hb.cell (p := ⟨w.heap.size + 1 + 1, 1, none⟩) (by first | assumption | (simp; done) | (simp; omega) | (dsimp only; omega) | omega)).trans (by first | assumption | (simp [go_sem]; done) | (simp [go_sem, *]; done)); have xf : ∀ o, (w1).frozen? ⟨w.heap.size + 1 + 1, o, none⟩ = false := fun o => (hb.frozen (p := ⟨w.heap.size + 1 + 1, o, none⟩) (by first | assumption | (simp; done) | (simp; omega) | (dsimp only; omega) | omega)).trans (by first | (simp [go_sem]; done) | (simp [go_sem, *]; done)); have BN1 : Below w.heap.size w w1 := (by repeat' (first | (with_reducible exact Below.refl _ _) | (with_reducible refine Below.alloc ?_ ?_ _) | (with_reducible refine Below.setCell ?_ ?_ _) | (with_reducible refine Below.drew ?_) | (with_reducible refine Below.trans ?_ (Below.mono (by assumption) ?_)) | (simp; done) | (simp; omega) | omega)); clear hb)
  go_quiet ((first | (go_at_call 59; (with_reducible exact Calls.quiet_of_same (aa _))) | (go_at_call 59; (with_reducible exact Calls.quiet_of_same (ac _))) | (go_at_call 83; (with_reducible exact Calls.quiet_of (gc _))) | (go_at_call 83; (with_reducible exact Calls.quiet_of (gd _)))))
  go_wp2_with fail
  have BH := hid BN1
  have KP := hid (And.intro pz (And.intro p0 p1))
  have KQ := hid (And.intro qz (And.intro q0 q1))
  have KX := hid (And.intro xz (And.intro x0 (And.intro x1 xf)))
  clear BN1 pz p0 p1 pf qz q0 q1 qf xz x0 x1 xf
  go_cut [9, 10, 11] (fun vn vr vo wx => RmRel w a b c d num ok vn vo wx)
  case first =>
    have K : Hid (∀ W', Below w1.heap.size w1 W' → (Below w1.heap.size w1 W' ∧ W'.cell? ⟨w.heap.size, 0, none⟩ = some (.int .i64 a) ∧ W'.cell? ⟨w.heap.size + 1, 0, none⟩ = some (.int .i64 c))) := hid fun W' B =>
      ⟨B, (B.cell (p := ⟨w.heap.size, 0, none⟩) KP.out.1).trans KP.out.2.1, (B.cell (p := ⟨w.heap.size + 1, 0, none⟩) KQ.out.1).trans KQ.out.2.1⟩
    go_region_held3 (fun w' => Below w1.heap.size w1 w' ∧ w'.cell? ⟨w.heap.size, 0, none⟩ = some (.int .i64 a) ∧ w'.cell? ⟨w.heap.size + 1, 0, none⟩ = some (.int .i64 c)) ((exact K.out _ (by repeat' (first | (with_reducible exact Below.refl _ _) | (with_reducible refine Below.alloc ?_ ?_ _) | (with_reducible refine Below.setCell ?_ ?_ _) | (with_reducible refine Below.drew ?_) | (with_reducible refine below_dn ?_ _) | (with_reducible refine Below.trans ?_ (Below.mono (by assumption) ?_)) | (simp; done) | (simp; omega) | omega))))
      (first | (go_at_call 59; refine (aa _).mono ?_; rintro e w' ⟨rfl, rfl⟩) | (go_at_call 59; refine (ac _).mono ?_; rintro e w' ⟨rfl, rfl⟩) | (go_at_call 85; (with_reducible refine (m1 _).mono ?_); rintro e5 w5 ⟨rfl, rfl⟩) | (go_at_call 84; refine (qb _).mono ?_; rintro e5 w6 ⟨rfl, hb2⟩; have hb : Below w1.heap.size w1 w6 := (by repeat' (first | (with_reducible exact Below.refl _ _) | (with_reducible refine Below.alloc ?_ ?_ _) | (with_reducible refine Below.setCell ?_ ?_ _) | (with_reducible refine Below.drew ?_) | (with_reducible refine below_dn ?_ _) | (with_reducible refine Below.trans ?_ (Below.mono (by assumption) ?_)) | (simp; done) | (simp; omega) | omega)); have hz2 : w1.heap.size ≤ w6.heap.size := hb.size; clear hb2))
    all_goals
      trace "first"
      go_wp2_with fail
      go_meet
      exact ⟨rfl, rfl, (hb.cell (p := ⟨w.heap.size, 0, none⟩) KP.out.1).trans KP.out.2.1, (hb.cell (p := ⟨w.heap.size, 1, none⟩) KP.out.1).trans KP.out.2.2, (hb.cell (p := ⟨w.heap.size + 1, 0, none⟩) KQ.out.1).trans KQ.out.2.1, (hb.cell (p := ⟨w.heap.size + 1, 1, none⟩) KQ.out.1).trans KQ.out.2.2,
        (hb.cell (p := ⟨w.heap.size + 1 + 1, 0, none⟩) KX.out.1).trans KX.out.2.1, (hb.cell (p := ⟨w.heap.size + 1 + 1, 1, none⟩) KX.out.1).trans KX.out.2.2.1, fun o => (hb.frozen (p := ⟨w.heap.size + 1 + 1, o, none⟩) KX.out.1).trans (KX.out.2.2.2 o), Nat.lt_of_lt_of_le KX.out.1 hz2, BH.out.trans (hb.mono (BH.out.size))⟩
  case rest =>
    obtain ⟨rfl, rfl, p0, p1, q0, q1, x0, x1, xf, xz, hB⟩ := hcut
    have pz : w.heap.size < wc.heap.size := by omega
    have qz : w.heap.size + 1 < wc.heap.size := by omega
    have BC := hid hB
    clear hB BH KP KQ KX
    go_wp2_with fail
    have K : Hid (∀ W', Below wc.heap.size wc W' → (Below wc.heap.size wc W' ∧ W'.cell? ⟨w.heap.size, 1, none⟩ = some (.int .i64 b) ∧ W'.cell? ⟨w.heap.size + 1, 1, none⟩ = some (.int .i64 d))) := hid fun W' B =>
      ⟨B, (B.cell (p := ⟨w.heap.size, 1, none⟩) (by first | assumption | (simp; done) | (simp; omega) | (dsimp only; omega) | omega)).trans p1, (B.cell (p := ⟨w.heap.size + 1, 1, none⟩) (by first | assumption | (simp; done) | (simp; omega) | (dsimp only; omega) | omega)).trans q1⟩
    have KC := hid (And.intro p0 (And.intro q0 (And.intro xz (And.intro x0 (And.intro x1 xf)))))
    clear p0 p1 q0 q1 x0 x1 xf
    go_region_held3 (fun w' => Below wc.heap.size wc w' ∧ w'.cell? ⟨w.heap.size, 1, none⟩ = some (.int .i64 b) ∧ w'.cell? ⟨w.heap.size + 1, 1, none⟩ = some (.int .i64 d)) ((exact K.out _ (by repeat' (first | (with_reducible exact Below.refl _ _) | (with_reducible refine Below.alloc ?_ ?_ _) | (with_reducible refine Below.setCell ?_ ?_ _) | (with_reducible refine Below.drew ?_) | (with_reducible refine below_dn ?_ _) | (with_reducible refine Below.trans ?_ (Below.mono (by assumption) ?_)) | (simp; done) | (simp; omega) | omega))))
      (first | (go_at_call 85; (with_reducible refine (m3 _).mono ?_); rintro e5 w5 ⟨rfl, rfl⟩) | (go_at_call 84; refine (qc _).mono ?_; rintro e5 w6 ⟨rfl, hb2⟩; have hb : Below wc.heap.size wc w6 := (by repeat' (first | (with_reducible exact Below.refl _ _) | (with_reducible refine Below.alloc ?_ ?_ _) | (with_reducible refine Below.setCell ?_ ?_ _) | (with_reducible refine Below.drew ?_) | (with_reducible refine below_dn ?_ _) | (with_reducible refine Below.trans ?_ (Below.mono (by assumption) ?_)) | (simp; done) | (simp; omega) | omega)); have hz2 : wc.heap.size ≤ w6.heap.size := hb.size; clear hb2))
    all_goals
      trace "rest"
      obtain ⟨p0, q0, xz, x0, x1, xf⟩ := KC.out
      have dp0 := (hb.cell (p := ⟨w.heap.size, 0, none⟩) pz).trans p0
      have dq0 := (hb.cell (p := ⟨w.heap.size + 1, 0, none⟩) qz).trans q0
      have dx0 := (hb.cell (p := ⟨w.heap.size + 1 + 1, 0, none⟩) xz).trans x0
      have dx1 := (hb.cell (p := ⟨w.heap.size + 1 + 1, 1, none⟩) xz).trans x1
      have dxf : ∀ o, w6.frozen? ⟨w.heap.size + 1 + 1, o, none⟩ = false := fun o => (hb.frozen (p := ⟨w.heap.size + 1 + 1, o, none⟩) xz).trans (xf o)
      have dxz : w.heap.size + 1 + 1 < w6.heap.size := by omega
      have BH2 := hid (BC.out.trans (hb.mono (show w.heap.size ≤ wc.heap.size by omega)))
      clear hb p0 q0 xz x0 x1 xf KC K BC pz qz hz2
      have hr := hres.out
      cases ok <;> cases fine
      case false.false | false.true | true.false =>
        simp at hr
        obtain ⟨rfl, rfl, rfl⟩ := hr
        go_wp2_with fail
        refine bodyPost_ret (v := .tuple #[.agg #[.int .i64 0, .int .i64 0], .int .i64 8]) (by simp [results, Try.results66, go_sem, dx0, dx1, dxf]) rfl ?_
        have BB := BH2.out
        exact Gives.mk rfl (Below.setCell (Below.setCell BB (by simp; omega) _) (by simp; omega) _)
      case true.true =>
        by_cases ca : a < 0
        · by_cases cc : c < 0
          · simp [ca, cc] at hr
            obtain ⟨rfl, rfl, rfl⟩ := hr
            go_wp2_with fail
            refine bodyPost_ret (v := .tuple #[.agg #[.int .i64 x, .int .i64 y], .int .i64 0]) (by simp [results, Try.results66, go_sem, dx0, dx1, dxf]) rfl ?_
            have BB := BH2.out
            exact Gives.mk rfl (Below.setCell (Below.setCell BB (by simp; omega) _) (by simp; omega) _)
          · simp [ca, cc] at hr
            obtain ⟨rfl, rfl, rfl⟩ := hr
            go_wp2_with fail
            refine bodyPost_ret (v := .tuple #[.agg #[.int .i64 (-num), .int .i64 y], .int .i64 0]) (by simp [results, Try.results66, go_sem, dx0, dx1, dxf]) rfl ?_
            have BB := BH2.out
            exact Gives.mk rfl (Below.setCell (Below.setCell BB (by simp; omega) _) (by simp; omega) _)
        · by_cases cc : c < 0
          · simp [ca, cc] at hr
            obtain ⟨rfl, rfl, rfl⟩ := hr
            go_wp2_with fail
            refine bodyPost_ret (v := .tuple #[.agg #[.int .i64 (-num), .int .i64 y], .int .i64 0]) (by simp [results, Try.results66, go_sem, dx0, dx1, dxf]) rfl ?_
            have BB := BH2.out
            exact Gives.mk rfl (Below.setCell (Below.setCell BB (by simp; omega) _) (by simp; omega) _)
          · simp [ca, cc] at hr
            obtain ⟨rfl, rfl, rfl⟩ := hr
            go_wp2_with fail
            refine bodyPost_ret (v := .tuple #[.agg #[.int .i64 x, .int .i64 y], .int .i64 0]) (by simp [results, Try.results66, go_sem, dx0, dx1, dxf]) rfl ?_
            have BB := BH2.out
            exact Gives.mk rfl (Below.setCell (Below.setCell BB (by simp; omega) _) (by simp; omega) _)

end Go.Proofs.Ytdimncchejbaaaa
