/-
  Layer 15: Neighbours of couperef15, by contract.
-/
import Derived.Test.YtmdaanigkhikfaaQtb
import Derived.Test.YtmdaanigkhikfaaTx
namespace Go.Proofs.Ytmdaanigkhikfaa
open Go.RowKit
set_option linter.unusedVariables false
set_option linter.unusedSimpArgs false
set_option maxRecDepth 100000 in
set_option maxHeartbeats 1000000 in
theorem rneigh_walk (A : Option Addr) (cap : Nat) (c r k : Int) (z : List Int) (i X Y : Int) (B1 B2 B3 B4 : Bool) (w : World) (hX : i.tmod c = X) (hY : i.tdiv c = Y) (h1 : decide (Y > 0) = B1) (h2 : decide (X > 0) = B2) (h3 : decide (X < c - 1) = B3) (h4 : decide (Y < r - 1) = B4)
    (bc : 2 ≤ c ∧ c ≤ 16) (br : 2 ≤ r ∧ r ≤ 16) (bi : 0 ≤ i ∧ i ≤ 256) (bX : 0 ≤ X ∧ X ≤ 256) (bY : 0 ≤ Y ∧ Y ≤ 256) :
    Calls Try.prog 35 #[.agg #[.int .i64 c, .int .i64 r, .int .i64 k, .slice A z.length cap], .int .i64 i] w (IntsPost w (Sp.opt B1 (i - c) ++ Sp.opt B2 (i - 1) ++ Sp.opt B3 (i + 1) ++ Sp.opt B4 (i + c))) := by
  have VB := trAt_new w c r k A z.length cap
  have b0 : Below w.heap.size w (w.alloc (Obj.cells #[.int .i64 c, .int .i64 r, .int .i64 k, .slice A z.length cap] 24)) := balloc _ _
  have uz : w.heap.size + 1 ≤ (w.alloc (Obj.cells #[.int .i64 c, .int .i64 r, .int .i64 k, .slice A z.length cap] 24)).heap.size := by simp
  generalize hU : w.alloc (Obj.cells #[.int .i64 c, .int .i64 r, .int .i64 k, .slice A z.length cap] 24) = U at VB b0 uz
  have hD : Below U.heap.size U U.drew := (Below.refl _ _).drew
  have VD := VB.below hD
  have bD := bthen b0 hD
  have zD := Nat.le_trans uz hD.size
  have HU := hid hU
  have kz : ¬ c = 0 := by omega
  have ky : (c == 0) = false := by simp; omega
  have x1 : IntKind.i64.wrap X = X := pi64 _ (by omega)
  have x2 : IntKind.i64.wrap Y = Y := pi64 _ (by omega)
  have y1 : wrap64 (i - c) = i - c := pw64 _ (by omega)
  have y2 : wrap64 (i - 1) = i - 1 := pw64 _ (by omega)
  have y3 : wrap64 (i + 1) = i + 1 := pw64 _ (by omega)
  have y4 : wrap64 (i + c) = i + c := pw64 _ (by omega)
  have y5 : wrap64 (c - 1) = c - 1 := pw64 _ (by omega)
  have y6 : wrap64 (r - 1) = r - 1 := pw64 _ (by omega)
  have c0 := VB.c0
  have c1 := VB.c1
  have c2 := VB.c2
  have c3 := VB.c3
  have cl := VB.lt
  clear hU b0 uz VB bc br bi bX bY hD
  go_enter Try.func35, Try.ntmps35
  go_upto_region 1 with fail
  rw [HU.out]
  go_still (by rfl)
  refine (show ∀ (K : Act → World → Prop) a, K a U.drew → K a { U with drawn := U.drawn + 1 } from fun K a h => h) _ _ ?_
  clear c0 c1 c2 c3 cl
  generalize U.drew = V at VD bD zD ⊢
  have O0 : OwnI V (w.heap.size + 1) (.slice none 0 0) [] := OwnI.nil _ _
  have HO := hid O0
  have HV := hid VD
  have HB := hid bD
  have HZ := hid zD
  clear VD bD zD O0
  have t0 := HV.out.c0
  have t1 := HV.out.c1
  have tl := HV.out.lt
  go_upto_if 17 with fail
  clear t0 t1 tl
  go_cut [7] (fun v wx => OwnI wx (w.heap.size + 1) v (Sp.opt B1 (i - c)) ∧ TrAt wx w.heap.size c r k A z.length cap ∧ Below w.heap.size w wx ∧ w.heap.size + 1 ≤ wx.heap.size)
  case first =>
    have t0 := HV.out.c0
    have tl := HV.out.lt
    cases B1
    · go_wp2_with fail
      go_meet
      exact ⟨by simpa [Sp.opt] using HO.out, HV.out, HB.out, HZ.out⟩
    · have ll : Hid (([] : List Int).length ≤ 4000) := hid (by exact Nat.zero_le _)
      have gb : w.heap.size + 1 ≤ (V.alloc (.cells #[.int .i64 (i - c)] 3)).heap.size := by have := HZ.out; simp; omega
      go_wp2_with (at_builtin; refine appI rfl _ _ rfl (w.heap.size + 1) _ [] rfl (HO.out.below (balloc _ _)) V.heap.size rfl (i - c) (by simp [go_sem]) ll gb ?_; intro v8 w8 how hgr)
      go_meet
      have OL := fun g h => ownI_lt HO.out (g := g) h
      exact ⟨by simpa [Sp.opt] using how, (HV.out.below (balloc _ _)).grown hgr (fun b e => by have := (OL b e).1; omega), (bthen HB.out (balloc _ _)).grown hgr (Nat.le_of_succ_le gb) (fun b e => by have := (OL b e).1; omega), Nat.le_trans gb hgr.size⟩
  case rest =>
    obtain ⟨hO, hQ, hB, hZ⟩ := hcut
    clear HO HV HB HZ
    have HO := hid hO
    have HV := hid hQ
    have HB := hid hB
    have HZ := hid hZ
    obtain ⟨A1, k1, e1, -, -, -⟩ := hO.form
    subst e1
    clear hO hQ hB hZ
    have t0 := HV.out.c0
    have t1 := HV.out.c1
    have tl := HV.out.lt
    go_upto_if 26 with fail
    clear t0 t1 tl
    go_cut [7] (fun v wx => OwnI wx (w.heap.size + 1) v ((Sp.opt B1 (i - c)) ++ Sp.opt B2 (i - 1)) ∧ TrAt wx w.heap.size c r k A z.length cap ∧ Below w.heap.size w wx ∧ w.heap.size + 1 ≤ wx.heap.size)
    case first =>
      have t0 := HV.out.c0
      have tl := HV.out.lt
      cases B2
      · go_wp2_with fail
        go_meet
        exact ⟨by simpa [Sp.opt] using HO.out, HV.out, HB.out, HZ.out⟩
      · have ll : Hid (((Sp.opt B1 (i - c)) : List Int).length ≤ 4000) := hid (by have q0 := ilen2 B1 (i - c); omega)
        have gb : w.heap.size + 1 ≤ (wc.alloc (.cells #[.int .i64 (i - 1)] 3)).heap.size := by have := HZ.out; simp; omega
        go_wp2_with (at_builtin; refine appI rfl _ _ rfl (w.heap.size + 1) _ (Sp.opt B1 (i - c)) rfl (HO.out.below (balloc _ _)) wc.heap.size rfl (i - 1) (by simp [go_sem]) ll gb ?_; intro v8 w8 how hgr)
        go_meet
        have OL := fun g h => ownI_lt HO.out (g := g) h
        exact ⟨by simpa [Sp.opt] using how, (HV.out.below (balloc _ _)).grown hgr (fun b e => by have := (OL b e).1; omega), (bthen HB.out (balloc _ _)).grown hgr (Nat.le_of_succ_le gb) (fun b e => by have := (OL b e).1; omega), Nat.le_trans gb hgr.size⟩
    case rest =>
      obtain ⟨hO, hQ, hB, hZ⟩ := hcut
      clear HO HV HB HZ
      have HO := hid hO
      have HV := hid hQ
      have HB := hid hB
      have HZ := hid hZ
      obtain ⟨A2, k2, e1, -, -, -⟩ := hO.form
      subst e1
      clear hO hQ hB hZ
      have t0 := HV.out.c0
      have t1 := HV.out.c1
      have tl := HV.out.lt
      go_upto_if 36 with fail
      clear t0 t1 tl
      go_cut [7] (fun v wx => OwnI wx (w.heap.size + 1) v (((Sp.opt B1 (i - c)) ++ Sp.opt B2 (i - 1)) ++ Sp.opt B3 (i + 1)) ∧ TrAt wx w.heap.size c r k A z.length cap ∧ Below w.heap.size w wx ∧ w.heap.size + 1 ≤ wx.heap.size)
      case first =>
        have t0 := HV.out.c0
        have tl := HV.out.lt
        cases B3
        · go_wp2_with fail
          go_meet
          exact ⟨by simpa [Sp.opt] using HO.out, HV.out, HB.out, HZ.out⟩
        · have ll : Hid ((((Sp.opt B1 (i - c)) ++ Sp.opt B2 (i - 1)) : List Int).length ≤ 4000) := hid (by simp only [List.length_append]; have q0 := ilen2 B1 (i - c); have q1 := ilen2 B2 (i - 1); omega)
          have gb : w.heap.size + 1 ≤ (wc.alloc (.cells #[.int .i64 (i + 1)] 3)).heap.size := by have := HZ.out; simp; omega
          go_wp2_with (at_builtin; refine appI rfl _ _ rfl (w.heap.size + 1) _ ((Sp.opt B1 (i - c)) ++ Sp.opt B2 (i - 1)) rfl (HO.out.below (balloc _ _)) wc.heap.size rfl (i + 1) (by simp [go_sem]) ll gb ?_; intro v8 w8 how hgr)
          go_meet
          have OL := fun g h => ownI_lt HO.out (g := g) h
          exact ⟨by simpa [Sp.opt] using how, (HV.out.below (balloc _ _)).grown hgr (fun b e => by have := (OL b e).1; omega), (bthen HB.out (balloc _ _)).grown hgr (Nat.le_of_succ_le gb) (fun b e => by have := (OL b e).1; omega), Nat.le_trans gb hgr.size⟩
      case rest =>
        obtain ⟨hO, hQ, hB, hZ⟩ := hcut
        clear HO HV HB HZ
        have HO := hid hO
        have HV := hid hQ
        have HB := hid hB
        have HZ := hid hZ
        obtain ⟨A3, k3, e1, -, -, -⟩ := hO.form
        subst e1
        clear hO hQ hB hZ
        have t0 := HV.out.c0
        have t1 := HV.out.c1
        have tl := HV.out.lt
        go_upto_if 46 with fail
        clear t0 t1 tl
        go_cut [7] (fun v wx => OwnI wx (w.heap.size + 1) v ((((Sp.opt B1 (i - c)) ++ Sp.opt B2 (i - 1)) ++ Sp.opt B3 (i + 1)) ++ Sp.opt B4 (i + c)) ∧ TrAt wx w.heap.size c r k A z.length cap ∧ Below w.heap.size w wx ∧ w.heap.size + 1 ≤ wx.heap.size)
        case first =>
          have t0 := HV.out.c0
          have tl := HV.out.lt
          cases B4
          · go_wp2_with fail
            go_meet
            exact ⟨by simpa [Sp.opt] using HO.out, HV.out, HB.out, HZ.out⟩
          · have ll : Hid (((((Sp.opt B1 (i - c)) ++ Sp.opt B2 (i - 1)) ++ Sp.opt B3 (i + 1)) : List Int).length ≤ 4000) := hid (by simp only [List.length_append]; have q0 := ilen2 B1 (i - c); have q1 := ilen2 B2 (i - 1); have q2 := ilen2 B3 (i + 1); omega)
            have gb : w.heap.size + 1 ≤ (wc.alloc (.cells #[.int .i64 (i + c)] 3)).heap.size := by have := HZ.out; simp; omega
            go_wp2_with (at_builtin; refine appI rfl _ _ rfl (w.heap.size + 1) _ (((Sp.opt B1 (i - c)) ++ Sp.opt B2 (i - 1)) ++ Sp.opt B3 (i + 1)) rfl (HO.out.below (balloc _ _)) wc.heap.size rfl (i + c) (by simp [go_sem]) ll gb ?_; intro v8 w8 how hgr)
            go_meet
            have OL := fun g h => ownI_lt HO.out (g := g) h
            exact ⟨by simpa [Sp.opt] using how, (HV.out.below (balloc _ _)).grown hgr (fun b e => by have := (OL b e).1; omega), (bthen HB.out (balloc _ _)).grown hgr (Nat.le_of_succ_le gb) (fun b e => by have := (OL b e).1; omega), Nat.le_trans gb hgr.size⟩
        case rest =>
          obtain ⟨hO, hQ, hB, hZ⟩ := hcut
          clear HO HV HB HZ
          have HO := hid hO
          have HV := hid hQ
          have HB := hid hB
          have HZ := hid hZ
          obtain ⟨A4, k4, e1, -, -, -⟩ := hO.form
          subst e1
          clear hO hQ hB hZ
          go_wp2_with fail
          obtain ⟨A9, k9, e9, -, F9, -⟩ := HO.out.form
          injection e9 with g1 g2 g3
          subst g1 g3
          refine bodyPost_ret (v := .slice A4 ((((Sp.opt B1 (i - c)) ++ Sp.opt B2 (i - 1)) ++ Sp.opt B3 (i + 1)) ++ Sp.opt B4 (i + c)).length k4) (by simp [results, Try.results35, go_sem]) rfl ?_
          exact ⟨HB.out, A4, k4, rfl, F9⟩
theorem rneigh_any (A : Option Addr) (cap : Nat) (c r k : Int) (z : List Int) (i : Int) (w : World) (bc : 2 ≤ c ∧ c ≤ 16) (br : 2 ≤ r ∧ r ≤ 16) (bi : 0 ≤ i ∧ i ≤ 256) :
    Calls Try.prog 35 #[.agg #[.int .i64 c, .int .i64 r, .int .i64 k, .slice A z.length cap], .int .i64 i] w (IntsPost w (Sp.nbS c r i)) := by
  have t0 := Int.tdiv_nonneg bi.1 (show 0 ≤ c by omega)
  have t1 : i.tdiv c ≤ i := by rw [Int.tdiv_eq_ediv_of_nonneg bi.1]; exact Int.ediv_le_self _ bi.1
  have m0 := Int.tmod_nonneg c bi.1
  have m1 : i.tmod c < c := Int.tmod_lt_of_pos _ (by omega)
  exact rneigh_walk A cap c r k z i _ _ _ _ _ _ w rfl rfl rfl rfl rfl rfl bc br bi ⟨m0, by omega⟩ ⟨t0, by omega⟩
end Go.Proofs.Ytmdaanigkhikfaa
