/-
  Layer 6: the check of a datum: what passes the tests, and the data in it.
-/
import Derived.Test.YtcjhgihkofmhgaaCxb
import Derived.Deep.DeepCutAuto
import Derived.Deep.RegionWith
namespace Go.Proofs.Ytcjhgihkofmhgaa
open Go.RowKit
set_option linter.unusedVariables false
set_option linter.unusedSimpArgs false

/-- Behind the bytes of the datum itself. -/
def C8 (w : World) (g : Nat) (c z : Int) (A : Option Addr) (m cap : Nat) (wx : World) : Prop :=
  LB wx g c z ∧ Ow w wx (some g) (some g) ∧ w.heap.size < wx.heap.size ∧ wx.cell? ⟨w.heap.size, 3, none⟩ = some (.slice A m cap)
theorem Lies.form {w : World} {P : Nat → Prop} : ∀ {d : Nat} {t : Sp.Tr d} {v : Value}, Lies w P d t v → ∃ k n s A m cap, v = .agg #[.int .i64 k, .int .i64 n, .string s, .slice A m cap]
  | 0, t, v, h => nomatch h
  | d + 1, t, v, h => by
    obtain ⟨s, A, cap, hv, _⟩ := h
    exact ⟨_, _, s, A, _, cap, hv⟩
/-- The head of a round over the list of a datum. -/
def CL (w : World) (g : Nat) {d : Nat} (l : List (Sp.Tr d)) (i : Nat) (R : Int × Nat × Nat) (t : Value) (wr : World) : Prop :=
  ∃ (k cc zz : Nat), t = .int .i64 (k : Int) ∧ k ≤ l.length ∧ LB wr g (cc : Int) (zz : Int) ∧ Ow w wr (some g) (some g) ∧ Sp.loopC (fun u c z => Sp.chkT d u i c z) (l.drop k) cc zz = R ∧ cc ≤ 500 ∧ zz ≤ cc * 281474976710656
set_option maxRecDepth 100000 in
set_option maxHeartbeats 4000000 in
theorem cdatum_in {d : Nat} (P : Nat → Prop) (l : List (Sp.Tr d)) (k n : Int) (s : ByteArray) (A : Option Addr) (cap : Nat) (i c z o : Nat) (g : Nat) (hk : (1 : Int) ≤ k ∧ k ≤ 3) (hf : (k = 1 ∨ n = 0) ∧ (k = 2 ∨ s.data.toList = []) ∧ (k = 3 ∨ l.length = 0)) (hi : i ≤ 7) (hc : c + 1 ≤ 500)
    (os : ∀ w : World, Calls Try.prog 53 #[.agg #[.int .i64 k, .int .i64 n, .string s, .slice A l.length cap]] w (Gives (.int .i64 (o : Int)) w)) (hz : IntKind.i64.wrap ((z : Int) + (o : Int)) = (z : Int) + (o : Int)) (hzo : Hid (z + o ≤ (c + 1) * 281474976710656))
    (hm : l.length ≤ 140737488355328) (w : World) (hB : LB w g c z) (hPg : ¬ P g)
    (hel : 0 < l.length → ∃ b off, A = some ⟨b, off, none⟩ ∧ P b ∧ ∀ j, (hj : j < l.length) → ∃ c0 c1 c2 c3 : Value,
        w.cell? ⟨b, off + j * 4, none⟩ = some c0 ∧ w.cell? ⟨b, off + j * 4 + 1, none⟩ = some c1 ∧ w.cell? ⟨b, off + j * 4 + 2, none⟩ = some c2 ∧ w.cell? ⟨b, off + j * 4 + 3, none⟩ = some c3 ∧
        Lies w P d (l[j]) (.agg #[c0, c1, c2, c3]))
    (ih : ∀ (u : Sp.Tr d) (v : Value) (c z : Nat) (W : World), Lies W P d u v → LB W g c z → c ≤ 500 → z ≤ c * 281474976710656 →
      Calls Try.prog 44 #[.pointer (some ⟨g, 0, none⟩), v, .int .i64 (i + 1 : Int)] W (PostC W g (Sp.chkT d u (i + 1) c z))) :
    Calls Try.prog 44 #[.pointer (some ⟨g, 0, none⟩), .agg #[.int .i64 k, .int .i64 n, .string s, .slice A l.length cap], .int .i64 (i : Int)] w (PostC w g (Sp.loopC (fun u c z => Sp.chkT d u (i + 1) c z) l (c + 1) (z + o))) := by
  obtain ⟨R, hR⟩ : ∃ R, Sp.loopC (fun u c z => Sp.chkT d u (i + 1) c z) l (c + 1) (z + o) = R := ⟨_, rfl⟩
  rw [hR]
  have HR := hid hR
  have HEL := hid hel
  have IH := hid ih
  clear hR hel ih
  have ik := fun w => isKind_any k w
  rw [decide_eq_true hk] at ik
  have uo := fun w => usesOnly_any k n s A l.length cap w
  rw [decide_eq_true hf] at uo
  have be := fun w => beyond_any i (c + 1) w
  rw [decide_eq_false (show ¬ (7 < i ∨ 500 < c + 1) by omega)] at be
  have ec : ((c + 1 : Nat) : Int) = (c : Int) + 1 := by omega
  rw [ec] at be
  have c5 : (c : Int) ≤ 500 := by omega
  clear hk hf ec
  have gl := hB.lt
  go_enter Try.func44, Try.ntmps44
  go_upto_region 8 with (first | (go_at_call 50; refine (ik _).mono ?_; rintro e w' ⟨rfl, rfl⟩) | (go_at_call 51; refine (uo _).mono ?_; rintro e w1 ⟨rfl, hb⟩; have hW : Below w.heap.size w w1 := (by repeat' (first | (with_reducible exact Below.refl _ _) | (with_reducible refine Below.alloc ?_ ?_ _) | (with_reducible refine Below.setCell ?_ ?_ _) | (with_reducible refine Below.drew ?_) | (with_reducible refine Below.trans ?_ (Below.mono (by assumption) ?_)) | (simp; done) | (simp; omega) | omega)); have L1 := hB.below hW; have x0 := L1.c0; have fr := L1.fr; have lt1 := L1.lt; have bz : w.heap.size < w1.heap.size := Nat.lt_of_lt_of_le (by simp) hb.size; have b0 : w1.cell? ⟨w.heap.size, 0, none⟩ = some (.int .i64 k) := (hb.cell (p := ⟨w.heap.size, 0, none⟩) (by simp)).trans (by simp [go_sem]); have b1 : w1.cell? ⟨w.heap.size, 1, none⟩ = some (.int .i64 n) := (hb.cell (p := ⟨w.heap.size, 1, none⟩) (by simp)).trans (by simp [go_sem]); have b2 : w1.cell? ⟨w.heap.size, 2, none⟩ = some (.string s) := (hb.cell (p := ⟨w.heap.size, 2, none⟩) (by simp)).trans (by simp [go_sem]); have b3 : w1.cell? ⟨w.heap.size, 3, none⟩ = some (.slice A l.length cap) := (hb.cell (p := ⟨w.heap.size, 3, none⟩) (by simp)).trans (by simp [go_sem]); have HW := hid hW; have HL := hid L1; clear hb hW L1) | (go_at_call 52; refine (be _).mono ?_; rintro e w' ⟨rfl, rfl⟩))
  obtain ⟨u, hu⟩ : ∃ u : World, w1.setCell ⟨g, 0, none⟩ (.int .i64 ((c : Int) + 1)) = u := ⟨_, rfl⟩
  have LU : LB u g ((c : Int) + 1) z := by rw [← hu]; exact HL.out.set0 _
  have OU : Ow w u (some g) (some g) := by rw [← hu]; exact (Ow.of_below HW.out _).setCell _ rfl _
  have gne : ¬ w.heap.size = g := by omega
  have gne2 : ¬ g = w.heap.size := by omega
  have d0 : u.cell? ⟨w.heap.size, 0, none⟩ = some (.int .i64 k) := by rw [← hu]; exact (World.cell?_setCell_other _ _ _ _ (by simp [gne2])).trans b0
  have d1 : u.cell? ⟨w.heap.size, 1, none⟩ = some (.int .i64 n) := by rw [← hu]; exact (World.cell?_setCell_other _ _ _ _ (by simp [gne2])).trans b1
  have d2 : u.cell? ⟨w.heap.size, 2, none⟩ = some (.string s) := by rw [← hu]; exact (World.cell?_setCell_other _ _ _ _ (by simp [gne2])).trans b2
  have d3 : u.cell? ⟨w.heap.size, 3, none⟩ = some (.slice A l.length cap) := by rw [← hu]; exact (World.cell?_setCell_other _ _ _ _ (by simp [gne2])).trans b3
  have dz : w.heap.size < u.heap.size := by rw [← hu]; simpa using bz
  rw [hu]
  clear hu b0 b1 b2 b3 bz x0 fr lt1 HW HL w1 hB
  have y0 := LU.c0
  have y1 := LU.c1
  have yf := LU.fr
  have yl := LU.lt
  have HLU := hid LU
  have HOU := hid OU
  clear LU OU
  go_cut [6] (fun v wx => v = .int .i64 0 ∧ C8 w g ((c : Int) + 1) (z + o) A l.length cap wx)
  case first =>
    go_region_with (go_at_call 53; refine (os _).mono ?_; rintro e w5 ⟨rfl, hb⟩; have hW : Below u.heap.size u w5 := (by repeat' (first | (with_reducible exact Below.refl _ _) | (with_reducible refine Below.alloc ?_ ?_ _) | (with_reducible refine Below.setCell ?_ ?_ _) | (with_reducible refine Below.drew ?_) | (with_reducible refine below_dn ?_ _) | (with_reducible refine Below.trans ?_ (Below.mono (by assumption) ?_)) | (simp; done) | (simp; omega) | omega)); have L5 := HLU.out.below hW; have v1 := L5.c1; have vf := L5.fr; have vl := L5.lt; have e3 : w5.cell? ⟨w.heap.size, 3, none⟩ = some (.slice A l.length cap) := (hW.cell (p := ⟨w.heap.size, 3, none⟩) dz).trans d3; have ez : w.heap.size < w5.heap.size := Nat.lt_of_lt_of_le dz hW.size; have HL5 := hid L5; have HO5 := hid (HOU.out.below hW); clear hb hW L5)
    all_goals
      go_wp2
      go_meet
      exact ⟨rfl, HL5.out.set1 _, HO5.out.setCell _ rfl _, by simpa using ez, (World.cell?_setCell_other _ _ _ _ (by simp [gne2])).trans e3⟩
  case rest =>
    obtain ⟨rfl, LC, OC, zc, d3'⟩ := hcut
    have HLC := hid LC
    have HOC := hid OC
    clear d0 d1 d2 d3 dz y0 y1 yf yl HLU HOU LC OC u
    go_wp2_with fail
    go_loopw [42] (fun t wr => CL w g l (i + 1) R t wr) (fun t _ => l.length - (intOf t).toNat)
    case atStart => exact ⟨0, c + 1, z + o, rfl, Nat.zero_le _, by simpa using HLC.out, HOC.out, by simpa using HR.out, hc, hzo.out⟩
    case round =>
      obtain ⟨j, cc, zz, rfl, hj, LR, OR, hl, hcc, hzz⟩ := hrel
      have hszr := OR.size
      have HLR := hid LR
      have HOR := hid OR
      have HL := hid hl
      have HCC := hid hcc
      have HZZ := hid hzz
      clear LR OR hl hzz hcc
      by_cases hlt : j < l.length
      · obtain ⟨b, off, rfl, hPb, hcs⟩ := HEL.out (by omega)
        obtain ⟨c0, c1, c2, c3, h0, h1, h2, h3, hLj⟩ := hcs j hlt
        have hne : some b ≠ some g := by rintro e; injection e with e; subst e; exact hPg hPb
        have hbw : b < w.heap.size := World.block_lt_of_cell? w _ h0
        have hbr : b < wr.heap.size := by omega
        have hh := HOR.out.block hbw hne
        obtain ⟨k', n', s', A', m', cap', hv⟩ := hLj.form
        injection hv with hv
        simp only [Array.mk.injEq, List.cons.injEq, and_true] at hv
        obtain ⟨rfl, rfl, rfl, rfl⟩ := hv
        have q0 := (World.cell?_of_block (a := ⟨b, off + j * 4, none⟩) hh).trans h0
        have q1 := (World.cell?_of_block (a := ⟨b, off + j * 4 + 1, none⟩) hh).trans h1
        have q2 := (World.cell?_of_block (a := ⟨b, off + j * 4 + 2, none⟩) hh).trans h2
        have q3 := (World.cell?_of_block (a := ⟨b, off + j * 4 + 3, none⟩) hh).trans h3
        have hLr := hid (hLj.ow HOR.out (fun b' hb' => by rintro e; injection e with e; subst e; exact hPg hb'))
        have hd := HL.out
        rw [List.drop_eq_getElem_cons hlt, Sp.loopC_cons] at hd
        obtain ⟨R1, hR1⟩ : ∃ R1, Sp.chkT d l[j] (i + 1) cc zz = R1 := ⟨_, rfl⟩
        simp only [hR1] at hd
        have call := fun (W : World) (a1 : Lies W P d (l[j]'hlt) (.agg #[.int .i64 k', .int .i64 n', .string s', .slice A' m' cap'])) (a2 : LB W g cc zz) => IH.out (l[j]'hlt) _ cc zz W a1 a2 HCC.out HZZ.out
        rw [hR1] at call
        obtain ⟨e1, c1', z1'⟩ := R1
        clear hR1 h0 h1 h2 h3 hLj hcs hh
        by_cases e0 : e1 = 0
        · subst e0
          rw [if_neg (by simp)] at hd
          have HD := hid hd
          have CALL := hid call
          clear hd call
          go_wp2_with (go_at_call 44; refine (CALL.out _ (hLr.out.below (by repeat' (first | (with_reducible exact Below.refl _ _) | (with_reducible refine Below.alloc ?_ ?_ _) | (with_reducible refine Below.setCell ?_ ?_ _) | (with_reducible refine Below.drew ?_) | (with_reducible refine below_dn ?_ _) | (with_reducible refine Below.trans ?_ (Below.mono (by assumption) ?_)) | (simp; done) | (simp; omega) | omega))) (HLR.out.below (by repeat' (first | (with_reducible exact Below.refl _ _) | (with_reducible refine Below.alloc ?_ ?_ _) | (with_reducible refine Below.setCell ?_ ?_ _) | (with_reducible refine Below.drew ?_) | (with_reducible refine below_dn ?_ _) | (with_reducible refine Below.trans ?_ (Below.mono (by assumption) ?_)) | (simp; done) | (simp; omega) | omega)))).mono ?_; rintro e w7 ⟨rfl, L7, O7, hb7⟩)
          go_roundw
          case rel =>
            obtain ⟨g1, g2⟩ := hb7 (by first | trivial | rfl)
            exact ⟨j + 1, c1', z1', by go_num, by omega, L7, (HOR.out.alloc _).trans O7, HD.out, g1, g2⟩
          case measure => simp [intOf]; omega
        · rw [if_pos e0] at hd
          have HD := hid hd
          have CALL := hid call
          have e2 : (e1 != 0) = true := by simpa using e0
          clear hd call
          go_wp2_with (go_at_call 44; refine (CALL.out _ (hLr.out.below (by repeat' (first | (with_reducible exact Below.refl _ _) | (with_reducible refine Below.alloc ?_ ?_ _) | (with_reducible refine Below.setCell ?_ ?_ _) | (with_reducible refine Below.drew ?_) | (with_reducible refine below_dn ?_ _) | (with_reducible refine Below.trans ?_ (Below.mono (by assumption) ?_)) | (simp; done) | (simp; omega) | omega))) (HLR.out.below (by repeat' (first | (with_reducible exact Below.refl _ _) | (with_reducible refine Below.alloc ?_ ?_ _) | (with_reducible refine Below.setCell ?_ ?_ _) | (with_reducible refine Below.drew ?_) | (with_reducible refine below_dn ?_ _) | (with_reducible refine Below.trans ?_ (Below.mono (by assumption) ?_)) | (simp; done) | (simp; omega) | omega)))).mono ?_; rintro e w7 ⟨rfl, L7, O7, hb7⟩)
          go_ret
          rw [← HD.out]
          exact ⟨rfl, L7, (HOR.out.alloc _).trans O7, hb7⟩
      · go_wp2_with fail
        go_ret
        have hd := HL.out
        rw [List.drop_eq_nil_of_le (by omega)] at hd
        rw [← hd]
        exact ⟨rfl, HLR.out, HOR.out, fun _ => ⟨HCC.out, HZZ.out⟩⟩
end Go.Proofs.Ytcjhgihkofmhgaa
