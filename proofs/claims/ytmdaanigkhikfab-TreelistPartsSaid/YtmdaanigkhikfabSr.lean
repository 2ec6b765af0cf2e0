/-
  Layer 10: the reference's code, Check, by contract.
-/
import Derived.Test.YtmdaanigkhikfabSb
namespace Go.Proofs.Ytmdaanigkhikfab
open Go.RowKit
set_option linter.unusedVariables false
set_option linter.unusedSimpArgs false

set_option maxRecDepth 100000 in
set_option maxHeartbeats 1000000 in
theorem rcode_any (s : ByteArray) (hs : s.size ≤ 140737488355328) (w : World) : Calls Try.prog 54 #[.string s] w fun e w' => e = .returned (.bool (Sp.codeOk s)) ∧ w = w' := by
  obtain ⟨R, hR⟩ : ∃ R, s.data.toList.all Sp.letter = R := ⟨_, rfl⟩
  have hC : Sp.codeOk s = (decide (1 ≤ s.size ∧ s.size ≤ 6) && R) := by rw [← hR]; rfl
  rw [hC]
  obtain ⟨T, hT⟩ : ∃ T, (decide (1 ≤ s.size ∧ s.size ≤ 6) && R) = T := ⟨_, rfl⟩
  rw [hT]
  have HT := hid hT
  have HR := hid hR
  have SZ := hid (ssize s)
  have s6 := hid hs
  clear hR hs hC hT
  go_enter Try.func54, Try.ntmps54
  go_wp2_with fail
  go_loopw [3] (fun t wr => LetRel s.data.toList R w t wr) (fun t _ => s.size - (intOf t).toNat)
  case atStart => exact ⟨0, rfl, Nat.zero_le _, HR.out, rfl⟩
  case round =>
    obtain ⟨j, rfl, hj, hd, rfl⟩ := hrel
    have HD := hid hd
    clear hd
    by_cases hlt : j < s.data.toList.length
    · have i1 : (j : Int) < (s.size : Int) := by rw [SZ.out]; omega
      have ix := sbyte s j hlt
      have hd := HD.out
      rw [Sp.all_drop hlt] at hd
      obtain ⟨x, hx⟩ : ∃ x, s.data.toList[j]'hlt = x := ⟨_, rfl⟩
      rw [hx] at ix hd
      have HX := hid hd
      have HJ := hid hlt
      have ej : wrap64 ((j : Int) + 1) = (j : Int) + 1 := sw64 _ (by have := s6.out; have := SZ.out; have := HJ.out; omega)
      clear hd hx
      by_cases l1 : (x.toNat : Int) < 97
      · have HF : Hid (R = false) := by
          have h := HX.out
          unfold Sp.letter at h
          show R = false
          simpa [l1] using h.symm
        go_wp2_with fail
        go_ret
        have hT := HT.out
        rw [HF.out, Bool.and_false] at hT
        exact ⟨by rw [← hT]; rfl, rfl⟩
      · by_cases l2 : (122 : Int) < (x.toNat : Int)
        · have HF : Hid (R = false) := by
            have h := HX.out
            unfold Sp.letter at h
            show R = false
            simpa [l2] using h.symm
          go_wp2_with fail
          go_ret
          have hT := HT.out
          rw [HF.out, Bool.and_false] at hT
          exact ⟨by rw [← hT]; rfl, rfl⟩
        · have HF : Hid ((s.data.toList.drop (j + 1)).all Sp.letter = R) := by
            have h := HX.out
            unfold Sp.letter at h
            have hx : (!(decide ((x.toNat : Int) < 97) || decide ((122 : Int) < (x.toNat : Int)))) = true := by simp; omega
            rw [hx, Bool.true_and] at h
            exact h
          go_wp2_with fail
          go_roundw
          case rel => exact ⟨j + 1, by go_num, by have := HJ.out; omega, HF.out, rfl⟩
          case measure => first | (rw [ej]; exact smeas _ _ (by rw [SZ.out]; exact HJ.out)) | exact smeas _ _ (by rw [SZ.out]; exact HJ.out)
    · have i1 : ¬ (j : Int) < (s.size : Int) := by rw [SZ.out]; omega
      have HF : Hid (R = true) := by
        have h := HD.out
        rw [List.drop_eq_nil_of_le (by omega)] at h
        exact h.symm
      by_cases c1 : 1 ≤ s.size
      · by_cases c2 : s.size ≤ 6
        · have j1 : (1 : Int) ≤ (s.size : Int) := by omega
          have j2 : (s.size : Int) ≤ 6 := by omega
          have hC : Hid (T = true) := by show _ = _; rw [← HT.out, HF.out, decide_eq_true ⟨c1, c2⟩]; rfl
          clear c1 c2
          go_wp2_with fail
          go_ret
          exact ⟨by rw [hC.out]; rfl, rfl⟩
        · have j1 : (1 : Int) ≤ (s.size : Int) := by omega
          have j2 : ¬ (s.size : Int) ≤ 6 := by omega
          have hC : Hid (T = false) := by show _ = _; rw [← HT.out, decide_eq_false (fun h => c2 h.2), Bool.false_and]
          clear c1 c2
          go_wp2_with fail
          go_ret
          exact ⟨by rw [hC.out]; rfl, rfl⟩
      · have j1 : ¬ (1 : Int) ≤ (s.size : Int) := by omega
        have hC : Hid (T = false) := by show _ = _; rw [← HT.out, decide_eq_false (fun h => c1 h.1), Bool.false_and]
        clear c1
        go_wp2_with fail
        go_ret
        exact ⟨by rw [hC.out]; rfl, rfl⟩
def InRel (z : ByteArray) (l : List Sp.Sc) (P : Int) (V : World) (t : Value) (wr : World) : Prop := ∃ m : Nat, t = .int .i64 (m : Int) ∧ m ≤ l.length ∧ Sp.placeS z (l.drop m) m = P ∧ Below V.heap.size V wr
set_option maxRecDepth 100000 in
set_option maxHeartbeats 2000000 in
theorem rscheck_any (A : Option Addr) (cap : Nat) (l : List Sp.Sc) (w : World) (hc : l.length ≤ cap) (hS : Sized l) (hT : Tab w A l) :
    Calls Try.prog 35 #[.slice A l.length cap] w (Gives (.int .i64 (Sp.tabS l)) w) := by
  unfold Sp.tabS
  by_cases c6 : 6 < l.length
  · rw [if_pos c6]
    have i0 : (6 : Int) < (l.length : Int) := by omega
    clear hc hS hT c6
    go_enter Try.func35, Try.ntmps35
    go_wp2_with fail
    go_ret
    exact Gives.mk rfl (Below.refl _ _)
  · rw [if_neg c6]
    have i6 : ¬ (6 : Int) < (l.length : Int) := by omega
    have HT := hid hT
    have HS := hid hS
    have HC := hid hc
    have L6 := hid (show l.length ≤ 6 by omega)
    obtain ⟨R, hR⟩ : ∃ R, Sp.chkS [] l = R := ⟨_, rfl⟩
    rw [hR]
    have HR := hid hR
    clear hT hS hc hR c6
    go_enter Try.func35, Try.ntmps35
    go_wp2_with fail
    go_loopw [11] (fun t wr => CkRel w l R t wr) (fun t _ => l.length - (intOf t).toNat)
    case atStart => exact ⟨0, rfl, Nat.zero_le _, HR.out, Below.refl _ _⟩
    case round =>
      obtain ⟨j, rfl, hj, hd, hB⟩ := hrel
      have HD := hid hd
      have HB := hid hB
      clear hd hB
      by_cases hlt : j < l.length
      · obtain ⟨b, off, rfl, bl, q0, q1, q2, q3⟩ := HT.out.at_ HB.out hlt
        have hd := HD.out
        rw [List.drop_eq_getElem_cons hlt, Sp.chkS_cons] at hd
        have hsz := HS.out.2 _ (List.getElem_mem hlt)
        have htk : l.take j ++ [l[j]'hlt] = l.take (j + 1) := by rw [List.take_add_one, List.getElem?_eq_getElem hlt]; rfl
        rw [htk] at hd
        obtain ⟨c, hc⟩ : ∃ c, l[j]'hlt = c := ⟨_, rfl⟩
        rw [hc] at q0 q1 q2 q3 hd hsz
        have i0 : (0 : Int) ≤ (j : Int) := by omega
        have i1 : (j : Int) < (l.length : Int) := by omega
        have bw : b < wr.heap.size := Nat.lt_of_lt_of_le bl HB.out.size
        have HJ := hid hlt
        have HDD := hid hd
        have HZ := hid hsz
        have EJ : Hid (wrap64 ((j : Int) + 1) = (j : Int) + 1) := hid (sw64 _ (by have := L6.out; have := HJ.out; omega))
        clear hd hsz htk hc
        obtain ⟨V, hV⟩ : ∃ V : World, wr.alloc (Obj.cells #[.string (c).s, .int .i64 (c).den, .int .i64 (c).car, .int .i64 (c).lim] 50) = V := ⟨_, rfl⟩
        have bV : Below wr.heap.size wr V := by rw [← hV]; exact (Below.refl _ _).alloc (Nat.le_refl _) _
        have zV : V.heap.size = wr.heap.size + 1 := by rw [← hV]; simp
        have v0 : V.cell? ⟨wr.heap.size, 0, none⟩ = some (.string c.s) := by rw [← hV]; simp [go_sem]
        have v1 : V.cell? ⟨wr.heap.size, 1, none⟩ = some (.int .i64 c.den) := by rw [← hV]; simp [go_sem]
        have v2 : V.cell? ⟨wr.heap.size, 2, none⟩ = some (.int .i64 c.car) := by rw [← hV]; simp [go_sem]
        have v3 : V.cell? ⟨wr.heap.size, 3, none⟩ = some (.int .i64 c.lim) := by rw [← hV]; simp [go_sem]
        have HV := hid hV
        have BV := hid (HB.out.trans (bV.mono HB.out.size))
        have TV := hid (HT.out.below BV.out)
        obtain ⟨P, hP⟩ : ∃ P, Sp.placeS c.s (l.take j) 0 = P := ⟨_, rfl⟩
        have cl := rcode_any c.s HZ.out.1
        have hd := HDD.out
        rw [hP] at hd
        obtain ⟨k0, hk0⟩ : ∃ q, Sp.codeOk c.s = q := ⟨_, rfl⟩
        rw [hk0] at cl hd
        have HP := hid hP
        clear hk0 hP hV HDD
        cases k0
        · go_upto_region 6 with fail
          rw [HV.out]
          go_wp2_with (go_at_call 54; refine (cl _).mono ?_; rintro e w' ⟨rfl, rfl⟩)
          go_ret
          first | rw [if_pos rfl] at hd | rw [if_pos trivial] at hd
          exact Gives.mk (i64_eq hd.symm) BV.out
        · rw [if_neg (by decide)] at hd
          by_cases hk : (1 ≤ c.den ∧ c.den ≤ 2000) ∧ (1 ≤ c.car ∧ c.car ≤ 1000000) ∧ (1 ≤ c.lim ∧ c.lim ≤ 3000)
          · have hr : Sp.rangeOk c = true := by unfold Sp.rangeOk Sp.upTo; simp [hk]
            rw [hr, if_neg (by decide)] at hd
            have HG := hid hd
            obtain ⟨⟨d0, d1⟩, ⟨d2, d3⟩, d4, d5⟩ := hk
            have n0 : ¬ c.den < 1 := by omega
            have n1 : ¬ (2000 : Int) < c.den := by omega
            have n2 : ¬ c.car < 1 := by omega
            have n3 : ¬ (1000000 : Int) < c.car := by omega
            have n4 : ¬ c.lim < 1 := by omega
            have n5 : ¬ (3000 : Int) < c.lim := by omega
            clear hd hr d0 d1 d2 d3 d4 d5
            go_upto_region 6 with fail
            rw [HV.out]
            go_upto_region 11 with (go_at_call 54; refine (cl _).mono ?_; rintro e w' ⟨rfl, rfl⟩)
            have bz0 : wr.heap.size < V.heap.size := by omega
            have htl : (l.take j).length = j := by rw [List.length_take]; omega
            clear bV zV i0 i1 bw q0 q1 q2 q3 n0 n1 n2 n3 n4 n5 v1 v2 v3 HV
            generalize hB0 : wr.heap.size = B0 at v0 bz0 ⊢
            clear hB0
            go_loopw [5] (fun t wx => InRel c.s (l.take j) P V t wx) (fun t _ => j - (intOf t).toNat)
            case atStart => exact ⟨0, rfl, Nat.zero_le _, HP.out, Below.refl _ _⟩
            case round =>
              obtain ⟨m, rfl, hm, hd2, hB2⟩ := hrel
              have HB2 := hid hB2
              have HD2 := hid hd2
              rw [htl] at hm
              clear hd2 hB2
              by_cases hlm : m < j
              · have hml : m < l.length := by omega
                obtain ⟨_, _, he, bl2, p0, -, -, -⟩ := TV.out.at_ HB2.out hml
                cases he
                have hd2 := HD2.out
                rw [List.drop_eq_getElem_cons (by rw [htl]; exact hlm), Sp.placeS_cons, List.getElem_take] at hd2
                obtain ⟨c2, hc2⟩ : ∃ c2, l[m]'hml = c2 := ⟨_, rfl⟩
                rw [hc2] at p0 hd2
                have x0 := (HB2.out.cell (p := ⟨B0, 0, none⟩) bz0).trans v0
                have i0 : (0 : Int) ≤ (m : Int) := by omega
                have i1 : (m : Int) < (l.length : Int) := by omega
                have i2 : (m : Int) < (j : Int) := by omega
                have bw : b < wr.heap.size := Nat.lt_of_lt_of_le bl2 HB2.out.size
                have bz : B0 < wr.heap.size := Nat.lt_of_lt_of_le bz0 HB2.out.size
                have HM := hid hlm
                have EM : Hid (wrap64 ((m : Int) + 1) = (m : Int) + 1) := hid (sw64 _ (by have := L6.out; have := HJ.out; have := HM.out; omega))
                by_cases h : c2.s = c.s
                · rw [if_pos h] at hd2
                  rw [h] at p0
                  have HF : Hid (R = 7) := by
                    have hg := HG.out
                    rw [if_pos (by omega)] at hg
                    exact hg.symm
                  have K : Hid (∀ W', Below wr.heap.size wr W' → (Below wr.heap.size wr W' ∧ W'.cell? ⟨b, off + m * 4, none⟩ = some (.string c.s) ∧ W'.cell? ⟨B0, 0, none⟩ = some (.string c.s))) := hid fun W' B => ⟨B, (B.cell (p := ⟨b, off + m * 4, none⟩) bw).trans p0, (B.cell (p := ⟨B0, 0, none⟩) bz).trans x0⟩
                  clear hd2 h hc2
                  go_wp2_with fail
                  go_region_held3 (fun w' => Below wr.heap.size wr w' ∧ w'.cell? ⟨b, off + m * 4, none⟩ = some (.string c.s) ∧ w'.cell? ⟨B0, 0, none⟩ = some (.string c.s)) ((exact K.out _ (by repeat' (first | (with_reducible exact Below.refl _ _) | (with_reducible refine Below.alloc ?_ ?_ _) | (with_reducible refine Below.setCell ?_ ?_ _) | (with_reducible refine Below.drew ?_) | (with_reducible refine below_dn ?_ _) | (with_reducible refine Below.trans ?_ (Below.mono (by assumption) ?_)) | (simp; done) | (simp; omega) | omega)))) (fail)
                  go_wp2_with fail
                  go_ret
                  exact Gives.mk (i64_eq HF.out) (BV.out.trans (HB2.out.mono BV.out.size)).drew
                · rw [if_neg h] at hd2
                  have hb := text_beq h
                  have HF := hid hd2
                  have K : Hid (∀ W', Below wr.heap.size wr W' → (Below wr.heap.size wr W' ∧ W'.cell? ⟨b, off + m * 4, none⟩ = some (.string c2.s) ∧ W'.cell? ⟨B0, 0, none⟩ = some (.string c.s))) := hid fun W' B => ⟨B, (B.cell (p := ⟨b, off + m * 4, none⟩) bw).trans p0, (B.cell (p := ⟨B0, 0, none⟩) bz).trans x0⟩
                  clear hd2 h hc2
                  go_wp2_with fail
                  go_region_held3 (fun w' => Below wr.heap.size wr w' ∧ w'.cell? ⟨b, off + m * 4, none⟩ = some (.string c2.s) ∧ w'.cell? ⟨B0, 0, none⟩ = some (.string c.s)) ((exact K.out _ (by repeat' (first | (with_reducible exact Below.refl _ _) | (with_reducible refine Below.alloc ?_ ?_ _) | (with_reducible refine Below.setCell ?_ ?_ _) | (with_reducible refine Below.drew ?_) | (with_reducible refine below_dn ?_ _) | (with_reducible refine Below.trans ?_ (Below.mono (by assumption) ?_)) | (simp; done) | (simp; omega) | omega)))) (fail)
                  go_wp2_with fail
                  go_roundw
                  case rel => exact ⟨m + 1, by go_num, by rw [htl]; exact HM.out, HF.out, HB2.out.drew⟩
                  case measure => exact smeas _ _ HM.out
              · have e2 : m = j := by omega
                subst e2
                have i2 : ¬ (m : Int) < (m : Int) := by omega
                have hd2 := HD2.out
                rw [List.drop_eq_nil_of_le (by omega)] at hd2
                have HF : Hid (Sp.chkS (l.take (m + 1)) (l.drop (m + 1)) = R) := by
                  have hg := HG.out
                  have hP1 : -1 = P := hd2
                  rw [if_neg (by omega)] at hg
                  exact hg
                clear hd2
                have i0 : (0 : Int) ≤ (m : Int) := by omega
                have i1 : (m : Int) < (l.length : Int) := by have := HJ.out; omega
                go_wp2_with fail
                go_roundw
                case rel => exact ⟨m + 1, by go_num, HJ.out, HF.out, BV.out.trans (HB2.out.mono BV.out.size)⟩
                case measure => exact smeas _ _ HJ.out
          · have hr : Sp.rangeOk c = false := by
              rw [Bool.eq_false_iff]
              intro h
              exact hk (Sp.rangeOk_at h)
            rw [hr] at hd
            first | rw [if_pos rfl] at hd | rw [if_pos trivial] at hd
            have HF := hid hd
            clear hd hr
            by_cases n0 : c.den < 1
            · go_upto_region 6 with fail
              rw [HV.out]
              go_wp2_with (go_at_call 54; refine (cl _).mono ?_; rintro e w' ⟨rfl, rfl⟩)
              go_ret
              exact Gives.mk (i64_eq HF.out.symm) BV.out
            · by_cases n1 : (2000 : Int) < c.den
              · go_upto_region 6 with fail
                rw [HV.out]
                go_wp2_with (go_at_call 54; refine (cl _).mono ?_; rintro e w' ⟨rfl, rfl⟩)
                go_ret
                exact Gives.mk (i64_eq HF.out.symm) BV.out
              · by_cases n2 : c.car < 1
                · go_upto_region 6 with fail
                  rw [HV.out]
                  go_wp2_with (go_at_call 54; refine (cl _).mono ?_; rintro e w' ⟨rfl, rfl⟩)
                  go_ret
                  exact Gives.mk (i64_eq HF.out.symm) BV.out
                · by_cases n3 : (1000000 : Int) < c.car
                  · go_upto_region 6 with fail
                    rw [HV.out]
                    go_wp2_with (go_at_call 54; refine (cl _).mono ?_; rintro e w' ⟨rfl, rfl⟩)
                    go_ret
                    exact Gives.mk (i64_eq HF.out.symm) BV.out
                  · by_cases n4 : c.lim < 1
                    · go_upto_region 6 with fail
                      rw [HV.out]
                      go_wp2_with (go_at_call 54; refine (cl _).mono ?_; rintro e w' ⟨rfl, rfl⟩)
                      go_ret
                      exact Gives.mk (i64_eq HF.out.symm) BV.out
                    · have n5 : (3000 : Int) < c.lim := Int.not_le.1 fun h => hk ⟨⟨Int.not_lt.1 n0, Int.not_lt.1 n1⟩, ⟨Int.not_lt.1 n2, Int.not_lt.1 n3⟩, Int.not_lt.1 n4, h⟩
                      clear hk
                      go_upto_region 6 with fail
                      rw [HV.out]
                      go_wp2_with (go_at_call 54; refine (cl _).mono ?_; rintro e w' ⟨rfl, rfl⟩)
                      go_ret
                      exact Gives.mk (i64_eq HF.out.symm) BV.out
      · have i1 : ¬ (j : Int) < (l.length : Int) := by omega
        have hd := HD.out
        rw [List.drop_eq_nil_of_le (by omega)] at hd
        have HF := hid (show (0 : Int) = R from hd)
        clear hd
        go_wp2_with fail
        go_ret
        exact Gives.mk (i64_eq HF.out.symm) HB.out
end Go.Proofs.Ytmdaanigkhikfab
