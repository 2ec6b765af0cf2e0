/-
  Layer 10: Check, Find, Allowed of package species, by contract.
-/
import Derived.Test.YtmdaanigkhikfabSa
import Derived.Deep.RegionHeld3
import Derived.Laws.Slices
import Derived.Deep.DeepCutAuto
import Derived.Outline
namespace Go.Proofs.Ytmdaanigkhikfab
open Go.RowKit
set_option linter.unusedVariables false
set_option linter.unusedSimpArgs false

theorem sslice_to (A : Option Addr) (k cap m : Nat) (hm : m ≤ cap) (W : World) :
    (Instr.slice 22 (.slice A k cap) none (some (.int .i64 (m : Int))) none).run Try.prog W = .ok (.slice A m cap) W := by
  rw [run_slice_h W 22 A k cap Try.underlying22 .i64 (m : Int) (by omega) (by omega)]
  have hs : (sizeOf (Try.prog.elem 22)).run Try.prog W = .ok 4 W := by kernel_rfl
  rw [hs]
  have e0 : A.map (·.add 0) = A := by cases A <;> simp [Addr.add]
  simp [Result.andThen, sliced, e0]
def CkRel (w : World) (l : List Sp.Sc) (R : Int) (t : Value) (wr : World) : Prop := ∃ j : Nat, t = .int .i64 (j : Int) ∧ j ≤ l.length ∧ Sp.chkS (l.take j) (l.drop j) = R ∧ Below w.heap.size w wr
set_option maxRecDepth 100000 in
set_option maxHeartbeats 2000000 in
theorem scheck_any (A : Option Addr) (cap : Nat) (l : List Sp.Sc) (w : World) (hc : l.length ≤ cap) (hS : Sized l) (hT : Tab w A l) :
    Calls Try.prog 33 #[.slice A l.length cap] w (Gives (.int .i64 (Sp.tabS l)) w) := by
  unfold Sp.tabS
  by_cases c6 : 6 < l.length
  · rw [if_pos c6]
    have i0 : (6 : Int) < (l.length : Int) := by omega
    clear hc hS hT c6
    go_enter Try.func33, Try.ntmps33
    go_wp2_with fail
    go_ret
    exact Gives.mk rfl (Below.refl _ _)
  · rw [if_neg c6]
    have i6 : ¬ (6 : Int) < (l.length : Int) := by omega
    have HT := hid hT
    have HS := hid hS
    have HC := hid hc
    have L6 := hid (show l.length ≤ 6 by omega)
    obtain ⟨R, hR⟩ : ∃ R, Sp.chkS [] l = R := ⟨_, rfl⟩
    rw [hR]
    have HR := hid hR
    clear hT hS hc hR c6
    go_enter Try.func33, Try.ntmps33
    go_wp2_with fail
    go_loopw [10] (fun t wr => CkRel w l R t wr) (fun t _ => l.length - (intOf t).toNat)
    case atStart => exact ⟨0, rfl, Nat.zero_le _, HR.out, Below.refl _ _⟩
    case round =>
      obtain ⟨j, rfl, hj, hd, hB⟩ := hrel
      have HD := hid hd
      have HB := hid hB
      clear hd hB
      by_cases hlt : j < l.length
      · obtain ⟨b, off, rfl, bl, q0, q1, q2, q3⟩ := HT.out.at_ HB.out hlt
        have hd := HD.out
        rw [List.drop_eq_getElem_cons hlt, Sp.chkS_cons] at hd
        have hsz := HS.out.2 _ (List.getElem_mem hlt)
        have htk : l.take j ++ [l[j]'hlt] = l.take (j + 1) := by rw [List.take_add_one, List.getElem?_eq_getElem hlt]; rfl
        rw [htk] at hd
        obtain ⟨c, hc⟩ : ∃ c, l[j]'hlt = c := ⟨_, rfl⟩
        rw [hc] at q0 q1 q2 q3 hd hsz
        have i0 : (0 : Int) ≤ (j : Int) := by omega
        have i1 : (j : Int) < (l.length : Int) := by omega
        have bw : b < wr.heap.size := Nat.lt_of_lt_of_le bl HB.out.size
        have HJ := hid hlt
        have HDD := hid hd
        have HZ := hid hsz
        have ej : wrap64 ((j : Int) + 1) = (j : Int) + 1 := sw64 _ (by have := L6.out; have := HJ.out; omega)
        clear hd hsz htk hc
        obtain ⟨V, hV⟩ : ∃ V : World, wr.alloc (Obj.cells #[.string (c).s, .int .i64 (c).den, .int .i64 (c).car, .int .i64 (c).lim] 50) = V := ⟨_, rfl⟩
        have bV : Below wr.heap.size wr V := by rw [← hV]; exact (Below.refl _ _).alloc (Nat.le_refl _) _
        have zV : V.heap.size = wr.heap.size + 1 := by rw [← hV]; simp
        have v0 : V.cell? ⟨wr.heap.size, 0, none⟩ = some (.string c.s) := by rw [← hV]; simp [go_sem]
        have v1 : V.cell? ⟨wr.heap.size, 1, none⟩ = some (.int .i64 c.den) := by rw [← hV]; simp [go_sem]
        have v2 : V.cell? ⟨wr.heap.size, 2, none⟩ = some (.int .i64 c.car) := by rw [← hV]; simp [go_sem]
        have v3 : V.cell? ⟨wr.heap.size, 3, none⟩ = some (.int .i64 c.lim) := by rw [← hV]; simp [go_sem]
        have HV := hid hV
        have BV := hid (HB.out.trans (bV.mono HB.out.size))
        have TV := hid (HT.out.below BV.out)
        obtain ⟨P, hP⟩ : ∃ P, Sp.placeS c.s (l.take j) 0 = P := ⟨_, rfl⟩
        have PL : Hid (∀ W, Below V.heap.size V W → Calls Try.prog 52 #[.slice (some ⟨b, off, none⟩) j cap, .string c.s] W (Gives (.int .i64 P) W)) := hid fun W hW => by
          have h := place_any (some ⟨b, off, none⟩) cap (l.take j) c.s W (by rw [List.length_take]; have := L6.out; omega) ((TV.out.below hW).take j)
          rw [List.length_take, Nat.min_eq_left (Nat.le_of_lt HJ.out), hP] at h
          exact h
        have cl := isCode_any c.s HZ.out.1
        have up1 := upto_any c.den 2000
        have up2 := upto_any c.car 1000000
        have up3 := upto_any c.lim 3000
        have hro : Sp.rangeOk c = (Sp.upTo c.den 2000 && Sp.upTo c.car 1000000 && Sp.upTo c.lim 3000) := rfl
        have sl := sslice_to (some ⟨b, off, none⟩) l.length cap j (by have := HJ.out; have := HC.out; omega)
        have hd := HDD.out
        rw [hP, hro] at hd
        obtain ⟨k0, hk0⟩ : ∃ q, Sp.codeOk c.s = q := ⟨_, rfl⟩
        obtain ⟨k1, hk1⟩ : ∃ q, Sp.upTo c.den 2000 = q := ⟨_, rfl⟩
        obtain ⟨k2, hk2⟩ : ∃ q, Sp.upTo c.car 1000000 = q := ⟨_, rfl⟩
        obtain ⟨k3, hk3⟩ : ∃ q, Sp.upTo c.lim 3000 = q := ⟨_, rfl⟩
        rw [hk0] at cl hd
        rw [hk1] at up1 hd
        rw [hk2] at up2 hd
        rw [hk3] at up3 hd
        have HF := hid hd
        clear hd hro hk0 hk1 hk2 hk3 hP hV HDD
        cases k0
        · go_upto_region 6 with fail
          rw [HV.out]
          go_wp2_with (go_at_call 50; refine (cl _).mono ?_; rintro e w' ⟨rfl, rfl⟩)
          go_ret
          have h := HF.out
          first | rw [if_pos rfl] at h | rw [if_pos trivial] at h
          exact Gives.mk (i64_eq h.symm) BV.out
        · by_cases hk : (k1 && k2 && k3) = false
          · have HF2 : Hid (R = 2) := by
              have h := HF.out
              rw [if_neg (by decide), if_pos hk] at h
              exact h.symm
            clear HF PL sl
            cases k1
            all_goals (try cases k2)
            all_goals (try cases k3)
            all_goals first
              | exact absurd hk (by decide)
              | (go_upto_region 6 with fail
                 rw [HV.out]
                 go_wp2_with (first | (go_at_call 50; refine (cl _).mono ?_; rintro e w' ⟨rfl, rfl⟩) | (go_at_call 51; first | (with_reducible refine (up1 _).mono ?_) | (with_reducible refine (up2 _).mono ?_) | (with_reducible refine (up3 _).mono ?_)); rintro e w' ⟨rfl, rfl⟩)
                 go_ret
                 exact Gives.mk (i64_eq HF2.out) BV.out)
          · have hk' : k1 = true ∧ k2 = true ∧ k3 = true := by simpa [Bool.and_eq_true, and_assoc] using hk
            obtain ⟨rfl, rfl, rfl⟩ := hk'
            clear hk
            have HG : Hid ((if 0 ≤ P then (7 : Int) else Sp.chkS (l.take (j + 1)) (l.drop (j + 1))) = R) := by
              have h := HF.out
              rw [if_neg (by decide), if_neg (by decide)] at h
              exact h
            have bz : wr.heap.size < V.heap.size := by omega
            have K : Hid (∀ W', Below V.heap.size V W' → (Below V.heap.size V W' ∧ W'.cell? ⟨wr.heap.size, 0, none⟩ = some (.string c.s))) := hid fun W' B => ⟨B, (B.cell (p := ⟨wr.heap.size, 0, none⟩) bz).trans v0⟩
            clear HF
            by_cases hp : 0 ≤ P
            · have HF : Hid (R = 7) := by
                have h := HG.out
                rw [if_pos hp] at h
                exact h.symm
              go_upto_region 6 with fail
              rw [HV.out]
              go_upto_region 10 with (first | (go_at_call 50; refine (cl _).mono ?_; rintro e w' ⟨rfl, rfl⟩) | (go_at_call 51; first | (with_reducible refine (up1 _).mono ?_) | (with_reducible refine (up2 _).mono ?_) | (with_reducible refine (up3 _).mono ?_)); rintro e w' ⟨rfl, rfl⟩)
              go_region_held3 (fun w' => Below V.heap.size V w' ∧ w'.cell? ⟨wr.heap.size, 0, none⟩ = some (.string c.s)) ((exact K.out _ (by repeat' (first | (with_reducible exact Below.refl _ _) | (with_reducible refine Below.alloc ?_ ?_ _) | (with_reducible refine Below.setCell ?_ ?_ _) | (with_reducible refine Below.drew ?_) | (with_reducible refine below_dn ?_ _) | (with_reducible refine Below.trans ?_ (Below.mono (by assumption) ?_)) | (simp; done) | (simp; omega) | omega))))
                (first | (go_at_call 52; refine (PL.out _ (by repeat' (first | (with_reducible exact Below.refl _ _) | (with_reducible refine Below.alloc ?_ ?_ _) | (with_reducible refine Below.setCell ?_ ?_ _) | (with_reducible refine Below.drew ?_) | (with_reducible refine below_dn ?_ _) | (with_reducible refine Below.trans ?_ (Below.mono (by assumption) ?_)) | (simp; done) | (simp; omega) | omega))).mono ?_; rintro e w5 ⟨rfl, hb⟩; have hb5 : Below V.heap.size V w5 := (by repeat' (first | (with_reducible exact Below.refl _ _) | (with_reducible refine Below.alloc ?_ ?_ _) | (with_reducible refine Below.setCell ?_ ?_ _) | (with_reducible refine Below.drew ?_) | (with_reducible refine below_dn ?_ _) | (with_reducible refine Below.trans ?_ (Below.mono (by assumption) ?_)) | (simp; done) | (simp; omega) | omega)); have HB5 := hid hb5; clear hb))
              go_wp2_with fail
              go_ret
              exact Gives.mk (i64_eq HF.out) (BV.out.trans (HB5.out.mono BV.out.size))
            · have HF : Hid (Sp.chkS (l.take (j + 1)) (l.drop (j + 1)) = R) := by
                have h := HG.out
                rw [if_neg hp] at h
                exact h
              go_upto_region 6 with fail
              rw [HV.out]
              go_upto_region 10 with (first | (go_at_call 50; refine (cl _).mono ?_; rintro e w' ⟨rfl, rfl⟩) | (go_at_call 51; first | (with_reducible refine (up1 _).mono ?_) | (with_reducible refine (up2 _).mono ?_) | (with_reducible refine (up3 _).mono ?_)); rintro e w' ⟨rfl, rfl⟩)
              go_region_held3 (fun w' => Below V.heap.size V w' ∧ w'.cell? ⟨wr.heap.size, 0, none⟩ = some (.string c.s)) ((exact K.out _ (by repeat' (first | (with_reducible exact Below.refl _ _) | (with_reducible refine Below.alloc ?_ ?_ _) | (with_reducible refine Below.setCell ?_ ?_ _) | (with_reducible refine Below.drew ?_) | (with_reducible refine below_dn ?_ _) | (with_reducible refine Below.trans ?_ (Below.mono (by assumption) ?_)) | (simp; done) | (simp; omega) | omega))))
                (first | (go_at_call 52; refine (PL.out _ (by repeat' (first | (with_reducible exact Below.refl _ _) | (with_reducible refine Below.alloc ?_ ?_ _) | (with_reducible refine Below.setCell ?_ ?_ _) | (with_reducible refine Below.drew ?_) | (with_reducible refine below_dn ?_ _) | (with_reducible refine Below.trans ?_ (Below.mono (by assumption) ?_)) | (simp; done) | (simp; omega) | omega))).mono ?_; rintro e w5 ⟨rfl, hb⟩; have hb5 : Below V.heap.size V w5 := (by repeat' (first | (with_reducible exact Below.refl _ _) | (with_reducible refine Below.alloc ?_ ?_ _) | (with_reducible refine Below.setCell ?_ ?_ _) | (with_reducible refine Below.drew ?_) | (with_reducible refine below_dn ?_ _) | (with_reducible refine Below.trans ?_ (Below.mono (by assumption) ?_)) | (simp; done) | (simp; omega) | omega)); have HB5 := hid hb5; clear hb))
              go_wp2_with fail
              go_roundw
              case rel => exact ⟨j + 1, by go_num, by have := HJ.out; omega, HF.out, BV.out.trans (HB5.out.mono BV.out.size)⟩
              case measure => first | (rw [ej]; exact smeas _ _ HJ.out) | exact smeas _ _ HJ.out
      · have i1 : ¬ (j : Int) < (l.length : Int) := by omega
        have hd := HD.out
        rw [List.drop_eq_nil_of_le (by omega)] at hd
        have HF := hid (show (0 : Int) = R from hd)
        clear hd
        go_wp2_with fail
        go_ret
        exact Gives.mk (i64_eq HF.out.symm) HB.out
namespace Sp
def findS (l : List Sc) (z : ByteArray) : Int × Int := if tabS l ≠ 0 then (0, tabS l) else if placeS z l 0 < 0 then (0, 6) else (placeS z l 0, 0)
def limOf (l : List Sc) (i : Int) : Int := (l[i.toNat]?).elim 0 (·.lim)
def denOf (l : List Sc) (i : Int) : Int := (l[i.toNat]?).elim 0 (·.den)
def carOf (l : List Sc) (i : Int) : Int := (l[i.toNat]?).elim 0 (·.car)
def allowS (l : List Sc) (i d : Int) : Bool := decide (tabS l = 0 ∧ 0 ≤ i ∧ i < (l.length : Int)) && upTo d (limOf l i)
end Sp
set_option maxRecDepth 100000 in
set_option maxHeartbeats 1000000 in
theorem sallow_any (A : Option Addr) (cap : Nat) (l : List Sp.Sc) (i d : Int) (w : World) (hc : l.length ≤ cap) (hS : Sized l) (hT : Tab w A l) :
    Calls Try.prog 53 #[.slice A l.length cap, .int .i64 i, .int .i64 d] w (Gives (.bool (Sp.allowS l i d)) w) := by
  have ck := scheck_any A cap l w hc hS hT
  have ha := has_any i A l.length cap
  unfold Sp.allowS
  obtain ⟨q, hq⟩ : ∃ q, Sp.tabS l = q := ⟨_, rfl⟩
  rw [hq] at ck ⊢
  by_cases c : q = 0
  · subst c
    by_cases hi : 0 ≤ i ∧ i < (l.length : Int)
    · rw [decide_eq_true hi] at ha
      rw [decide_eq_true ⟨rfl, hi⟩, Bool.true_and]
      obtain ⟨k, rfl⟩ : ∃ k : Nat, i = (k : Int) := ⟨i.toNat, by omega⟩
      have hk : k < l.length := by omega
      have hlim : Sp.limOf l (k : Int) = (l[k]'hk).lim := by unfold Sp.limOf; simp [hk]
      rw [hlim]
      obtain ⟨b, off, hA, hl, hcell⟩ := hT (by omega)
      obtain ⟨-, -, -, c3⟩ := hcell k hk
      subst hA
      obtain ⟨y, hy⟩ : ∃ y, (l[k]'hk).lim = y := ⟨_, rfl⟩
      rw [hy] at c3 ⊢
      have up := upto_any d y
      obtain ⟨r, hr⟩ : ∃ r, Sp.upTo d y = r := ⟨_, rfl⟩
      rw [hr] at up ⊢
      have i0 : (0 : Int) ≤ (k : Int) := by omega
      have i1 : (k : Int) < (l.length : Int) := by omega
      have e1 : ((0 : Int) == 0) = true := rfl
      clear hq hi hS hc hT hcell hy hr hlim hk
      go_enter Try.func53, Try.ntmps53
      go_wp2_with fail
      refine ck.mono ?_
      rintro _ w1 ⟨rfl, hb⟩
      have B1 := hid hb
      have x3 : w1.cell? ⟨b, off + k * 4 + 3, none⟩ = some (.int .i64 y) := (hb.cell (p := ⟨b, off + k * 4 + 3, none⟩) hl).trans c3
      clear hb ck
      go_wp2_with (first | (go_at_call 68; refine (ha _).mono ?_; rintro _ w2 ⟨rfl, rfl⟩) | (go_at_call 51; refine (up _).mono ?_; rintro _ w2 ⟨rfl, rfl⟩))
      go_ret
      exact Gives.mk rfl B1.out
    · rw [decide_eq_false hi] at ha
      rw [decide_eq_false (fun h => hi h.2), Bool.false_and]
      clear hq hS hc hT
      go_enter Try.func53, Try.ntmps53
      go_wp2_with (first | (go_at_call 33; refine ck.mono ?_; rintro _ w1 ⟨rfl, hb⟩) | (go_at_call 68; refine (ha _).mono ?_; rintro _ w2 ⟨rfl, rfl⟩))
      go_ret
      exact Gives.mk rfl hb
  · rw [decide_eq_false (fun h => c h.1), Bool.false_and]
    have e1 : (q == 0) = false := by simpa using c
    clear hq hS hc hT ha
    go_enter Try.func53, Try.ntmps53
    go_wp2_with (go_at_call 33; refine ck.mono ?_; rintro _ w1 ⟨rfl, hb⟩)
    go_ret
    exact Gives.mk rfl hb
end Go.Proofs.Ytmdaanigkhikfab
