/-
  Packages units and couperef04: what works with texts alone: cuts, digits, numbers.
-/
import Derived.Test.YtgfjofdjicepiaaDoorUname
namespace Go.Proofs.YtgfjofdjicepiaaDoor
open Go.RowKit
set_option linter.unusedVariables false
set_option linter.unusedSimpArgs false
theorem utoList_mk (l : List UInt8) : (⟨l.toArray⟩ : ByteArray).data.toList = l := by simp
theorem urun_byte (s : ByteArray) (k : Nat) (h : k < s.data.toList.length) : ∀ W, (Instr.index 9 (.string s) (.int .i64 k)).run Tryd.prog W = .ok (.int .u8 ((s.data.toList[k]).toNat : Int)) W := by
  intro W
  have hz : k < s.size := by rw [Lib.size_eq]; exact h
  rw [run_index_string W _ _ _ _ Tryd.underlying9, dif_pos ⟨by omega, by omega⟩]
  rfl
theorem uext_take (s : ByteArray) (k : Nat) : s.extract 0 k = ⟨(s.data.toList.take k).toArray⟩ := by
  refine ByteArray.ext ?_
  rw [ByteArray.data_extract]
  refine Array.toList_inj.1 ?_
  simp
theorem uext_drop (s : ByteArray) (k : Nat) : s.extract k s.size = ⟨(s.data.toList.drop k).toArray⟩ := by
  refine ByteArray.ext ?_
  rw [ByteArray.data_extract]
  refine Array.toList_inj.1 ?_
  rw [Lib.size_eq]
  simp
  exact List.take_of_length_le (by simp)
theorem urun_take (s : ByteArray) (k : Nat) (h : k ≤ s.size) : ∀ W, (Instr.slice 9 (.string s) none (some (.int .i64 k)) none).run Tryd.prog W = .ok (.string ⟨(s.data.toList.take k).toArray⟩) W := by
  intro W
  rw [run_slice_string_to_if W _ _ _ _ Tryd.underlying9, if_pos ⟨by omega, by omega⟩, ← uext_take]
  rfl
theorem urun_drop (s : ByteArray) (k : Nat) (h : k ≤ s.size) (j : Int) (hj : j = k) : ∀ W, (Instr.slice 9 (.string s) (some (.int .i64 j)) none none).run Tryd.prog W = .ok (.string ⟨(s.data.toList.drop k).toArray⟩) W := by
  intro W
  subst hj
  rw [run_slice_string_from_if W _ _ _ _ Tryd.underlying9, if_pos ⟨by omega, by omega⟩, ← uext_drop]
  rfl
theorem ucutl_any (c : UInt8) (s : ByteArray) (hs : s.data.toList.length ≤ 1000) (w : World) : Calls Tryd.prog 70 #[.string s, .string ⟨#[c]⟩] w (Gives (.tuple #[.string ⟨(s.data.toList.take (Sp.at1 c s.data.toList)).toArray⟩, .string ⟨(s.data.toList.drop (Sp.at1 c s.data.toList + 1)).toArray⟩, .bool (decide (Sp.at1 c s.data.toList < s.data.toList.length))]) w) := by
  have e1 := Sp.indexByte_at1 c s.data.toList
  have hle := Sp.at1_le c s.data.toList
  have ix : ∀ w : World, Calls Tryd.prog 89 #[.string s, .string ⟨#[c]⟩] w fun e w' => e = .returned (.int .i64 (Lib.indexByte s.data.toList c)) ∧ w' = w := fun w => Tryd.stringslite_Index_one s c w
  have hz : s.size = s.data.toList.length := Lib.size_eq s
  have h1 : (⟨#[c]⟩ : ByteArray).size = 1 := rfl
  rw [e1] at ix
  clear e1
  by_cases h : Sp.at1 c s.data.toList < s.data.toList.length
  · rw [if_pos h] at ix
    have e : decide (Sp.at1 c s.data.toList < s.data.toList.length) = true := decide_eq_true h
    rw [e]
    have s0 := urun_take s (Sp.at1 c s.data.toList) (by omega)
    have s1 := urun_drop s (Sp.at1 c s.data.toList + 1) (by omega) ((Sp.at1 c s.data.toList : Int) + 1) (by omega)
    generalize (s.data.toList.take (Sp.at1 c s.data.toList)).toArray = x at s0 ⊢
    generalize (s.data.toList.drop (Sp.at1 c s.data.toList + 1)).toArray = y at s1 ⊢
    generalize Sp.at1 c s.data.toList = k at h ix s0 s1 hle
    have hb : (k : Int) < 1000 := by omega
    clear e hle h hz hs
    go_enter Tryd.func70, Tryd.ntmps70
    go_wp2_with (go_at_call 89; refine (ix _).mono ?_; rintro _ w' ⟨rfl, rfl⟩)
    go_quiet (fail)
    go_wp2
    go_ret3
    exact Gives.mk rfl (by repeat' (first | (with_reducible exact Below.refl _ _) | (with_reducible refine Below.alloc ?_ ?_ _) | (with_reducible refine Below.setCell ?_ ?_ _) | (with_reducible refine Below.drew ?_) | (with_reducible refine below_dn ?_ _) | (with_reducible refine Below.trans ?_ (Below.mono (by assumption) ?_)) | (simp; done) | (simp; omega) | omega))
  · rw [if_neg h] at ix
    have e : decide (Sp.at1 c s.data.toList < s.data.toList.length) = false := decide_eq_false h
    rw [e]
    have hk : Sp.at1 c s.data.toList = s.data.toList.length := by omega
    rw [hk, List.take_length, List.drop_eq_nil_of_le (by omega)]
    clear h e hk hle hz h1
    go_enter Tryd.func70, Tryd.ntmps70
    go_wp2_with (go_at_call 89; refine (ix _).mono ?_; rintro _ w' ⟨rfl, rfl⟩)
    go_ret3
    exact Gives.mk rfl (by repeat' (first | (with_reducible exact Below.refl _ _) | (with_reducible refine Below.alloc ?_ ?_ _) | (with_reducible refine Below.setCell ?_ ?_ _) | (with_reducible refine Below.drew ?_) | (with_reducible refine below_dn ?_ _) | (with_reducible refine Below.trans ?_ (Below.mono (by assumption) ?_)) | (simp; done) | (simp; omega) | omega))
theorem ucut_any (c : UInt8) (s : ByteArray) (hs : s.data.toList.length ≤ 1000) (w : World) : Calls Tryd.prog 43 #[.string s, .string ⟨#[c]⟩] w (Gives (.tuple #[.string ⟨(s.data.toList.take (Sp.at1 c s.data.toList)).toArray⟩, .string ⟨(s.data.toList.drop (Sp.at1 c s.data.toList + 1)).toArray⟩, .bool (decide (Sp.at1 c s.data.toList < s.data.toList.length))]) w) := by
  have cl := fun w => ucutl_any c s hs w
  go_enter Tryd.func43, Tryd.ntmps43
  go_wp2_with (go_at_call 70; refine (cl _).mono ?_; rintro _ w1 ⟨rfl, hb⟩)
  go_ret3
  exact Gives.mk rfl (by repeat' (first | (with_reducible exact Below.refl _ _) | (with_reducible refine Below.alloc ?_ ?_ _) | (with_reducible refine Below.setCell ?_ ?_ _) | (with_reducible refine Below.drew ?_) | (with_reducible refine below_dn ?_ _) | (with_reducible refine Below.trans ?_ (Below.mono (by assumption) ?_)) | (simp; done) | (simp; omega) | omega))

namespace Sp
theorem digB_no {L : List UInt8} {k : Nat} (h : k < L.length) (hc : ((L[k]).toNat : Int) < 48 ∨ (57 : Int) < (L[k]).toNat) : digB L = false := by
  unfold digB
  have : L.all isD = false := by
    rw [List.all_eq_false]
    refine ⟨L[k], List.getElem_mem h, ?_⟩
    rw [isD_iff]
    omega
  rw [this]; rfl
theorem digB_yes {L : List UInt8} (h : ∀ j, ∀ hj : j < L.length, isD (L[j]) = true) (h0 : 0 < L.length) : digB L = true := by
  unfold digB
  have h1 : L.all isD = true := by
    rw [List.all_eq_true]
    intro c hc
    obtain ⟨j, hj, rfl⟩ := List.getElem_of_mem hc
    exact h j hj
  have h2 : L.isEmpty = false := by
    cases L with
    | nil => simp at h0
    | cons c l => rfl
  rw [h1, h2]; rfl
theorem digB_nil : digB [] = false := rfl
theorem digB_all {L : List UInt8} (h : digB L = true) : L.all isD = true ∧ 0 < L.length := by
  unfold digB at h
  rw [Bool.and_eq_true] at h
  refine ⟨h.1, ?_⟩
  cases L with
  | nil => simp at h
  | cons c l => simp
theorem all_at {L : List UInt8} (h : L.all isD = true) {k : Nat} (hk : k < L.length) : 48 ≤ ((L[k]).toNat : Int) ∧ ((L[k]).toNat : Int) ≤ 57 := isD_iff.1 (List.all_eq_true.1 h _ (List.getElem_mem hk))
end Sp

def DGL (L : List UInt8) (w : World) (vi : Value) (wr : World) : Prop :=
  ∃ k : Nat, k ≤ L.length ∧ vi = .int .i64 k ∧ (∀ j, j < k → ∀ hj : j < L.length, Sp.isD (L[j]) = true) ∧ Below w.heap.size w wr
set_option maxRecDepth 100000 in
set_option maxHeartbeats 2000000 in
theorem udig_any (s : ByteArray) (hs : s.data.toList.length ≤ 1000) (w : World) : Calls Tryd.prog 62 #[.string s] w (Gives (.bool (Sp.digB s.data.toList)) w) := by
  obtain ⟨m, hm⟩ : ∃ m, s.size = m := ⟨_, rfl⟩
  have hl : s.data.toList.length = m := by rw [← Lib.size_eq]; exact hm
  rw [hl] at hs
  have HL := hid hl
  obtain ⟨b, hb⟩ : ∃ b, Sp.digB s.data.toList = b := ⟨_, rfl⟩
  rw [hb]
  have HB := hid hb
  have ne := hid (show (!s.toList.isEmpty) = decide (0 < m) from by
    rw [ByteArray.toList_eq]
    cases hq : s.data.toList with
    | nil => rw [hq] at hl; simp at hl; subst hl; rfl
    | cons c l => rw [hq] at hl; simp at hl; subst hl; simp)
  clear hl hb
  go_enter Tryd.func62, Tryd.ntmps62
  go_wp2_with fail
  go_loopw [6] (fun vi wr => DGL s.data.toList w vi wr) (fun vi _ => m - (intOf vi).toNat)
  case atStart => exact ⟨0, Nat.zero_le _, rfl, fun j hj => absurd hj (Nat.not_lt_zero _), Below.refl _ _⟩
  case round =>
    obtain ⟨k, hk, rfl, ha, hB⟩ := hrel
    rw [HL.out] at hk
    have HA := hid ha
    have BH := hid hB
    clear ha hB
    by_cases hlt : k < m
    · have hkl : k < s.data.toList.length := by rw [HL.out]; exact hlt
      have ix := urun_byte s k hkl
      have st := hid (@Sp.digB_no _ _ hkl)
      have ok := hid (@Sp.isD_iff (s.data.toList[k]))
      have c1 := (s.data.toList[k]).toNat_lt
      obtain ⟨c, hc⟩ : ∃ c : Int, ((s.data.toList[k]).toNat : Int) = c := ⟨_, rfl⟩
      have c0 : 0 ≤ c := by omega
      have c2 : c ≤ 255 := by omega
      rw [hc] at ix
      have CH := hid hc
      clear hc c1
      rcases Int.lt_or_le c 48 with q | q
      · go_wp2_with fail
        go_ret
        have e := st.out
        rw [CH.out, HB.out] at e
        have e2 := e (.inl q)
        subst e2
        have BB := BH.out
        exact Gives.mk rfl (by repeat' (first | (with_reducible exact Below.refl _ _) | (with_reducible refine Below.alloc ?_ ?_ _) | (with_reducible refine Below.setCell ?_ ?_ _) | (with_reducible refine Below.drew ?_) | (with_reducible refine Below.trans ?_ (Below.mono (by assumption) ?_)) | (simp; done) | (simp; omega) | omega))
      · rcases Int.lt_or_le 57 c with q2 | q2
        · go_wp2_with fail
          go_ret
          have e := st.out
          rw [CH.out, HB.out] at e
          have e2 := e (.inr q2)
          subst e2
          have BB := BH.out
          exact Gives.mk rfl (by repeat' (first | (with_reducible exact Below.refl _ _) | (with_reducible refine Below.alloc ?_ ?_ _) | (with_reducible refine Below.setCell ?_ ?_ _) | (with_reducible refine Below.drew ?_) | (with_reducible refine Below.trans ?_ (Below.mono (by assumption) ?_)) | (simp; done) | (simp; omega) | omega))
        · go_wp2_with fail
          go_roundw
          case rel =>
            refine ⟨k + 1, by rw [HL.out]; omega, by go_num, fun j hj hjl => ?_, ?_⟩
            · rcases Nat.lt_or_ge j k with h | h
              · exact HA.out j h hjl
              · obtain rfl : j = k := by omega
                have e := ok.out
                rw [CH.out] at e
                exact e.2 ⟨q, q2⟩
            · have BB := BH.out
              repeat' (first | (with_reducible exact Below.refl _ _) | (with_reducible refine Below.alloc ?_ ?_ _) | (with_reducible refine Below.setCell ?_ ?_ _) | (with_reducible refine Below.drew ?_) | (with_reducible refine Below.trans ?_ (Below.mono (by assumption) ?_)) | (simp; done) | (simp; omega) | omega)
          case measure => simp [intOf]; omega
    · have e : k = m := by omega
      subst e
      have hb2 : b = decide (0 < k) := by
        rw [← HB.out]
        by_cases h0 : 0 < k
        · rw [decide_eq_true h0]
          exact Sp.digB_yes (fun j hj => HA.out j (by rw [HL.out] at hj; exact hj) hj) (by rw [HL.out]; exact h0)
        · rw [decide_eq_false h0]
          have : s.data.toList = [] := List.length_eq_zero_iff.1 (by rw [HL.out]; omega)
          rw [this]; rfl
      go_wp2_with fail
      go_ret
      have BB := BH.out
      exact Gives.mk (show (Value.bool b : Value) = Value.bool (!s.toList.isEmpty) from by rw [hb2, ne.out]) (by repeat' (first | (with_reducible exact Below.refl _ _) | (with_reducible refine Below.alloc ?_ ?_ _) | (with_reducible refine Below.setCell ?_ ?_ _) | (with_reducible refine Below.drew ?_) | (with_reducible refine Below.trans ?_ (Below.mono (by assumption) ?_)) | (simp; done) | (simp; omega) | omega))

theorem str_eq_iff (s : ByteArray) (l : List UInt8) : (s.toList == (⟨l.toArray⟩ : ByteArray).toList) = (s.data.toList == l) := by
  rw [ByteArray.toList_eq, ByteArray.toList_eq]
theorem uwhole_dig (s : ByteArray) (w : World) (b : Bool) (hd : ∀ w : World, Calls Tryd.prog 62 #[.string s] w (Gives (.bool false) w)) : Calls Tryd.prog 61 #[.string s] w (Gives (.bool false) w) := by
  go_enter Tryd.func61, Tryd.ntmps61
  go_wp2_with fail
  refine (hd _).mono ?_; rintro _ w1 ⟨rfl, hb⟩
  go_wp2_with fail
  go_ret
  exact Gives.mk rfl (by repeat' (first | (with_reducible exact Below.refl _ _) | (with_reducible refine Below.alloc ?_ ?_ _) | (with_reducible refine Below.setCell ?_ ?_ _) | (with_reducible refine Below.drew ?_) | (with_reducible refine Below.trans ?_ (Below.mono (by assumption) ?_)) | (simp; done) | (simp; omega) | omega))
theorem uwhole_yes (s : ByteArray) (w : World) (c : Int) (z : Bool) (hz : (s.toList == [48]) = z) (ix : ∀ W, (Instr.index 9 (.string s) (.int .i64 0)).run Tryd.prog W = .ok (.int .u8 c) W) (c0 : 0 ≤ c) (c1 : c ≤ 255) (hd : ∀ w : World, Calls Tryd.prog 62 #[.string s] w (Gives (.bool true) w)) : Calls Tryd.prog 61 #[.string s] w (Gives (.bool (z || (c != 48))) w) := by
  go_enter Tryd.func61, Tryd.ntmps61
  go_wp2_with fail
  refine (hd _).mono ?_; rintro _ w1 ⟨rfl, hb⟩
  have BN : Below w.heap.size w w1 := by repeat' (first | (with_reducible exact Below.refl _ _) | (with_reducible refine Below.alloc ?_ ?_ _) | (with_reducible refine Below.setCell ?_ ?_ _) | (with_reducible refine Below.drew ?_) | (with_reducible refine Below.trans ?_ (Below.mono (by assumption) ?_)) | (simp; done) | (simp; omega) | omega)
  clear hb
  cases z with
  | true =>
    go_wp2_with fail
    go_ret
    exact Gives.mk rfl BN
  | false =>
    go_wp2_with fail
    go_ret
    exact Gives.mk rfl BN
theorem head48 : ∀ (L : List UInt8) (h0 : 0 < L.length), (((L[0].toNat : Int)) != 48) = !(L.head? == some 48)
  | [], h0 => by simp at h0
  | c :: l, h0 => by
    simp only [List.getElem_cons_zero, List.head?_cons]
    have : (some c == some (48 : UInt8)) = (c == 48) := rfl
    rw [this]
    by_cases q : c = 48
    · subst q; rfl
    · have a1 : (c == 48) = false := by simpa using q
      have a2 : ((c.toNat : Int) != 48) = true := by
        simp only [bne_iff_ne, ne_eq]
        intro e
        refine q (UInt8.toNat_inj.1 ?_)
        have : c.toNat = 48 := by omega
        rw [this]; rfl
      rw [a1, a2]; rfl
theorem uwhole_any (s : ByteArray) (hs : s.data.toList.length ≤ 1000) (w : World) : Calls Tryd.prog 61 #[.string s] w (Gives (.bool (Sp.wholeB s.data.toList)) w) := by
  have hd := fun w => udig_any s hs w
  unfold Sp.wholeB
  cases h : Sp.digB s.data.toList with
  | false =>
    rw [h] at hd
    exact uwhole_dig s w true hd
  | true =>
    rw [h] at hd
    have h0 := (Sp.digB_all h).2
    have ix := urun_byte s 0 h0
    have c1 := (s.data.toList[0]).toNat_lt
    have := uwhole_yes s w ((s.data.toList[0]).toNat : Int) _ rfl ix (by omega) (by omega) hd
    have e1 : (s.toList == [48]) = (s.data.toList == [48]) := by rw [ByteArray.toList_eq]
    have e2 := head48 s.data.toList h0
    rw [e1, e2] at this
    exact this

def VL (L : List UInt8) (v e : Int) (w : World) (vn vi : Value) (wr : World) : Prop :=
  ∃ (k : Nat) (n : Int), k ≤ L.length ∧ vn = .int .i64 n ∧ vi = .int .i64 k ∧ 0 ≤ n ∧ n ≤ 1000000000000000 ∧ Sp.valS n (L.drop k) = (v, e) ∧ Below w.heap.size w wr
set_option maxRecDepth 100000 in
set_option maxHeartbeats 2000000 in
theorem uval_any (s : ByteArray) (v e : Int) (hs : s.data.toList.length ≤ 1000) (hd : s.data.toList.all Sp.isD = true) (hR : Sp.valS 0 s.data.toList = (v, e)) (w : World) :
    Calls Tryd.prog 45 #[.string s] w (Gives (.tuple #[.int .i64 v, .int .i64 e]) w) := by
  obtain ⟨m, hm⟩ : ∃ m, s.size = m := ⟨_, rfl⟩
  have hl : s.data.toList.length = m := by rw [← Lib.size_eq]; exact hm
  rw [hl] at hs
  have HL := hid hl
  have HR := hid hR
  have HD := hid hd
  clear hl hR hd
  go_enter Tryd.func45, Tryd.ntmps45
  go_wp2_with fail
  go_loopw [4, 8] (fun vn vi wr => VL s.data.toList v e w vn vi wr) (fun _ vi _ => m - (intOf vi).toNat)
  case atStart => exact ⟨0, 0, Nat.zero_le _, rfl, rfl, by omega, by omega, HR.out, Below.refl _ _⟩
  case round =>
    obtain ⟨k, n, hk, rfl, rfl, n0, n1, hf, hB⟩ := hrel
    rw [HL.out] at hk
    have HF := hid hf
    have BH := hid hB
    clear hf hB
    by_cases hlt : k < m
    · have hkl : k < s.data.toList.length := by rw [HL.out]; exact hlt
      have ix := urun_byte s k hkl
      have st := hid (Sp.val_step (n := n) hkl)
      obtain ⟨c0, c1⟩ := Sp.all_at HD.out hkl
      obtain ⟨c, hc⟩ : ∃ c : Int, ((s.data.toList[k]).toNat : Int) = c := ⟨_, rfl⟩
      rw [hc] at ix c0 c1
      have CH := hid hc
      clear hc
      rcases Int.lt_or_le 1000000000000000 (10 * n + (c - 48)) with q | q
      · go_wp2_with fail
        go_ret2
        have e := st.out
        rw [CH.out, HF.out, if_pos q] at e
        obtain ⟨rfl, rfl⟩ := Prod.mk.inj e
        have BB := BH.out
        exact Gives.mk rfl (by repeat' (first | (with_reducible exact Below.refl _ _) | (with_reducible refine Below.alloc ?_ ?_ _) | (with_reducible refine Below.setCell ?_ ?_ _) | (with_reducible refine Below.drew ?_) | (with_reducible refine Below.trans ?_ (Below.mono (by assumption) ?_)) | (simp; done) | (simp; omega) | omega))
      · go_wp2_with fail
        go_roundw
        case rel =>
          refine ⟨k + 1, 10 * n + (c - 48), by rw [HL.out]; omega, by go_num, by go_num, by omega, q, ?_, ?_⟩
          · have e := st.out
            rw [CH.out, HF.out, if_neg (by omega)] at e
            exact e.symm
          · have BB := BH.out
            repeat' (first | (with_reducible exact Below.refl _ _) | (with_reducible refine Below.alloc ?_ ?_ _) | (with_reducible refine Below.setCell ?_ ?_ _) | (with_reducible refine Below.drew ?_) | (with_reducible refine Below.trans ?_ (Below.mono (by assumption) ?_)) | (simp; done) | (simp; omega) | omega)
        case measure => simp [intOf]; omega
    · have e : k = m := by omega
      subst e
      go_wp2_with fail
      go_ret2
      have e := HF.out
      rw [List.drop_eq_nil_of_le (by rw [HL.out]; exact Nat.le_refl _)] at e
      obtain ⟨rfl, rfl⟩ := Prod.mk.inj e
      have BB := BH.out
      exact Gives.mk rfl (by repeat' (first | (with_reducible exact Below.refl _ _) | (with_reducible refine Below.alloc ?_ ?_ _) | (with_reducible refine Below.setCell ?_ ?_ _) | (with_reducible refine Below.drew ?_) | (with_reducible refine Below.trans ?_ (Below.mono (by assumption) ?_)) | (simp; done) | (simp; omega) | omega))

end Go.Proofs.YtgfjofdjicepiaaDoor
