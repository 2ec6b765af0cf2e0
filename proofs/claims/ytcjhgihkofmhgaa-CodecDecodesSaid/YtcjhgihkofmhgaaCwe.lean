/-
  Layer 6: texts read, lists of bytes compared, both packages, by contract.
-/
import Derived.Test.YtcjhgihkofmhgaaCwd
import Derived.BigQuiet
import Derived.Deep.QuietTactic
namespace Go.Proofs.Ytcjhgihkofmhgaa
open Go.RowKit
set_option linter.unusedVariables false
set_option linter.unusedSimpArgs false

namespace Sp
def textS (L : List UInt8) (at_ : Int) : List UInt8 × Int × Int :=
  if (getS L at_).2.2 ≠ 0 then ([], 0, (getS L at_).2.2)
  else if (getS L at_).1 < 0 then ([], 0, 3)
  else if 4000 < (getS L at_).1 then ([], 0, 8)
  else if (L.length : Int) - (getS L at_).2.1 < (getS L at_).1 then ([], 0, 17)
  else (((L.take ((getS L at_).2.1 + (getS L at_).1).toNat).drop (getS L at_).2.1.toNat), (getS L at_).2.1 + (getS L at_).1, 0)
theorem getS_ok {L : List UInt8} {at_ n x : Int} (h : getS L at_ = (n, x, 0)) : 0 ≤ at_ ∧ at_ ≤ x ∧ x ≤ L.length ∧ -9223372036854775808 ≤ n ∧ n ≤ 9223372036854775807 := by
  unfold getS at h
  by_cases c : at_ < 0 ∨ (L.length : Int) < at_
  · rw [if_pos c] at h; simp at h
  · rw [if_neg c] at h
    by_cases c2 : (getL (L.drop at_.toNat)).2.2 = 0
    · rw [if_pos c2] at h
      simp only [Prod.mk.injEq, and_true] at h
      have hl := getL_len (L.drop at_.toNat)
      rw [List.length_drop] at hl
      have hg : getL (L.drop at_.toNat) = ((getL (L.drop at_.toNat)).1, (getL (L.drop at_.toNat)).2.1, 0) := by rw [← c2]
      have hr := (getL_only hg).1
      omega
    · rw [if_neg c2] at h
      simp only [Prod.mk.injEq] at h
      exact absurd h.2.2 c2
end Sp
theorem ret_s2 {s t : ByteArray} {b c b' c' : Int} (h1 : s = t) (h2 : b = b') (h3 : c = c') : Ending.returned (.tuple #[.string s, .int .i64 b, .int .i64 c]) = .returned (.tuple #[.string t, .int .i64 b', .int .i64 c']) := by rw [h1, h2, h3]
set_option maxRecDepth 100000 in
set_option maxHeartbeats 1000000 in
theorem getText_any (L : List UInt8) (A : Option Addr) (cap : Nat) (at_ : Int) (hc : L.length ≤ cap) (hL : L.length ≤ 140737488355328) (B : Nat) (w : World) (hB : B ≤ w.heap.size) (S : Bs w B A L) :
    Calls Try.prog 14 #[.slice A L.length cap, .int .i64 at_] w fun e w' => e = .returned (.tuple #[.string ⟨(Sp.textS L at_).1.toArray⟩, .int .i64 (Sp.textS L at_).2.1, .int .i64 (Sp.textS L at_).2.2]) ∧ w = w' := by
  have gi := getInt_any L A cap at_ hc hL B w hB S
  have hok := fun n x => Sp.getS_ok (L := L) (at_ := at_) (n := n) (x := x)
  unfold Sp.textS
  generalize Sp.getS L at_ = G at gi hok
  obtain ⟨n, x, e⟩ := G
  simp only at gi hok
  by_cases e0 : e = 0
  · subst e0
    obtain ⟨h1, h2, h3, h4, h5⟩ := hok n x rfl
    obtain ⟨k, rfl⟩ := Int.eq_ofNat_of_zero_le (show 0 ≤ x by omega)
    clear hok
    rw [if_neg (by simp)]
    by_cases c1 : n < 0
    · rw [if_pos c1]
      go_enter Try.func14, Try.ntmps14
      go_wp2_with (go_at_call 12; refine gi.mono ?_; rintro e w' ⟨rfl, rfl⟩)
      go_ret3
      exact ⟨rfl, rfl⟩
    · rw [if_neg c1]
      by_cases c2 : 4000 < n
      · rw [if_pos c2]
        go_enter Try.func14, Try.ntmps14
        go_wp2_with (go_at_call 12; refine gi.mono ?_; rintro e w' ⟨rfl, rfl⟩)
        go_ret3
        exact ⟨rfl, rfl⟩
      · rw [if_neg c2]
        by_cases c3 : (L.length : Int) - (k : Int) < n
        · rw [if_pos c3]
          go_enter Try.func14, Try.ntmps14
          go_wp2_with (go_at_call 12; refine gi.mono ?_; rintro e w' ⟨rfl, rfl⟩)
          go_ret3
          exact ⟨rfl, rfl⟩
        · rw [if_neg c3]
          obtain ⟨m, rfl⟩ := Int.eq_ofNat_of_zero_le (show 0 ≤ n by omega)
          have sl := fun W => slice_both A L.length cap k (k + m) (by omega) (by omega) W
          have SM := S.cut (k := k) (m := k + m) (by omega) (by omega) hc
          generalize (if cap = k then A else A.map (·.add k)) = A2 at sl SM
          have ml : ((L.take (k + m)).drop k).length = m := by simp; omega
          have e4 : k + m - k = m := by omega
          rw [e4] at sl
          have tx := fun cap => text_run SM cap
          rw [ml] at tx
          have e1 : ((k : Int) + (m : Int)).toNat = k + m := by omega
          have e2 : ((k : Int)).toNat = k := by omega
          have e3 : (((k + m : Nat)) : Int) = (k : Int) + (m : Int) := by omega
          rw [e3] at sl
          simp only [e1, e2]
          generalize ((L.take (k + m)).drop k) = M at SM tx
          clear e1 e2 e3 e4 ml SM S h1 h2 h3 h4 h5 hB
          go_enter Try.func14, Try.ntmps14
          go_wp2_with (go_at_call 12; refine gi.mono ?_; rintro e w' ⟨rfl, rfl⟩)
          go_ret3
          exact ⟨rfl, rfl⟩
  · rw [if_pos e0]
    clear hok
    go_enter Try.func14, Try.ntmps14
    go_wp2_with (go_at_call 12; refine gi.mono ?_; rintro e w' ⟨rfl, rfl⟩)
    go_ret3
    exact ⟨rfl, rfl⟩
set_option maxRecDepth 100000 in
set_option maxHeartbeats 1000000 in
theorem rgetText_any (L : List UInt8) (A : Option Addr) (cap : Nat) (at_ : Int) (hc : L.length ≤ cap) (hL : L.length ≤ 140737488355328) (B : Nat) (w : World) (hB : B ≤ w.heap.size) (S : Bs w B A L) :
    Calls Try.prog 15 #[.slice A L.length cap, .int .i64 at_] w fun e w' => e = .returned (.tuple #[.string ⟨(Sp.textS L at_).1.toArray⟩, .int .i64 (Sp.textS L at_).2.1, .int .i64 (Sp.textS L at_).2.2]) ∧ w = w' := by
  have gi := rgetInt_any L A cap at_ hc hL B w hB S
  have hok := fun n x => Sp.getS_ok (L := L) (at_ := at_) (n := n) (x := x)
  unfold Sp.textS
  generalize Sp.getS L at_ = G at gi hok
  obtain ⟨n, x, e⟩ := G
  simp only at gi hok
  by_cases e0 : e = 0
  · subst e0
    obtain ⟨h1, h2, h3, h4, h5⟩ := hok n x rfl
    obtain ⟨k, rfl⟩ := Int.eq_ofNat_of_zero_le (show 0 ≤ x by omega)
    clear hok
    rw [if_neg (by simp)]
    by_cases c1 : n < 0
    · rw [if_pos c1]
      go_enter Try.func15, Try.ntmps15
      go_wp2_with (go_at_call 13; refine gi.mono ?_; rintro e w' ⟨rfl, rfl⟩)
      go_ret3
      exact ⟨rfl, rfl⟩
    · rw [if_neg c1]
      by_cases c2 : 4000 < n
      · rw [if_pos c2]
        go_enter Try.func15, Try.ntmps15
        go_wp2_with (go_at_call 13; refine gi.mono ?_; rintro e w' ⟨rfl, rfl⟩)
        go_ret3
        exact ⟨rfl, rfl⟩
      · rw [if_neg c2]
        by_cases c3 : (L.length : Int) - (k : Int) < n
        · rw [if_pos c3]
          go_enter Try.func15, Try.ntmps15
          go_wp2_with (go_at_call 13; refine gi.mono ?_; rintro e w' ⟨rfl, rfl⟩)
          go_ret3
          exact ⟨rfl, rfl⟩
        · rw [if_neg c3]
          obtain ⟨m, rfl⟩ := Int.eq_ofNat_of_zero_le (show 0 ≤ n by omega)
          have sl := fun W => slice_both A L.length cap k (k + m) (by omega) (by omega) W
          have SM := S.cut (k := k) (m := k + m) (by omega) (by omega) hc
          generalize (if cap = k then A else A.map (·.add k)) = A2 at sl SM
          have ml : ((L.take (k + m)).drop k).length = m := by simp; omega
          have e4 : k + m - k = m := by omega
          rw [e4] at sl
          have tx := fun cap => text_run SM cap
          rw [ml] at tx
          have e1 : ((k : Int) + (m : Int)).toNat = k + m := by omega
          have e2 : ((k : Int)).toNat = k := by omega
          have e3 : (((k + m : Nat)) : Int) = (k : Int) + (m : Int) := by omega
          rw [e3] at sl
          simp only [e1, e2]
          generalize ((L.take (k + m)).drop k) = M at SM tx
          clear e1 e2 e3 e4 ml SM S h1 h2 h3 h4 h5 hB
          go_enter Try.func15, Try.ntmps15
          go_wp2_with (go_at_call 13; refine gi.mono ?_; rintro e w' ⟨rfl, rfl⟩)
          go_ret3
          exact ⟨rfl, rfl⟩
  · rw [if_pos e0]
    clear hok
    go_enter Try.func15, Try.ntmps15
    go_wp2_with (go_at_call 13; refine gi.mono ?_; rintro e w' ⟨rfl, rfl⟩)
    go_ret3
    exact ⟨rfl, rfl⟩
/-- Two slices of bytes, compared. -/
def EqRel (L M : List UInt8) (t : Value) : Prop := ∃ k : Nat, t = .int .i64 (k : Int) ∧ k ≤ L.length ∧ L.take k = M.take k
theorem take_eq_succ {L M : List UInt8} {k : Nat} (h : L.take k = M.take k) (hl : k < L.length) (hm : k < M.length) (e : L[k] = M[k]) : L.take (k + 1) = M.take (k + 1) := by
  rw [List.take_succ_eq_append_getElem hl, List.take_succ_eq_append_getElem hm, h, e]
theorem take_ne {L M : List UInt8} {k : Nat} (hl : k < L.length) (hm : k < M.length) (e : L[k] ≠ M[k]) : L ≠ M := by
  rintro rfl
  exact e rfl
theorem Bs.under {w w' : World} {B : Nat} {A : Option Addr} {L : List UInt8} (h : Bs w B A L) (hB : B ≤ w.heap.size) (hb : Below w.heap.size w w') : Bs w' B A L := h.below (hb.mono hB)
theorem same_len (L M : List UInt8) (A C : Option Addr) (ca cc : Nat) (h : L.length ≠ M.length) (w : World) :
    Calls Try.prog 16 #[.slice A L.length ca, .slice C M.length cc] w (Gives (.bool false) w) := by
  have f1 : ((L.length : Int) != (M.length : Int)) = true := by simp; omega
  go_enter Try.func16, Try.ntmps16
  go_wp2_with fail
  go_ret
  exact Gives.mk rfl (Below.refl _ _)
set_option maxRecDepth 100000 in
set_option maxHeartbeats 1000000 in
theorem sameBytes_any (L M : List UInt8) (A C : Option Addr) (ca cc : Nat) (B : Nat) (w : World) (hB : B ≤ w.heap.size) (hl : L.length ≤ 9223372036854775807) (SL : Bs w B A L) (SM : Bs w B C M) :
    Calls Try.prog 16 #[.slice A L.length ca, .slice C M.length cc] w (Gives (.bool (decide (L = M))) w) := by
  by_cases c : L.length = M.length
  · have f1 : ((L.length : Int) != (M.length : Int)) = false := by simp; omega
    have C1 := hid c
    clear c
    go_enter Try.func16, Try.ntmps16
    go_wp2_with fail
    go_loopw [5] (fun t wr => EqRel L M t ∧ Below w.heap.size w wr) (fun t _ => L.length - (intOf t).toNat)
    case atStart => exact ⟨⟨0, rfl, Nat.zero_le _, rfl⟩, Below.refl _ _⟩
    case round =>
      obtain ⟨⟨k, rfl, hk, ht⟩, hW⟩ := hrel
      have HT := hid ht
      have HW := hid hW
      have SL1 := SL.under hB hW
      have SM1 := SM.under hB hW
      clear ht hW
      by_cases hlt : k < L.length
      · have hlm : k < M.length := by rw [← C1.out]; exact hlt
        obtain ⟨b, off, rfl, lt, cel⟩ := SL1.at_ (by omega)
        obtain ⟨b2, off2, rfl, lt2, cel2⟩ := SM1.at_ (by omega)
        have x := cel k hlt
        have x2 := cel2 k hlm
        have i0 : (0 : Int) ≤ (k : Int) := by omega
        have i1 : (k : Int) < (L.length : Int) := by omega
        have i2 : (k : Int) < (M.length : Int) := by omega
        clear cel cel2 SL1 SM1
        by_cases e : L[k] = M[k]
        · have e2 : (((L[k]).toNat : Int) != ((M[k]).toNat : Int)) = false := by rw [e]; simp
          have E := hid e
          clear e
          go_wp2_with fail
          go_quiet (fail)
          go_wp2_with fail
          go_roundw
          case rel => exact ⟨⟨k + 1, by go_num, by omega, take_eq_succ HT.out hlt hlm E.out⟩, below_dn HW.out _⟩
          case measure => simp [intOf]; omega
        · have e2 : (((L[k]).toNat : Int) != ((M[k]).toNat : Int)) = true := by
            simp only [bne_iff_ne, ne_eq]
            intro h
            exact e (UInt8.toNat_inj.1 (by omega))
          have E := hid e
          clear e
          go_wp2_with fail
          go_quiet (fail)
          go_wp2_with fail
          go_ret
          exact Gives.mk (bool_eq (by rw [decide_eq_false (take_ne hlt hlm E.out)])) (below_dn HW.out _)
      · go_wp2_with fail
        go_ret
        refine Gives.mk (bool_eq ?_) HW.out
        have h := HT.out
        rw [List.take_of_length_le (by omega), List.take_of_length_le (by rw [← C1.out]; omega)] at h
        rw [decide_eq_true h]
  · have e : decide (L = M) = false := decide_eq_false (fun h => c (by rw [h]))
    rw [e]
    exact same_len L M A C ca cc c w
end Go.Proofs.Ytcjhgihkofmhgaa
