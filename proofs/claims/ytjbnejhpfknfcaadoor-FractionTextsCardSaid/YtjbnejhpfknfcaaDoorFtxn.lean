/-
  fraction.number and couperef02.digits, by contract, at any text.
-/
import Derived.Test.YtjbnejhpfknfcaaDoorFtxm
import Derived.Test.YtjbnejhpfknfcaaDoorFtext
namespace Go.Proofs.YtjbnejhpfknfcaaDoor
open Go.RowKit
set_option linter.unusedVariables false
set_option linter.unusedSimpArgs false
/-- A byte of a text, read. -/
theorem run_byte (s : ByteArray) (k : Nat) (h : k < s.data.toList.length) : ∀ W, (Instr.index 9 (.string s) (.int .i64 k)).run Tryd.prog W = .ok (.int .u8 ((s.data.toList[k]).toNat : Int)) W := by
  intro W
  have hz : k < s.size := by rw [Lib.size_eq]; exact h
  rw [run_index_string W _ _ _ _ Tryd.underlying9, dif_pos ⟨by omega, by omega⟩]
  rfl
def NL (L : List UInt8) (v : Int) (b : Bool) (w : World) (vn vi : Value) (wr : World) : Prop :=
  ∃ (k : Nat) (n : Int), k ≤ L.length ∧ vn = .int .i64 n ∧ vi = .int .i64 k ∧ 0 ≤ n ∧ n < 10 ^ k ∧ Sp.numL n (L.drop k) = (v, b) ∧ Below w.heap.size w wr
set_option maxRecDepth 100000 in
set_option maxHeartbeats 2000000 in
theorem fnum_any (s : ByteArray) (v : Int) (b : Bool) (hR : Sp.numS s.data.toList = (v, b)) (w : World) :
    Calls Tryd.prog 66 #[.string s] w (Gives (.tuple #[.int .i64 v, .bool b]) w) := by
  obtain ⟨m, hm⟩ : ∃ m, s.size = m := ⟨_, rfl⟩
  have hl : s.data.toList.length = m := by rw [← Lib.size_eq]; exact hm
  unfold Sp.numS at hR
  rw [hl] at hR
  by_cases hb : m < 1 ∨ 16 < m
  · rw [if_pos hb] at hR
    obtain ⟨rfl, rfl⟩ := Prod.mk.inj hR
    rcases Nat.lt_or_ge m 1 with h1 | h1
    · obtain rfl : m = 0 := by omega
      go_enter Tryd.func66, Tryd.ntmps66
      go_wp2_with fail
      go_ret2
      exact Gives.mk rfl (by repeat' (first | (with_reducible exact Below.refl _ _) | (with_reducible refine Below.alloc ?_ ?_ _) | (with_reducible refine Below.setCell ?_ ?_ _) | (with_reducible refine Below.drew ?_) | (with_reducible refine Below.trans ?_ (Below.mono (by assumption) ?_)) | (simp; done) | (simp; omega) | omega))
    · have h2 : 16 < m := by omega
      clear hb hR hl
      go_enter Tryd.func66, Tryd.ntmps66
      go_wp2_with fail
      go_ret2
      exact Gives.mk rfl (by repeat' (first | (with_reducible exact Below.refl _ _) | (with_reducible refine Below.alloc ?_ ?_ _) | (with_reducible refine Below.setCell ?_ ?_ _) | (with_reducible refine Below.drew ?_) | (with_reducible refine Below.trans ?_ (Below.mono (by assumption) ?_)) | (simp; done) | (simp; omega) | omega))
  · rw [if_neg hb] at hR
    have h1 : 1 ≤ m := by omega
    have h2 : m ≤ 16 := by omega
    have hm0 : ((m : Int) == 0) = false := by simp; omega
    have HR := hid hR
    have HL := hid hl
    clear hb hR hl
    go_enter Tryd.func66, Tryd.ntmps66
    go_wp2_with fail
    go_loopw [4, 16] (fun vn vi wr => NL s.data.toList v b w vn vi wr) (fun _ vi _ => m - (intOf vi).toNat)
    case atStart => exact ⟨0, 0, Nat.zero_le _, rfl, rfl, by omega, by simp, HR.out, Below.refl _ _⟩
    case round =>
      obtain ⟨k, n, hk, rfl, rfl, n0, n1, hf, hB⟩ := hrel
      rw [HL.out] at hk
      have HF := hid hf
      have BH := hid hB
      have N1 := hid n1
      clear hf hB n1
      by_cases hlt : k < m
      · have hkl : k < s.data.toList.length := by rw [HL.out]; exact hlt
        have ix := run_byte s k hkl
        have st := hid (Sp.num_step (n := n) hkl)
        have c1 := (s.data.toList[k]).toNat_lt
        obtain ⟨c, hc⟩ : ∃ c : Int, ((s.data.toList[k]).toNat : Int) = c := ⟨_, rfl⟩
        have c0 : 0 ≤ c := by omega
        have c2 : c ≤ 255 := by omega
        rw [hc] at ix
        have CH := hid hc
        clear hc c1
        rcases Int.lt_or_le c 48 with q | q
        · go_wp2_with fail
          go_ret2
          have e := st.out
          rw [CH.out, HF.out, if_pos (.inl q)] at e
          obtain ⟨rfl, rfl⟩ := Prod.mk.inj e
          have BB := BH.out
          exact Gives.mk rfl (by repeat' (first | (with_reducible exact Below.refl _ _) | (with_reducible refine Below.alloc ?_ ?_ _) | (with_reducible refine Below.setCell ?_ ?_ _) | (with_reducible refine Below.drew ?_) | (with_reducible refine Below.trans ?_ (Below.mono (by assumption) ?_)) | (simp; done) | (simp; omega) | omega))
        · rcases Int.lt_or_le 57 c with q2 | q2
          · go_wp2_with fail
            go_ret2
            have e := st.out
            rw [CH.out, HF.out, if_pos (.inr q2)] at e
            obtain ⟨rfl, rfl⟩ := Prod.mk.inj e
            have BB := BH.out
            exact Gives.mk rfl (by repeat' (first | (with_reducible exact Below.refl _ _) | (with_reducible refine Below.alloc ?_ ?_ _) | (with_reducible refine Below.setCell ?_ ?_ _) | (with_reducible refine Below.drew ?_) | (with_reducible refine Below.trans ?_ (Below.mono (by assumption) ?_)) | (simp; done) | (simp; omega) | omega))
          · obtain ⟨nb, r0, r1⟩ := Sp.num_bounds (k := k) (n := n) (d := c - 48) (by omega) n0 N1.out (by omega) (by omega)
            have R1 := hid r1
            clear r1
            go_wp2_with fail
            go_roundw
            case rel =>
              refine ⟨k + 1, 10 * n + (c - 48), by rw [HL.out]; omega, by go_num, by go_num, by omega, R1.out, ?_, ?_⟩
              · have e := st.out
                rw [CH.out, HF.out, if_neg (by omega)] at e
                exact e.symm
              · have BB := BH.out
                repeat' (first | (with_reducible exact Below.refl _ _) | (with_reducible refine Below.alloc ?_ ?_ _) | (with_reducible refine Below.setCell ?_ ?_ _) | (with_reducible refine Below.drew ?_) | (with_reducible refine Below.trans ?_ (Below.mono (by assumption) ?_)) | (simp; done) | (simp; omega) | omega)
            case measure => simp [intOf]; omega
      · have e : k = m := by omega
        subst e
        go_wp2_with fail
        go_ret2
        have e := HF.out
        rw [List.drop_eq_nil_of_le (by rw [HL.out]; exact Nat.le_refl _)] at e
        obtain ⟨rfl, rfl⟩ := Prod.mk.inj e
        have BB := BH.out
        exact Gives.mk rfl (by repeat' (first | (with_reducible exact Below.refl _ _) | (with_reducible refine Below.alloc ?_ ?_ _) | (with_reducible refine Below.setCell ?_ ?_ _) | (with_reducible refine Below.drew ?_) | (with_reducible refine Below.trans ?_ (Below.mono (by assumption) ?_)) | (simp; done) | (simp; omega) | omega))
set_option maxRecDepth 100000 in
set_option maxHeartbeats 2000000 in
theorem rnum_any (s : ByteArray) (v : Int) (b : Bool) (hR : Sp.numS s.data.toList = (v, b)) (w : World) :
    Calls Tryd.prog 67 #[.string s] w (Gives (.tuple #[.int .i64 v, .bool b]) w) := by
  obtain ⟨m, hm⟩ : ∃ m, s.size = m := ⟨_, rfl⟩
  have hl : s.data.toList.length = m := by rw [← Lib.size_eq]; exact hm
  unfold Sp.numS at hR
  rw [hl] at hR
  by_cases hb : m < 1 ∨ 16 < m
  · rw [if_pos hb] at hR
    obtain ⟨rfl, rfl⟩ := Prod.mk.inj hR
    rcases Nat.lt_or_ge m 1 with h1 | h1
    · obtain rfl : m = 0 := by omega
      go_enter Tryd.func67, Tryd.ntmps67
      go_wp2_with fail
      go_ret2
      exact Gives.mk rfl (by repeat' (first | (with_reducible exact Below.refl _ _) | (with_reducible refine Below.alloc ?_ ?_ _) | (with_reducible refine Below.setCell ?_ ?_ _) | (with_reducible refine Below.drew ?_) | (with_reducible refine Below.trans ?_ (Below.mono (by assumption) ?_)) | (simp; done) | (simp; omega) | omega))
    · have h2 : 16 < m := by omega
      clear hb hR hl
      go_enter Tryd.func67, Tryd.ntmps67
      go_wp2_with fail
      go_ret2
      exact Gives.mk rfl (by repeat' (first | (with_reducible exact Below.refl _ _) | (with_reducible refine Below.alloc ?_ ?_ _) | (with_reducible refine Below.setCell ?_ ?_ _) | (with_reducible refine Below.drew ?_) | (with_reducible refine Below.trans ?_ (Below.mono (by assumption) ?_)) | (simp; done) | (simp; omega) | omega))
  · rw [if_neg hb] at hR
    have h1 : 1 ≤ m := by omega
    have h2 : m ≤ 16 := by omega
    have hm0 : ((m : Int) == 0) = false := by simp; omega
    have HR := hid hR
    have HL := hid hl
    clear hb hR hl
    go_enter Tryd.func67, Tryd.ntmps67
    go_wp2_with fail
    go_loopw [4, 5] (fun vn vi wr => NL s.data.toList v b w vn vi wr) (fun _ vi _ => m - (intOf vi).toNat)
    case atStart => exact ⟨0, 0, Nat.zero_le _, rfl, rfl, by omega, by simp, HR.out, Below.refl _ _⟩
    case round =>
      obtain ⟨k, n, hk, rfl, rfl, n0, n1, hf, hB⟩ := hrel
      rw [HL.out] at hk
      have HF := hid hf
      have BH := hid hB
      have N1 := hid n1
      clear hf hB n1
      by_cases hlt : k < m
      · have hkl : k < s.data.toList.length := by rw [HL.out]; exact hlt
        have ix := run_byte s k hkl
        have st := hid (Sp.num_step (n := n) hkl)
        have c1 := (s.data.toList[k]).toNat_lt
        obtain ⟨c, hc⟩ : ∃ c : Int, ((s.data.toList[k]).toNat : Int) = c := ⟨_, rfl⟩
        have c0 : 0 ≤ c := by omega
        have c2 : c ≤ 255 := by omega
        rw [hc] at ix
        have CH := hid hc
        clear hc c1
        rcases Int.lt_or_le c 48 with q | q
        · go_wp2_with fail
          go_ret2
          have e := st.out
          rw [CH.out, HF.out, if_pos (.inl q)] at e
          obtain ⟨rfl, rfl⟩ := Prod.mk.inj e
          have BB := BH.out
          exact Gives.mk rfl (by repeat' (first | (with_reducible exact Below.refl _ _) | (with_reducible refine Below.alloc ?_ ?_ _) | (with_reducible refine Below.setCell ?_ ?_ _) | (with_reducible refine Below.drew ?_) | (with_reducible refine Below.trans ?_ (Below.mono (by assumption) ?_)) | (simp; done) | (simp; omega) | omega))
        · rcases Int.lt_or_le 57 c with q2 | q2
          · go_wp2_with fail
            go_ret2
            have e := st.out
            rw [CH.out, HF.out, if_pos (.inr q2)] at e
            obtain ⟨rfl, rfl⟩ := Prod.mk.inj e
            have BB := BH.out
            exact Gives.mk rfl (by repeat' (first | (with_reducible exact Below.refl _ _) | (with_reducible refine Below.alloc ?_ ?_ _) | (with_reducible refine Below.setCell ?_ ?_ _) | (with_reducible refine Below.drew ?_) | (with_reducible refine Below.trans ?_ (Below.mono (by assumption) ?_)) | (simp; done) | (simp; omega) | omega))
          · obtain ⟨nb, r0, r1⟩ := Sp.num_bounds (k := k) (n := n) (d := c - 48) (by omega) n0 N1.out (by omega) (by omega)
            have R1 := hid r1
            clear r1
            go_wp2_with fail
            go_roundw
            case rel =>
              refine ⟨k + 1, 10 * n + (c - 48), by rw [HL.out]; omega, by go_num, by go_num, by omega, R1.out, ?_, ?_⟩
              · have e := st.out
                rw [CH.out, HF.out, if_neg (by omega)] at e
                exact e.symm
              · have BB := BH.out
                repeat' (first | (with_reducible exact Below.refl _ _) | (with_reducible refine Below.alloc ?_ ?_ _) | (with_reducible refine Below.setCell ?_ ?_ _) | (with_reducible refine Below.drew ?_) | (with_reducible refine Below.trans ?_ (Below.mono (by assumption) ?_)) | (simp; done) | (simp; omega) | omega)
            case measure => simp [intOf]; omega
      · have e : k = m := by omega
        subst e
        go_wp2_with fail
        go_ret2
        have e := HF.out
        rw [List.drop_eq_nil_of_le (by rw [HL.out]; exact Nat.le_refl _)] at e
        obtain ⟨rfl, rfl⟩ := Prod.mk.inj e
        have BB := BH.out
        exact Gives.mk rfl (by repeat' (first | (with_reducible exact Below.refl _ _) | (with_reducible refine Below.alloc ?_ ?_ _) | (with_reducible refine Below.setCell ?_ ?_ _) | (with_reducible refine Below.drew ?_) | (with_reducible refine Below.trans ?_ (Below.mono (by assumption) ?_)) | (simp; done) | (simp; omega) | omega))
end Go.Proofs.YtjbnejhpfknfcaaDoor
