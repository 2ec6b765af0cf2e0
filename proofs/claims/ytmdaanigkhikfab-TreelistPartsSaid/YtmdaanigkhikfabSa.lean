/-
  Layer 10: tables of species in memory; isUpTo, isCode, has, place of package species, code of the reference, by contract.
-/
import Derived.Test.YtmdaanigkhikfabSm
import Derived.Test.YtmdaanigkhikfabIcode
import Derived.Laws.Strings
import Derived.WideShapes
namespace Go.Proofs.Ytmdaanigkhikfab
open Go.RowKit
set_option linter.unusedVariables false
set_option linter.unusedSimpArgs false

/-- A table that lies in memory. -/
def Tab (w : World) (A : Option Addr) (l : List Sp.Sc) : Prop :=
  0 < l.length → ∃ b off, A = some ⟨b, off, none⟩ ∧ b < w.heap.size ∧ ∀ j, (hj : j < l.length) →
    w.cell? ⟨b, off + j * 4, none⟩ = some (.string (l[j]).s) ∧ w.cell? ⟨b, off + j * 4 + 1, none⟩ = some (.int .i64 (l[j]).den) ∧ w.cell? ⟨b, off + j * 4 + 2, none⟩ = some (.int .i64 (l[j]).car) ∧ w.cell? ⟨b, off + j * 4 + 3, none⟩ = some (.int .i64 (l[j]).lim)
theorem Tab.below {w w' : World} {A : Option Addr} {l : List Sp.Sc} (h : Tab w A l) (hb : Below w.heap.size w w') : Tab w' A l := fun h0 => by
  obtain ⟨b, off, hA, hl, hc⟩ := h h0
  refine ⟨b, off, hA, Nat.lt_of_lt_of_le hl hb.size, fun j hj => ?_⟩
  obtain ⟨c0, c1, c2, c3⟩ := hc j hj
  exact ⟨(hb.cell (p := ⟨b, off + j * 4, none⟩) hl).trans c0, (hb.cell (p := ⟨b, off + j * 4 + 1, none⟩) hl).trans c1, (hb.cell (p := ⟨b, off + j * 4 + 2, none⟩) hl).trans c2, (hb.cell (p := ⟨b, off + j * 4 + 3, none⟩) hl).trans c3⟩
theorem Tab.take {w : World} {A : Option Addr} {l : List Sp.Sc} (h : Tab w A l) (k : Nat) : Tab w A (l.take k) := fun h0 => by
  have h1 : 0 < l.length := by simp at h0; omega
  obtain ⟨b, off, hA, hl, hc⟩ := h h1
  refine ⟨b, off, hA, hl, fun j hj => ?_⟩
  rw [List.getElem_take]
  exact hc j (by simp at hj; omega)
/-- What a table's numbers and texts are. -/
def Sized (l : List Sp.Sc) : Prop := l.length ≤ 140737488355328 ∧ ∀ c ∈ l, c.s.size ≤ 140737488355328 ∧ (-9223372036854775808 ≤ c.den ∧ c.den ≤ 9223372036854775807) ∧ (-9223372036854775808 ≤ c.car ∧ c.car ≤ 9223372036854775807) ∧ (-9223372036854775808 ≤ c.lim ∧ c.lim ≤ 9223372036854775807)
theorem ssize (s : ByteArray) : s.size = s.data.toList.length := by cases s; simp [ByteArray.size]
theorem sbyte (s : ByteArray) (k : Nat) (h : k < s.data.toList.length) : ∀ W, (Instr.index 9 (.string s) (.int .i64 k)).run Try.prog W = .ok (.int .u8 ((s.data.toList[k]).toNat : Int)) W := by
  intro W
  have hz : k < s.size := by rw [ssize]; exact h
  rw [run_index_string W _ _ _ _ Try.underlying9, dif_pos ⟨by omega, by omega⟩]
  rfl
theorem upto_any (n g : Int) (w : World) : Calls Try.prog 51 #[.int .i64 n, .int .i64 g] w fun e w' => e = .returned (.bool (Sp.upTo n g)) ∧ w = w' := by
  unfold Sp.upTo
  by_cases h1 : 1 ≤ n
  · by_cases h2 : n ≤ g
    · rw [decide_eq_true ⟨h1, h2⟩]
      go_enter Try.func51, Try.ntmps51
      go_wp2_with fail
      go_ret
      exact ⟨rfl, rfl⟩
    · rw [decide_eq_false (fun h => h2 h.2)]
      go_enter Try.func51, Try.ntmps51
      go_wp2_with fail
      go_ret
      exact ⟨rfl, rfl⟩
  · rw [decide_eq_false (fun h => h1 h.1)]
    go_enter Try.func51, Try.ntmps51
    go_wp2_with fail
    go_ret
    exact ⟨rfl, rfl⟩
def LetRel (s : List UInt8) (R : Bool) (w : World) (t : Value) (wr : World) : Prop := ∃ j : Nat, t = .int .i64 (j : Int) ∧ j ≤ s.length ∧ (s.drop j).all Sp.letter = R ∧ w = wr
set_option maxRecDepth 100000 in
set_option maxHeartbeats 1000000 in
theorem isCode_any (s : ByteArray) (hs : s.size ≤ 140737488355328) (w : World) : Calls Try.prog 50 #[.string s] w fun e w' => e = .returned (.bool (Sp.codeOk s)) ∧ w = w' := by
  have up := upto_any (s.size : Int) 6
  unfold Sp.codeOk
  by_cases c : 1 ≤ s.size ∧ s.size ≤ 6
  · have hu : Sp.upTo (s.size : Int) 6 = true := by unfold Sp.upTo; simp; omega
    rw [hu] at up
    rw [decide_eq_true c, Bool.true_and]
    obtain ⟨R, hR⟩ : ∃ R, s.data.toList.all Sp.letter = R := ⟨_, rfl⟩
    rw [hR]
    have HR := hid hR
    have SZ := hid (ssize s)
    have s6 := hid c.2
    clear hR c hu
    go_enter Try.func50, Try.ntmps50
    go_wp2_with (go_at_call 51; refine (up _).mono ?_; rintro e w' ⟨rfl, rfl⟩)
    go_loopw [10] (fun t wr => LetRel s.data.toList R w t wr) (fun t _ => s.size - (intOf t).toNat)
    case atStart => exact ⟨0, rfl, Nat.zero_le _, HR.out, rfl⟩
    case round =>
      obtain ⟨j, rfl, hj, hd, rfl⟩ := hrel
      have HD := hid hd
      clear hd
      by_cases hlt : j < s.data.toList.length
      · have i1 : (j : Int) < (s.size : Int) := by rw [SZ.out]; omega
        have ix := sbyte s j hlt
        have hd := HD.out
        rw [Sp.all_drop hlt] at hd
        obtain ⟨x, hx⟩ : ∃ x, s.data.toList[j]'hlt = x := ⟨_, rfl⟩
        rw [hx] at ix hd
        have HX := hid hd
        have HJ := hid hlt
        have ej : wrap64 ((j : Int) + 1) = (j : Int) + 1 := by have := s6.out; unfold wrap64; omega
        clear hd hx
        by_cases l1 : (x.toNat : Int) < 97
        · have HF : Hid (R = false) := by
            have h := HX.out
            unfold Sp.letter at h
            show R = false
            simpa [l1] using h.symm
          go_wp2_with fail
          go_ret
          exact ⟨by rw [HF.out]; rfl, rfl⟩
        · by_cases l2 : (122 : Int) < (x.toNat : Int)
          · have HF : Hid (R = false) := by
              have h := HX.out
              unfold Sp.letter at h
              show R = false
              simpa [l2] using h.symm
            go_wp2_with fail
            go_ret
            exact ⟨by rw [HF.out]; rfl, rfl⟩
          · have HF : Hid ((s.data.toList.drop (j + 1)).all Sp.letter = R) := by
              have h := HX.out
              unfold Sp.letter at h
              have hx : (!(decide ((x.toNat : Int) < 97) || decide ((122 : Int) < (x.toNat : Int)))) = true := by simp; omega
              rw [hx, Bool.true_and] at h
              exact h
            go_wp2_with fail
            go_roundw
            case rel => exact ⟨j + 1, by go_num, by have := HJ.out; omega, HF.out, rfl⟩
            case measure => have := HJ.out; have := SZ.out; simp [intOf]; omega
      · have i1 : ¬ (j : Int) < (s.size : Int) := by rw [SZ.out]; omega
        have HF : Hid (R = true) := by
          have h := HD.out
          rw [List.drop_eq_nil_of_le (by omega)] at h
          exact h.symm
        go_wp2_with fail
        go_ret
        exact ⟨by rw [HF.out]; rfl, rfl⟩
  · have hu : Sp.upTo (s.size : Int) 6 = false := by unfold Sp.upTo; simp; omega
    rw [hu] at up
    rw [decide_eq_false c, Bool.false_and]
    clear c hu hs
    go_enter Try.func50, Try.ntmps50
    go_wp2_with (go_at_call 51; refine (up _).mono ?_; rintro e w' ⟨rfl, rfl⟩)
    go_ret
    exact ⟨rfl, rfl⟩
theorem has_any (i : Int) (A : Option Addr) (n cap : Nat) (w : World) : Calls Try.prog 68 #[.slice A n cap, .int .i64 i] w fun e w' => e = .returned (.bool (decide (0 ≤ i ∧ i < (n : Int)))) ∧ w = w' := by
  by_cases h1 : 0 ≤ i
  · by_cases h2 : i < (n : Int)
    · rw [decide_eq_true ⟨h1, h2⟩]
      go_enter Try.func68, Try.ntmps68
      go_wp2_with fail
      go_ret
      exact ⟨rfl, rfl⟩
    · rw [decide_eq_false (fun h => h2 h.2)]
      go_enter Try.func68, Try.ntmps68
      go_wp2_with fail
      go_ret
      exact ⟨rfl, rfl⟩
  · rw [decide_eq_false (fun h => h1 h.1)]
    go_enter Try.func68, Try.ntmps68
    go_wp2_with fail
    go_ret
    exact ⟨rfl, rfl⟩
theorem sw64 (n : Int) (h : -9223372036854775808 ≤ n ∧ n ≤ 9223372036854775807) : wrap64 n = n := by unfold wrap64; omega
theorem smeas (n j : Nat) (h : j < n) : n - (intOf (.int .i64 ((j : Int) + 1))).toNat < n - (intOf (.int .i64 (j : Int))).toNat := by simp [intOf]; omega
theorem text_beq {s z : ByteArray} (h : s ≠ z) : (s.toList == z.toList) = false := by
  rw [ByteArray.toList_eq, ByteArray.toList_eq]
  simp only [beq_eq_false_iff_ne, ne_eq]
  intro e
  exact h (Go.WideShapes.bytes_inj e)
theorem closure_any (c : Sp.Sc) (z : ByteArray) (g : Nat) (w : World) (hg : w.cell? ⟨g, 0, none⟩ = some (.string z)) :
    Calls Try.prog 67 #[.agg #[.string (c).s, .int .i64 (c).den, .int .i64 (c).car, .int .i64 (c).lim], .pointer (some ⟨g, 0, none⟩)] w (Gives (.bool (decide (c.s = z))) w) := by
  have lt : g < w.heap.size := World.block_lt_of_cell? w _ hg
  obtain ⟨s, den, car, lim⟩ := c
  simp only
  by_cases h : s = z
  · subst h
    rw [decide_eq_true rfl]
    go_enter Try.func67, Try.ntmps67
    go_wp2_with fail
    go_ret
    exact Gives.mk rfl ((Below.refl _ _).alloc (Nat.le_refl _) _)
  · have hb := text_beq h
    rw [decide_eq_false h]
    go_enter Try.func67, Try.ntmps67
    go_wp2_with fail
    go_ret
    exact Gives.mk rfl ((Below.refl _ _).alloc (Nat.le_refl _) _)
/-- A species of a table, in whatever world comes later. -/
theorem Tab.at_ {w w' : World} {A : Option Addr} {l : List Sp.Sc} (h : Tab w A l) (hb : Below w.heap.size w w') {j : Nat} (hj : j < l.length) :
    ∃ b off, A = some ⟨b, off, none⟩ ∧ b < w.heap.size ∧ w'.cell? ⟨b, off + j * 4, none⟩ = some (.string (l[j]).s) ∧ w'.cell? ⟨b, off + j * 4 + 1, none⟩ = some (.int .i64 (l[j]).den) ∧ w'.cell? ⟨b, off + j * 4 + 2, none⟩ = some (.int .i64 (l[j]).car) ∧ w'.cell? ⟨b, off + j * 4 + 3, none⟩ = some (.int .i64 (l[j]).lim) := by
  obtain ⟨b, off, hA, hl, hc⟩ := h (by omega)
  obtain ⟨c0, c1, c2, c3⟩ := hc j hj
  exact ⟨b, off, hA, hl, (hb.cell (p := ⟨b, off + j * 4, none⟩) hl).trans c0, (hb.cell (p := ⟨b, off + j * 4 + 1, none⟩) hl).trans c1, (hb.cell (p := ⟨b, off + j * 4 + 2, none⟩) hl).trans c2, (hb.cell (p := ⟨b, off + j * 4 + 3, none⟩) hl).trans c3⟩
def PlRel (w : World) (z : ByteArray) (l : List Sp.Sc) (R : Int) (t : Value) (wr : World) : Prop := ∃ j : Nat, t = .int .i64 (j : Int) ∧ j ≤ l.length ∧ Sp.placeS z (l.drop j) j = R ∧ Below w.heap.size w wr
set_option maxRecDepth 100000 in
set_option maxHeartbeats 1000000 in
theorem index_any (A : Option Addr) (cap : Nat) (l : List Sp.Sc) (z : ByteArray) (g : Nat) (w : World) (hl : l.length ≤ 140737488355328) (hT : Tab w A l) (hg : w.cell? ⟨g, 0, none⟩ = some (.string z)) :
    Calls Try.prog 66 #[.slice A l.length cap, .func (.func 67) #[] #[.pointer (some ⟨g, 0, none⟩)]] w (Gives (.int .i64 (Sp.placeS z l 0)) w) := by
  have lt := hid (World.block_lt_of_cell? w _ hg)
  have HT := hid hT
  have HG := hid hg
  have LE := hid hl
  obtain ⟨R, hR⟩ : ∃ R, Sp.placeS z l 0 = R := ⟨_, rfl⟩
  rw [hR]
  have HR := hid hR
  clear hT hg hR hl
  go_enter Try.func66, Try.ntmps66
  go_wp2_with fail
  go_loopw [8] (fun t wr => PlRel w z l R t wr) (fun t _ => l.length - (intOf t).toNat)
  case atStart => exact ⟨0, rfl, Nat.zero_le _, HR.out, Below.refl _ _⟩
  case round =>
    obtain ⟨j, rfl, hj, hd, hB⟩ := hrel
    have HD := hid hd
    have HB := hid hB
    clear hd hB
    by_cases hlt : j < l.length
    · obtain ⟨b, off, rfl, bl, q0, q1, q2, q3⟩ := HT.out.at_ HB.out hlt
      have gw := (HB.out.cell (p := ⟨g, 0, none⟩) lt.out).trans HG.out
      have hd := HD.out
      rw [List.drop_eq_getElem_cons hlt, Sp.placeS_cons] at hd
      obtain ⟨c, hc⟩ : ∃ c, l[j]'hlt = c := ⟨_, rfl⟩
      rw [hc] at q0 q1 q2 q3 hd
      have i0 : (0 : Int) ≤ (j : Int) := by omega
      have i1 : (j : Int) < (l.length : Int) := by omega
      have bw : b < wr.heap.size := Nat.lt_of_lt_of_le bl HB.out.size
      have CL := hid (closure_any c z g wr gw)
      have HJ := hid hlt
      have ej : wrap64 ((j : Int) + 1) = (j : Int) + 1 := sw64 _ (by have := LE.out; have := HJ.out; omega)
      by_cases h : c.s = z
      · rw [if_pos h] at hd
        rw [decide_eq_true h] at CL
        have HF := hid hd
        clear hd hc h gw
        go_wp2_with fail
        refine CL.out.mono ?_
        rintro _ w5 ⟨rfl, hb⟩
        have HB5 := hid hb
        clear hb
        go_wp2_with fail
        go_ret
        exact Gives.mk (i64_eq HF.out.symm) (HB.out.trans (HB5.out.mono HB.out.size))
      · rw [if_neg h] at hd
        rw [decide_eq_false h] at CL
        have HF := hid hd
        clear hd hc h gw
        go_wp2_with fail
        refine CL.out.mono ?_
        rintro _ w5 ⟨rfl, hb⟩
        have HB5 := hid hb
        clear hb
        go_wp2_with fail
        go_roundw
        case rel => exact ⟨j + 1, by go_num, by have := HJ.out; omega, HF.out, HB.out.trans (HB5.out.mono HB.out.size)⟩
        case measure => rw [ej]; exact smeas _ _ HJ.out
    · have i1 : ¬ (j : Int) < (l.length : Int) := by omega
      have hd := HD.out
      rw [List.drop_eq_nil_of_le (by omega)] at hd
      have HF := hid (show (-1 : Int) = R from hd)
      clear hd
      go_wp2_with fail
      go_ret
      exact Gives.mk (i64_eq HF.out.symm) HB.out
set_option maxRecDepth 100000 in
set_option maxHeartbeats 1000000 in
theorem place_any (A : Option Addr) (cap : Nat) (l : List Sp.Sc) (z : ByteArray) (w : World) (hl : l.length ≤ 140737488355328) (hT : Tab w A l) :
    Calls Try.prog 52 #[.slice A l.length cap, .string z] w (Gives (.int .i64 (Sp.placeS z l 0)) w) := by
  have ix := index_any A cap l z w.heap.size (w.alloc (.cells #[.string z] 9)) hl (hT.below ((Below.refl _ _).alloc (Nat.le_refl _) _)) (by simp [go_sem])
  clear hl hT
  go_enter Try.func52, Try.ntmps52
  go_wp2_with fail
  refine ix.mono ?_
  rintro _ w5 ⟨rfl, hb⟩
  go_wp2_with fail
  go_ret
  exact Gives.mk rfl (((Below.refl _ _).alloc (Nat.le_refl _) _).trans (hb.mono (by simp)))
end Go.Proofs.Ytmdaanigkhikfab
