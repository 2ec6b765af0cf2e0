/-
  Layer 14: checkStem with places, by contract.
-/
import Derived.Test.YtdimncchejbaaaaVvf
namespace Go.Proofs.Ytdimncchejbaaaa
open Go.RowKit
set_option linter.unusedVariables false
set_option linter.unusedSimpArgs false
/-- A list of ints that lies in memory. -/
def Ints (w : World) (A : Option Addr) (l : List Int) : Prop := 0 < l.length → ∃ b off, A = some ⟨b, off, none⟩ ∧ b < w.heap.size ∧ ∀ j, (hj : j < l.length) → w.cell? ⟨b, off + j, none⟩ = some (.int .i64 (l[j]))
theorem Ints.below {w w' : World} {A : Option Addr} {l : List Int} (h : Ints w A l) (hb : Below w.heap.size w w') : Ints w' A l := fun h0 => by
  obtain ⟨b, off, e, bl, q⟩ := h h0
  exact ⟨b, off, e, Nat.lt_of_lt_of_le bl hb.size, fun j hj => (hb.cell (p := ⟨b, off + j, none⟩) bl).trans (q j hj)⟩
/-- The error of places on a stem of the height x. -/
def Sp.plE (x : Int) : List Int → Int
  | [] => 0
  | a :: l => if (decide (0 ≤ a) && decide (a ≤ x)) = false then 2 else Sp.plE x l
/-- The error of a stem with places. -/
def Sp.stemP (h : List Sp.Pd) (f : Int) (t : List Sp.Pd) (d x : Int) (l : List Int) : Int := if Sp.stemE h f t d x ≠ 0 then Sp.stemE h f t d x else Sp.plE x l
set_option maxRecDepth 100000 in
theorem vstemp_any (A A' : Option Addr) (cap cap' : Nat) (h t : List Sp.Pd) (f : Int) (d x : Int) (A2 : Option Addr) (cap2 : Nat) (l : List Int) (w : World) (hz : PcSized h) (tz : PcSized t) (hT : Pcs w A h) (tT : Pcs w A' t) (hl : l.length ≤ 1000) (hI : Ints w A2 l) :
    Calls Try.prog 39 #[.agg #[.slice A h.length cap, .int .i64 f, .slice A' t.length cap'], .int .i64 d, .int .i64 x, .slice A2 l.length cap2] w (Gives (.int .i64 (Sp.stemP h f t d x l)) w) := by
  have CK := hid (fun W (hb : Below w.heap.size w W) => vcheck_any A A' cap cap' h t f W hz tz (hT.below hb) (tT.below hb))
  have DI := hid (fun W => vdiam_any d W)
  have HE := hid (fun W => vheigh_any x W)
  unfold Sp.stemP Sp.stemE
  generalize Sp.curE h f t = E at CK ⊢
  generalize (decide (1 ≤ d) && decide (d ≤ 3000)) = B1 at DI ⊢
  generalize (decide (1 ≤ x) && decide (x ≤ 1000)) = B2 at HE ⊢
  have HI := hid hI
  have LE := hid hl
  clear hz tz hT tT hI hl
  by_cases c1 : E = 0
  · subst c1
    cases B1
    · simp only [ne_eq, not_true_eq_false, if_false, if_true, reduceIte, reduceCtorEq, not_false_eq_true, show ¬ (2:Int) = 0 from by decide]
      go_enter Try.func39, Try.ntmps39
      go_wp2_with (first
        | (go_at_call 17; refine (CK.out _ (by first | exact Below.refl _ _ | exact balloc _ _)).mono ?_; rintro _ w5 ⟨rfl, hb⟩; have B5 := hid hb; clear hb)
        | (go_at_call 31; refine (DI.out _).mono ?_; rintro _ w6 ⟨rfl, hb⟩; have B6 := hid (bthen B5.out hb); clear hb))
      go_ret
      exact Gives.mk (by simp) (bthen (balloc w _) B6.out)
    · cases B2
      · simp only [ne_eq, not_true_eq_false, if_false, if_true, reduceIte, reduceCtorEq, not_false_eq_true, show ¬ (2:Int) = 0 from by decide]
        go_enter Try.func39, Try.ntmps39
        go_wp2_with (first
          | (go_at_call 17; refine (CK.out _ (by first | exact Below.refl _ _ | exact balloc _ _)).mono ?_; rintro _ w5 ⟨rfl, hb⟩; have B5 := hid hb; clear hb)
          | (go_at_call 31; refine (DI.out _).mono ?_; rintro _ w6 ⟨rfl, hb⟩; have B6 := hid (bthen B5.out hb); clear hb)
          | (go_at_call 34; refine (HE.out _).mono ?_; rintro _ w7 ⟨rfl, hb⟩; have B7 := hid (bthen B6.out hb); clear hb))
        go_ret
        exact Gives.mk (by simp) (bthen (balloc w _) B7.out)
      · simp only [ne_eq, not_true_eq_false, if_false, if_true, reduceIte, reduceCtorEq, not_false_eq_true, show ¬ (2:Int) = 0 from by decide]
        obtain ⟨R, hR⟩ : ∃ R, Sp.plE x l = R := ⟨_, rfl⟩
        rw [hR]
        have HR := hid hR
        clear hR
        go_enter Try.func39, Try.ntmps39
        go_wp2_with (first
          | (go_at_call 17; refine (CK.out _ (by first | exact Below.refl _ _ | exact balloc _ _)).mono ?_; rintro _ w5 ⟨rfl, hb⟩; have B5 := hid hb; clear hb)
          | (go_at_call 31; refine (DI.out _).mono ?_; rintro _ w6 ⟨rfl, hb⟩; have B6 := hid (bthen B5.out hb); clear hb)
          | (go_at_call 34; refine (HE.out _).mono ?_; rintro _ w7 ⟨rfl, hb⟩; have B7 := hid (bthen B6.out hb); clear hb))
        go_loopw [27] (fun t wr => ∃ j : Nat, t = .int .i64 (j : Int) ∧ j ≤ l.length ∧ Sp.plE x (l.drop j) = R ∧ Below w.heap.size w wr) (fun t _ => l.length - (intOf t).toNat)
        case atStart => exact ⟨0, rfl, Nat.zero_le _, HR.out, bthen (balloc w _) B7.out⟩
        case round =>
          obtain ⟨j, rfl, hj, hd, hB⟩ := hrel
          have HD := hid hd
          have HB := hid hB
          clear hd hB
          by_cases hlt : j < l.length
          · obtain ⟨b, off, rfl, bl, q⟩ := (HI.out.below HB.out) (by omega)
            have q0 := q j hlt
            have hd := HD.out
            rw [List.drop_eq_getElem_cons hlt] at hd
            unfold Sp.plE at hd
            obtain ⟨c, hc⟩ : ∃ c, l[j]'hlt = c := ⟨_, rfl⟩
            rw [hc] at q0 hd
            have i0 : (0 : Int) ≤ (j : Int) := by omega
            have i1 : (j : Int) < (l.length : Int) := by omega
            have WI := hid (vwithin_any c 0 x wr)
            have HJ := hid hlt
            have ej : wrap64 ((j : Int) + 1) = (j : Int) + 1 := pw64 _ (by have := LE.out; have := HJ.out; omega)
            generalize (decide (0 ≤ c) && decide (c ≤ x)) = B at WI hd
            clear q hc
            cases B
            · have HF := hid hd
              clear hd
              go_wp2_with fail
              refine WI.out.mono ?_
              rintro _ w8 ⟨rfl, hb⟩
              have B8 := hid hb
              clear hb
              go_wp2_with fail
              go_ret
              exact Gives.mk (i64_eq (by have := HF.out; simpa using this.symm)) (bthen HB.out B8.out)
            · have HF := hid hd
              clear hd
              go_wp2_with fail
              refine WI.out.mono ?_
              rintro _ w8 ⟨rfl, hb⟩
              have B8 := hid hb
              clear hb
              go_wp2_with fail
              go_roundw
              case rel => exact ⟨j + 1, by go_num, by have := HJ.out; omega, by have := HF.out; simpa using this, bthen HB.out B8.out⟩
              case measure => rw [ej]; exact pmeas _ _ HJ.out
          · have i1 : ¬ (j : Int) < (l.length : Int) := by omega
            have hd := HD.out
            rw [List.drop_eq_nil_of_le (by omega)] at hd
            have HF := hid (show (0 : Int) = R from hd)
            clear hd
            go_wp2_with fail
            go_ret
            exact Gives.mk (i64_eq HF.out.symm) HB.out
  · simp only [ne_eq, c1, not_false_eq_true, if_true]
    go_enter Try.func39, Try.ntmps39
    go_wp2_with (go_at_call 17; refine (CK.out _ (by first | exact Below.refl _ _ | exact balloc _ _)).mono ?_; rintro _ w5 ⟨rfl, hb⟩; have B5 := hid hb; clear hb)
    go_ret
    exact Gives.mk (by simp) (bthen (balloc w _) B5.out)
end Go.Proofs.Ytdimncchejbaaaa
