/-
  Layer 10: SpeciesChecks, SpeciesAllows, SpeciesFound: the walks.
-/
import Derived.Test.YtjeedlglonnngaaSv
import Derived.Test.YtjeedlglonnngaaSn
namespace Go.Proofs.Ytjeedlglonnngaa
open Go.RowKit
set_option linter.unusedVariables false
set_option linter.unusedSimpArgs false

set_option maxRecDepth 100000 in
set_option maxHeartbeats 4000000 in
theorem allows_as (i d : Int) (i0 : -9223372036854775808 ≤ i) (i1 : i ≤ 9223372036854775807) (d0 : -9223372036854775808 ≤ d) (d1 : d ≤ 9223372036854775807) (A : Option Addr) (c : Nat) (l : List Sp.Sc) (w : World) (hc : l.length ≤ c) (hS : Sized l) (hT : Tab w A l) :
    Calls Try.prog 5 #[.slice A l.length c, .int .i64 i, .int .i64 d] w (Gives (.bool true) w) := by
  have fw := sfew_any A c l w hT
  have T0 := hid hT
  have SZ := hid hS
  have CP := hid hc
  have al := fun (W : World) (hT : Tab W A l) => sallow_any A c l i d W hc hS hT
  have ral := fun (W : World) (hT : Tab W A l) => rsallow_any A c l i d W hc hS hT
  obtain ⟨q, hq⟩ : ∃ q, Sp.allowS l i d = q := ⟨_, rfl⟩
  rw [hq] at al ral
  clear hT hS hc i0 i1 d0 d1 hq
  go_enter Try.func5, Try.ntmps5
  go_wp2_with fail
  refine fw.mono ?_
  rintro _ u0 ⟨b, rfl, hb⟩
  have B0 := hid hb
  have T1 := hid (T0.out.below hb)
  clear hb
  cases b
  · go_wp2_with (go_at_call 11; refine (sawake_any _).mono ?_; rintro _ wz ⟨rfl, hz⟩)
    go_ret
    exact Gives.mk rfl (B0.out.trans (hz.mono B0.out.size))
  · go_wp2_with fail
    refine (al _ T1.out).mono ?_
    rintro _ u1 ⟨rfl, hb⟩
    have B1 := hid (B0.out.trans (hb.mono B0.out.size))
    have T2 := hid (T1.out.below hb)
    clear hb
    go_wp2_with fail
    refine (ral _ T2.out).mono ?_
    rintro _ u2 ⟨rfl, hb⟩
    have B2 := hid (B1.out.trans (hb.mono B1.out.size))
    clear hb al ral
    cases q
    all_goals
      go_wp2_with (go_at_call 11; refine (sawake_any _).mono ?_; rintro _ wz ⟨rfl, hz⟩)
      go_ret
      exact Gives.mk rfl (B2.out.trans (hz.mono B2.out.size))
set_option maxRecDepth 100000 in
set_option maxHeartbeats 4000000 in
theorem checks_as (A : Option Addr) (c : Nat) (l : List Sp.Sc) (z : ByteArray) (w : World) (hc : l.length ≤ c) (hS : Sized l) (hT : Tab w A l) :
    Calls Try.prog 3 #[.slice A l.length c, .string z] w (Gives (.bool true) w) := by
  have fw := sfew_any A c l w hT
  have T0 := hid hT
  obtain ⟨⟨x, e⟩, hv⟩ : ∃ p, Sp.findS l z = p := ⟨_, rfl⟩
  have fd := fun (W : World) (hT : Tab W A l) => sfind_any A c l z W hc hS hT x e hv
  have rfd := fun (W : World) (hT : Tab W A l) => rsfind_any A c l z W hc hS hT x e hv
  have ck := fun (W : World) (hT : Tab W A l) => scheck_any A c l W hc hS hT
  have rck := fun (W : World) (hT : Tab W A l) => rscheck_any A c l W hc hS hT
  obtain ⟨q, hq⟩ : ∃ q, Sp.tabS l = q := ⟨_, rfl⟩
  rw [hq] at ck rck
  clear hT hS hc hv hq
  go_enter Try.func3, Try.ntmps3
  go_wp2_with fail
  refine fw.mono ?_
  rintro _ u0 ⟨b, rfl, hb⟩
  have B0 := hid hb
  have T1 := hid (T0.out.below hb)
  clear hb
  cases b
  · go_wp2_with (go_at_call 11; refine (sawake_any _).mono ?_; rintro _ wz ⟨rfl, hz⟩)
    go_ret
    exact Gives.mk rfl (B0.out.trans (hz.mono B0.out.size))
  · by_cases h20 : (20 : Int) < (z.size : Int)
    · go_wp2_with (go_at_call 11; refine (sawake_any _).mono ?_; rintro _ wz ⟨rfl, hz⟩)
      go_ret
      exact Gives.mk rfl (B0.out.trans (hz.mono B0.out.size))
    · go_wp2_with fail
      refine (fd _ T1.out).mono ?_
      rintro _ u1 ⟨rfl, hb⟩
      have B1 := hid (B0.out.trans (hb.mono B0.out.size))
      have T2 := hid (T1.out.below hb)
      clear hb
      go_wp2_with fail
      refine (rfd _ T2.out).mono ?_
      rintro _ u2 ⟨rfl, hb⟩
      have B2 := hid (B1.out.trans (hb.mono B1.out.size))
      have T3 := hid (T2.out.below hb)
      clear hb
      go_wp2_with fail
      refine (ck _ T3.out).mono ?_
      rintro _ u3 ⟨rfl, hb⟩
      have B3 := hid (B2.out.trans (hb.mono B2.out.size))
      have T4 := hid (T3.out.below hb)
      clear hb
      go_wp2_with fail
      refine (rck _ T4.out).mono ?_
      rintro _ u4 ⟨rfl, hb⟩
      have B4 := hid (B3.out.trans (hb.mono B3.out.size))
      clear hb fd rfd ck rck
      go_wp2_with (go_at_call 11; refine (sawake_any _).mono ?_; rintro _ wz ⟨rfl, hz⟩)
      go_ret
      exact Gives.mk rfl (B4.out.trans (hz.mono B4.out.size))
def FdRel (w : World) (n : Nat) (t : Value) (wr : World) : Prop := ∃ j : Nat, t = .int .i64 (j : Int) ∧ j ≤ n ∧ Below w.heap.size w wr
set_option maxRecDepth 100000 in
set_option maxHeartbeats 4000000 in
theorem found_as (A : Option Addr) (c : Nat) (l : List Sp.Sc) (w : World) (hc : l.length ≤ c) (hS : Sized l) (hT : Tab w A l) :
    Calls Try.prog 6 #[.slice A l.length c] w (Gives (.bool true) w) := by
  have fw := sfew_any A c l w hT
  have T0 := hid hT
  have ck := fun (W : World) (hT : Tab W A l) => scheck_any A c l W hc hS hT
  have SZ := hid hS
  have CP := hid hc
  obtain ⟨q, hq⟩ : ∃ q, Sp.tabS l = q := ⟨_, rfl⟩
  rw [hq] at ck
  have HQ := hid hq
  clear hT hS hc hq
  go_enter Try.func6, Try.ntmps6
  go_wp2_with fail
  refine fw.mono ?_
  rintro _ u0 ⟨b, rfl, hb⟩
  have B0 := hid hb
  have T1 := hid (T0.out.below hb)
  clear hb
  cases b
  · go_wp2_with (go_at_call 11; refine (sawake_any _).mono ?_; rintro _ wz ⟨rfl, hz⟩)
    go_ret
    exact Gives.mk rfl (B0.out.trans (hz.mono B0.out.size))
  · by_cases cq : q = 0
    · subst cq
      have L6 := hid (Sp.tabS_len HQ.out).1
      go_wp2_with fail
      refine (ck _ T1.out).mono ?_
      rintro _ u1 ⟨rfl, hb⟩
      have B1 := hid (B0.out.trans (hb.mono B0.out.size))
      have T2 := hid (T1.out.below hb)
      have l6 : (l.length : Int) ≤ 6 := by have := L6.out; omega
      clear hb ck
      go_wp2_with fail
      go_loopw [18] (fun t wr => FdRel u1 l.length t wr) (fun t _ => l.length - (intOf t).toNat)
      case atStart => exact ⟨0, rfl, Nat.zero_le _, Below.refl _ _⟩
      case round =>
        obtain ⟨j, rfl, hj, hB⟩ := hrel
        have HB := hid hB
        clear hB
        by_cases hlt : j < l.length
        · obtain ⟨b, off, rfl, bl, q0, q1, q2, q3⟩ := T2.out.at_ HB.out hlt
          have hf := Sp.found HQ.out hlt
          obtain ⟨c1, hc1⟩ : ∃ c1, l[j]'hlt = c1 := ⟨_, rfl⟩
          rw [hc1] at q0 q1 q2 q3 hf
          have hv : Sp.findS l c1.s = ((j : Int), 0) := by
            unfold Sp.findS
            rw [if_neg (by simpa using HQ.out), hf, if_neg (by omega)]
          have i0 : (0 : Int) ≤ (j : Int) := by omega
          have i1 : (j : Int) < (l.length : Int) := by omega
          have bw : b < wr.heap.size := Nat.lt_of_lt_of_le bl HB.out.size
          have HJ := hid hlt
          have BA := hid ((Below.refl wr.heap.size wr).alloc (Nat.le_refl _) (Obj.cells #[.string (c1).s, .int .i64 (c1).den, .int .i64 (c1).car, .int .i64 (c1).lim] 36))
          have fd := sfind_any (some ⟨b, off, none⟩) c l c1.s (wr.alloc (Obj.cells #[.string (c1).s, .int .i64 (c1).den, .int .i64 (c1).car, .int .i64 (c1).lim] 36)) CP.out SZ.out ((T2.out.below HB.out).below BA.out) (j : Int) 0 hv
          have FD := hid fd
          clear hf hc1 hv fd
          go_wp2_with fail
          refine FD.out.mono ?_
          rintro _ u3 ⟨rfl, hb⟩
          have B3 := hid (HB.out.trans ((BA.out.trans (hb.mono (by simp))).mono HB.out.size))
          clear hb
          go_wp2_with fail
          go_roundw
          case rel => exact ⟨j + 1, by go_num, HJ.out, B3.out⟩
          case measure => exact smeas _ _ HJ.out
        · have i1 : ¬ (j : Int) < (l.length : Int) := by omega
          have BZ := hid (B1.out.trans (HB.out.mono B1.out.size))
          go_wp2_with (go_at_call 11; refine (sawake_any _).mono ?_; rintro _ wz ⟨rfl, hz⟩)
          go_ret
          exact Gives.mk rfl (BZ.out.trans (hz.mono BZ.out.size))
    · have e1 : (q != 0) = true := by simpa using cq
      go_wp2_with fail
      refine (ck _ T1.out).mono ?_
      rintro _ u1 ⟨rfl, hb⟩
      have B1 := hid (B0.out.trans (hb.mono B0.out.size))
      clear hb ck
      go_wp2_with (go_at_call 11; refine (sawake_any _).mono ?_; rintro _ wz ⟨rfl, hz⟩)
      go_ret
      exact Gives.mk rfl (B1.out.trans (hz.mono B1.out.size))
end Go.Proofs.Ytjeedlglonnngaa
