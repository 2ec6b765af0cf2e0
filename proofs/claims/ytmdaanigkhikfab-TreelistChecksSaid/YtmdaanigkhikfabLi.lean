/-
  Layer 16: the walks of TreelistChecks and TreelistSquares.
-/
import Derived.Test.YtmdaanigkhikfabLh
import Derived.Test.YtmdaanigkhikfabLpar
namespace Go.Proofs.Ytmdaanigkhikfab
open Go.RowKit
set_option linter.unusedVariables false
set_option linter.unusedSimpArgs false
set_option maxRecDepth 100000 in
set_option maxHeartbeats 2000000 in
theorem lchecks_as (B : Option Addr) (bcap : Nat) (T : List Sp.Sc) (A : Option Addr) (cap : Nat) (l : List Sp.Te) (w : World) (hc : T.length ≤ bcap) (hS : Sized T) (hB : Tab w B T) (_ : l.length ≤ cap) (hSl : TeSized l) (hT : Trs w A l) :
    Calls Try.prog 3 #[.slice B T.length bcap, .slice A l.length cap] w (Gives (.bool true) w) := by
  obtain ⟨I, hI⟩ : ∃ I, (Sp.chkT T l).1 = I := ⟨_, rfl⟩
  obtain ⟨E, hE⟩ : ∃ E, (Sp.chkT T l).2 = E := ⟨_, rfl⟩
  have FT := hid (sfew_any B bcap T w hB)
  have FL := hid (fun W => lfew_any A cap l.length W hSl.1)
  have C1 := hid (fun W (hb : Below w.heap.size w W) => lcheck_any B bcap T A cap l I E W hc hS (hB.below hb) hSl.1 (hT.below hb) (by rw [← hI, ← hE]))
  have C2 := hid (fun W (hb : Below w.heap.size w W) => rlcheck_any B bcap T A cap l I E W hc hS (hB.below hb) hSl.1 (hT.below hb) (by rw [← hI, ← hE]))
  generalize (decide (l.length ≤ 30) || (decide (200 < l.length) && decide (l.length < 210))) = Q at FL
  clear hc hS hB hSl hT hI hE
  go_enter Try.func3, Try.ntmps3
  go_wp2_with fail
  refine FT.out.mono ?_
  rintro _ w5 ⟨b, rfl, hb⟩
  have B5 := hid hb
  clear hb
  cases b
  · go_wp2_with fail
    refine (lawake_any _).mono ?_
    rintro _ w6 ⟨rfl, hb⟩
    have B6 := hid (bthen B5.out hb)
    clear hb
    go_wp2_with fail
    go_ret
    exact Gives.mk rfl B6.out
  · go_wp2_with fail
    refine (FL.out _).mono ?_
    rintro _ w6 ⟨rfl, hb⟩
    have B6 := hid (bthen B5.out hb)
    clear hb
    cases Q
    · go_wp2_with fail
      refine (lawake_any _).mono ?_
      rintro _ w7 ⟨rfl, hb⟩
      have B7 := hid (bthen B6.out hb)
      clear hb
      go_wp2_with fail
      go_ret
      exact Gives.mk rfl B7.out
    · go_wp2_with fail
      refine (C1.out _ B6.out).mono ?_
      rintro _ w7 ⟨rfl, hb⟩
      have B7 := hid (bthen B6.out hb)
      clear hb
      go_wp2_with fail
      refine (C2.out _ B7.out).mono ?_
      rintro _ w8 ⟨rfl, hb⟩
      have B8 := hid (bthen B7.out hb)
      clear hb
      go_wp2_with fail
      refine (lawake_any _).mono ?_
      rintro _ w9 ⟨rfl, hb⟩
      have B9 := hid (bthen B8.out hb)
      clear hb
      go_wp2_with fail
      go_ret
      exact Gives.mk rfl B9.out
theorem Sp.mean_ex (l : List Sp.Te) : ∃ m : Int, Sp.meanE l = 0 → Sp.IsM (l.length : Int) (Sp.sqS l).1 m := by
  by_cases h : Sp.meanE l = 0
  · have h2 : (Sp.sqS l).2 = 0 ∧ ¬ l.length = 0 := by
      unfold Sp.meanE at h
      by_cases c : (Sp.sqS l).2 = 0
      · rw [if_neg (fun q => q c)] at h
        by_cases d : l.length = 0
        · rw [if_pos d] at h; exact absurd h (by decide)
        · exact ⟨c, d⟩
      · rw [if_pos c] at h; exact absurd h c
    obtain ⟨n1, n2, n3⟩ := Sp.sqS_ok h2.1
    obtain ⟨q1, q2⟩ := Sp.sumQ_in l n2
    rw [n3]
    obtain ⟨m, -, hm⟩ := Sp.isM_ex (n := (l.length : Int)) (S := Sp.sumQ l) (by omega) 3001 (by omega)
    exact ⟨m, fun _ => hm⟩
  · exact ⟨0, fun k => absurd k h⟩
set_option maxRecDepth 100000 in
set_option maxHeartbeats 2000000 in
theorem lsqs_as (A : Option Addr) (cap : Nat) (l : List Sp.Te) (w : World) (_ : l.length ≤ cap) (hSl : TeSized l) (hT : Trs w A l) :
    Calls Try.prog 4 #[.slice A l.length cap] w (Gives (.bool true) w) := by
  obtain ⟨S, hS⟩ : ∃ S, (Sp.sqS l).1 = S := ⟨_, rfl⟩
  obtain ⟨E, hE⟩ : ∃ E, (Sp.sqS l).2 = E := ⟨_, rfl⟩
  obtain ⟨m, hm⟩ := Sp.mean_ex l
  have FL := hid (fun W => lfew_any A cap l.length W hSl.1)
  have C1 := hid (fun W (hb : Below w.heap.size w W) => lsquares_any A cap l S E W hSl.1 (hT.below hb) (by rw [← hS, ← hE]))
  have C2 := hid (fun W (hb : Below w.heap.size w W) => rlsquares_any A cap l S E W hSl.1 (hT.below hb) (by rw [← hS, ← hE]))
  have C3 := hid (fun W (hb : Below w.heap.size w W) => lmean_any A cap l m W hSl.1 (hT.below hb) hm)
  have C4 := hid (fun W (hb : Below w.heap.size w W) => rlmean_any A cap l m W hSl.1 (hT.below hb) hm)
  generalize Sp.meanV l m = V at C3 C4
  generalize Sp.meanE l = G at C3 C4
  generalize (decide (l.length ≤ 30) || (decide (200 < l.length) && decide (l.length < 210))) = Q at FL
  clear hSl hT hS hE hm
  go_enter Try.func4, Try.ntmps4
  go_wp2_with fail
  refine (FL.out _).mono ?_
  rintro _ w6 ⟨rfl, hb⟩
  have B6 := hid hb
  clear hb
  cases Q
  · go_wp2_with fail
    refine (lawake_any _).mono ?_
    rintro _ w7 ⟨rfl, hb⟩
    have B7 := hid (bthen B6.out hb)
    clear hb
    go_wp2_with fail
    go_ret
    exact Gives.mk rfl B7.out
  · go_wp2_with fail
    refine (C1.out _ B6.out).mono ?_
    rintro _ w7 ⟨rfl, hb⟩
    have B7 := hid (bthen B6.out hb)
    clear hb
    go_wp2_with fail
    refine (C2.out _ B7.out).mono ?_
    rintro _ w8 ⟨rfl, hb⟩
    have B8 := hid (bthen B7.out hb)
    clear hb
    go_wp2_with fail
    refine (C3.out _ B8.out).mono ?_
    rintro _ w9 ⟨rfl, hb⟩
    have B9 := hid (bthen B8.out hb)
    clear hb
    go_wp2_with fail
    refine (C4.out _ B9.out).mono ?_
    rintro _ w10 ⟨rfl, hb⟩
    have B10 := hid (bthen B9.out hb)
    clear hb
    go_wp2_with fail
    refine (lawake_any _).mono ?_
    rintro _ w11 ⟨rfl, hb⟩
    have B11 := hid (bthen B10.out hb)
    clear hb
    go_wp2_with fail
    go_ret
    exact Gives.mk rfl B11.out
end Go.Proofs.Ytmdaanigkhikfab
