/-
  Layer 10: Few and Allowed of the reference, the examples, by contract.
-/
import Derived.Test.YtmdaanigkhikfabSz
namespace Go.Proofs.Ytmdaanigkhikfab
open Go.RowKit
set_option linter.unusedVariables false
set_option linter.unusedSimpArgs false

def FwRel (w : World) (n : Nat) (t : Value) (wr : World) : Prop := ∃ j : Nat, t = .int .i64 (j : Int) ∧ j ≤ n ∧ Below w.heap.size w wr
set_option maxRecDepth 100000 in
set_option maxHeartbeats 1000000 in
theorem sfew_any (A : Option Addr) (cap : Nat) (l : List Sp.Sc) (w : World) (hT : Tab w A l) :
    Calls Try.prog 11 #[.slice A l.length cap] w fun e w' => ∃ b : Bool, e = .returned (.bool b) ∧ Below w.heap.size w w' := by
  by_cases c : (20 : Int) < (l.length : Int)
  · clear hT
    go_enter Try.func11, Try.ntmps11
    go_wp2_with fail
    go_ret
    exact ⟨_, rfl, Below.refl _ _⟩
  · have HT := hid hT
    have l20 : (l.length : Int) ≤ 20 := by omega
    clear hT
    go_enter Try.func11, Try.ntmps11
    go_wp2_with fail
    go_loopw [10] (fun t wr => FwRel w l.length t wr) (fun t _ => l.length - (intOf t).toNat)
    case atStart => exact ⟨0, rfl, Nat.zero_le _, Below.refl _ _⟩
    case round =>
      obtain ⟨j, rfl, hj, hB⟩ := hrel
      have HB := hid hB
      clear hB
      by_cases hlt : j < l.length
      · obtain ⟨b, off, rfl, bl, q0, q1, q2, q3⟩ := HT.out.at_ HB.out hlt
        obtain ⟨c1, hc1⟩ : ∃ c1, l[j]'hlt = c1 := ⟨_, rfl⟩
        rw [hc1] at q0 q1 q2 q3
        have i0 : (0 : Int) ≤ (j : Int) := by omega
        have i1 : (j : Int) < (l.length : Int) := by omega
        have bw : b < wr.heap.size := Nat.lt_of_lt_of_le bl HB.out.size
        have HJ := hid hlt
        have B5 := hid (HB.out.trans ((Below.refl _ _).alloc (Nat.le_refl _) (Obj.cells #[.string (c1).s, .int .i64 (c1).den, .int .i64 (c1).car, .int .i64 (c1).lim] 50) |>.mono HB.out.size))
        clear hc1
        by_cases h : (20 : Int) < (c1.s.size : Int)
        · go_wp2_with fail
          go_ret
          exact ⟨_, rfl, B5.out⟩
        · go_wp2_with fail
          go_roundw
          case rel => exact ⟨j + 1, by go_num, HJ.out, B5.out⟩
          case measure => exact smeas _ _ HJ.out
      · have i1 : ¬ (j : Int) < (l.length : Int) := by omega
        go_wp2_with fail
        go_ret
        first | exact ⟨.inr rfl, HB.out⟩ | exact ⟨_, rfl, HB.out⟩
set_option maxRecDepth 100000 in
set_option maxHeartbeats 1000000 in
theorem rsallow_any (A : Option Addr) (cap : Nat) (l : List Sp.Sc) (i d : Int) (w : World) (hc : l.length ≤ cap) (hS : Sized l) (hT : Tab w A l) :
    Calls Try.prog 55 #[.slice A l.length cap, .int .i64 i, .int .i64 d] w (Gives (.bool (Sp.allowS l i d)) w) := by
  have ck := rscheck_any A cap l w hc hS hT
  unfold Sp.allowS
  obtain ⟨q, hq⟩ : ∃ q, Sp.tabS l = q := ⟨_, rfl⟩
  rw [hq] at ck ⊢
  by_cases c : q = 0
  · subst c
    by_cases h0 : 0 ≤ i
    · by_cases h1 : i < (l.length : Int)
      · rw [decide_eq_true ⟨rfl, h0, h1⟩, Bool.true_and]
        obtain ⟨k, rfl⟩ : ∃ k : Nat, i = (k : Int) := ⟨i.toNat, by omega⟩
        have hk : k < l.length := by omega
        have hlim : Sp.limOf l (k : Int) = (l[k]'hk).lim := by unfold Sp.limOf; simp [hk]
        rw [hlim]
        obtain ⟨b, off, hA, hl, hcell⟩ := hT (by omega)
        obtain ⟨-, -, -, c3⟩ := hcell k hk
        subst hA
        obtain ⟨y, hy⟩ : ∃ y, (l[k]'hk).lim = y := ⟨_, rfl⟩
        rw [hy] at c3 ⊢
        have e1 : ((0 : Int) == 0) = true := rfl
        clear hq hS hc hT hcell hy hlim hk
        unfold Sp.upTo
        by_cases d1 : 1 ≤ d
        · by_cases d2 : d ≤ y
          · rw [decide_eq_true ⟨d1, d2⟩]
            go_enter Try.func55, Try.ntmps55
            go_wp2_with fail
            refine ck.mono ?_
            rintro _ w1 ⟨rfl, hb⟩
            have B1 := hid hb
            have x3 : w1.cell? ⟨b, off + k * 4 + 3, none⟩ = some (.int .i64 y) := (hb.cell (p := ⟨b, off + k * 4 + 3, none⟩) hl).trans c3
            clear hb ck
            go_wp2_with fail
            go_ret
            exact Gives.mk (by first | rfl | simp [d1, d2]) B1.out
          · rw [decide_eq_false (fun h => d2 h.2)]
            go_enter Try.func55, Try.ntmps55
            go_wp2_with fail
            refine ck.mono ?_
            rintro _ w1 ⟨rfl, hb⟩
            have B1 := hid hb
            have x3 : w1.cell? ⟨b, off + k * 4 + 3, none⟩ = some (.int .i64 y) := (hb.cell (p := ⟨b, off + k * 4 + 3, none⟩) hl).trans c3
            clear hb ck
            go_wp2_with fail
            go_ret
            exact Gives.mk (by first | rfl | simp [d1, d2]) B1.out
        · rw [decide_eq_false (fun h => d1 h.1)]
          go_enter Try.func55, Try.ntmps55
          go_wp2_with fail
          refine ck.mono ?_
          rintro _ w1 ⟨rfl, hb⟩
          have B1 := hid hb
          clear hb ck
          go_wp2_with fail
          go_ret
          exact Gives.mk rfl B1.out
      · rw [decide_eq_false (fun h => h1 h.2.2), Bool.false_and]
        clear hq hS hc hT
        go_enter Try.func55, Try.ntmps55
        go_wp2_with (go_at_call 35; refine ck.mono ?_; rintro _ w1 ⟨rfl, hb⟩)
        go_ret
        exact Gives.mk rfl hb
    · rw [decide_eq_false (fun h => h0 h.2.1), Bool.false_and]
      clear hq hS hc hT
      go_enter Try.func55, Try.ntmps55
      go_wp2_with (go_at_call 35; refine ck.mono ?_; rintro _ w1 ⟨rfl, hb⟩)
      go_ret
      exact Gives.mk rfl hb
  · rw [decide_eq_false (fun h => c h.1), Bool.false_and]
    have e1 : (q == 0) = false := by simpa using c
    clear hq hS hc hT
    go_enter Try.func55, Try.ntmps55
    go_wp2_with (go_at_call 35; refine ck.mono ?_; rintro _ w1 ⟨rfl, hb⟩)
    go_ret
    exact Gives.mk rfl hb
def exT : List Sp.Sc := [⟨⟨#[115, 112]⟩, 430, 500000, 1500⟩, ⟨⟨#[98, 101]⟩, 680, 480000, 1200⟩]
theorem exT_sized : Sized exT := ⟨by decide, fun c hc => by
  simp only [exT, List.mem_cons, List.not_mem_nil, or_false] at hc
  rcases hc with rfl | rfl
  · exact ⟨by decide, ⟨by decide, by decide⟩, ⟨by decide, by decide⟩, by decide, by decide⟩
  · exact ⟨by decide, ⟨by decide, by decide⟩, ⟨by decide, by decide⟩, by decide, by decide⟩⟩
theorem ex_be : Sp.findS exT ⟨#[98, 101]⟩ = (1, 0) := by kernel_rfl
theorem ex_oak : Sp.findS exT ⟨#[111, 97, 107]⟩ = (0, 6) := by kernel_rfl
theorem ex_mass : Sp.massS exT 0 1000 1001 = (430, 431, 0) := by kernel_rfl
theorem ex_carb : Sp.carbS exT 0 1000 1001 = (215, 216, 0) := by kernel_rfl
theorem ex_no : Sp.allowS exT 1 1201 = false := by kernel_rfl
theorem ex_yes : Sp.allowS exT 1 1200 = true := by kernel_rfl
end Go.Proofs.Ytmdaanigkhikfab
