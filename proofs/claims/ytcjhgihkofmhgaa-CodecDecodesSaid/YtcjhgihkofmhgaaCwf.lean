/-
  Layer 6: the library's comparisons and copies of bytes, by contract.
-/
import Derived.Test.YtcjhgihkofmhgaaCwe
import Derived.WalkSpells
import Derived.Lib.SliceRun
namespace Go.Proofs.Ytcjhgihkofmhgaa
open Go.RowKit
set_option linter.unusedVariables false
set_option linter.unusedSimpArgs false
theorem seq_len (L M : List UInt8) (A C : Option Addr) (ca cc : Nat) (h : L.length ≠ M.length) (w : World) :
    Calls Try.prog 36 #[.slice A L.length ca, .slice C M.length cc] w (Gives (.bool false) w) := by
  have f1 : ((L.length : Int) != (M.length : Int)) = true := by simp; omega
  go_enter Try.func36, Try.ntmps36
  go_wp2_with fail
  go_ret
  exact Gives.mk rfl (Below.refl _ _)
set_option maxRecDepth 100000 in
set_option maxHeartbeats 1000000 in
theorem sliceEq_any (L M : List UInt8) (A C : Option Addr) (ca cc : Nat) (B : Nat) (w : World) (hB : B ≤ w.heap.size) (hl : L.length ≤ 9223372036854775807) (SL : Bs w B A L) (SM : Bs w B C M) :
    Calls Try.prog 36 #[.slice A L.length ca, .slice C M.length cc] w (Gives (.bool (decide (L = M))) w) := by
  by_cases c : L.length = M.length
  · have f1 : ((L.length : Int) != (M.length : Int)) = false := by simp; omega
    have C1 := hid c
    clear c
    go_enter Try.func36, Try.ntmps36
    go_wp2_with fail
    go_loopw [13] (fun t wr => EqRel L M t ∧ Below w.heap.size w wr) (fun t _ => L.length - (intOf t).toNat)
    case atStart => exact ⟨⟨0, rfl, Nat.zero_le _, rfl⟩, Below.refl _ _⟩
    case round =>
      obtain ⟨⟨k, rfl, hk, ht⟩, hW⟩ := hrel
      have HT := hid ht
      have HW := hid hW
      have SL1 := SL.under hB hW
      have SM1 := SM.under hB hW
      clear ht hW
      by_cases hlt : k < L.length
      · have hlm : k < M.length := by rw [← C1.out]; exact hlt
        obtain ⟨b, off, rfl, lt, cel⟩ := SL1.at_ (by omega)
        obtain ⟨b2, off2, rfl, lt2, cel2⟩ := SM1.at_ (by omega)
        have x := cel k hlt
        have x2 := cel2 k hlm
        have i0 : (0 : Int) ≤ (k : Int) := by omega
        have i1 : (k : Int) < (L.length : Int) := by omega
        have i2 : (k : Int) < (M.length : Int) := by omega
        clear cel cel2 SL1 SM1
        by_cases e : L[k] = M[k]
        · have e2 : (((L[k]).toNat : Int) != ((M[k]).toNat : Int)) = false := by rw [e]; simp
          have E := hid e
          clear e
          go_wp2_with fail
          go_quiet (fail)
          go_wp2_with fail
          go_roundw
          case rel => exact ⟨⟨k + 1, by go_num, by omega, take_eq_succ HT.out hlt hlm E.out⟩, below_dn HW.out _⟩
          case measure => simp [intOf]; omega
        · have e2 : (((L[k]).toNat : Int) != ((M[k]).toNat : Int)) = true := by
            simp only [bne_iff_ne, ne_eq]
            intro h
            exact e (UInt8.toNat_inj.1 (by omega))
          have E := hid e
          clear e
          go_wp2_with fail
          go_quiet (fail)
          go_wp2_with fail
          go_ret
          exact Gives.mk (bool_eq (by rw [decide_eq_false (take_ne hlt hlm E.out)])) (below_dn HW.out _)
      · go_wp2_with fail
        go_ret
        refine Gives.mk (bool_eq ?_) HW.out
        have h := HT.out
        rw [List.take_of_length_le (by omega), List.take_of_length_le (by rw [← C1.out]; omega)] at h
        rw [decide_eq_true h]
  · have e : decide (L = M) = false := decide_eq_false (fun h => c (by rw [h]))
    rw [e]
    exact seq_len L M A C ca cc c w
theorem bytesEq_any (L M : List UInt8) (A C : Option Addr) (ca cc : Nat) (B : Nat) (w : World) (hB : B ≤ w.heap.size) (SL : Bs w B A L) (SM : Bs w B C M) :
    Calls Try.prog 46 #[.slice A L.length ca, .slice C M.length cc] w fun e w' => e = .returned (.bool (decide (L = M))) ∧ w = w' := by
  have t1 := text_run SL ca
  have t2 := text_run SM cc
  have e : (L == M) = decide (L = M) := by rw [Bool.eq_iff_iff]; simp
  rw [← e]
  clear e
  go_enter Try.func46, Try.ntmps46
  go_wp2_with fail
  go_ret
  exact ⟨rfl, rfl⟩
theorem Bs.none_nil {w : World} {B : Nat} {L : List UInt8} (h : Bs w B none L) : L = [] := by
  rcases Nat.eq_zero_or_pos L.length with h0 | h0
  · exact List.eq_nil_of_length_eq_zero h0
  · obtain ⟨b, off, e, _⟩ := h.at_ h0
    cases e
set_option maxHeartbeats 400000 in
theorem clone_any (L : List UInt8) (A : Option Addr) (ca : Nat) (hl : L.length ≤ 140737488300000) (B : Nat) (w : World) (hB : B ≤ w.heap.size) (S : Bs w B A L) :
    Calls Try.prog 31 #[.slice A L.length ca] w fun e w' => ∃ v', e = .returned v' ∧ OwnB w' w.heap.size v' L ∧ Below w.heap.size w w' := by
  have HL : Hid (([] : List UInt8).length + L.length ≤ 140737488355328) := by show 0 + L.length ≤ _; omega
  have en := fun W => Lib.run_eql_slice_nil (P := Try.prog) W 22 5 A L.length ca 0 0 Try.underlying22
  clear hl
  rcases A with _ | ad
  · have e := S.none_nil
    subst e
    simp only [Option.isNone_none, List.length_nil] at en
    go_enter Try.func31, Try.ntmps31
    go_wp2_with fail
    go_ret
    exact ⟨_, rfl, OwnB.nil _ _, Below.refl _ _⟩
  · simp only [Option.isNone_some] at en
    have made : OwnB (w.alloc (.cells #[] 5)) w.heap.size (.slice (some ⟨w.heap.size, 0, none⟩) 0 0) [] := w.ownsRow_made (e := 5) (size := 1) #[] 0 (Nat.le_refl _) (by decide) rfl
    have S2 : Bs (w.alloc (.cells #[] 5)) B (some ad) L := S.below ((Below.refl _ _).alloc hB _)
    have MK := hid made
    have SK := hid S2
    clear made S2 S
    go_enter Try.func31, Try.ntmps31
    go_wp2_with (at_builtin; refine appL rfl _ _ rfl w.heap.size _ [] rfl MK.out (some ad) ca B L rfl SK.out HL (by simp) ?_; intro v' w1 how hO)
    go_ret
    refine ⟨v', rfl, by simpa using how, ?_⟩
    have h1 : Ow w (w.alloc (.cells #[] 5)) none (Value.ownBlock (.slice (some ⟨w.heap.size, 0, none⟩) 0 0)) := Ow.made ((Below.refl _ _).alloc (Nat.le_refl _) _) (fun g hg => by simp [Value.ownBlock] at hg; omega) none
    exact (h1.trans hO).to_below
end Go.Proofs.Ytcjhgihkofmhgaa
