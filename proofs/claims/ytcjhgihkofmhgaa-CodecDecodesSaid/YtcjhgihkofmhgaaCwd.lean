/-
  Layer 6: texts as bytes, both packages, by contract.
-/
import Derived.Test.YtcjhgihkofmhgaaCwc
import Derived.Test.YtcjhgihkofmhgaaCt
namespace Go.Proofs.Ytcjhgihkofmhgaa
open Go.RowKit
set_option linter.unusedVariables false
set_option linter.unusedSimpArgs false

theorem size_list (s : ByteArray) : s.size = s.data.toList.length := by cases s; simp [ByteArray.size]
set_option maxRecDepth 100000 in
set_option maxHeartbeats 1000000 in
theorem appendText_any (base : Nat) (v : Value) (L : List UInt8) (s : ByteArray) (hL : L.length + s.size ≤ 140737488200000) (w : World) (hb : base ≤ w.heap.size) (hv : OwnB w base v L) :
    Calls Try.prog 40 #[v, .string s] w fun e w' => ∃ v', e = .returned v' ∧ OwnB w' base v' (L ++ (Sp.putS s.size ++ s.data.toList)) ∧ Ow w w' v.ownBlock v'.ownBlock := by
  have hp := Sp.putS_len (s.size : Int)
  have HL := hid (show (L ++ Sp.putS (s.size : Int)).length + s.size ≤ 140737488355328 by rw [List.length_append]; omega)
  have H0 := hid (show 0 < (L ++ Sp.putS (s.size : Int)).length by rw [List.length_append]; omega)
  have ap := appendInt_any base v L (s.size : Int) (by omega) (by omega) (by omega) w hb hv
  clear hL hp
  go_enter Try.func40, Try.ntmps40
  go_wp2_with fail
  refine ap.mono ?_
  rintro e w1 ⟨v1, rfl, how1, hO1⟩
  have hsz := hO1.size
  have HO1 := hid hO1
  have HOW := hid how1
  clear hO1 how1 ap
  go_wp2_with (at_builtin; refine appS rfl _ _ rfl base _ (L ++ Sp.putS (s.size : Int)) rfl HOW.out H0.out s rfl HL (by omega) ?_; intro v' w2 how2 hO2)
  go_ret
  exact ⟨v', rfl, by rw [← List.append_assoc]; exact how2, HO1.out.trans hO2⟩
theorem putText_any (s : ByteArray) (hL : s.size ≤ 140737488200000) (w : World) :
    Calls Try.prog 19 #[.string s] w fun e w' => ∃ v', e = .returned v' ∧ OwnB w' w.heap.size v' (Sp.putS s.size ++ s.data.toList) ∧ Below w.heap.size w w' := by
  have ap := appendText_any w.heap.size (.slice none 0 0) [] s (by simpa using hL) w (Nat.le_refl _) (OwnB.nil _ _)
  clear hL
  go_enter Try.func19, Try.ntmps19
  go_wp2_with fail
  refine ap.mono ?_
  rintro e w1 ⟨v1, rfl, how1, hO1⟩
  go_wp2_with fail
  go_ret
  exact ⟨v1, rfl, how1, hO1.to_below⟩
def TxtRel (w : World) (s : ByteArray) (P : List UInt8) (v t : Value) (wr : World) : Prop :=
  ∃ k : Nat, k ≤ s.data.toList.length ∧ t = .int .i64 (k : Int) ∧ OwnB wr w.heap.size v (P ++ s.data.toList.take k) ∧ Ow w wr none v.ownBlock
set_option maxRecDepth 100000 in
set_option maxHeartbeats 1000000 in
theorem rputText_any (s : ByteArray) (hL : s.size ≤ 140737488200000) (w : World) :
    Calls Try.prog 20 #[.string s] w fun e w' => ∃ v', e = .returned v' ∧ OwnB w' w.heap.size v' (Sp.putS s.size ++ s.data.toList) ∧ Below w.heap.size w w' := by
  have hp := Sp.putS_len (s.size : Int)
  have ap := rputInt_any (s.size : Int) (by omega) (by omega) w
  have sl := size_list s
  have ws : s.size ≤ 9223372036854775807 := by omega
  have HL : Hid (∀ k, k ≤ s.data.toList.length → (Sp.putS (s.size : Int) ++ s.data.toList.take k).length + 1 ≤ 140737488355328) := hid fun k hk => by rw [List.length_append, List.length_take]; omega
  clear hL hp
  have SL := hid sl
  clear sl
  go_enter Try.func20, Try.ntmps20
  go_wp2_with fail
  refine ap.mono ?_
  rintro e w1 ⟨v1, rfl, how1, hO1⟩
  have hsz := hO1.size
  have HO1 := hid hO1
  have HOW := hid how1
  clear hO1 how1 ap
  go_wp2_with fail
  go_loopw [3, 4] (fun v t wr => TxtRel w s (Sp.putS s.size) v t wr) (fun _ t _ => s.size - (intOf t).toNat)
  case atStart =>
    refine ⟨0, Nat.zero_le _, rfl, by simpa using HOW.out, Ow.made HO1.out (fun g hg => (HOW.out.base_le hg).1) none⟩
  case round =>
    obtain ⟨k, hk, rfl, how, hO⟩ := hrel
    have hs2 := hO.size
    have HO := hid hO
    have HW := hid how
    have HB := hid (HL.out k hk)
    clear hO how
    have hk2 : k ≤ s.size := by rw [SL.out]; exact hk
    by_cases hlt : k < s.size
    · have hlt2 : k < s.data.toList.length := by rw [← SL.out]; exact hlt
      go_wp2_with (at_builtin; refine app1 rfl _ _ rfl w.heap.size _ (Sp.putS s.size ++ s.data.toList.take k) rfl (HW.out.alloc _) wr.heap.size rfl (s.data.toList[k]) (by simp [go_sem]; rfl) HB (by simp; omega) ?_; intro v' w3 how3 hO3)
      go_roundw
      case rel =>
        refine ⟨k + 1, by omega, by go_num, ?_, (HO.out.alloc _).trans hO3⟩
        rw [List.take_succ_eq_append_getElem hlt2, ← List.append_assoc]
        exact how3
      case measure => simp [intOf]; omega
    · go_wp2_with fail
      go_ret
      refine ⟨_, rfl, ?_, HO.out.to_below⟩
      have h2 := HW.out
      rw [List.take_of_length_le (by rw [← SL.out]; omega)] at h2
      exact h2
end Go.Proofs.Ytcjhgihkofmhgaa
