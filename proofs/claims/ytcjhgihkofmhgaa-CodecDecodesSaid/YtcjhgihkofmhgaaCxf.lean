/-
  Layer 6: Same of package codec, Equal of the reference, by contract.
-/
import Derived.Test.YtcjhgihkofmhgaaCxe
namespace Go.Proofs.Ytcjhgihkofmhgaa
open Go.RowKit
set_option linter.unusedVariables false
set_option linter.unusedSimpArgs false

theorem Lies.lift {w w' : World} {P : Nat → Prop} {d : Nat} {t : Sp.Tr d} {v : Value} (h : Lies w P d t v) (hb : Below w.heap.size w w') : Lies w' (· < w'.heap.size) d t v :=
  h.keep fun b _ hl => ⟨Nat.lt_of_lt_of_le hl hb.size, hb.block b hl⟩
namespace Sp
def sameS (d : Nat) (t : Tr d) (e : Nat) (u : Tr e) : Bool := decide (checkS d t = 0 ∧ checkS e u = 0 ∧ encT d t = encT e u)
end Sp
set_option maxRecDepth 100000 in
set_option maxHeartbeats 2000000 in
theorem same_any (d : Nat) (t : Sp.Tr d) (v : Value) (d' : Nat) (u : Sp.Tr d') (v' : Value) (w : World) {P : Nat → Prop} (hL : Lies w P d t v) (hL' : Lies w P d' u v') :
    Calls Try.prog 26 #[v, v'] w (Gives (.bool (Sp.sameS d t d' u)) w) := by
  obtain ⟨k, n, s, A, m, cap, rfl⟩ := hL.form
  obtain ⟨k', n', s', A', m', cap', rfl⟩ := hL'.form
  have HB := hid (((Below.refl w.heap.size w).alloc (Nat.le_refl _) (Obj.cells #[.int .i64 k, .int .i64 n, .string s, .slice A m cap] 34)).alloc (by simp) (Obj.cells #[.int .i64 k', .int .i64 n', .string s', .slice A' m' cap'] 34))
  have HL := hid hL
  have HL' := hid hL'
  obtain ⟨R, hR⟩ : ∃ R, Sp.sameS d t d' u = R := ⟨_, rfl⟩
  rw [hR]
  have HR := hid hR
  clear hL hL' hR
  obtain ⟨e1, he1⟩ : ∃ e, Sp.checkS d t = e := ⟨_, rfl⟩
  obtain ⟨e2, he2⟩ : ∃ e, Sp.checkS d' u = e := ⟨_, rfl⟩
  have H1 := hid he1
  have H2 := hid he2
  clear he1 he2
  by_cases c1 : e1 = 0
  · subst c1
    by_cases c2 : e2 = 0
    · subst c2
      have HQ : Hid (R = decide (Sp.encT d t = Sp.encT d' u)) := by
        show R = _
        rw [← HR.out]
        unfold Sp.sameS
        simp [H1.out, H2.out]
      go_enter Try.func26, Try.ntmps26
      go_wp2_with fail
      refine (encode_good d t _ H1.out _ (HL.out.lift HB.out)).mono ?_
      rintro e w1 ⟨v1, rfl, how1, hb1⟩
      have hW : Below w.heap.size w w1 := HB.out.trans (hb1.mono (by simp; omega))
      have HW := hid hW
      have HO := hid how1
      have hz1 : w.heap.size + 1 + 1 ≤ w1.heap.size := (by simpa using hb1.size)
      have x0 : w1.cell? ⟨w.heap.size + 1, 0, none⟩ = some (.int .i64 k') := (hb1.cell (p := ⟨w.heap.size + 1, 0, none⟩) (by simp)).trans (by simp [go_sem])
      have x1 : w1.cell? ⟨w.heap.size + 1, 1, none⟩ = some (.int .i64 n') := (hb1.cell (p := ⟨w.heap.size + 1, 1, none⟩) (by simp)).trans (by simp [go_sem])
      have x2 : w1.cell? ⟨w.heap.size + 1, 2, none⟩ = some (.string s') := (hb1.cell (p := ⟨w.heap.size + 1, 2, none⟩) (by simp)).trans (by simp [go_sem])
      have x3 : w1.cell? ⟨w.heap.size + 1, 3, none⟩ = some (.slice A' m' cap') := (hb1.cell (p := ⟨w.heap.size + 1, 3, none⟩) (by simp)).trans (by simp [go_sem])
      clear hb1 how1 hW
      go_wp2_with fail
      refine (encode_good d' u _ H2.out _ (HL'.out.lift HW.out)).mono ?_
      rintro e w2 ⟨v2, rfl, how2, hb2⟩
      obtain ⟨A1, ca1, rfl, _, bs1⟩ := (HO.out.below hb2).form
      obtain ⟨A2, ca2, rfl, _, bs2⟩ := how2.form
      have BS1 := hid bs1
      have BS2 := hid bs2
      have HW2 := hid (HW.out.trans (hb2.mono (by omega)))
      clear hb2 how2 bs1 bs2
      go_wp2_with (go_at_call 46; refine (bytesEq_any (Sp.encT d t) (Sp.encT d' u) A1 A2 ca1 ca2 _ _ (Nat.le_refl _) BS1.out BS2.out).mono ?_; rintro e w3 ⟨rfl, rfl⟩)
      go_ret
      exact Gives.mk (bool_eq HQ.out) HW2.out
    · have HQ : Hid (R = false) := by
        show R = _
        rw [← HR.out]
        unfold Sp.sameS
        simp [H2.out, c2]
      have hq := HQ.out
      subst hq
      have f2 : (e2 == 0) = false := by simpa using c2
      go_enter Try.func26, Try.ntmps26
      go_wp2_with fail
      refine (encode_good d t _ H1.out _ (HL.out.lift HB.out)).mono ?_
      rintro e w1 ⟨v1, rfl, how1, hb1⟩
      have hW : Below w.heap.size w w1 := HB.out.trans (hb1.mono (by simp; omega))
      have HW := hid hW
      have HO := hid how1
      have hz1 : w.heap.size + 1 + 1 ≤ w1.heap.size := (by simpa using hb1.size)
      have x0 : w1.cell? ⟨w.heap.size + 1, 0, none⟩ = some (.int .i64 k') := (hb1.cell (p := ⟨w.heap.size + 1, 0, none⟩) (by simp)).trans (by simp [go_sem])
      have x1 : w1.cell? ⟨w.heap.size + 1, 1, none⟩ = some (.int .i64 n') := (hb1.cell (p := ⟨w.heap.size + 1, 1, none⟩) (by simp)).trans (by simp [go_sem])
      have x2 : w1.cell? ⟨w.heap.size + 1, 2, none⟩ = some (.string s') := (hb1.cell (p := ⟨w.heap.size + 1, 2, none⟩) (by simp)).trans (by simp [go_sem])
      have x3 : w1.cell? ⟨w.heap.size + 1, 3, none⟩ = some (.slice A' m' cap') := (hb1.cell (p := ⟨w.heap.size + 1, 3, none⟩) (by simp)).trans (by simp [go_sem])
      clear hb1 how1 hW
      go_wp2_with fail
      refine (encode_bad d' u _ e2 H2.out c2 _ (HL'.out.lift HW.out)).mono ?_
      rintro e w2 ⟨rfl, hb2⟩
      have HW2 := hid (HW.out.trans (hb2.mono (by omega)))
      clear hb2
      go_wp2_with fail
      go_ret
      exact Gives.mk rfl HW2.out
  · have HQ : Hid (R = false) := by
      show R = _
      rw [← HR.out]
      unfold Sp.sameS
      simp [H1.out, c1]
    have hq := HQ.out
    subst hq
    have f1 : (e1 != 0) = true := by simpa using c1
    go_enter Try.func26, Try.ntmps26
    go_wp2_with fail
    refine (encode_bad d t _ e1 H1.out c1 _ (HL.out.lift HB.out)).mono ?_
    rintro e w1 ⟨rfl, hb1⟩
    have HW : Hid (Below w.heap.size w w1) := HB.out.trans (hb1.mono (by simp; omega))
    clear hb1
    go_wp2_with fail
    go_ret
    exact Gives.mk rfl HW.out
end Go.Proofs.Ytcjhgihkofmhgaa
