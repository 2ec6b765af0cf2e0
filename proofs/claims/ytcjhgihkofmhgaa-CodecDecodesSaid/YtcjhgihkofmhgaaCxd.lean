/-
  Layer 6: Check of package codec, by contract.
-/
import Derived.Test.YtcjhgihkofmhgaaCxc
namespace Go.Proofs.Ytcjhgihkofmhgaa
open Go.RowKit
set_option linter.unusedVariables false
set_option linter.unusedSimpArgs false

theorem cdatum_any {P : Nat → Prop} {g : Nat} (hPg : ¬ P g) : ∀ (d : Nat) (t : Sp.Tr d) (v : Value) (i c z : Nat) (w : World), Lies w P d t v → LB w g c z → c ≤ 500 → z ≤ c * 281474976710656 →
    Calls Try.prog 44 #[.pointer (some ⟨g, 0, none⟩), v, .int .i64 (i : Int)] w (PostC w g (Sp.chkT d t i c z))
  | 0, t, v, i, c, z, w, hL, _, _, _ => nomatch hL
  | d + 1, t, v, i, c, z, w, hL, hB, hc, hz => by
    obtain ⟨s, A, cap, rfl, hs, ⟨⟨k0, k1⟩, ⟨n0, n1⟩, s1, m1, mc⟩, hel⟩ := hL
    obtain ⟨k, n, txt, l⟩ := t
    simp only at k0 k1 n0 n1 m1 mc hel hs ⊢
    subst hs
    have hfd := form_dec (t := ((k, n, s.data.toList, l) : Sp.Tr (d + 1)))
    simp only at hfd
    unfold Sp.chkT
    by_cases hk : (1 : Int) ≤ k ∧ k ≤ 3
    · rw [if_neg (by simpa using hk)]
      by_cases hf : Sp.form ((k, n, s.data.toList, l) : Sp.Tr (d + 1))
      · rw [if_neg (by simpa using hf)]
        by_cases hb : 7 < i ∨ 500 < c + 1
        · rw [if_pos hb]
          refine (cdatum_limit k n s A l.length cap i c z g hk (hfd.1 hf) hb hc w hB).mono ?_
          rintro e w' ⟨rfl, h1, h2⟩
          exact ⟨rfl, h1, h2, fun h => by simp at h⟩
        · rw [if_neg hb]
          have os := fun w => ownSize_any k n s A l.length cap n0 n1 s1 m1 w
          have ho : Sp.own ((k, n, s.data.toList, l) : Sp.Tr (d + 1)) = 1 + (Sp.putS (if k = 2 then (s.size : Int) else if k = 3 then (l.length : Int) else n)).length + s.size := by
            unfold Sp.own Sp.num
            simp only [size_list]
          obtain ⟨o, hoe⟩ : ∃ o, Sp.own ((k, n, s.data.toList, l) : Sp.Tr (d + 1)) = o := ⟨_, rfl⟩
          rw [hoe] at ho ⊢
          have hp := Sp.putS_len (if k = 2 then (s.size : Int) else if k = 3 then (l.length : Int) else n)
          have hoi : (1 + ((Sp.putS (if k = 2 then (s.size : Int) else if k = 3 then (l.length : Int) else n)).length : Int) + (s.size : Int)) = (o : Int) := by omega
          rw [hoi] at os
          have ob : o ≤ 281474976710656 := by omega
          have zo : z + o ≤ (c + 1) * 281474976710656 := by omega
          refine cdatum_in P l k n s A cap i c z o g hk (hfd.1 hf) (by omega) (by omega) os (IntWalk.i64_in _ (by omega)) zo m1 w hB hPg hel ?_
          intro u v c z W h1 h2 h3 h4
          have := cdatum_any hPg d u v (i + 1) c z W h1 h2 h3 h4
          rw [Int.natCast_add] at this
          exact this
      · rw [if_pos (by simpa using hf)]
        refine (cdatum_form k n s A l.length cap i c z g hk (fun h => hf (hfd.2 h)) w hB).mono ?_
        rintro e w' ⟨rfl, hb⟩
        exact ⟨rfl, hB.below hb, Ow.of_below hb _, fun h => by simp at h⟩
    · rw [if_pos hk]
      refine (cdatum_kind k n s A l.length cap i c z g hk w hB).mono ?_
      rintro e w' ⟨rfl, hb⟩
      exact ⟨rfl, hB.below hb, Ow.of_below hb _, fun h => by simp at h⟩
namespace Sp
def checkS (d : Nat) (t : Tr d) : Int := if (chkT d t 0 0 0).1 ≠ 0 then (chkT d t 0 0 0).1 else if 4000 < (chkT d t 0 0 0).2.2 then 8 else 0
end Sp
set_option maxRecDepth 100000 in
set_option maxHeartbeats 1000000 in
theorem check_any (d : Nat) (t : Sp.Tr d) (v : Value) (w : World) (hL : Lies w (· < w.heap.size) d t v) :
    Calls Try.prog 24 #[v] w (Gives (.int .i64 (Sp.checkS d t)) w) := by
  obtain ⟨k, n, s, A, m, cap, rfl⟩ := hL.form
  have ck := fun (W : World) (h1 : Lies W (· < w.heap.size) d t (.agg #[.int .i64 k, .int .i64 n, .string s, .slice A m cap])) (h2 : LB W (w.heap.size + 1) ((0 : Nat) : Int) ((0 : Nat) : Int)) => cdatum_any (P := (· < w.heap.size)) (g := w.heap.size + 1) (by omega) d t _ 0 0 0 W h1 h2 (by omega) (by omega)
  unfold Sp.checkS
  obtain ⟨R, hR⟩ : ∃ R, Sp.chkT d t 0 0 0 = R := ⟨_, rfl⟩
  rw [hR] at ck ⊢
  clear hR
  obtain ⟨e, c, z⟩ := R
  simp only [Int.natCast_zero] at ck ⊢
  have CK := hid ck
  have HL := hid hL
  clear ck hL
  by_cases e0 : e = 0
  · subst e0
    rw [if_neg (by simp)]
    by_cases z4 : 4000 < z
    · rw [if_pos z4]
      go_enter Try.func24, Try.ntmps24
      go_wp2_with (go_at_call 44; refine (CK.out _ (HL.out.below (by repeat' (first | (with_reducible exact Below.refl _ _) | (with_reducible refine Below.alloc ?_ ?_ _) | (with_reducible refine Below.setCell ?_ ?_ _) | (with_reducible refine Below.drew ?_) | (with_reducible refine below_dn ?_ _) | (with_reducible refine Below.trans ?_ (Below.mono (by assumption) ?_)) | (simp; done) | (simp; omega) | omega))) ⟨by simp, by simp [go_sem], by simp [go_sem], fun o => by simp [go_sem]⟩).mono ?_; rintro e w7 ⟨rfl, L7, O7, hb7⟩; have hU := O7.under (B := w.heap.size) (by simp; omega) (fun g hg => by injection hg with hg; omega); have hW : Below w.heap.size w w7 := Below.trans (by repeat' (first | (with_reducible exact Below.refl _ _) | (with_reducible refine Below.alloc ?_ ?_ _) | (with_reducible refine Below.setCell ?_ ?_ _) | (with_reducible refine Below.drew ?_) | (with_reducible refine below_dn ?_ _) | (with_reducible refine Below.trans ?_ (Below.mono (by assumption) ?_)) | (simp; done) | (simp; omega) | omega)) hU; have HW := hid hW; have y1 := L7.c1; clear L7 O7 hb7 hU hW)
      go_ret
      exact Gives.mk rfl HW.out
    · rw [if_neg z4]
      go_enter Try.func24, Try.ntmps24
      go_wp2_with (go_at_call 44; refine (CK.out _ (HL.out.below (by repeat' (first | (with_reducible exact Below.refl _ _) | (with_reducible refine Below.alloc ?_ ?_ _) | (with_reducible refine Below.setCell ?_ ?_ _) | (with_reducible refine Below.drew ?_) | (with_reducible refine below_dn ?_ _) | (with_reducible refine Below.trans ?_ (Below.mono (by assumption) ?_)) | (simp; done) | (simp; omega) | omega))) ⟨by simp, by simp [go_sem], by simp [go_sem], fun o => by simp [go_sem]⟩).mono ?_; rintro e w7 ⟨rfl, L7, O7, hb7⟩; have hU := O7.under (B := w.heap.size) (by simp; omega) (fun g hg => by injection hg with hg; omega); have hW : Below w.heap.size w w7 := Below.trans (by repeat' (first | (with_reducible exact Below.refl _ _) | (with_reducible refine Below.alloc ?_ ?_ _) | (with_reducible refine Below.setCell ?_ ?_ _) | (with_reducible refine Below.drew ?_) | (with_reducible refine below_dn ?_ _) | (with_reducible refine Below.trans ?_ (Below.mono (by assumption) ?_)) | (simp; done) | (simp; omega) | omega)) hU; have HW := hid hW; have y1 := L7.c1; clear L7 O7 hb7 hU hW)
      go_ret
      exact Gives.mk rfl HW.out
  · rw [if_pos e0]
    have e2 : (e != 0) = true := by simpa using e0
    go_enter Try.func24, Try.ntmps24
    go_wp2_with (go_at_call 44; refine (CK.out _ (HL.out.below (by repeat' (first | (with_reducible exact Below.refl _ _) | (with_reducible refine Below.alloc ?_ ?_ _) | (with_reducible refine Below.setCell ?_ ?_ _) | (with_reducible refine Below.drew ?_) | (with_reducible refine below_dn ?_ _) | (with_reducible refine Below.trans ?_ (Below.mono (by assumption) ?_)) | (simp; done) | (simp; omega) | omega))) ⟨by simp, by simp [go_sem], by simp [go_sem], fun o => by simp [go_sem]⟩).mono ?_; rintro e w7 ⟨rfl, L7, O7, hb7⟩; have hU := O7.under (B := w.heap.size) (by simp; omega) (fun g hg => by injection hg with hg; omega); have hW : Below w.heap.size w w7 := Below.trans (by repeat' (first | (with_reducible exact Below.refl _ _) | (with_reducible refine Below.alloc ?_ ?_ _) | (with_reducible refine Below.setCell ?_ ?_ _) | (with_reducible refine Below.drew ?_) | (with_reducible refine below_dn ?_ _) | (with_reducible refine Below.trans ?_ (Below.mono (by assumption) ?_)) | (simp; done) | (simp; omega) | omega)) hU; have HW := hid hW; have y1 := L7.c1; clear L7 O7 hb7 hU hW)
    go_ret
    exact Gives.mk rfl HW.out
end Go.Proofs.Ytcjhgihkofmhgaa
