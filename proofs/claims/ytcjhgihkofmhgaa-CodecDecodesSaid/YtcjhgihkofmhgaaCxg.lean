/-
  Layer 6: Equal of the reference, by contract.
-/
import Derived.Test.YtcjhgihkofmhgaaCxf
namespace Go.Proofs.Ytcjhgihkofmhgaa
open Go.RowKit
set_option linter.unusedVariables false
set_option linter.unusedSimpArgs false

/-- The elements of a list of data lie in memory. -/
def Els (w : World) (P : Nat → Prop) {d : Nat} (l : List (Sp.Tr d)) (A : Option Addr) : Prop :=
  0 < l.length → ∃ b off, A = some ⟨b, off, none⟩ ∧ P b ∧ ∀ j, (hj : j < l.length) → ∃ c0 c1 c2 c3 : Value,
    w.cell? ⟨b, off + j * 4, none⟩ = some c0 ∧ w.cell? ⟨b, off + j * 4 + 1, none⟩ = some c1 ∧ w.cell? ⟨b, off + j * 4 + 2, none⟩ = some c2 ∧ w.cell? ⟨b, off + j * 4 + 3, none⟩ = some c3 ∧
    Lies w P d (l[j]) (.agg #[c0, c1, c2, c3])
theorem Els.at_ {w w' : World} {P : Nat → Prop} {d : Nat} {l : List (Sp.Tr d)} {A : Option Addr} (h : Els w P l A) (hb : Below w.heap.size w w') {j : Nat} (hj : j < l.length) :
    ∃ b off k n s A' m cap, A = some ⟨b, off, none⟩ ∧ b < w.heap.size ∧ w'.cell? ⟨b, off + j * 4, none⟩ = some (.int .i64 k) ∧ w'.cell? ⟨b, off + j * 4 + 1, none⟩ = some (.int .i64 n) ∧ w'.cell? ⟨b, off + j * 4 + 2, none⟩ = some (.string s) ∧ w'.cell? ⟨b, off + j * 4 + 3, none⟩ = some (.slice A' m cap) ∧
      Lies w' P d (l[j]) (.agg #[.int .i64 k, .int .i64 n, .string s, .slice A' m cap]) := by
  obtain ⟨b, off, hA, hP, hc⟩ := h (by omega)
  obtain ⟨c0, c1, c2, c3, h0, h1, h2, h3, hL⟩ := hc j hj
  have hl : b < w.heap.size := World.block_lt_of_cell? w _ h0
  obtain ⟨k, n, s, A', m, cap, hv⟩ := hL.form
  injection hv with hv
  simp only [Array.mk.injEq, List.cons.injEq, and_true] at hv
  obtain ⟨rfl, rfl, rfl, rfl⟩ := hv
  exact ⟨b, off, k, n, s, A', m, cap, hA, hl, (hb.cell (p := ⟨b, off + j * 4, none⟩) hl).trans h0, (hb.cell (p := ⟨b, off + j * 4 + 1, none⟩) hl).trans h1, (hb.cell (p := ⟨b, off + j * 4 + 2, none⟩) hl).trans h2, (hb.cell (p := ⟨b, off + j * 4 + 3, none⟩) hl).trans h3, hL.below hb⟩
def EqL {d e : Nat} (l : List (Sp.Tr d)) (m : List (Sp.Tr e)) (R : Bool) (U : World) (t : Value) (wr : World) : Prop :=
  ∃ j : Nat, t = .int .i64 (j : Int) ∧ j ≤ l.length ∧ Sp.all2 (Sp.eqT d e) (l.drop j) (m.drop j) = R ∧ Below U.heap.size U wr
theorem all2_cons {α β : Type} (f : α → β → Bool) (a : α) (b : β) (l : List α) (m : List β) : Sp.all2 f (a :: l) (b :: m) = (f a b && Sp.all2 f l m) := rfl
set_option maxRecDepth 100000 in
set_option maxHeartbeats 4000000 in
theorem equal_list {d e : Nat} {P Q : Nat → Prop} (l : List (Sp.Tr d)) (m : List (Sp.Tr e)) (hm : l.length = m.length) (hl : l.length ≤ 140737488355328) (k n : Int) (s : ByteArray) (A C : Option Addr) (ca cc : Nat) (w : World) (hE : Els w P l A) (hF : Els w Q m C)
    (ih : ∀ (t : Sp.Tr d) (u : Sp.Tr e) (v v' : Value) (W : World), Lies W P d t v → Lies W Q e u v' → Calls Try.prog 30 #[v, v'] W (Gives (.bool (Sp.eqT d e t u)) W)) :
    Calls Try.prog 30 #[.agg #[.int .i64 k, .int .i64 n, .string s, .slice A l.length ca], .agg #[.int .i64 k, .int .i64 n, .string s, .slice C l.length cc]] w (Gives (.bool (Sp.all2 (Sp.eqT d e) l m)) w) := by
  have HE := hid hE
  have HF := hid hF
  have IH := hid ih
  have HM := hid hm
  obtain ⟨R, hR⟩ : ∃ R, Sp.all2 (Sp.eqT d e) l m = R := ⟨_, rfl⟩
  rw [hR]
  have HR := hid hR
  obtain ⟨U, hU⟩ : ∃ U : World, (w.alloc (Obj.cells #[.int .i64 k, .int .i64 n, .string s, .slice A l.length ca] 34)).alloc (Obj.cells #[.int .i64 k, .int .i64 n, .string s, .slice C l.length cc] 34) = U := ⟨_, rfl⟩
  have BU : Below w.heap.size w U := by rw [← hU]; exact ((Below.refl w.heap.size w).alloc (Nat.le_refl _) _).alloc (by simp) _
  have zU : U.heap.size = w.heap.size + 1 + 1 := by rw [← hU]; simp
  have b3 : U.cell? ⟨w.heap.size, 3, none⟩ = some (.slice A l.length ca) := by rw [← hU]; simp [go_sem]
  have d3 : U.cell? ⟨w.heap.size + 1, 3, none⟩ = some (.slice C l.length cc) := by rw [← hU]; simp [go_sem]
  have HBU := hid BU
  have HZ := hid zU
  have hb3 := hid b3
  have hd3 := hid d3
  have HU := hid hU
  clear hE hF ih hm hR BU zU b3 d3 hU
  go_enter Try.func30, Try.ntmps30
  go_wp2_with fail
  rw [HU.out]
  go_loopw [5] (fun t wr => EqL l m R U t wr) (fun t _ => l.length - (intOf t).toNat)
  case atStart => exact ⟨0, rfl, Nat.zero_le _, HR.out, Below.refl _ _⟩
  case round =>
    obtain ⟨j, rfl, hj, hd, hB⟩ := hrel
    have HD := hid hd
    have HB := hid hB
    have hsz : w.heap.size + 1 + 1 ≤ wr.heap.size := by have := hB.size; have := HZ.out; omega
    have x3 : wr.cell? ⟨w.heap.size, 3, none⟩ = some (.slice A l.length ca) := (hB.cell (p := ⟨w.heap.size, 3, none⟩) (by have := HZ.out; simp; omega)).trans hb3.out
    have y3 : wr.cell? ⟨w.heap.size + 1, 3, none⟩ = some (.slice C l.length cc) := (hB.cell (p := ⟨w.heap.size + 1, 3, none⟩) (by have := HZ.out; simp; omega)).trans hd3.out
    have HW := hid (HBU.out.trans (hB.mono (by have := HZ.out; omega)))
    clear hd hB
    by_cases hlt : j < l.length
    · have hlm : j < m.length := by rw [← HM.out]; exact hlt
      obtain ⟨b, off, k1, n1, s1, A1, m1, cap1, rfl, bl, q0, q1, q2, q3, hL1⟩ := HE.out.at_ HW.out hlt
      obtain ⟨b2, off2, k2, n2, s2, A2, m2, cap2, rfl, bl2, p0, p1, p2, p3, hL2⟩ := HF.out.at_ HW.out hlm
      have HL1 := hid hL1
      have HL2 := hid hL2
      obtain ⟨r, hr⟩ : ∃ r, Sp.eqT d e (l[j]'hlt) (m[j]'hlm) = r := ⟨_, rfl⟩
      have CALL := hid (fun (W : World) a1 a2 => IH.out (l[j]'hlt) (m[j]'hlm) (.agg #[.int .i64 k1, .int .i64 n1, .string s1, .slice A1 m1 cap1]) (.agg #[.int .i64 k2, .int .i64 n2, .string s2, .slice A2 m2 cap2]) W a1 a2)
      have hd := HD.out
      rw [List.drop_eq_getElem_cons hlt, List.drop_eq_getElem_cons hlm, all2_cons, hr] at hd
      rw [hr] at CALL
      have HD2 := hid hd
      have i0 : (0 : Int) ≤ (j : Int) := by omega
      have i1 : (j : Int) < (l.length : Int) := by omega
      have bw : b < wr.heap.size := by omega
      have bw2 : b2 < wr.heap.size := by omega
      have K : Hid (∀ W', Below wr.heap.size wr W' → (Below wr.heap.size wr W' ∧ (W'.cell? ⟨w.heap.size, 3, none⟩ = some (.slice (some ⟨b, off, none⟩) l.length ca) ∧ W'.cell? ⟨w.heap.size + 1, 3, none⟩ = some (.slice (some ⟨b2, off2, none⟩) l.length cc) ∧ W'.cell? ⟨b, off + j * 4, none⟩ = some (.int .i64 k1) ∧ W'.cell? ⟨b, off + j * 4 + 1, none⟩ = some (.int .i64 n1) ∧ W'.cell? ⟨b, off + j * 4 + 2, none⟩ = some (.string s1) ∧ W'.cell? ⟨b, off + j * 4 + 3, none⟩ = some (.slice A1 m1 cap1) ∧ W'.cell? ⟨b2, off2 + j * 4, none⟩ = some (.int .i64 k2) ∧ W'.cell? ⟨b2, off2 + j * 4 + 1, none⟩ = some (.int .i64 n2) ∧ W'.cell? ⟨b2, off2 + j * 4 + 2, none⟩ = some (.string s2) ∧ W'.cell? ⟨b2, off2 + j * 4 + 3, none⟩ = some (.slice A2 m2 cap2)))) := hid fun W' B =>
        ⟨B, (B.cell (p := ⟨w.heap.size, 3, none⟩) (by simp; omega)).trans x3, (B.cell (p := ⟨w.heap.size + 1, 3, none⟩) (by simp; omega)).trans y3, (B.cell (p := ⟨b, off + j * 4, none⟩) bw).trans q0, (B.cell (p := ⟨b, off + j * 4 + 1, none⟩) bw).trans q1, (B.cell (p := ⟨b, off + j * 4 + 2, none⟩) bw).trans q2, (B.cell (p := ⟨b, off + j * 4 + 3, none⟩) bw).trans q3,
          (B.cell (p := ⟨b2, off2 + j * 4, none⟩) bw2).trans p0, (B.cell (p := ⟨b2, off2 + j * 4 + 1, none⟩) bw2).trans p1, (B.cell (p := ⟨b2, off2 + j * 4 + 2, none⟩) bw2).trans p2, (B.cell (p := ⟨b2, off2 + j * 4 + 3, none⟩) bw2).trans p3⟩
      clear hL1 hL2 hd hr
      cases r
      all_goals
        go_wp2_with fail
        go_region_held3 (fun w' => Below wr.heap.size wr w' ∧ (w'.cell? ⟨w.heap.size, 3, none⟩ = some (.slice (some ⟨b, off, none⟩) l.length ca) ∧ w'.cell? ⟨w.heap.size + 1, 3, none⟩ = some (.slice (some ⟨b2, off2, none⟩) l.length cc) ∧ w'.cell? ⟨b, off + j * 4, none⟩ = some (.int .i64 k1) ∧ w'.cell? ⟨b, off + j * 4 + 1, none⟩ = some (.int .i64 n1) ∧ w'.cell? ⟨b, off + j * 4 + 2, none⟩ = some (.string s1) ∧ w'.cell? ⟨b, off + j * 4 + 3, none⟩ = some (.slice A1 m1 cap1) ∧ w'.cell? ⟨b2, off2 + j * 4, none⟩ = some (.int .i64 k2) ∧ w'.cell? ⟨b2, off2 + j * 4 + 1, none⟩ = some (.int .i64 n2) ∧ w'.cell? ⟨b2, off2 + j * 4 + 2, none⟩ = some (.string s2) ∧ w'.cell? ⟨b2, off2 + j * 4 + 3, none⟩ = some (.slice A2 m2 cap2))) ((exact K.out _ (by repeat' (first | (with_reducible exact Below.refl _ _) | (with_reducible refine Below.alloc ?_ ?_ _) | (with_reducible refine Below.setCell ?_ ?_ _) | (with_reducible refine Below.drew ?_) | (with_reducible refine below_dn ?_ _) | (with_reducible refine Below.trans ?_ (Below.mono (by assumption) ?_)) | (simp; done) | (simp; omega) | omega))))
          (first | (go_at_call 30; refine (CALL.out _ (HL1.out.below (by repeat' (first | (with_reducible exact Below.refl _ _) | (with_reducible refine Below.alloc ?_ ?_ _) | (with_reducible refine Below.setCell ?_ ?_ _) | (with_reducible refine Below.drew ?_) | (with_reducible refine below_dn ?_ _) | (with_reducible refine Below.trans ?_ (Below.mono (by assumption) ?_)) | (simp; done) | (simp; omega) | omega))) (HL2.out.below (by repeat' (first | (with_reducible exact Below.refl _ _) | (with_reducible refine Below.alloc ?_ ?_ _) | (with_reducible refine Below.setCell ?_ ?_ _) | (with_reducible refine Below.drew ?_) | (with_reducible refine below_dn ?_ _) | (with_reducible refine Below.trans ?_ (Below.mono (by assumption) ?_)) | (simp; done) | (simp; omega) | omega)))).mono ?_; rintro e w5 ⟨rfl, hb⟩; have hb5 : Below wr.heap.size wr w5 := (by repeat' (first | (with_reducible exact Below.refl _ _) | (with_reducible refine Below.alloc ?_ ?_ _) | (with_reducible refine Below.setCell ?_ ?_ _) | (with_reducible refine Below.drew ?_) | (with_reducible refine below_dn ?_ _) | (with_reducible refine Below.trans ?_ (Below.mono (by assumption) ?_)) | (simp; done) | (simp; omega) | omega)); have HB5 := hid hb5; clear hb))
      · go_wp2_with fail
        go_ret
        have e := HD2.out
        rw [Bool.false_and] at e
        exact Gives.mk (bool_eq e.symm) (HW.out.trans (HB5.out.mono (by omega)))
      · go_wp2_with fail
        go_roundw
        case rel =>
          have e := HD2.out
          rw [Bool.true_and] at e
          exact ⟨j + 1, by go_num, by omega, e, HB.out.trans (HB5.out.mono (by have := HB.out.size; omega))⟩
        case measure => simp [intOf]; omega
    · go_wp2_with fail
      go_ret
      have e := HD.out
      rw [List.drop_eq_nil_of_le (by omega), List.drop_eq_nil_of_le (by have := HM.out; omega)] at e
      exact Gives.mk (bool_eq e.symm) HW.out
set_option maxRecDepth 100000 in
set_option maxHeartbeats 1000000 in
theorem equal_diff (k n k' n' : Int) (s s' : ByteArray) (A A' : Option Addr) (m m' cap cap' : Nat) (h : ¬ (k = k' ∧ n = n' ∧ s = s' ∧ m = m')) (w : World) :
    Calls Try.prog 30 #[.agg #[.int .i64 k, .int .i64 n, .string s, .slice A m cap], .agg #[.int .i64 k', .int .i64 n', .string s', .slice A' m' cap']] w (Gives (.bool false) w) := by
  by_cases h1 : k = k'
  · subst h1
    by_cases h2 : n = n'
    · subst h2
      by_cases h3 : s = s'
      · subst h3
        have h4 : ((m : Int) != (m' : Int)) = true := by
          simp only [bne_iff_ne, ne_eq]
          intro e
          exact h ⟨rfl, rfl, rfl, by omega⟩
        clear h
        go_enter Try.func30, Try.ntmps30
        go_wp2_with fail
        go_ret
        exact Gives.mk rfl (by repeat' (first | (with_reducible exact Below.refl _ _) | (with_reducible refine Below.alloc ?_ ?_ _) | (with_reducible refine Below.setCell ?_ ?_ _) | (with_reducible refine Below.drew ?_) | (with_reducible refine Below.trans ?_ (Below.mono (by assumption) ?_)) | (simp; done) | (simp; omega) | omega))
      · have h6 : (s.toList == s'.toList) = false := by
          rw [ByteArray.toList_eq, ByteArray.toList_eq]
          simp only [beq_eq_false_iff_ne, ne_eq]
          intro e
          exact h3 (Go.WideShapes.bytes_inj e)
        have h7 : (s.toList != s'.toList) = true := by
          simp only [bne_iff_ne, ne_eq]
          simpa using h6
        clear h h3
        go_enter Try.func30, Try.ntmps30
        go_wp2_with fail
        go_ret
        exact Gives.mk rfl (by repeat' (first | (with_reducible exact Below.refl _ _) | (with_reducible refine Below.alloc ?_ ?_ _) | (with_reducible refine Below.setCell ?_ ?_ _) | (with_reducible refine Below.drew ?_) | (with_reducible refine Below.trans ?_ (Below.mono (by assumption) ?_)) | (simp; done) | (simp; omega) | omega))
    · have h4 : (n != n') = true := by simpa using h2
      clear h h2
      go_enter Try.func30, Try.ntmps30
      go_wp2_with fail
      go_ret
      exact Gives.mk rfl (by repeat' (first | (with_reducible exact Below.refl _ _) | (with_reducible refine Below.alloc ?_ ?_ _) | (with_reducible refine Below.setCell ?_ ?_ _) | (with_reducible refine Below.drew ?_) | (with_reducible refine Below.trans ?_ (Below.mono (by assumption) ?_)) | (simp; done) | (simp; omega) | omega))
  · have h4 : (k != k') = true := by simpa using h1
    clear h h1
    go_enter Try.func30, Try.ntmps30
    go_wp2_with fail
    go_ret
    exact Gives.mk rfl (by repeat' (first | (with_reducible exact Below.refl _ _) | (with_reducible refine Below.alloc ?_ ?_ _) | (with_reducible refine Below.setCell ?_ ?_ _) | (with_reducible refine Below.drew ?_) | (with_reducible refine Below.trans ?_ (Below.mono (by assumption) ?_)) | (simp; done) | (simp; omega) | omega))
theorem equal_any : ∀ (d e : Nat) {P Q : Nat → Prop} (t : Sp.Tr d) (u : Sp.Tr e) (v v' : Value) (w : World), Lies w P d t v → Lies w Q e u v' →
    Calls Try.prog 30 #[v, v'] w (Gives (.bool (Sp.eqT d e t u)) w)
  | 0, _, P, Q, t, u, v, v', w, h, _ => nomatch h
  | d + 1, 0, P, Q, t, u, v, v', w, _, h => nomatch h
  | d + 1, e + 1, P, Q, t, u, v, v', w, hL, hL' => by
    obtain ⟨s, A, cap, rfl, hs, ⟨_, _, _, m1, _⟩, hel⟩ := hL
    obtain ⟨s', A', cap', rfl, hs', _, hel'⟩ := hL'
    obtain ⟨k, n, x, l⟩ := t
    obtain ⟨k', n', x', l'⟩ := u
    simp only at hs hs' hel hel' m1 ⊢
    subst hs hs'
    by_cases h : k = k' ∧ n = n' ∧ s = s' ∧ l.length = l'.length
    · obtain ⟨rfl, rfl, rfl, hl⟩ := h
      have he : Sp.eqT (d + 1) (e + 1) ((k, n, s.data.toList, l) : Sp.Tr (d + 1)) ((k, n, s.data.toList, l') : Sp.Tr (e + 1)) = Sp.all2 (Sp.eqT d e) l l' := by simp [Sp.eqT]
      rw [he, ← hl]
      exact equal_list l l' hl m1 k n s A A' cap cap' w hel hel' (fun t u v v' W h1 h2 => equal_any d e t u v v' W h1 h2)
    · have he : Sp.eqT (d + 1) (e + 1) ((k, n, s.data.toList, l) : Sp.Tr (d + 1)) ((k', n', s'.data.toList, l') : Sp.Tr (e + 1)) = false := by
        rw [Bool.eq_false_iff]
        intro c
        simp only [Sp.eqT, Bool.and_eq_true, decide_eq_true_eq] at c
        exact h ⟨c.1.1.1, c.1.1.2, Go.WideShapes.bytes_inj c.1.2, Sp.all2_len c.2⟩
      rw [he]
      exact equal_diff k n k' n' s s' A A' _ _ cap cap' h w
end Go.Proofs.Ytcjhgihkofmhgaa
