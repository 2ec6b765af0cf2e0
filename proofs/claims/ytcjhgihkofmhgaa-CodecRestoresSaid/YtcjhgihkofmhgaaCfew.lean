/-
  Layer 6: Few of the reference, by contract: it answers.
-/
import Derived.Test.YtcjhgihkofmhgaaCxg
namespace Go.Proofs.Ytcjhgihkofmhgaa
open Go.RowKit
set_option linter.unusedVariables false
set_option linter.unusedSimpArgs false

def PostK (w : World) (n : Nat) (e : Ending) (w' : World) : Prop := ∃ k : Nat, e = .returned (.int .i64 (k : Int)) ∧ 1 ≤ k ∧ k ≤ n + 1 ∧ Below w.heap.size w w'
def CntL {α : Type} (l : List α) (n : Nat) (U : World) (s t : Value) (wr : World) : Prop :=
  ∃ k j : Nat, s = .int .i64 (k : Int) ∧ t = .int .i64 (j : Int) ∧ j ≤ l.length ∧ 1 ≤ k ∧ k ≤ n + 1 ∧ Below U.heap.size U wr
theorem cnt_in (n : Int) (h : -9223372036854775808 ≤ n ∧ n ≤ 9223372036854775807) : wrap64 n = n := by unfold wrap64; omega
set_option maxRecDepth 100000 in
set_option maxHeartbeats 4000000 in
theorem count_list {d : Nat} {P : Nat → Prop} (l : List (Sp.Tr d)) (hl : l.length ≤ 140737488355328) (k0 n0 : Int) (s : ByteArray) (A : Option Addr) (ca : Nat) (n : Nat) (hn : n ≤ 600) (w : World) (hE : Els w P l A)
    (ih : ∀ (t : Sp.Tr d) (v : Value) (m : Nat) (W : World), m ≤ 600 → Lies W P d t v → Calls Try.prog 41 #[v, .int .i64 (m : Int)] W (PostK W m)) :
    Calls Try.prog 41 #[.agg #[.int .i64 k0, .int .i64 n0, .string s, .slice A l.length ca], .int .i64 (n : Int)] w (PostK w n) := by
  have HE := hid hE
  have IH := hid ih
  obtain ⟨U, hU⟩ : ∃ U : World, w.alloc (Obj.cells #[.int .i64 k0, .int .i64 n0, .string s, .slice A l.length ca] 34) = U := ⟨_, rfl⟩
  have BU : Below w.heap.size w U := by rw [← hU]; exact (Below.refl w.heap.size w).alloc (Nat.le_refl _) _
  have zU : U.heap.size = w.heap.size + 1 := by rw [← hU]; simp
  have b3 : U.cell? ⟨w.heap.size, 3, none⟩ = some (.slice A l.length ca) := by rw [← hU]; simp [go_sem]
  have HBU := hid BU
  have HZ := hid zU
  have hb3 := hid b3
  have HU := hid hU
  clear hE ih BU zU b3 hU
  go_enter Try.func41, Try.ntmps41
  go_wp2_with fail
  rw [HU.out]
  go_loopw [5, 6] (fun s t wr => CntL l n U s t wr) (fun _ t _ => l.length - (intOf t).toNat)
  case atStart => exact ⟨1, 0, rfl, rfl, Nat.zero_le _, Nat.le_refl _, by omega, Below.refl _ _⟩
  case round =>
    obtain ⟨k, j, rfl, rfl, hj, k1, k2, hB⟩ := hrel
    have HB := hid hB
    have hsz : w.heap.size + 1 ≤ wr.heap.size := by have := hB.size; have := HZ.out; omega
    have x3 : wr.cell? ⟨w.heap.size, 3, none⟩ = some (.slice A l.length ca) := (hB.cell (p := ⟨w.heap.size, 3, none⟩) (by have := HZ.out; simp; omega)).trans hb3.out
    have HW := hid (HBU.out.trans (hB.mono (by have := HZ.out; omega)))
    have HK := hid (show 1 ≤ k ∧ k ≤ n + 1 ∧ n ≤ 600 from ⟨k1, k2, hn⟩)
    clear hB k1 k2 hn
    by_cases hlt : j < l.length
    · by_cases hk : k ≤ n
      · obtain ⟨b, off, q, m, s1, A1, m1, cap1, rfl, bl, q0, q1, q2, q3, hL1⟩ := HE.out.at_ HW.out hlt
        have HL1 := hid hL1
        have CALL := hid (fun (W : World) a1 => IH.out (l[j]'hlt) (.agg #[.int .i64 q, .int .i64 m, .string s1, .slice A1 m1 cap1]) (n - k) W (by have := HK.out; omega) a1)
        have e1 : ((n - k : Nat) : Int) = (n : Int) - (k : Int) := by omega
        rw [e1] at CALL
        have e2 : wrap64 ((n : Int) - (k : Int)) = (n : Int) - (k : Int) := cnt_in _ (by have := HK.out; omega)
        have i0 : (0 : Int) ≤ (j : Int) := by omega
        have i1 : (j : Int) < (l.length : Int) := by omega
        have i2 : (k : Int) ≤ (n : Int) := by omega
        have HJ := hid hlt
        clear hL1 e1 hk hj
        go_wp2_with fail
        refine (CALL.out _ (HL1.out.below (by repeat' (first | (with_reducible exact Below.refl _ _) | (with_reducible refine Below.alloc ?_ ?_ _) | (with_reducible refine Below.setCell ?_ ?_ _) | (with_reducible refine Below.drew ?_) | (with_reducible refine below_dn ?_ _) | (with_reducible refine Below.trans ?_ (Below.mono (by assumption) ?_)) | (simp; done) | (simp; omega) | omega)))).mono ?_
        rintro _ w5 ⟨k2, rfl, g1, g2, hb⟩
        have HB5 := hid hb
        have HG := hid (show 1 ≤ k2 ∧ k2 ≤ n - k + 1 from ⟨g1, g2⟩)
        have e3 : wrap64 ((k : Int) + (k2 : Int)) = (k : Int) + (k2 : Int) := cnt_in _ (by have := HK.out; omega)
        have e4 : wrap64 ((j : Int) + 1) = (j : Int) + 1 := cnt_in _ (by have := HJ.out; omega)
        clear hb g1 g2 e2
        go_wp2_with fail
        go_roundw
        case rel => exact ⟨k + k2, j + 1, by go_num, by go_num, by have := HJ.out; omega, by have := HK.out; omega, by have := HK.out; have := HG.out; omega, HB.out.trans (HB5.out.mono (by have := HB.out.size; omega))⟩
        case measure => have := HJ.out; simp [intOf]; omega
      · have i1 : (j : Int) < (l.length : Int) := by omega
        have i2 : ¬ (k : Int) ≤ (n : Int) := by omega
        go_wp2_with fail
        go_ret
        have := HK.out
        exact ⟨k, rfl, this.1, this.2.1, HW.out⟩
    · have i1 : ¬ (j : Int) < (l.length : Int) := by omega
      go_wp2_with fail
      go_ret
      have := HK.out
      exact ⟨k, rfl, this.1, this.2.1, HW.out⟩
theorem count_any : ∀ (d : Nat) {P : Nat → Prop} (t : Sp.Tr d) (v : Value) (n : Nat) (w : World), n ≤ 600 → Lies w P d t v →
    Calls Try.prog 41 #[v, .int .i64 (n : Int)] w (PostK w n)
  | 0, P, t, v, n, w, _, h => nomatch h
  | d + 1, P, t, v, n, w, hn, hL => by
    obtain ⟨s, A, cap, rfl, hs, ⟨_, _, _, m1, _⟩, hel⟩ := hL
    obtain ⟨k, m, x, l⟩ := t
    simp only at hs hel m1 ⊢
    exact count_list l m1 k m s A cap n hn w hel (fun t v m W h1 h2 => count_any d t v m W h1 h2)
set_option maxRecDepth 100000 in
set_option maxHeartbeats 1000000 in
theorem few_any (d : Nat) {P : Nat → Prop} (t : Sp.Tr d) (v : Value) (w : World) (hL : Lies w P d t v) :
    Calls Try.prog 21 #[v, .int .i64 600] w fun e w' => ∃ b : Bool, e = .returned (.bool b) ∧ Below w.heap.size w w' := by
  obtain ⟨k, n, s, A, m, cap, rfl⟩ := hL.form
  have ct := fun W (hW : Lies W P d t (.agg #[.int .i64 k, .int .i64 n, .string s, .slice A m cap])) => count_any d t (.agg #[.int .i64 k, .int .i64 n, .string s, .slice A m cap]) 600 W (Nat.le_refl _) hW
  simp only [show ((600 : Nat) : Int) = 600 from rfl] at ct
  have CT := hid ct
  have HL := hid (hL.below ((Below.refl _ _).alloc (Nat.le_refl _) (Obj.cells #[.int .i64 k, .int .i64 n, .string s, .slice A m cap] 34)))
  clear ct hL
  go_enter Try.func21, Try.ntmps21
  go_wp2_with fail
  refine (CT.out _ HL.out).mono ?_
  rintro _ w5 ⟨k2, rfl, g1, g2, hb⟩
  by_cases c : (k2 : Int) ≤ 600
  · go_wp2_with fail
    go_ret
    exact ⟨_, rfl, ((Below.refl _ _).alloc (Nat.le_refl _) _).trans (hb.mono (by simp))⟩
  · go_wp2_with fail
    go_ret
    exact ⟨_, rfl, ((Below.refl _ _).alloc (Nat.le_refl _) _).trans (hb.mono (by simp))⟩
end Go.Proofs.Ytcjhgihkofmhgaa
