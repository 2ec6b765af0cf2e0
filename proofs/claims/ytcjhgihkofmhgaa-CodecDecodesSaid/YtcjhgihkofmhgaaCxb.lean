/-
  Layer 6: data in memory; the check of a datum, by contract.
-/
import Derived.Test.YtcjhgihkofmhgaaCxa
namespace Go.Proofs.Ytcjhgihkofmhgaa
open Go.RowKit
set_option linter.unusedVariables false
set_option linter.unusedSimpArgs false

/-- A datum that lies in memory, in blocks of P. -/
def Lies (w : World) (P : Nat → Prop) : (d : Nat) → Sp.Tr d → Value → Prop
  | 0, _, _ => False
  | d + 1, t, v => ∃ (s : ByteArray) (A : Option Addr) (cap : Nat), v = .agg #[.int .i64 t.1, .int .i64 t.2.1, .string s, .slice A t.2.2.2.length cap] ∧ s.data.toList = t.2.2.1 ∧
      ((-9223372036854775808 ≤ t.1 ∧ t.1 ≤ 9223372036854775807) ∧ (-9223372036854775808 ≤ t.2.1 ∧ t.2.1 ≤ 9223372036854775807) ∧ s.size ≤ 140737488355328 ∧ t.2.2.2.length ≤ 140737488355328 ∧ t.2.2.2.length ≤ cap) ∧
      (0 < t.2.2.2.length → ∃ b off, A = some ⟨b, off, none⟩ ∧ P b ∧ ∀ j, (hj : j < t.2.2.2.length) → ∃ c0 c1 c2 c3 : Value,
        w.cell? ⟨b, off + j * 4, none⟩ = some c0 ∧ w.cell? ⟨b, off + j * 4 + 1, none⟩ = some c1 ∧ w.cell? ⟨b, off + j * 4 + 2, none⟩ = some c2 ∧ w.cell? ⟨b, off + j * 4 + 3, none⟩ = some c3 ∧
        Lies w P d (t.2.2.2[j]) (.agg #[c0, c1, c2, c3]))
theorem Lies.keep {w w' : World} {P Q : Nat → Prop} (hk : ∀ b, P b → b < w.heap.size → Q b ∧ w'.heap[b]? = w.heap[b]?) : ∀ {d : Nat} {t : Sp.Tr d} {v : Value}, Lies w P d t v → Lies w' Q d t v
  | 0, t, v, h => h
  | d + 1, t, v, h => by
    obtain ⟨s, A, cap, hv, hs, hb, hel⟩ := h
    refine ⟨s, A, cap, hv, hs, hb, fun h0 => ?_⟩
    obtain ⟨b, off, hA, hP, hc⟩ := hel h0
    have hlt : b < w.heap.size := by
      obtain ⟨c0, _, _, _, h1, _⟩ := hc 0 h0
      exact World.block_lt_of_cell? w _ h1
    obtain ⟨hQ, hh⟩ := hk b hP hlt
    refine ⟨b, off, hA, hQ, fun j hj => ?_⟩
    obtain ⟨c0, c1, c2, c3, h1, h2, h3, h4, h5⟩ := hc j hj
    exact ⟨c0, c1, c2, c3, (World.cell?_of_block (a := ⟨b, off + j * 4, none⟩) hh).trans h1, (World.cell?_of_block (a := ⟨b, off + j * 4 + 1, none⟩) hh).trans h2,
      (World.cell?_of_block (a := ⟨b, off + j * 4 + 2, none⟩) hh).trans h3, (World.cell?_of_block (a := ⟨b, off + j * 4 + 3, none⟩) hh).trans h4, h5.keep hk⟩
theorem Lies.weak {w : World} {P Q : Nat → Prop} {d : Nat} {t : Sp.Tr d} {v : Value} (h : Lies w P d t v) (hk : ∀ b, P b → b < w.heap.size → Q b) : Lies w Q d t v := h.keep fun b hb hl => ⟨hk b hb hl, rfl⟩
theorem Lies.below {w w' : World} {P : Nat → Prop} {d : Nat} {t : Sp.Tr d} {v : Value} (h : Lies w P d t v) (hb : Below w.heap.size w w') : Lies w' P d t v := h.keep fun b hP hl => ⟨hP, hb.block b hl⟩
theorem Lies.ow {w w' : World} {P : Nat → Prop} {r r' : Option Nat} {d : Nat} {t : Sp.Tr d} {v : Value} (h : Lies w P d t v) (hO : Ow w w' r r') (hr : ∀ b, P b → some b ≠ r) : Lies w' P d t v := h.keep fun b hP hl => ⟨hP, hO.block hl (hr b hP)⟩
/-- A box of two ints. -/
structure LB (w : World) (g : Nat) (x y : Int) : Prop where
  lt : g < w.heap.size
  c0 : w.cell? ⟨g, 0, none⟩ = some (.int .i64 x)
  c1 : w.cell? ⟨g, 1, none⟩ = some (.int .i64 y)
  fr : ∀ o, w.frozen? ⟨g, o, none⟩ = false
theorem LB.below {w w' : World} {g : Nat} {x y : Int} (h : LB w g x y) (hb : Below w.heap.size w w') : LB w' g x y :=
  ⟨Nat.lt_of_lt_of_le h.lt hb.size, (hb.cell (p := ⟨g, 0, none⟩) h.lt).trans h.c0, (hb.cell (p := ⟨g, 1, none⟩) h.lt).trans h.c1, fun o => (hb.frozen (p := ⟨g, o, none⟩) h.lt).trans (h.fr o)⟩
theorem Ow.setCell {w w1 : World} {g : Nat} {r : Option Nat} (h : Ow w w1 r (some g)) (p : Addr) (hp : p.block = g) (u : Value) : Ow w (w1.setCell p u) r (some g) :=
  h.trans ⟨⟨rfl, rfl, rfl, by simp, fun k hk hne => Below.heap_setCell w1 p u k (fun e => hne (by rw [e, hp]))⟩, .inl rfl⟩
def PostC (w : World) (g : Nat) (R : Int × Nat × Nat) (e : Ending) (w' : World) : Prop :=
  e = .returned (.int .i64 R.1) ∧ LB w' g (R.2.1 : Int) (R.2.2 : Int) ∧ Ow w w' (some g) (some g) ∧ (R.1 = 0 → R.2.1 ≤ 500 ∧ R.2.2 ≤ R.2.1 * 281474976710656)
theorem form_dec {d : Nat} {t : Sp.Tr (d + 1)} : Sp.form t ↔ ((t.1 = 1 ∨ t.2.1 = 0) ∧ (t.1 = 2 ∨ t.2.2.1 = []) ∧ (t.1 = 3 ∨ t.2.2.2.length = 0)) := by
  unfold Sp.form
  rw [List.length_eq_zero_iff]
set_option maxRecDepth 100000 in
set_option maxHeartbeats 1000000 in
theorem cdatum_kind (k n : Int) (s : ByteArray) (A : Option Addr) (m cap : Nat) (i : Nat) (c z : Int) (g : Nat) (hk : ¬ ((1 : Int) ≤ k ∧ k ≤ 3)) (w : World) (hB : LB w g c z) :
    Calls Try.prog 44 #[.pointer (some ⟨g, 0, none⟩), .agg #[.int .i64 k, .int .i64 n, .string s, .slice A m cap], .int .i64 (i : Int)] w (Gives (.int .i64 1) w) := by
  have ik := fun w => isKind_any k w
  rw [decide_eq_false hk] at ik
  clear hk
  go_enter Try.func44, Try.ntmps44
  go_wp2_with (go_at_call 50; refine (ik _).mono ?_; rintro e w' ⟨rfl, rfl⟩)
  go_ret
  exact Gives.mk rfl (by repeat' (first | (with_reducible exact Below.refl _ _) | (with_reducible refine Below.alloc ?_ ?_ _) | (with_reducible refine Below.setCell ?_ ?_ _) | (with_reducible refine Below.drew ?_) | (with_reducible refine Below.trans ?_ (Below.mono (by assumption) ?_)) | (simp; done) | (simp; omega) | omega))
set_option maxRecDepth 100000 in
set_option maxHeartbeats 1000000 in
theorem cdatum_form (k n : Int) (s : ByteArray) (A : Option Addr) (m cap : Nat) (i : Nat) (c z : Int) (g : Nat) (hk : (1 : Int) ≤ k ∧ k ≤ 3) (hf : ¬ ((k = 1 ∨ n = 0) ∧ (k = 2 ∨ s.data.toList = []) ∧ (k = 3 ∨ m = 0))) (w : World) (hB : LB w g c z) :
    Calls Try.prog 44 #[.pointer (some ⟨g, 0, none⟩), .agg #[.int .i64 k, .int .i64 n, .string s, .slice A m cap], .int .i64 (i : Int)] w (Gives (.int .i64 3) w) := by
  have ik := fun w => isKind_any k w
  rw [decide_eq_true hk] at ik
  have uo := fun w => usesOnly_any k n s A m cap w
  rw [decide_eq_false hf] at uo
  clear hk hf
  go_enter Try.func44, Try.ntmps44
  go_wp2_with (first | (go_at_call 50; refine (ik _).mono ?_; rintro e w' ⟨rfl, rfl⟩) | (go_at_call 51; refine (uo _).mono ?_; rintro e w' ⟨rfl, hb⟩))
  go_ret
  exact Gives.mk rfl (by repeat' (first | (with_reducible exact Below.refl _ _) | (with_reducible refine Below.alloc ?_ ?_ _) | (with_reducible refine Below.setCell ?_ ?_ _) | (with_reducible refine Below.drew ?_) | (with_reducible refine Below.trans ?_ (Below.mono (by assumption) ?_)) | (simp; done) | (simp; omega) | omega))
theorem LB.set0 {w : World} {g : Nat} {x y : Int} (h : LB w g x y) (x' : Int) : LB (w.setCell ⟨g, 0, none⟩ (.int .i64 x')) g x' y :=
  ⟨by simpa using h.lt, World.cell?_setCell_same' _ _ _ (by rw [h.c0]; rfl), (World.cell?_setCell_other w _ _ _ (by simp)).trans h.c1, fun o => by rw [World.frozen?_setCell]; exact h.fr o⟩
theorem LB.set1 {w : World} {g : Nat} {x y : Int} (h : LB w g x y) (y' : Int) : LB (w.setCell ⟨g, 1, none⟩ (.int .i64 y')) g x y' :=
  ⟨by simpa using h.lt, (World.cell?_setCell_other w _ _ _ (by simp)).trans h.c0, World.cell?_setCell_same' _ _ _ (by rw [h.c1]; rfl), fun o => by rw [World.frozen?_setCell]; exact h.fr o⟩
theorem Ow.of_below {w w1 : World} (h : Below w.heap.size w w1) (r : Option Nat) : Ow w w1 r r := ⟨grown_of_below h r, .inl rfl⟩
set_option maxRecDepth 100000 in
set_option maxHeartbeats 1000000 in
theorem cdatum_limit (k n : Int) (s : ByteArray) (A : Option Addr) (m cap : Nat) (i c : Nat) (z : Int) (g : Nat) (hk : (1 : Int) ≤ k ∧ k ≤ 3) (hf : (k = 1 ∨ n = 0) ∧ (k = 2 ∨ s.data.toList = []) ∧ (k = 3 ∨ m = 0)) (hl : 7 < i ∨ 500 < c + 1) (hc : c ≤ 500) (w : World) (hB : LB w g c z) :
    Calls Try.prog 44 #[.pointer (some ⟨g, 0, none⟩), .agg #[.int .i64 k, .int .i64 n, .string s, .slice A m cap], .int .i64 (i : Int)] w (fun e w' => e = .returned (.int .i64 8) ∧ LB w' g ((c + 1 : Nat) : Int) z ∧ Ow w w' (some g) (some g)) := by
  have ik := fun w => isKind_any k w
  rw [decide_eq_true hk] at ik
  have uo := fun w => usesOnly_any k n s A m cap w
  rw [decide_eq_true hf] at uo
  have be := fun w => beyond_any i (c + 1) w
  rw [decide_eq_true hl] at be
  have ec : ((c + 1 : Nat) : Int) = (c : Int) + 1 := by omega
  rw [ec] at be ⊢
  clear hk hf hl ec
  go_enter Try.func44, Try.ntmps44
  go_wp2_with (first | (go_at_call 50; refine (ik _).mono ?_; rintro e w' ⟨rfl, rfl⟩) | (go_at_call 51; refine (uo _).mono ?_; rintro e w1 ⟨rfl, hb⟩; have hW : Below w.heap.size w w1 := (by repeat' (first | (with_reducible exact Below.refl _ _) | (with_reducible refine Below.alloc ?_ ?_ _) | (with_reducible refine Below.setCell ?_ ?_ _) | (with_reducible refine Below.drew ?_) | (with_reducible refine Below.trans ?_ (Below.mono (by assumption) ?_)) | (simp; done) | (simp; omega) | omega)); have L1 := hB.below hW; have x0 := L1.c0; have fr := L1.fr; have lt1 := L1.lt; have HW := hid hW; have HL := hid L1; clear hb hW L1) | (go_at_call 52; refine (be _).mono ?_; rintro e w' ⟨rfl, rfl⟩))
  go_ret
  exact ⟨rfl, HL.out.set0 _, (Ow.of_below HW.out _).setCell _ rfl _⟩
end Go.Proofs.Ytcjhgihkofmhgaa
