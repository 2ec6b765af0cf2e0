/-
  Layer 6: CodecDecodes, the walk.
-/
import Derived.Test.YtcjhgihkofmhgaaCza
import Derived.Test.YtcjhgihkofmhgaaCzc
import Derived.Test.YtcjhgihkofmhgaaCri
namespace Go.Proofs.Ytcjhgihkofmhgaa
open Go.RowKit
attribute [local go_sem ↓] Go.wp_at_zero Go.wp_at_succ
set_option linter.unusedVariables false
set_option linter.unusedSimpArgs false

theorem Sp.all2_refl {α : Type} {f : α → α → Bool} : ∀ l : List α, (∀ a, a ∈ l → f a a = true) → Sp.all2 f l l = true
  | [], _ => rfl
  | a :: l, hf => by simp only [Sp.all2, hf a (by simp), Sp.all2_refl l (fun b hb => hf b (by simp [hb])), Bool.and_self]
theorem Lies.refl {w : World} {P : Nat → Prop} : ∀ {d : Nat} {t : Sp.Tr d} {v : Value}, Lies w P d t v → Sp.eqT d d t t = true
  | 0, _, _, h => nomatch h
  | d + 1, t, v, h => by
    obtain ⟨s, A, cap, _, _, _, hel⟩ := h
    unfold Sp.eqT
    have h2 : Sp.all2 (Sp.eqT d d) t.2.2.2 t.2.2.2 = true := Sp.all2_refl _ fun u hu => by
      obtain ⟨j, hj, rfl⟩ := List.getElem_of_mem hu
      obtain ⟨b, off, _, _, hc⟩ := hel (by omega)
      obtain ⟨c0, c1, c2, c3, _, _, _, _, hL⟩ := hc j hj
      exact hL.refl
    simp [h2]
/-- What both decoding calls leave. -/
def PostM (t : Sp.Tr 8) (er : Int) (w : World) (e : Ending) (w' : World) : Prop :=
  Below w.heap.size w w' ∧ ∃ (k n : Int) (s : ByteArray) (A : Option Addr) (m cap : Nat), e = .returned (.tuple #[.agg #[.int .i64 k, .int .i64 n, .string s, .slice A m cap], .int .i64 er]) ∧ Lies w' (fun _ => True) 8 t (.agg #[.int .i64 k, .int .i64 n, .string s, .slice A m cap])
theorem lies_zero (w : World) : Lies w (fun _ => True) 8 ((0, 0, [], []) : Int × Int × List UInt8 × List (Sp.Tr 7)) (.agg #[.int .i64 0, .int .i64 0, .string ⟨#[]⟩, .slice none 0 0]) :=
  ⟨⟨#[]⟩, none, 0, rfl, rfl, ⟨⟨by first | decide | simp, by first | decide | simp⟩, ⟨by first | decide | simp, by first | decide | simp⟩, by first | decide | simp, by first | decide | simp, by first | decide | simp⟩, fun h0 => absurd h0 (by simp)⟩
theorem PostE.both (R : Sum Int (Sp.Tr 8)) : ∃ (t : Sp.Tr 8) (er : Int), ∀ (w w' : World) (e : Ending), PostE w R e w' → PostM t er w e w' := by
  rcases R with er | t
  · refine ⟨((0, 0, [], []) : Int × Int × List UInt8 × List (Sp.Tr 7)), er, fun w w' e h => ⟨h.1, 0, 0, ⟨#[]⟩, none, 0, 0, h.2.2, lies_zero w'⟩⟩
  · refine ⟨t, 0, fun w w' e h => ?_⟩
    obtain ⟨hb, v, he, hL⟩ := h
    obtain ⟨k, n, z, A, m, cap, rfl⟩ := hL.form
    exact ⟨hb, k, n, z, A, m, cap, he, hL.weak (fun _ _ _ => trivial)⟩
set_option maxRecDepth 100000 in
set_option maxHeartbeats 4000000 in
theorem decs_as (A : Option Addr) (ca : Nat) (L : List UInt8) (w : World) (hca : L.length ≤ ca) (hma : ca ≤ 9223372036854775807) (SL : Bs w w.heap.size A L) :
    Calls Try.prog 5 #[.slice A L.length ca] w (Gives (.bool true) w) := by
  by_cases c : (5000 : Int) < (L.length : Int)
  · clear hca hma SL
    go_enter Try.func5, Try.ntmps5
    go_wp2_with (go_at_call 11; refine (awake_any _).mono ?_; rintro e w1 ⟨rfl, hb⟩)
    go_ret
    exact Gives.mk rfl hb
  · obtain ⟨t, er, hM⟩ := PostE.both (Sp.decS L)
    have dc : Calls Try.prog 28 #[.slice A L.length ca] w (PostM t er w) := (decode_any L A ca hca w SL).mono fun e w' h => hM _ _ _ h
    have HL := hid SL
    have HRD : Hid (∀ W, Below w.heap.size w W → Calls Try.prog 29 #[.slice A L.length ca] W (PostM t er W)) := hid fun W hW => (rdecode_any L A ca hca W ((SL.below hW).own)).mono fun e w' h => hM _ _ _ h
    clear hca hma SL hM
    go_enter Try.func5, Try.ntmps5
    go_wp2_with fail
    refine dc.mono ?_
    rintro _ u1 ⟨hb, k, n, z, A1, m, cap, rfl, hL1⟩
    have B1 := hid hb
    have L1 := hid hL1
    clear hb hL1 dc
    go_wp2_with fail
    have LU := hid (L1.out.below ((Below.refl _ _).alloc (Nat.le_refl _) (Obj.cells #[.int .i64 k, .int .i64 n, .string z, .slice A1 m cap] 34)))
    have BU := hid (B1.out.alloc (by have := B1.out.size; omega) (Obj.cells #[.int .i64 k, .int .i64 n, .string z, .slice A1 m cap] 34))
    refine (HRD.out _ BU.out).mono ?_
    rintro _ u2 ⟨hb, k2, n2, z2, A2, m2, cap2, rfl, hL2⟩
    have yz : u1.heap.size < (u2).heap.size := Nat.lt_of_lt_of_le (show u1.heap.size < _ from (by first | assumption | (simp; done) | (simp; omega) | (dsimp only; omega) | omega)) hb.size; have y0 : (u2).cell? ⟨u1.heap.size, 0, none⟩ = some (.int .i64 (k)) := (hb.cell (p := ⟨u1.heap.size, 0, none⟩) (by first | assumption | (simp; done) | (simp; omega) | (dsimp only; omega) | omega)).trans (by first | assumption | (simp [go_sem]; done) | (simp [go_sem, *]; done)); have y1 : (u2).cell? ⟨u1.heap.size, 1, none⟩ = some (.int .i64 (n)) := (hb.cell (p := ⟨u1.heap.size, 1, none⟩) (by first | assumption | (simp; done) | (simp; omega) | (dsimp only; omega) | omega)).trans (by first | assumption | (simp [go_sem]; done) | (simp [go_sem, *]; done)); have y2 : (u2).cell? ⟨u1.heap.size, 2, none⟩ = some (.string (z)) := (hb.cell (p := ⟨u1.heap.size, 2, none⟩) (by first | assumption | (simp; done) | (simp; omega) | (dsimp only; omega) | omega)).trans (by first | assumption | (simp [go_sem]; done) | (simp [go_sem, *]; done)); have y3 : (u2).cell? ⟨u1.heap.size, 3, none⟩ = some (.slice (A1) (m) (cap)) := (hb.cell (p := ⟨u1.heap.size, 3, none⟩) (by first | assumption | (simp; done) | (simp; omega) | (dsimp only; omega) | omega)).trans (by first | assumption | (simp [go_sem]; done) | (simp [go_sem, *]; done))
    have BU2 := hid (BU.out.trans (hb.mono BU.out.size))
    have LU2 := hid (LU.out.below hb)
    have L2 := hid hL2
    clear hb hL2
    go_wp2_with fail
    have eq := equal_any 8 8 t t _ _ _ (LU2.out.below ((Below.refl _ _).alloc (Nat.le_refl _) (Obj.cells #[.int .i64 k2, .int .i64 n2, .string z2, .slice A2 m2 cap2] 34))) (L2.out.below ((Below.refl _ _).alloc (Nat.le_refl _) (Obj.cells #[.int .i64 k2, .int .i64 n2, .string z2, .slice A2 m2 cap2] 34)))
    rw [L2.out.refl] at eq
    refine eq.mono ?_
    rintro _ u3 ⟨rfl, hb⟩
    have BV := hid (BU2.out.alloc (by have := BU2.out.size; omega) (Obj.cells #[.int .i64 k2, .int .i64 n2, .string z2, .slice A2 m2 cap2] 34))
    have BU3 := hid (BV.out.trans (hb.mono BV.out.size))
    clear hb eq yz y0 y1 y2 y3
    go_wp2_with (go_at_call 11; refine (awake_any _).mono ?_; rintro e u5 ⟨rfl, hb⟩)
    go_ret
    exact Gives.mk rfl (BU3.out.trans (hb.mono BU3.out.size))
end Go.Proofs.Ytcjhgihkofmhgaa
