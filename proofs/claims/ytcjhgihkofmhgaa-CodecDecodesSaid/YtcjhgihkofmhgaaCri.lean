/-
  Layer 6: the reference's Decode, by contract.
-/
import Derived.Test.YtcjhgihkofmhgaaCrh
namespace Go.Proofs.Ytcjhgihkofmhgaa
open Go.RowKit
set_option linter.unusedVariables false
set_option linter.unusedSimpArgs false

set_option maxRecDepth 100000 in
set_option maxHeartbeats 1000000 in
theorem rdecode_long (L : List UInt8) (A : Option Addr) (cap : Nat) (h : 4000 < L.length) (w : World) :
    Calls Try.prog 29 #[.slice A L.length cap] w (Gives (.tuple #[.agg #[.int .i64 0, .int .i64 0, .string ⟨#[]⟩, .slice none 0 0], .int .i64 8]) w) := by
  have h0 := h
  go_enter Try.func29, Try.ntmps29
  go_wp2_with fail
  refine bodyPost_ret (v := .tuple #[.agg #[.int .i64 0, .int .i64 0, .string ⟨#[]⟩, .slice none 0 0], .int .i64 8]) (by simp [results, Try.results29, go_sem, h0]) rfl ?_
  exact Gives.mk rfl (by repeat' (first | (with_reducible exact Below.refl _ _) | (with_reducible refine Below.alloc ?_ ?_ _) | (with_reducible refine Below.setCell ?_ ?_ _) | (with_reducible refine Below.drew ?_) | (with_reducible refine below_dn ?_ _) | (with_reducible refine Below.trans ?_ (Below.mono (by assumption) ?_)) | (simp; done) | (simp; omega) | omega))
theorem rrb_new (w : World) (A : Option Addr) (len cap : Nat) (o : Obj) : RB ((w.alloc o).alloc (.cells #[.slice A len cap, .int .i64 0, .int .i64 0] 71)) (w.heap.size + 1) A len cap 0 0 :=
  ⟨by simp, by simp [go_sem], by simp [go_sem], by simp [go_sem], fun o => by simp [go_sem]⟩
set_option maxRecDepth 100000 in
set_option maxHeartbeats 2000000 in
theorem rdecode_bad (L : List UInt8) (A : Option Addr) (cap : Nat) (h : L.length ≤ 4000) (er : Int) (e0 : er ≠ 0) (w : World)
    (rd : ∀ W, RB W (w.heap.size + 1) A L.length cap 0 0 → Below w.heap.size w W → Calls Try.prog 48 #[.pointer (some ⟨w.heap.size + 1, 0, none⟩), .int .i64 0] W (fun e w' => (∃ (k n : Int) (s : ByteArray) (A' : Option Addr) (m cap' : Nat), e = .returned (.tuple #[.agg #[.int .i64 k, .int .i64 n, .string s, .slice A' m cap'], .int .i64 er])) ∧ Ow W w' (some (w.heap.size + 1)) (some (w.heap.size + 1)))) :
    Calls Try.prog 29 #[.slice A L.length cap] w (Gives (.tuple #[.agg #[.int .i64 0, .int .i64 0, .string ⟨#[]⟩, .slice none 0 0], .int .i64 er]) w) := by
  have RD := hid rd
  have e2 : (er != 0) = true := by simpa using e0
  clear rd e0
  go_enter Try.func29, Try.ntmps29
  go_wp2_with fail
  refine (RD.out _ (rrb_new w A L.length cap _) (by repeat' (first | (with_reducible exact Below.refl _ _) | (with_reducible refine Below.alloc ?_ ?_ _) | (with_reducible refine Below.setCell ?_ ?_ _) | (with_reducible refine Below.drew ?_) | (with_reducible refine below_dn ?_ _) | (with_reducible refine Below.trans ?_ (Below.mono (by assumption) ?_)) | (simp; done) | (simp; omega) | omega))).mono ?_
  rintro e w7 ⟨⟨k, n, z, A', m, cap', rfl⟩, hO⟩
  have z0 : w7.cell? ⟨w.heap.size, 0, none⟩ = some (.int .i64 0) := (hO.cell (a := ⟨w.heap.size, 0, none⟩) (by simp; omega) (by simp)).trans (by simp [go_sem])
  have z1 : w7.cell? ⟨w.heap.size, 1, none⟩ = some (.int .i64 0) := (hO.cell (a := ⟨w.heap.size, 1, none⟩) (by simp; omega) (by simp)).trans (by simp [go_sem])
  have z2 : w7.cell? ⟨w.heap.size, 2, none⟩ = some (.string ⟨#[]⟩) := (hO.cell (a := ⟨w.heap.size, 2, none⟩) (by simp; omega) (by simp)).trans (by simp [go_sem])
  have z3 : w7.cell? ⟨w.heap.size, 3, none⟩ = some (.slice none 0 0) := (hO.cell (a := ⟨w.heap.size, 3, none⟩) (by simp; omega) (by simp)).trans (by simp [go_sem])
  have zf : ∀ o, w7.frozen? ⟨w.heap.size, o, none⟩ = false := fun o => (hO.frozen (a := ⟨w.heap.size, o, none⟩) (by simp; omega) (by simp)).trans (by simp [go_sem])
  have zl : w.heap.size < w7.heap.size := Nat.lt_of_lt_of_le (by simp; omega) hO.size
  have hW : Below w.heap.size w w7 := Below.trans (by repeat' (first | (with_reducible exact Below.refl _ _) | (with_reducible refine Below.alloc ?_ ?_ _) | (with_reducible refine Below.setCell ?_ ?_ _) | (with_reducible refine Below.drew ?_) | (with_reducible refine below_dn ?_ _) | (with_reducible refine Below.trans ?_ (Below.mono (by assumption) ?_)) | (simp; done) | (simp; omega) | omega)) (hO.under (B := w.heap.size) (by simp; omega) (fun g' hg' => by injection hg' with hg'; omega))
  have HW := hid hW
  clear hO hW
  go_wp2_with fail
  have ne : ¬ w.heap.size = w7.heap.size := by omega
  refine bodyPost_ret (v := .tuple #[.agg #[.int .i64 0, .int .i64 0, .string ⟨#[]⟩, .slice none 0 0], .int .i64 er]) (by simp [results, Try.results29, go_sem, z0, z1, z2, z3, zf, zl, ne]) rfl ?_
  have hw := HW.out
  exact Gives.mk rfl (by repeat' (first | (with_reducible exact Below.refl _ _) | (with_reducible refine Below.alloc ?_ ?_ _) | (with_reducible refine Below.setCell ?_ ?_ _) | (with_reducible refine Below.drew ?_) | (with_reducible refine below_dn ?_ _) | (with_reducible refine Below.trans ?_ (Below.mono (by assumption) ?_)) | (simp; done) | (simp; omega) | omega))
set_option maxRecDepth 100000 in
set_option maxHeartbeats 4000000 in
theorem rdecode_read (L : List UInt8) (A : Option Addr) (cap : Nat) (h : L.length ≤ 4000) (t : Sp.Tr 8) (a : Nat) (y : Int) (ha : a ≤ L.length) (w : World)
    (rd : ∀ W, RB W (w.heap.size + 1) A L.length cap 0 0 → Below w.heap.size w W → Calls Try.prog 48 #[.pointer (some ⟨w.heap.size + 1, 0, none⟩), .int .i64 0] W (fun e w' => ∃ v, e = .returned (.tuple #[v, .int .i64 0]) ∧ Lies w' (fun b => W.heap.size ≤ b) 8 t v ∧ RB w' (w.heap.size + 1) A L.length cap (a : Int) y ∧ Ow W w' (some (w.heap.size + 1)) (some (w.heap.size + 1)))) :
    Calls Try.prog 29 #[.slice A L.length cap] w (PostE w (if a < L.length then .inl 3 else .inr t)) := by
  have RD := hid rd
  clear rd
  have call : ∀ W, RB W (w.heap.size + 1) A L.length cap 0 0 → Below w.heap.size w W → Calls Try.prog 48 #[.pointer (some ⟨w.heap.size + 1, 0, none⟩), .int .i64 0] W (fun e w' => ∃ k n z A' m cap', e = .returned (.tuple #[.agg #[.int .i64 k, .int .i64 n, .string z, .slice A' m cap'], .int .i64 0]) ∧ Lies w' (fun b => W.heap.size ≤ b) 8 t (.agg #[.int .i64 k, .int .i64 n, .string z, .slice A' m cap']) ∧ RB w' (w.heap.size + 1) A L.length cap (a : Int) y ∧ Ow W w' (some (w.heap.size + 1)) (some (w.heap.size + 1))) := fun W h1 h2 => (RD.out W h1 h2).mono fun e w' hh => by
    obtain ⟨v, he, hL, hR, hO⟩ := hh
    obtain ⟨k, n, z, A', m, cap', rfl⟩ := hL.form
    exact ⟨k, n, z, A', m, cap', he, hL, hR, hO⟩
  have CALL := hid call
  clear call RD
  by_cases hc : a < L.length
  all_goals
    first | rw [if_pos hc] | rw [if_neg hc]
    go_enter Try.func29, Try.ntmps29
    go_wp2_with fail
    refine (CALL.out _ (rrb_new w A L.length cap _) (by repeat' (first | (with_reducible exact Below.refl _ _) | (with_reducible refine Below.alloc ?_ ?_ _) | (with_reducible refine Below.setCell ?_ ?_ _) | (with_reducible refine Below.drew ?_) | (with_reducible refine below_dn ?_ _) | (with_reducible refine Below.trans ?_ (Below.mono (by assumption) ?_)) | (simp; done) | (simp; omega) | omega))).mono ?_
    rintro e w7 ⟨k, n, z, A', m, cap', rfl, hL, hR, hO⟩
    have z0 : w7.cell? ⟨w.heap.size, 0, none⟩ = some (.int .i64 0) := (hO.cell (a := ⟨w.heap.size, 0, none⟩) (by simp; omega) (by simp)).trans (by simp [go_sem])
    have z1 : w7.cell? ⟨w.heap.size, 1, none⟩ = some (.int .i64 0) := (hO.cell (a := ⟨w.heap.size, 1, none⟩) (by simp; omega) (by simp)).trans (by simp [go_sem])
    have z2 : w7.cell? ⟨w.heap.size, 2, none⟩ = some (.string ⟨#[]⟩) := (hO.cell (a := ⟨w.heap.size, 2, none⟩) (by simp; omega) (by simp)).trans (by simp [go_sem])
    have z3 : w7.cell? ⟨w.heap.size, 3, none⟩ = some (.slice none 0 0) := (hO.cell (a := ⟨w.heap.size, 3, none⟩) (by simp; omega) (by simp)).trans (by simp [go_sem])
    have zf : ∀ o, w7.frozen? ⟨w.heap.size, o, none⟩ = false := fun o => (hO.frozen (a := ⟨w.heap.size, o, none⟩) (by simp; omega) (by simp)).trans (by simp [go_sem])
    have zl : w.heap.size + 1 < w7.heap.size := Nat.lt_of_lt_of_le (by simp) hO.size
    have q1 := hR.c1
    have hW : Below w.heap.size w w7 := Below.trans (by repeat' (first | (with_reducible exact Below.refl _ _) | (with_reducible refine Below.alloc ?_ ?_ _) | (with_reducible refine Below.setCell ?_ ?_ _) | (with_reducible refine Below.drew ?_) | (with_reducible refine below_dn ?_ _) | (with_reducible refine Below.trans ?_ (Below.mono (by assumption) ?_)) | (simp; done) | (simp; omega) | omega)) (hO.under (B := w.heap.size) (by simp; omega) (fun g' hg' => by injection hg' with hg'; omega))
    have HW := hid hW
    have HL := hid (hL.weak (Q := fun b => w.heap.size + 1 < b) (fun b hb _ => by simp at hb; omega))
    clear hO hW hR hL
    have zl2 : w.heap.size < w7.heap.size := by omega
    have ne : ¬ w.heap.size = w7.heap.size := by omega
    have ne2 : ¬ w7.heap.size = w.heap.size := by omega
    go_wp2_with fail
  · refine bodyPost_ret (v := .tuple #[.agg #[.int .i64 0, .int .i64 0, .string ⟨#[]⟩, .slice none 0 0], .int .i64 3]) (by simp [results, Try.results29, go_sem, z0, z1, z2, z3, zf, zl2, ne, ne2]) rfl ?_
    have hw := HW.out
    exact ⟨by repeat' (first | (with_reducible exact Below.refl _ _) | (with_reducible refine Below.alloc ?_ ?_ _) | (with_reducible refine Below.setCell ?_ ?_ _) | (with_reducible refine Below.drew ?_) | (with_reducible refine below_dn ?_ _) | (with_reducible refine Below.trans ?_ (Below.mono (by assumption) ?_)) | (simp; done) | (simp; omega) | omega), by decide, rfl⟩
  · refine bodyPost_ret (v := .tuple #[.agg #[.int .i64 k, .int .i64 n, .string z, .slice A' m cap'], .int .i64 0]) (by simp [results, Try.results29, go_sem, z0, z1, z2, z3, zf, zl2, ne, ne2]) rfl ?_
    have hw := HW.out
    refine ⟨by repeat' (first | (with_reducible exact Below.refl _ _) | (with_reducible refine Below.alloc ?_ ?_ _) | (with_reducible refine Below.setCell ?_ ?_ _) | (with_reducible refine Below.drew ?_) | (with_reducible refine below_dn ?_ _) | (with_reducible refine Below.trans ?_ (Below.mono (by assumption) ?_)) | (simp; done) | (simp; omega) | omega), _, rfl, ?_⟩
    exact (((((HL.out.set ⟨w.heap.size, 0, none⟩ (by simp) _).set ⟨w.heap.size, 1, none⟩ (by simp) _).set ⟨w.heap.size, 2, none⟩ (by simp) _).set ⟨w.heap.size, 3, none⟩ (by simp) _).below ((Below.refl _ _).alloc (Nat.le_refl _) _)).weak (fun b hb _ => by omega)
theorem rdecode_any (L : List UInt8) (A : Option Addr) (cap : Nat) (hcap : L.length ≤ cap) (w : World) (S : Bs w w.heap.size A L) :
    Calls Try.prog 29 #[.slice A L.length cap] w (PostE w (Sp.decS L)) := by
  unfold Sp.decS
  by_cases h : 4000 < L.length
  · rw [if_pos h]
    exact (rdecode_long L A cap h w).mono fun e w' hh => ⟨hh.2, by decide, hh.1⟩
  · rw [if_neg h]
    have rd : ∀ W, RB W (w.heap.size + 1) A L.length cap 0 0 → Below w.heap.size w W → Calls Try.prog 48 #[.pointer (some ⟨w.heap.size + 1, 0, none⟩), .int .i64 0] W (PostG W (w.heap.size + 1) A L cap 8 (Sp.decT 8 L 0)) := fun W hR hW => by
      have := rrdatum_any L cap A (w.heap.size + 1) (by omega) hcap w.heap.size (by omega) 8 0 0 0 W rfl (by simpa using hR) (Nat.zero_le _) (by omega) (S.below hW)
      simpa using this
    rcases hd : Sp.decT 8 L 0 with er | ⟨t, rest, c'⟩
    · rw [hd] at rd
      have e0 := Sp.dec_e 8 L 0 er hd
      exact (rdecode_bad L A cap (by omega) er e0 w (fun W h1 h2 => (rd W h1 h2).mono fun e w' hh => ⟨hh.2.1, hh.2.2.2⟩)).mono fun e w' hh => ⟨hh.2, e0, hh.1⟩
    · rw [hd] at rd
      have hL := (Sp.dec_only 8 L 0 t rest c' hd).1
      have hlen : (Sp.encT 8 t).length + rest.length = L.length := by rw [hL, List.length_append]
      have W := rdecode_read L A cap (by omega) t (Sp.encT 8 t).length (c' : Int) (by omega) w (fun W h1 h2 => (rd W h1 h2).mono fun e w' hh => by
        obtain ⟨v, a', h1, h2, h3, h4, h5, h6⟩ := hh
        have : a' = (Sp.encT 8 t).length := by
          have := congrArg List.length h4
          rw [List.length_drop] at this
          omega
        subst this
        exact ⟨v, h1, h2, h5, h6⟩)
      by_cases hr : rest.length = 0
      · rw [if_neg (by omega)] at W
        simp only [hr, if_true]
        exact W
      · rw [if_pos (by omega)] at W
        simp only [hr, if_false]
        exact W
end Go.Proofs.Ytcjhgihkofmhgaa
