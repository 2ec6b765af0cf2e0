/-
  Layer 6: CodecCanonical, the walk.
-/
import Derived.Test.YtcjhgihkofmhgaaCza
namespace Go.Proofs.Ytcjhgihkofmhgaa
open Go.RowKit
attribute [local go_sem ↓] Go.wp_at_zero Go.wp_at_succ
set_option linter.unusedVariables false
set_option linter.unusedSimpArgs false

theorem Sp.decS_ok {L : List UInt8} {t : Sp.Tr 8} (h : Sp.decS L = .inr t) : Sp.encT 8 t = L ∧ Sp.checkS 8 t = 0 := by
  unfold Sp.decS at h
  split at h
  · cases h
  · rename_i h4
    split at h
    · cases h
    · rename_i t' rest c' he
      split at h
      · rename_i h0
        injection h with h
        subst h
        obtain ⟨hL, _, _, hc⟩ := Sp.dec_only 8 L 0 _ rest c' he
        have hr := List.eq_nil_of_length_eq_zero h0
        subst hr
        rw [List.append_nil] at hL
        have hk := hc 0 0 rfl
        refine ⟨hL.symm, ?_⟩
        unfold Sp.checkS
        rw [hk]
        rw [← hL]
        simp
        omega
      · cases h
set_option maxRecDepth 100000 in
set_option maxHeartbeats 4000000 in
theorem canon_as (A : Option Addr) (ca : Nat) (L : List UInt8) (w : World) (hca : L.length ≤ ca) (hma : ca ≤ 9223372036854775807) (SL : Bs w w.heap.size A L) :
    Calls Try.prog 8 #[.slice A L.length ca] w (Gives (.bool true) w) := by
  by_cases c : (5000 : Int) < (L.length : Int)
  · clear hca hma SL
    go_enter Try.func8, Try.ntmps8
    go_wp2_with (go_at_call 11; refine (awake_any _).mono ?_; rintro e w1 ⟨rfl, hb⟩)
    go_ret
    exact Gives.mk rfl hb
  · have dc := decode_any L A ca hca w SL
    have HL := hid SL
    have l1 := hid (show L.length ≤ 5000 by omega)
    clear hca hma SL
    obtain ⟨R, hR⟩ : ∃ R, Sp.decS L = R := ⟨_, rfl⟩
    have HR := hid hR
    rw [hR] at dc
    clear hR
    rcases R with er | t
    · go_enter Try.func8, Try.ntmps8
      go_wp2_with fail
      refine dc.mono ?_
      rintro _ u1 ⟨hb, e0, rfl⟩
      have B1 := hid hb
      have e1 : (er != 0) = true := by simpa using e0
      clear hb e0
      go_wp2_with (go_at_call 11; refine (awake_any _).mono ?_; rintro e w1 ⟨rfl, hb⟩)
      go_ret
      have z1 := B1.out.size
      exact Gives.mk rfl (B1.out.trans ((Below.refl _ _).alloc z1 _ |>.trans (hb.mono (by simp; omega))))
    · obtain ⟨henc, hchk⟩ := Sp.decS_ok HR.out
      have HE := hid henc
      have HC := hid hchk
      clear henc hchk
      go_enter Try.func8, Try.ntmps8
      go_wp2_with fail
      refine dc.mono ?_
      rintro _ u1 ⟨hb, v1, rfl, hL1⟩
      have B1 := hid hb
      obtain ⟨k, n, z, A1, m, cap, rfl⟩ := hL1.form
      have L1 := hid hL1
      have S1 := hid (HL.out.below hb)
      clear hb hL1
      go_wp2_with fail
      have LU := hid (L1.out.below ((Below.refl _ _).alloc (Nat.le_refl _) (Obj.cells #[.int .i64 k, .int .i64 n, .string z, .slice A1 m cap] 34)))
      have SU := hid (S1.out.below ((Below.refl _ _).alloc (by have := B1.out.size; omega) (Obj.cells #[.int .i64 k, .int .i64 n, .string z, .slice A1 m cap] 34)))
      have BU := hid (B1.out.alloc (by have := B1.out.size; omega) (Obj.cells #[.int .i64 k, .int .i64 n, .string z, .slice A1 m cap] 34))
      refine (encode_good 8 t _ HC.out _ (LU.out.lift (Below.refl _ _))).mono ?_
      rintro _ u2 ⟨v2, rfl, how, hb⟩
      have yz : u1.heap.size < (u2).heap.size := Nat.lt_of_lt_of_le (show u1.heap.size < _ from (by first | assumption | (simp; done) | (simp; omega) | (dsimp only; omega) | omega)) hb.size; have y0 : (u2).cell? ⟨u1.heap.size, 0, none⟩ = some (.int .i64 (k)) := (hb.cell (p := ⟨u1.heap.size, 0, none⟩) (by first | assumption | (simp; done) | (simp; omega) | (dsimp only; omega) | omega)).trans (by first | assumption | (simp [go_sem]; done) | (simp [go_sem, *]; done)); have y1 : (u2).cell? ⟨u1.heap.size, 1, none⟩ = some (.int .i64 (n)) := (hb.cell (p := ⟨u1.heap.size, 1, none⟩) (by first | assumption | (simp; done) | (simp; omega) | (dsimp only; omega) | omega)).trans (by first | assumption | (simp [go_sem]; done) | (simp [go_sem, *]; done)); have y2 : (u2).cell? ⟨u1.heap.size, 2, none⟩ = some (.string (z)) := (hb.cell (p := ⟨u1.heap.size, 2, none⟩) (by first | assumption | (simp; done) | (simp; omega) | (dsimp only; omega) | omega)).trans (by first | assumption | (simp [go_sem]; done) | (simp [go_sem, *]; done)); have y3 : (u2).cell? ⟨u1.heap.size, 3, none⟩ = some (.slice (A1) (m) (cap)) := (hb.cell (p := ⟨u1.heap.size, 3, none⟩) (by first | assumption | (simp; done) | (simp; omega) | (dsimp only; omega) | omega)).trans (by first | assumption | (simp [go_sem]; done) | (simp [go_sem, *]; done))
      obtain ⟨A2, cap2, rfl, hcap2, hbs2⟩ := how.form
      have S2 := hid hbs2
      have BU2 := hid (BU.out.trans (hb.mono BU.out.size))
      have LU2 := hid (LU.out.below hb)
      have SU2 := hid ((SU.out.below (hb.mono BU.out.size)))
      rw [HE.out] at S2
      rw [HE.out]
      clear hb how hbs2
      have sq := sliceEq_any L L A A2 ca cap2 u2.heap.size u2 (Nat.le_refl _) (by have := l1.out; omega) (SU2.out.more BU2.out.size) S2.out
      rw [decide_eq_true rfl] at sq
      go_wp2_with fail
      refine sq.mono ?_
      rintro _ u3 ⟨rfl, hb⟩
      have xz : u1.heap.size < (u3).heap.size := Nat.lt_of_lt_of_le (show u1.heap.size < _ from (by first | assumption | (simp; done) | (simp; omega) | (dsimp only; omega) | omega)) hb.size; have x0 : (u3).cell? ⟨u1.heap.size, 0, none⟩ = some (.int .i64 (k)) := (hb.cell (p := ⟨u1.heap.size, 0, none⟩) (by first | assumption | (simp; done) | (simp; omega) | (dsimp only; omega) | omega)).trans (by first | assumption | (simp [go_sem]; done) | (simp [go_sem, *]; done)); have x1 : (u3).cell? ⟨u1.heap.size, 1, none⟩ = some (.int .i64 (n)) := (hb.cell (p := ⟨u1.heap.size, 1, none⟩) (by first | assumption | (simp; done) | (simp; omega) | (dsimp only; omega) | omega)).trans (by first | assumption | (simp [go_sem]; done) | (simp [go_sem, *]; done)); have x2 : (u3).cell? ⟨u1.heap.size, 2, none⟩ = some (.string (z)) := (hb.cell (p := ⟨u1.heap.size, 2, none⟩) (by first | assumption | (simp; done) | (simp; omega) | (dsimp only; omega) | omega)).trans (by first | assumption | (simp [go_sem]; done) | (simp [go_sem, *]; done)); have x3 : (u3).cell? ⟨u1.heap.size, 3, none⟩ = some (.slice (A1) (m) (cap)) := (hb.cell (p := ⟨u1.heap.size, 3, none⟩) (by first | assumption | (simp; done) | (simp; omega) | (dsimp only; omega) | omega)).trans (by first | assumption | (simp [go_sem]; done) | (simp [go_sem, *]; done))
      have BU3 := hid (BU2.out.trans (hb.mono BU2.out.size))
      have ck := check_any 8 t _ u3 ((LU2.out.below hb).weak (fun b _ h => h))
      rw [HC.out] at ck
      clear hb sq yz y0 y1 y2 y3
      go_wp2_with fail
      refine ck.mono ?_
      rintro _ u4 ⟨rfl, hb4⟩
      have BU4 := hid (BU3.out.trans (hb4.mono BU3.out.size))
      clear hb4 ck
      go_wp2_with (go_at_call 11; refine (awake_any _).mono ?_; rintro e u5 ⟨rfl, hb⟩)
      go_ret
      exact Gives.mk rfl (BU4.out.trans (hb.mono BU4.out.size))
end Go.Proofs.Ytcjhgihkofmhgaa
