/-
  couperef02.Parse, by contract, at any text.
-/
import Derived.Test.YtjbnejhpfknfcaaDoorFtxp
namespace Go.Proofs.YtjbnejhpfknfcaaDoor
open Go.RowKit
set_option linter.unusedVariables false
set_option linter.unusedSimpArgs false
/-- The search for '/'. -/
def PL (L : List UInt8) (n : Nat) (w : World) (va vi : Value) (wr : World) : Prop :=
  ∃ k a : Nat, va = .int .i64 a ∧ vi = .int .i64 k ∧ ((a = n ∧ k ≤ n ∧ ∀ j, j < k → ∀ hj : j < L.length, ¬ L[j] = 47) ∨ (a < n ∧ a = Sp.slash L ∧ k = a + 1)) ∧
    w.heap.size < wr.heap.size ∧ wr.cell? ⟨w.heap.size, 0, none⟩ = some (.int .i64 0) ∧ wr.cell? ⟨w.heap.size, 1, none⟩ = some (.int .i64 0) ∧ (∀ o, wr.frozen? ⟨w.heap.size, o, none⟩ = false) ∧ Below w.heap.size w wr
/-- The results: what the two numbers give. -/
def PW (one : Bool) (ok fine : Bool) (A d lo hi e : Int) : Prop :=
  (ok = false ∨ (one = false ∧ fine = false)) ∧ lo = 0 ∧ hi = 0 ∧ e = 4 ∨ (ok = true ∧ (one = true ∨ fine = true)) ∧ ∀ w : World, Calls Tryd.prog 13 #[.int .i64 A, .int .i64 (if one then 1 else d)] w (Gives (.tuple #[.agg #[.int .i64 lo, .int .i64 hi], .int .i64 e]) w)
set_option maxRecDepth 100000 in
set_option maxHeartbeats 4000000 in
theorem rparse_empty (r s1 s2 : ByteArray) (n : Nat) (a d lo hi e : Int) (ok fine : Bool) (hr : r.size = n) (hn : n ≤ 1000)
    (n1 : ∀ w : World, Calls Tryd.prog 67 #[.string s1] w (Gives (.tuple #[.int .i64 a, .bool ok]) w)) (n2 : ∀ w : World, Calls Tryd.prog 67 #[.string s2] w (Gives (.tuple #[.int .i64 d, .bool fine]) w))
    (ht1 : ∀ W, (Instr.slice 9 (.string r) none (some (.int .i64 (Sp.slash r.data.toList : Nat))) none).run Tryd.prog W = .ok (.string s1) W)
    (ht2 : Sp.slash r.data.toList < n → ∀ W, (Instr.slice 9 (.string r) (some (.int .i64 ((Sp.slash r.data.toList : Nat) + 1))) none none).run Tryd.prog W = .ok (.string s2) W)
    (a0 : 0 ≤ a) (a1 : a < 10000000000000000)
    (hW : (decide (Sp.slash r.data.toList < n) = false → PW true ok fine a d lo hi e) ∧ (decide (Sp.slash r.data.toList < n) = true → PW false ok fine a d lo hi e))
    (h0 : n ≤ 0)
    (w : World) : Calls Tryd.prog 40 #[.string r] w (Gives (.tuple #[.agg #[.int .i64 lo, .int .i64 hi], .int .i64 e]) w) := by
  have HT1 := hid ht1
  have HT2 := hid ht2
  have HW := hid hW
  have HL : Hid (r.data.toList.length = n) := hid (by rw [← Lib.size_eq]; exact hr)
  have hA : 1 * a = a := by omega
  clear ht1 ht2 hW
  go_enter Tryd.func40, Tryd.ntmps40
  go_wp2_with fail
  go_loopw [6, 7] (fun va vi wr => PL r.data.toList n w va vi wr) (fun _ vi _ => n + 1 - (intOf vi).toNat)
  case atStart => exact ⟨0, n, by go_num, by go_num, .inl ⟨rfl, Nat.zero_le _, fun j hj => absurd hj (Nat.not_lt_zero _)⟩, by simp, by simp [go_sem], by simp [go_sem], fun o => by simp [go_sem], by repeat' (first | (with_reducible exact Below.refl _ _) | (with_reducible refine Below.alloc ?_ ?_ _) | (with_reducible refine Below.setCell ?_ ?_ _) | (with_reducible refine Below.drew ?_) | (with_reducible refine below_dn ?_ _) | (with_reducible refine Below.trans ?_ (Below.mono (by assumption) ?_)) | (simp; done) | (simp; omega) | omega)⟩
  case round =>
    obtain ⟨k, a', rfl, rfl, hc, z0, x0, x1, xf, hB⟩ := hrel
    have BH := hid hB
    have hsz := hB.size
    clear hB
    rcases hc with ⟨rfl, hk, hno⟩ | ⟨hlt2, hs, rfl⟩
    · have NO := hid hno
      clear hno
      by_cases hlt : k < a'
      · have hkl : k < r.data.toList.length := by rw [HL.out]; exact hlt
        have ix := run_byte r k hkl
        have st := hid (Sp.slash_step hkl NO.out)
        have c1 := (r.data.toList[k]).toNat_lt
        by_cases q : r.data.toList[k] = 47
        · have Q := hid q
          have SK := hid (st.out.1 q)
          rw [q] at ix
          have ix' : ∀ W, (Instr.index 9 (.string r) (.int .i64 k)).run Tryd.prog W = .ok (.int .u8 47) W := ix
          clear ix q st c1
          go_wp2_with fail
          go_roundw
          case rel => exact ⟨k + 1, k, by go_num, by go_num, .inr ⟨hlt, SK.out.symm, rfl⟩, z0, x0, x1, xf, BH.out⟩
          case measure => simp [intOf]; omega
        · have Q := hid q
          obtain ⟨c, hc⟩ : ∃ c : Int, ((r.data.toList[k]).toNat : Int) = c := ⟨_, rfl⟩
          have cq : (c == 47) = false := by
            simp only [beq_eq_false_iff_ne, ne_eq]
            intro e
            refine q (UInt8.toNat_inj.1 ?_)
            have : (r.data.toList[k]).toNat = 47 := by omega
            rw [this]; rfl
          have c0 : 0 ≤ c := by omega
          have c2 : c ≤ 255 := by omega
          rw [hc] at ix
          clear hc q st c1
          go_wp2_with fail
          go_roundw
          case rel => exact ⟨k + 1, _, by go_num, by go_num, .inl ⟨rfl, by omega, fun j hj hjl => by
            rcases Nat.lt_or_ge j k with h | h
            · exact NO.out j h hjl
            · obtain rfl : j = k := by omega
              exact Q.out⟩, z0, x0, x1, xf, BH.out⟩
          case measure => simp [intOf]; omega
      · have e : k = a' := by omega
        subst e
        have sl : Sp.slash r.data.toList = k := by
          have h := Sp.slash_none fun j hj => NO.out j (by rw [HL.out] at hj; exact hj) hj
          rw [h, HL.out]
        have one : (decide (Sp.slash r.data.toList < k)) = false := by rw [sl]; simp
        have T1 : Hid (∀ W, (Instr.slice 9 (.string r) none (some (.int .i64 (k : Nat))) none).run Tryd.prog W = .ok (.string s1) W) := hid (by have := HT1.out; rw [sl] at this; exact this)
        have HP := hid (HW.out.1 one)
        clear one sl NO HT1 HW HL HT2 n2 hlt
        have t1 := T1.out
        go_wp2_with fail
        refine (n1 _).mono ?_; rintro _ v1 ⟨rfl, hb⟩
        have yz : w.heap.size < (v1).heap.size := Nat.lt_of_lt_of_le (show w.heap.size < _ from (by first | assumption | (simp; done) | (simp; omega) | (dsimp only; omega) | omega)) hb.size; have y0 : (v1).cell? ⟨w.heap.size, 0, none⟩ = some (.int .i64 0) := (hb.cell (p := ⟨w.heap.size, 0, none⟩) (by first | assumption | (simp; done) | (simp; omega) | (dsimp only; omega) | omega)).trans (by first | assumption | (simp [go_sem]; done) | (simp [go_sem, *]; done)); have y1 : (v1).cell? ⟨w.heap.size, 1, none⟩ = some (.int .i64 0) := (hb.cell (p := ⟨w.heap.size, 1, none⟩) (by first | assumption | (simp; done) | (simp; omega) | (dsimp only; omega) | omega)).trans (by first | assumption | (simp [go_sem]; done) | (simp [go_sem, *]; done)); have yf : ∀ o, (v1).frozen? ⟨w.heap.size, o, none⟩ = false := fun o => (hb.frozen (p := ⟨w.heap.size, o, none⟩) (by first | assumption | (simp; done) | (simp; omega) | (dsimp only; omega) | omega)).trans (by first | (simp [go_sem]; done) | (simp [*]; done))
        have BN : Below w.heap.size w v1 := BH.out.trans (hb.mono BH.out.size)
        clear hb x0 x1 xf z0 t1 n1
        have hz := BN.size
        rcases HP.out with ⟨hbad, e1, e2, e3⟩ | ⟨hgood, nw⟩
        · obtain rfl : ok = false := by rcases hbad with h | h; exact h; exact absurd h.1 (by simp)
          subst e1 e2 e3
          go_wp2_with fail
          refine bodyPost_ret (v := .tuple #[.agg #[.int .i64 0, .int .i64 0], .int .i64 4]) (by simp [results, Tryd.results40, go_sem, y0, y1]) rfl ?_
          exact Gives.mk rfl (by repeat' (first | (with_reducible exact Below.refl _ _) | (with_reducible refine Below.alloc ?_ ?_ _) | (with_reducible refine Below.setCell ?_ ?_ _) | (with_reducible refine Below.drew ?_) | (with_reducible refine below_dn ?_ _) | (with_reducible refine Below.trans ?_ (Below.mono (by assumption) ?_)) | (simp; done) | (simp; omega) | omega))
        · obtain rfl : ok = true := hgood.1
          simp only [if_true, Bool.false_eq_true, if_false] at nw
          go_wp2_with fail
          refine (nw _).mono ?_; rintro _ v3 ⟨rfl, hb⟩
          have xz : w.heap.size < (v3).heap.size := Nat.lt_of_lt_of_le (show w.heap.size < _ from (by first | assumption | (simp; done) | (simp; omega) | (dsimp only; omega) | omega)) hb.size; have x0 : (v3).cell? ⟨w.heap.size, 0, none⟩ = some (.int .i64 0) := (hb.cell (p := ⟨w.heap.size, 0, none⟩) (by first | assumption | (simp; done) | (simp; omega) | (dsimp only; omega) | omega)).trans (by first | assumption | (simp [go_sem]; done) | (simp [go_sem, *]; done)); have x1 : (v3).cell? ⟨w.heap.size, 1, none⟩ = some (.int .i64 0) := (hb.cell (p := ⟨w.heap.size, 1, none⟩) (by first | assumption | (simp; done) | (simp; omega) | (dsimp only; omega) | omega)).trans (by first | assumption | (simp [go_sem]; done) | (simp [go_sem, *]; done)); have xf : ∀ o, (v3).frozen? ⟨w.heap.size, o, none⟩ = false := fun o => (hb.frozen (p := ⟨w.heap.size, o, none⟩) (by first | assumption | (simp; done) | (simp; omega) | (dsimp only; omega) | omega)).trans (by first | (simp [go_sem]; done) | (simp [*]; done))
          have BN3 : Below w.heap.size w v3 := BN.trans (hb.mono BN.size)
          have hz3 := BN3.size
          clear hb y0 y1 yf yz BN hz
          go_wp2_with fail
          refine bodyPost_ret (v := .tuple #[.agg #[.int .i64 lo, .int .i64 hi], .int .i64 e]) (by simp [results, Tryd.results40, go_sem, x0, x1]) rfl ?_
          exact Gives.mk rfl (by repeat' (first | (with_reducible exact Below.refl _ _) | (with_reducible refine Below.alloc ?_ ?_ _) | (with_reducible refine Below.setCell ?_ ?_ _) | (with_reducible refine Below.drew ?_) | (with_reducible refine below_dn ?_ _) | (with_reducible refine Below.trans ?_ (Below.mono (by assumption) ?_)) | (simp; done) | (simp; omega) | omega))
    · have one : decide (Sp.slash r.data.toList < n) = true := by rw [← hs]; exact decide_eq_true hlt2
      have T1 : Hid (∀ W, (Instr.slice 9 (.string r) none (some (.int .i64 (a' : Nat))) none).run Tryd.prog W = .ok (.string s1) W) := hid (by have := HT1.out; rw [← hs] at this; exact this)
      have T2 : Hid (a' < n → ∀ W, (Instr.slice 9 (.string r) (some (.int .i64 ((a' : Nat) + 1))) none none).run Tryd.prog W = .ok (.string s2) W) := hid (by have := HT2.out; rw [← hs] at this; exact this)
      have HP := hid (HW.out.2 one)
      have kn : (( (a' : Nat) : Int) == (n : Int)) = false := by simp; omega
      clear one hs HT1 HT2 HW HL
      have t1 := T1.out
      go_wp2_with fail
      all_goals
        refine (n1 _).mono ?_; rintro _ v1 ⟨rfl, hb⟩
        have yz : w.heap.size < (v1).heap.size := Nat.lt_of_lt_of_le (show w.heap.size < _ from (by first | assumption | (simp; done) | (simp; omega) | (dsimp only; omega) | omega)) hb.size; have y0 : (v1).cell? ⟨w.heap.size, 0, none⟩ = some (.int .i64 0) := (hb.cell (p := ⟨w.heap.size, 0, none⟩) (by first | assumption | (simp; done) | (simp; omega) | (dsimp only; omega) | omega)).trans (by first | assumption | (simp [go_sem]; done) | (simp [go_sem, *]; done)); have y1 : (v1).cell? ⟨w.heap.size, 1, none⟩ = some (.int .i64 0) := (hb.cell (p := ⟨w.heap.size, 1, none⟩) (by first | assumption | (simp; done) | (simp; omega) | (dsimp only; omega) | omega)).trans (by first | assumption | (simp [go_sem]; done) | (simp [go_sem, *]; done)); have yf : ∀ o, (v1).frozen? ⟨w.heap.size, o, none⟩ = false := fun o => (hb.frozen (p := ⟨w.heap.size, o, none⟩) (by first | assumption | (simp; done) | (simp; omega) | (dsimp only; omega) | omega)).trans (by first | (simp [go_sem]; done) | (simp [*]; done))
        have BN : Below w.heap.size w v1 := BH.out.trans (hb.mono BH.out.size)
        clear hb x0 x1 xf z0 t1 n1
        have t2 := T2.out hlt2
        go_wp2_with fail
        refine (n2 _).mono ?_; rintro _ v2 ⟨rfl, hb⟩
        have xz : w.heap.size < (v2).heap.size := Nat.lt_of_lt_of_le (show w.heap.size < _ from (by first | assumption | (simp; done) | (simp; omega) | (dsimp only; omega) | omega)) hb.size; have x0 : (v2).cell? ⟨w.heap.size, 0, none⟩ = some (.int .i64 0) := (hb.cell (p := ⟨w.heap.size, 0, none⟩) (by first | assumption | (simp; done) | (simp; omega) | (dsimp only; omega) | omega)).trans (by first | assumption | (simp [go_sem]; done) | (simp [go_sem, *]; done)); have x1 : (v2).cell? ⟨w.heap.size, 1, none⟩ = some (.int .i64 0) := (hb.cell (p := ⟨w.heap.size, 1, none⟩) (by first | assumption | (simp; done) | (simp; omega) | (dsimp only; omega) | omega)).trans (by first | assumption | (simp [go_sem]; done) | (simp [go_sem, *]; done)); have xf : ∀ o, (v2).frozen? ⟨w.heap.size, o, none⟩ = false := fun o => (hb.frozen (p := ⟨w.heap.size, o, none⟩) (by first | assumption | (simp; done) | (simp; omega) | (dsimp only; omega) | omega)).trans (by first | (simp [go_sem]; done) | (simp [*]; done))
        have BN2 : Below w.heap.size w v2 := BN.trans (hb.mono BN.size)
        clear hb y0 y1 yf yz t2 n2 BN
        have BN := BN2
        clear BN2
        have hz := BN.size
        rcases HP.out with ⟨hbad, e1, e2, e3⟩ | ⟨hgood, nw⟩
        · subst e1 e2 e3
          cases ok with
          | false =>
            go_wp2_with fail
            refine bodyPost_ret (v := .tuple #[.agg #[.int .i64 0, .int .i64 0], .int .i64 4]) (by simp [results, Tryd.results40, go_sem, x0, x1]) rfl ?_
            exact Gives.mk rfl (by repeat' (first | (with_reducible exact Below.refl _ _) | (with_reducible refine Below.alloc ?_ ?_ _) | (with_reducible refine Below.setCell ?_ ?_ _) | (with_reducible refine Below.drew ?_) | (with_reducible refine below_dn ?_ _) | (with_reducible refine Below.trans ?_ (Below.mono (by assumption) ?_)) | (simp; done) | (simp; omega) | omega))
          | true =>
            obtain rfl : fine = false := by rcases hbad with h | h; exact absurd h (by simp); exact h.2
            go_wp2_with fail
            refine bodyPost_ret (v := .tuple #[.agg #[.int .i64 0, .int .i64 0], .int .i64 4]) (by simp [results, Tryd.results40, go_sem, x0, x1]) rfl ?_
            exact Gives.mk rfl (by repeat' (first | (with_reducible exact Below.refl _ _) | (with_reducible refine Below.alloc ?_ ?_ _) | (with_reducible refine Below.setCell ?_ ?_ _) | (with_reducible refine Below.drew ?_) | (with_reducible refine below_dn ?_ _) | (with_reducible refine Below.trans ?_ (Below.mono (by assumption) ?_)) | (simp; done) | (simp; omega) | omega))
        · obtain rfl : ok = true := hgood.1
          obtain rfl : fine = true := by rcases hgood.2 with h | h; exact absurd h (by simp); exact h
          simp only [if_true, Bool.false_eq_true, if_false] at nw
          go_wp2_with fail
          refine (nw _).mono ?_; rintro _ v3 ⟨rfl, hb⟩
          have yz : w.heap.size < (v3).heap.size := Nat.lt_of_lt_of_le (show w.heap.size < _ from (by first | assumption | (simp; done) | (simp; omega) | (dsimp only; omega) | omega)) hb.size; have y0 : (v3).cell? ⟨w.heap.size, 0, none⟩ = some (.int .i64 0) := (hb.cell (p := ⟨w.heap.size, 0, none⟩) (by first | assumption | (simp; done) | (simp; omega) | (dsimp only; omega) | omega)).trans (by first | assumption | (simp [go_sem]; done) | (simp [go_sem, *]; done)); have y1 : (v3).cell? ⟨w.heap.size, 1, none⟩ = some (.int .i64 0) := (hb.cell (p := ⟨w.heap.size, 1, none⟩) (by first | assumption | (simp; done) | (simp; omega) | (dsimp only; omega) | omega)).trans (by first | assumption | (simp [go_sem]; done) | (simp [go_sem, *]; done)); have yf : ∀ o, (v3).frozen? ⟨w.heap.size, o, none⟩ = false := fun o => (hb.frozen (p := ⟨w.heap.size, o, none⟩) (by first | assumption | (simp; done) | (simp; omega) | (dsimp only; omega) | omega)).trans (by first | (simp [go_sem]; done) | (simp [*]; done))
          have BN3 : Below w.heap.size w v3 := BN.trans (hb.mono BN.size)
          have hz3 := BN3.size
          clear hb x0 x1 xf xz BN hz
          go_wp2_with fail
          refine bodyPost_ret (v := .tuple #[.agg #[.int .i64 lo, .int .i64 hi], .int .i64 e]) (by simp [results, Tryd.results40, go_sem, y0, y1]) rfl ?_
          exact Gives.mk rfl (by repeat' (first | (with_reducible exact Below.refl _ _) | (with_reducible refine Below.alloc ?_ ?_ _) | (with_reducible refine Below.setCell ?_ ?_ _) | (with_reducible refine Below.drew ?_) | (with_reducible refine below_dn ?_ _) | (with_reducible refine Below.trans ?_ (Below.mono (by assumption) ?_)) | (simp; done) | (simp; omega) | omega))
set_option maxRecDepth 100000 in
set_option maxHeartbeats 4000000 in
theorem rparse_plain (r s1 s2 : ByteArray) (n : Nat) (a d lo hi e : Int) (ok fine : Bool) (hr : r.size = n) (hn : n ≤ 1000)
    (n1 : ∀ w : World, Calls Tryd.prog 67 #[.string s1] w (Gives (.tuple #[.int .i64 a, .bool ok]) w)) (n2 : ∀ w : World, Calls Tryd.prog 67 #[.string s2] w (Gives (.tuple #[.int .i64 d, .bool fine]) w))
    (ht1 : ∀ W, (Instr.slice 9 (.string r) none (some (.int .i64 (Sp.slash r.data.toList : Nat))) none).run Tryd.prog W = .ok (.string s1) W)
    (ht2 : Sp.slash r.data.toList < n → ∀ W, (Instr.slice 9 (.string r) (some (.int .i64 ((Sp.slash r.data.toList : Nat) + 1))) none none).run Tryd.prog W = .ok (.string s2) W)
    (a0 : 0 ≤ a) (a1 : a < 10000000000000000)
    (hW : (decide (Sp.slash r.data.toList < n) = false → PW true ok fine a d lo hi e) ∧ (decide (Sp.slash r.data.toList < n) = true → PW false ok fine a d lo hi e))
    (h0 : 0 < n) (c : Int) (ix0 : ∀ W, (Instr.index 9 (.string r) (.int .i64 0)).run Tryd.prog W = .ok (.int .u8 c) W) (cc : ¬ c = 45) (cl : 0 ≤ c) (ch : c ≤ 255)
    (w : World) : Calls Tryd.prog 40 #[.string r] w (Gives (.tuple #[.agg #[.int .i64 lo, .int .i64 hi], .int .i64 e]) w) := by
  have HT1 := hid ht1
  have HT2 := hid ht2
  have HW := hid hW
  have HL : Hid (r.data.toList.length = n) := hid (by rw [← Lib.size_eq]; exact hr)
  have hA : 1 * a = a := by omega
  clear ht1 ht2 hW
  have cb : (c == 45) = false := by simpa using cc
  go_enter Tryd.func40, Tryd.ntmps40
  go_wp2_with fail
  clear ix0 cb cc cl ch
  go_loopw [6, 7] (fun va vi wr => PL r.data.toList n w va vi wr) (fun _ vi _ => n + 1 - (intOf vi).toNat)
  case atStart => exact ⟨0, n, by go_num, by go_num, .inl ⟨rfl, Nat.zero_le _, fun j hj => absurd hj (Nat.not_lt_zero _)⟩, by simp, by simp [go_sem], by simp [go_sem], fun o => by simp [go_sem], by repeat' (first | (with_reducible exact Below.refl _ _) | (with_reducible refine Below.alloc ?_ ?_ _) | (with_reducible refine Below.setCell ?_ ?_ _) | (with_reducible refine Below.drew ?_) | (with_reducible refine below_dn ?_ _) | (with_reducible refine Below.trans ?_ (Below.mono (by assumption) ?_)) | (simp; done) | (simp; omega) | omega)⟩
  case round =>
    obtain ⟨k, a', rfl, rfl, hc, z0, x0, x1, xf, hB⟩ := hrel
    have BH := hid hB
    have hsz := hB.size
    clear hB
    rcases hc with ⟨rfl, hk, hno⟩ | ⟨hlt2, hs, rfl⟩
    · have NO := hid hno
      clear hno
      by_cases hlt : k < a'
      · have hkl : k < r.data.toList.length := by rw [HL.out]; exact hlt
        have ix := run_byte r k hkl
        have st := hid (Sp.slash_step hkl NO.out)
        have c1 := (r.data.toList[k]).toNat_lt
        by_cases q : r.data.toList[k] = 47
        · have Q := hid q
          have SK := hid (st.out.1 q)
          rw [q] at ix
          have ix' : ∀ W, (Instr.index 9 (.string r) (.int .i64 k)).run Tryd.prog W = .ok (.int .u8 47) W := ix
          clear ix q st c1
          go_wp2_with fail
          go_roundw
          case rel => exact ⟨k + 1, k, by go_num, by go_num, .inr ⟨hlt, SK.out.symm, rfl⟩, z0, x0, x1, xf, BH.out⟩
          case measure => simp [intOf]; omega
        · have Q := hid q
          obtain ⟨c, hc⟩ : ∃ c : Int, ((r.data.toList[k]).toNat : Int) = c := ⟨_, rfl⟩
          have cq : (c == 47) = false := by
            simp only [beq_eq_false_iff_ne, ne_eq]
            intro e
            refine q (UInt8.toNat_inj.1 ?_)
            have : (r.data.toList[k]).toNat = 47 := by omega
            rw [this]; rfl
          have c0 : 0 ≤ c := by omega
          have c2 : c ≤ 255 := by omega
          rw [hc] at ix
          clear hc q st c1
          go_wp2_with fail
          go_roundw
          case rel => exact ⟨k + 1, _, by go_num, by go_num, .inl ⟨rfl, by omega, fun j hj hjl => by
            rcases Nat.lt_or_ge j k with h | h
            · exact NO.out j h hjl
            · obtain rfl : j = k := by omega
              exact Q.out⟩, z0, x0, x1, xf, BH.out⟩
          case measure => simp [intOf]; omega
      · have e : k = a' := by omega
        subst e
        have sl : Sp.slash r.data.toList = k := by
          have h := Sp.slash_none fun j hj => NO.out j (by rw [HL.out] at hj; exact hj) hj
          rw [h, HL.out]
        have one : (decide (Sp.slash r.data.toList < k)) = false := by rw [sl]; simp
        have T1 : Hid (∀ W, (Instr.slice 9 (.string r) none (some (.int .i64 (k : Nat))) none).run Tryd.prog W = .ok (.string s1) W) := hid (by have := HT1.out; rw [sl] at this; exact this)
        have HP := hid (HW.out.1 one)
        clear one sl NO HT1 HW HL HT2 n2 hlt
        have t1 := T1.out
        go_wp2_with fail
        refine (n1 _).mono ?_; rintro _ v1 ⟨rfl, hb⟩
        have yz : w.heap.size < (v1).heap.size := Nat.lt_of_lt_of_le (show w.heap.size < _ from (by first | assumption | (simp; done) | (simp; omega) | (dsimp only; omega) | omega)) hb.size; have y0 : (v1).cell? ⟨w.heap.size, 0, none⟩ = some (.int .i64 0) := (hb.cell (p := ⟨w.heap.size, 0, none⟩) (by first | assumption | (simp; done) | (simp; omega) | (dsimp only; omega) | omega)).trans (by first | assumption | (simp [go_sem]; done) | (simp [go_sem, *]; done)); have y1 : (v1).cell? ⟨w.heap.size, 1, none⟩ = some (.int .i64 0) := (hb.cell (p := ⟨w.heap.size, 1, none⟩) (by first | assumption | (simp; done) | (simp; omega) | (dsimp only; omega) | omega)).trans (by first | assumption | (simp [go_sem]; done) | (simp [go_sem, *]; done)); have yf : ∀ o, (v1).frozen? ⟨w.heap.size, o, none⟩ = false := fun o => (hb.frozen (p := ⟨w.heap.size, o, none⟩) (by first | assumption | (simp; done) | (simp; omega) | (dsimp only; omega) | omega)).trans (by first | (simp [go_sem]; done) | (simp [*]; done))
        have BN : Below w.heap.size w v1 := BH.out.trans (hb.mono BH.out.size)
        clear hb x0 x1 xf z0 t1 n1
        have hz := BN.size
        rcases HP.out with ⟨hbad, e1, e2, e3⟩ | ⟨hgood, nw⟩
        · obtain rfl : ok = false := by rcases hbad with h | h; exact h; exact absurd h.1 (by simp)
          subst e1 e2 e3
          go_wp2_with fail
          refine bodyPost_ret (v := .tuple #[.agg #[.int .i64 0, .int .i64 0], .int .i64 4]) (by simp [results, Tryd.results40, go_sem, y0, y1]) rfl ?_
          exact Gives.mk rfl (by repeat' (first | (with_reducible exact Below.refl _ _) | (with_reducible refine Below.alloc ?_ ?_ _) | (with_reducible refine Below.setCell ?_ ?_ _) | (with_reducible refine Below.drew ?_) | (with_reducible refine below_dn ?_ _) | (with_reducible refine Below.trans ?_ (Below.mono (by assumption) ?_)) | (simp; done) | (simp; omega) | omega))
        · obtain rfl : ok = true := hgood.1
          simp only [if_true, Bool.false_eq_true, if_false] at nw
          go_wp2_with fail
          refine (nw _).mono ?_; rintro _ v3 ⟨rfl, hb⟩
          have xz : w.heap.size < (v3).heap.size := Nat.lt_of_lt_of_le (show w.heap.size < _ from (by first | assumption | (simp; done) | (simp; omega) | (dsimp only; omega) | omega)) hb.size; have x0 : (v3).cell? ⟨w.heap.size, 0, none⟩ = some (.int .i64 0) := (hb.cell (p := ⟨w.heap.size, 0, none⟩) (by first | assumption | (simp; done) | (simp; omega) | (dsimp only; omega) | omega)).trans (by first | assumption | (simp [go_sem]; done) | (simp [go_sem, *]; done)); have x1 : (v3).cell? ⟨w.heap.size, 1, none⟩ = some (.int .i64 0) := (hb.cell (p := ⟨w.heap.size, 1, none⟩) (by first | assumption | (simp; done) | (simp; omega) | (dsimp only; omega) | omega)).trans (by first | assumption | (simp [go_sem]; done) | (simp [go_sem, *]; done)); have xf : ∀ o, (v3).frozen? ⟨w.heap.size, o, none⟩ = false := fun o => (hb.frozen (p := ⟨w.heap.size, o, none⟩) (by first | assumption | (simp; done) | (simp; omega) | (dsimp only; omega) | omega)).trans (by first | (simp [go_sem]; done) | (simp [*]; done))
          have BN3 : Below w.heap.size w v3 := BN.trans (hb.mono BN.size)
          have hz3 := BN3.size
          clear hb y0 y1 yf yz BN hz
          go_wp2_with fail
          refine bodyPost_ret (v := .tuple #[.agg #[.int .i64 lo, .int .i64 hi], .int .i64 e]) (by simp [results, Tryd.results40, go_sem, x0, x1]) rfl ?_
          exact Gives.mk rfl (by repeat' (first | (with_reducible exact Below.refl _ _) | (with_reducible refine Below.alloc ?_ ?_ _) | (with_reducible refine Below.setCell ?_ ?_ _) | (with_reducible refine Below.drew ?_) | (with_reducible refine below_dn ?_ _) | (with_reducible refine Below.trans ?_ (Below.mono (by assumption) ?_)) | (simp; done) | (simp; omega) | omega))
    · have one : decide (Sp.slash r.data.toList < n) = true := by rw [← hs]; exact decide_eq_true hlt2
      have T1 : Hid (∀ W, (Instr.slice 9 (.string r) none (some (.int .i64 (a' : Nat))) none).run Tryd.prog W = .ok (.string s1) W) := hid (by have := HT1.out; rw [← hs] at this; exact this)
      have T2 : Hid (a' < n → ∀ W, (Instr.slice 9 (.string r) (some (.int .i64 ((a' : Nat) + 1))) none none).run Tryd.prog W = .ok (.string s2) W) := hid (by have := HT2.out; rw [← hs] at this; exact this)
      have HP := hid (HW.out.2 one)
      have kn : (( (a' : Nat) : Int) == (n : Int)) = false := by simp; omega
      clear one hs HT1 HT2 HW HL
      have t1 := T1.out
      go_wp2_with fail
      all_goals
        refine (n1 _).mono ?_; rintro _ v1 ⟨rfl, hb⟩
        have yz : w.heap.size < (v1).heap.size := Nat.lt_of_lt_of_le (show w.heap.size < _ from (by first | assumption | (simp; done) | (simp; omega) | (dsimp only; omega) | omega)) hb.size; have y0 : (v1).cell? ⟨w.heap.size, 0, none⟩ = some (.int .i64 0) := (hb.cell (p := ⟨w.heap.size, 0, none⟩) (by first | assumption | (simp; done) | (simp; omega) | (dsimp only; omega) | omega)).trans (by first | assumption | (simp [go_sem]; done) | (simp [go_sem, *]; done)); have y1 : (v1).cell? ⟨w.heap.size, 1, none⟩ = some (.int .i64 0) := (hb.cell (p := ⟨w.heap.size, 1, none⟩) (by first | assumption | (simp; done) | (simp; omega) | (dsimp only; omega) | omega)).trans (by first | assumption | (simp [go_sem]; done) | (simp [go_sem, *]; done)); have yf : ∀ o, (v1).frozen? ⟨w.heap.size, o, none⟩ = false := fun o => (hb.frozen (p := ⟨w.heap.size, o, none⟩) (by first | assumption | (simp; done) | (simp; omega) | (dsimp only; omega) | omega)).trans (by first | (simp [go_sem]; done) | (simp [*]; done))
        have BN : Below w.heap.size w v1 := BH.out.trans (hb.mono BH.out.size)
        clear hb x0 x1 xf z0 t1 n1
        have t2 := T2.out hlt2
        go_wp2_with fail
        refine (n2 _).mono ?_; rintro _ v2 ⟨rfl, hb⟩
        have xz : w.heap.size < (v2).heap.size := Nat.lt_of_lt_of_le (show w.heap.size < _ from (by first | assumption | (simp; done) | (simp; omega) | (dsimp only; omega) | omega)) hb.size; have x0 : (v2).cell? ⟨w.heap.size, 0, none⟩ = some (.int .i64 0) := (hb.cell (p := ⟨w.heap.size, 0, none⟩) (by first | assumption | (simp; done) | (simp; omega) | (dsimp only; omega) | omega)).trans (by first | assumption | (simp [go_sem]; done) | (simp [go_sem, *]; done)); have x1 : (v2).cell? ⟨w.heap.size, 1, none⟩ = some (.int .i64 0) := (hb.cell (p := ⟨w.heap.size, 1, none⟩) (by first | assumption | (simp; done) | (simp; omega) | (dsimp only; omega) | omega)).trans (by first | assumption | (simp [go_sem]; done) | (simp [go_sem, *]; done)); have xf : ∀ o, (v2).frozen? ⟨w.heap.size, o, none⟩ = false := fun o => (hb.frozen (p := ⟨w.heap.size, o, none⟩) (by first | assumption | (simp; done) | (simp; omega) | (dsimp only; omega) | omega)).trans (by first | (simp [go_sem]; done) | (simp [*]; done))
        have BN2 : Below w.heap.size w v2 := BN.trans (hb.mono BN.size)
        clear hb y0 y1 yf yz t2 n2 BN
        have BN := BN2
        clear BN2
        have hz := BN.size
        rcases HP.out with ⟨hbad, e1, e2, e3⟩ | ⟨hgood, nw⟩
        · subst e1 e2 e3
          cases ok with
          | false =>
            go_wp2_with fail
            refine bodyPost_ret (v := .tuple #[.agg #[.int .i64 0, .int .i64 0], .int .i64 4]) (by simp [results, Tryd.results40, go_sem, x0, x1]) rfl ?_
            exact Gives.mk rfl (by repeat' (first | (with_reducible exact Below.refl _ _) | (with_reducible refine Below.alloc ?_ ?_ _) | (with_reducible refine Below.setCell ?_ ?_ _) | (with_reducible refine Below.drew ?_) | (with_reducible refine below_dn ?_ _) | (with_reducible refine Below.trans ?_ (Below.mono (by assumption) ?_)) | (simp; done) | (simp; omega) | omega))
          | true =>
            obtain rfl : fine = false := by rcases hbad with h | h; exact absurd h (by simp); exact h.2
            go_wp2_with fail
            refine bodyPost_ret (v := .tuple #[.agg #[.int .i64 0, .int .i64 0], .int .i64 4]) (by simp [results, Tryd.results40, go_sem, x0, x1]) rfl ?_
            exact Gives.mk rfl (by repeat' (first | (with_reducible exact Below.refl _ _) | (with_reducible refine Below.alloc ?_ ?_ _) | (with_reducible refine Below.setCell ?_ ?_ _) | (with_reducible refine Below.drew ?_) | (with_reducible refine below_dn ?_ _) | (with_reducible refine Below.trans ?_ (Below.mono (by assumption) ?_)) | (simp; done) | (simp; omega) | omega))
        · obtain rfl : ok = true := hgood.1
          obtain rfl : fine = true := by rcases hgood.2 with h | h; exact absurd h (by simp); exact h
          simp only [if_true, Bool.false_eq_true, if_false] at nw
          go_wp2_with fail
          refine (nw _).mono ?_; rintro _ v3 ⟨rfl, hb⟩
          have yz : w.heap.size < (v3).heap.size := Nat.lt_of_lt_of_le (show w.heap.size < _ from (by first | assumption | (simp; done) | (simp; omega) | (dsimp only; omega) | omega)) hb.size; have y0 : (v3).cell? ⟨w.heap.size, 0, none⟩ = some (.int .i64 0) := (hb.cell (p := ⟨w.heap.size, 0, none⟩) (by first | assumption | (simp; done) | (simp; omega) | (dsimp only; omega) | omega)).trans (by first | assumption | (simp [go_sem]; done) | (simp [go_sem, *]; done)); have y1 : (v3).cell? ⟨w.heap.size, 1, none⟩ = some (.int .i64 0) := (hb.cell (p := ⟨w.heap.size, 1, none⟩) (by first | assumption | (simp; done) | (simp; omega) | (dsimp only; omega) | omega)).trans (by first | assumption | (simp [go_sem]; done) | (simp [go_sem, *]; done)); have yf : ∀ o, (v3).frozen? ⟨w.heap.size, o, none⟩ = false := fun o => (hb.frozen (p := ⟨w.heap.size, o, none⟩) (by first | assumption | (simp; done) | (simp; omega) | (dsimp only; omega) | omega)).trans (by first | (simp [go_sem]; done) | (simp [*]; done))
          have BN3 : Below w.heap.size w v3 := BN.trans (hb.mono BN.size)
          have hz3 := BN3.size
          clear hb x0 x1 xf xz BN hz
          go_wp2_with fail
          refine bodyPost_ret (v := .tuple #[.agg #[.int .i64 lo, .int .i64 hi], .int .i64 e]) (by simp [results, Tryd.results40, go_sem, y0, y1]) rfl ?_
          exact Gives.mk rfl (by repeat' (first | (with_reducible exact Below.refl _ _) | (with_reducible refine Below.alloc ?_ ?_ _) | (with_reducible refine Below.setCell ?_ ?_ _) | (with_reducible refine Below.drew ?_) | (with_reducible refine below_dn ?_ _) | (with_reducible refine Below.trans ?_ (Below.mono (by assumption) ?_)) | (simp; done) | (simp; omega) | omega))
set_option maxRecDepth 100000 in
set_option maxHeartbeats 4000000 in
theorem rparse_minus (r s1 s2 t : ByteArray) (n : Nat) (a d lo hi e : Int) (ok fine : Bool) (hr : r.size = n) (hn : n ≤ 1000)
    (n1 : ∀ w : World, Calls Tryd.prog 67 #[.string s1] w (Gives (.tuple #[.int .i64 a, .bool ok]) w)) (n2 : ∀ w : World, Calls Tryd.prog 67 #[.string s2] w (Gives (.tuple #[.int .i64 d, .bool fine]) w))
    (ht1 : ∀ W, (Instr.slice 9 (.string r) none (some (.int .i64 (Sp.slash r.data.toList : Nat))) none).run Tryd.prog W = .ok (.string s1) W)
    (ht2 : Sp.slash r.data.toList < n → ∀ W, (Instr.slice 9 (.string r) (some (.int .i64 ((Sp.slash r.data.toList : Nat) + 1))) none none).run Tryd.prog W = .ok (.string s2) W)
    (a0 : 0 ≤ a) (a1 : a < 10000000000000000)
    (hW : (decide (Sp.slash r.data.toList < n) = false → PW true ok fine (-a) d lo hi e) ∧ (decide (Sp.slash r.data.toList < n) = true → PW false ok fine (-a) d lo hi e))
    (m : Nat) (hm : t.size = m) (h0 : 0 < m) (hm2 : m ≤ 1000) (ix0 : ∀ W, (Instr.index 9 (.string t) (.int .i64 0)).run Tryd.prog W = .ok (.int .u8 45) W) (sl0 : ∀ W, (Instr.slice 9 (.string t) (some (.int .i64 1)) none none).run Tryd.prog W = .ok (.string r) W)
    (w : World) : Calls Tryd.prog 40 #[.string t] w (Gives (.tuple #[.agg #[.int .i64 lo, .int .i64 hi], .int .i64 e]) w) := by
  have HT1 := hid ht1
  have HT2 := hid ht2
  have HW := hid hW
  have HL : Hid (r.data.toList.length = n) := hid (by rw [← Lib.size_eq]; exact hr)
  have hA : (-1) * a = (-a) := by omega
  clear ht1 ht2 hW
  go_enter Tryd.func40, Tryd.ntmps40
  go_wp2_with fail
  go_quiet (fail)
  clear ix0 sl0 hm h0 hm2
  go_wp2_with fail
  go_loopw [6, 7] (fun va vi wr => PL r.data.toList n w va vi wr) (fun _ vi _ => n + 1 - (intOf vi).toNat)
  case atStart => exact ⟨0, n, by go_num, by go_num, .inl ⟨rfl, Nat.zero_le _, fun j hj => absurd hj (Nat.not_lt_zero _)⟩, by simp, by simp [go_sem], by simp [go_sem], fun o => by simp [go_sem], by repeat' (first | (with_reducible exact Below.refl _ _) | (with_reducible refine Below.alloc ?_ ?_ _) | (with_reducible refine Below.setCell ?_ ?_ _) | (with_reducible refine Below.drew ?_) | (with_reducible refine below_dn ?_ _) | (with_reducible refine Below.trans ?_ (Below.mono (by assumption) ?_)) | (simp; done) | (simp; omega) | omega)⟩
  case round =>
    obtain ⟨k, a', rfl, rfl, hc, z0, x0, x1, xf, hB⟩ := hrel
    have BH := hid hB
    have hsz := hB.size
    clear hB
    rcases hc with ⟨rfl, hk, hno⟩ | ⟨hlt2, hs, rfl⟩
    · have NO := hid hno
      clear hno
      by_cases hlt : k < a'
      · have hkl : k < r.data.toList.length := by rw [HL.out]; exact hlt
        have ix := run_byte r k hkl
        have st := hid (Sp.slash_step hkl NO.out)
        have c1 := (r.data.toList[k]).toNat_lt
        by_cases q : r.data.toList[k] = 47
        · have Q := hid q
          have SK := hid (st.out.1 q)
          rw [q] at ix
          have ix' : ∀ W, (Instr.index 9 (.string r) (.int .i64 k)).run Tryd.prog W = .ok (.int .u8 47) W := ix
          clear ix q st c1
          go_wp2_with fail
          go_roundw
          case rel => exact ⟨k + 1, k, by go_num, by go_num, .inr ⟨hlt, SK.out.symm, rfl⟩, z0, x0, x1, xf, BH.out⟩
          case measure => simp [intOf]; omega
        · have Q := hid q
          obtain ⟨c, hc⟩ : ∃ c : Int, ((r.data.toList[k]).toNat : Int) = c := ⟨_, rfl⟩
          have cq : (c == 47) = false := by
            simp only [beq_eq_false_iff_ne, ne_eq]
            intro e
            refine q (UInt8.toNat_inj.1 ?_)
            have : (r.data.toList[k]).toNat = 47 := by omega
            rw [this]; rfl
          have c0 : 0 ≤ c := by omega
          have c2 : c ≤ 255 := by omega
          rw [hc] at ix
          clear hc q st c1
          go_wp2_with fail
          go_roundw
          case rel => exact ⟨k + 1, _, by go_num, by go_num, .inl ⟨rfl, by omega, fun j hj hjl => by
            rcases Nat.lt_or_ge j k with h | h
            · exact NO.out j h hjl
            · obtain rfl : j = k := by omega
              exact Q.out⟩, z0, x0, x1, xf, BH.out⟩
          case measure => simp [intOf]; omega
      · have e : k = a' := by omega
        subst e
        have sl : Sp.slash r.data.toList = k := by
          have h := Sp.slash_none fun j hj => NO.out j (by rw [HL.out] at hj; exact hj) hj
          rw [h, HL.out]
        have one : (decide (Sp.slash r.data.toList < k)) = false := by rw [sl]; simp
        have T1 : Hid (∀ W, (Instr.slice 9 (.string r) none (some (.int .i64 (k : Nat))) none).run Tryd.prog W = .ok (.string s1) W) := hid (by have := HT1.out; rw [sl] at this; exact this)
        have HP := hid (HW.out.1 one)
        clear one sl NO HT1 HW HL HT2 n2 hlt
        have t1 := T1.out
        go_wp2_with fail
        refine (n1 _).mono ?_; rintro _ v1 ⟨rfl, hb⟩
        have yz : w.heap.size < (v1).heap.size := Nat.lt_of_lt_of_le (show w.heap.size < _ from (by first | assumption | (simp; done) | (simp; omega) | (dsimp only; omega) | omega)) hb.size; have y0 : (v1).cell? ⟨w.heap.size, 0, none⟩ = some (.int .i64 0) := (hb.cell (p := ⟨w.heap.size, 0, none⟩) (by first | assumption | (simp; done) | (simp; omega) | (dsimp only; omega) | omega)).trans (by first | assumption | (simp [go_sem]; done) | (simp [go_sem, *]; done)); have y1 : (v1).cell? ⟨w.heap.size, 1, none⟩ = some (.int .i64 0) := (hb.cell (p := ⟨w.heap.size, 1, none⟩) (by first | assumption | (simp; done) | (simp; omega) | (dsimp only; omega) | omega)).trans (by first | assumption | (simp [go_sem]; done) | (simp [go_sem, *]; done)); have yf : ∀ o, (v1).frozen? ⟨w.heap.size, o, none⟩ = false := fun o => (hb.frozen (p := ⟨w.heap.size, o, none⟩) (by first | assumption | (simp; done) | (simp; omega) | (dsimp only; omega) | omega)).trans (by first | (simp [go_sem]; done) | (simp [*]; done))
        have BN : Below w.heap.size w v1 := BH.out.trans (hb.mono BH.out.size)
        clear hb x0 x1 xf z0 t1 n1
        have hz := BN.size
        rcases HP.out with ⟨hbad, e1, e2, e3⟩ | ⟨hgood, nw⟩
        · obtain rfl : ok = false := by rcases hbad with h | h; exact h; exact absurd h.1 (by simp)
          subst e1 e2 e3
          go_wp2_with fail
          refine bodyPost_ret (v := .tuple #[.agg #[.int .i64 0, .int .i64 0], .int .i64 4]) (by simp [results, Tryd.results40, go_sem, y0, y1]) rfl ?_
          exact Gives.mk rfl (by repeat' (first | (with_reducible exact Below.refl _ _) | (with_reducible refine Below.alloc ?_ ?_ _) | (with_reducible refine Below.setCell ?_ ?_ _) | (with_reducible refine Below.drew ?_) | (with_reducible refine below_dn ?_ _) | (with_reducible refine Below.trans ?_ (Below.mono (by assumption) ?_)) | (simp; done) | (simp; omega) | omega))
        · obtain rfl : ok = true := hgood.1
          simp only [if_true, Bool.false_eq_true, if_false] at nw
          go_wp2_with fail
          refine (nw _).mono ?_; rintro _ v3 ⟨rfl, hb⟩
          have xz : w.heap.size < (v3).heap.size := Nat.lt_of_lt_of_le (show w.heap.size < _ from (by first | assumption | (simp; done) | (simp; omega) | (dsimp only; omega) | omega)) hb.size; have x0 : (v3).cell? ⟨w.heap.size, 0, none⟩ = some (.int .i64 0) := (hb.cell (p := ⟨w.heap.size, 0, none⟩) (by first | assumption | (simp; done) | (simp; omega) | (dsimp only; omega) | omega)).trans (by first | assumption | (simp [go_sem]; done) | (simp [go_sem, *]; done)); have x1 : (v3).cell? ⟨w.heap.size, 1, none⟩ = some (.int .i64 0) := (hb.cell (p := ⟨w.heap.size, 1, none⟩) (by first | assumption | (simp; done) | (simp; omega) | (dsimp only; omega) | omega)).trans (by first | assumption | (simp [go_sem]; done) | (simp [go_sem, *]; done)); have xf : ∀ o, (v3).frozen? ⟨w.heap.size, o, none⟩ = false := fun o => (hb.frozen (p := ⟨w.heap.size, o, none⟩) (by first | assumption | (simp; done) | (simp; omega) | (dsimp only; omega) | omega)).trans (by first | (simp [go_sem]; done) | (simp [*]; done))
          have BN3 : Below w.heap.size w v3 := BN.trans (hb.mono BN.size)
          have hz3 := BN3.size
          clear hb y0 y1 yf yz BN hz
          go_wp2_with fail
          refine bodyPost_ret (v := .tuple #[.agg #[.int .i64 lo, .int .i64 hi], .int .i64 e]) (by simp [results, Tryd.results40, go_sem, x0, x1]) rfl ?_
          exact Gives.mk rfl (by repeat' (first | (with_reducible exact Below.refl _ _) | (with_reducible refine Below.alloc ?_ ?_ _) | (with_reducible refine Below.setCell ?_ ?_ _) | (with_reducible refine Below.drew ?_) | (with_reducible refine below_dn ?_ _) | (with_reducible refine Below.trans ?_ (Below.mono (by assumption) ?_)) | (simp; done) | (simp; omega) | omega))
    · have one : decide (Sp.slash r.data.toList < n) = true := by rw [← hs]; exact decide_eq_true hlt2
      have T1 : Hid (∀ W, (Instr.slice 9 (.string r) none (some (.int .i64 (a' : Nat))) none).run Tryd.prog W = .ok (.string s1) W) := hid (by have := HT1.out; rw [← hs] at this; exact this)
      have T2 : Hid (a' < n → ∀ W, (Instr.slice 9 (.string r) (some (.int .i64 ((a' : Nat) + 1))) none none).run Tryd.prog W = .ok (.string s2) W) := hid (by have := HT2.out; rw [← hs] at this; exact this)
      have HP := hid (HW.out.2 one)
      have kn : (( (a' : Nat) : Int) == (n : Int)) = false := by simp; omega
      clear one hs HT1 HT2 HW HL
      have t1 := T1.out
      go_wp2_with fail
      all_goals
        refine (n1 _).mono ?_; rintro _ v1 ⟨rfl, hb⟩
        have yz : w.heap.size < (v1).heap.size := Nat.lt_of_lt_of_le (show w.heap.size < _ from (by first | assumption | (simp; done) | (simp; omega) | (dsimp only; omega) | omega)) hb.size; have y0 : (v1).cell? ⟨w.heap.size, 0, none⟩ = some (.int .i64 0) := (hb.cell (p := ⟨w.heap.size, 0, none⟩) (by first | assumption | (simp; done) | (simp; omega) | (dsimp only; omega) | omega)).trans (by first | assumption | (simp [go_sem]; done) | (simp [go_sem, *]; done)); have y1 : (v1).cell? ⟨w.heap.size, 1, none⟩ = some (.int .i64 0) := (hb.cell (p := ⟨w.heap.size, 1, none⟩) (by first | assumption | (simp; done) | (simp; omega) | (dsimp only; omega) | omega)).trans (by first | assumption | (simp [go_sem]; done) | (simp [go_sem, *]; done)); have yf : ∀ o, (v1).frozen? ⟨w.heap.size, o, none⟩ = false := fun o => (hb.frozen (p := ⟨w.heap.size, o, none⟩) (by first | assumption | (simp; done) | (simp; omega) | (dsimp only; omega) | omega)).trans (by first | (simp [go_sem]; done) | (simp [*]; done))
        have BN : Below w.heap.size w v1 := BH.out.trans (hb.mono BH.out.size)
        clear hb x0 x1 xf z0 t1 n1
        have t2 := T2.out hlt2
        go_wp2_with fail
        refine (n2 _).mono ?_; rintro _ v2 ⟨rfl, hb⟩
        have xz : w.heap.size < (v2).heap.size := Nat.lt_of_lt_of_le (show w.heap.size < _ from (by first | assumption | (simp; done) | (simp; omega) | (dsimp only; omega) | omega)) hb.size; have x0 : (v2).cell? ⟨w.heap.size, 0, none⟩ = some (.int .i64 0) := (hb.cell (p := ⟨w.heap.size, 0, none⟩) (by first | assumption | (simp; done) | (simp; omega) | (dsimp only; omega) | omega)).trans (by first | assumption | (simp [go_sem]; done) | (simp [go_sem, *]; done)); have x1 : (v2).cell? ⟨w.heap.size, 1, none⟩ = some (.int .i64 0) := (hb.cell (p := ⟨w.heap.size, 1, none⟩) (by first | assumption | (simp; done) | (simp; omega) | (dsimp only; omega) | omega)).trans (by first | assumption | (simp [go_sem]; done) | (simp [go_sem, *]; done)); have xf : ∀ o, (v2).frozen? ⟨w.heap.size, o, none⟩ = false := fun o => (hb.frozen (p := ⟨w.heap.size, o, none⟩) (by first | assumption | (simp; done) | (simp; omega) | (dsimp only; omega) | omega)).trans (by first | (simp [go_sem]; done) | (simp [*]; done))
        have BN2 : Below w.heap.size w v2 := BN.trans (hb.mono BN.size)
        clear hb y0 y1 yf yz t2 n2 BN
        have BN := BN2
        clear BN2
        have hz := BN.size
        rcases HP.out with ⟨hbad, e1, e2, e3⟩ | ⟨hgood, nw⟩
        · subst e1 e2 e3
          cases ok with
          | false =>
            go_wp2_with fail
            refine bodyPost_ret (v := .tuple #[.agg #[.int .i64 0, .int .i64 0], .int .i64 4]) (by simp [results, Tryd.results40, go_sem, x0, x1]) rfl ?_
            exact Gives.mk rfl (by repeat' (first | (with_reducible exact Below.refl _ _) | (with_reducible refine Below.alloc ?_ ?_ _) | (with_reducible refine Below.setCell ?_ ?_ _) | (with_reducible refine Below.drew ?_) | (with_reducible refine below_dn ?_ _) | (with_reducible refine Below.trans ?_ (Below.mono (by assumption) ?_)) | (simp; done) | (simp; omega) | omega))
          | true =>
            obtain rfl : fine = false := by rcases hbad with h | h; exact absurd h (by simp); exact h.2
            go_wp2_with fail
            refine bodyPost_ret (v := .tuple #[.agg #[.int .i64 0, .int .i64 0], .int .i64 4]) (by simp [results, Tryd.results40, go_sem, x0, x1]) rfl ?_
            exact Gives.mk rfl (by repeat' (first | (with_reducible exact Below.refl _ _) | (with_reducible refine Below.alloc ?_ ?_ _) | (with_reducible refine Below.setCell ?_ ?_ _) | (with_reducible refine Below.drew ?_) | (with_reducible refine below_dn ?_ _) | (with_reducible refine Below.trans ?_ (Below.mono (by assumption) ?_)) | (simp; done) | (simp; omega) | omega))
        · obtain rfl : ok = true := hgood.1
          obtain rfl : fine = true := by rcases hgood.2 with h | h; exact absurd h (by simp); exact h
          simp only [if_true, Bool.false_eq_true, if_false] at nw
          go_wp2_with fail
          refine (nw _).mono ?_; rintro _ v3 ⟨rfl, hb⟩
          have yz : w.heap.size < (v3).heap.size := Nat.lt_of_lt_of_le (show w.heap.size < _ from (by first | assumption | (simp; done) | (simp; omega) | (dsimp only; omega) | omega)) hb.size; have y0 : (v3).cell? ⟨w.heap.size, 0, none⟩ = some (.int .i64 0) := (hb.cell (p := ⟨w.heap.size, 0, none⟩) (by first | assumption | (simp; done) | (simp; omega) | (dsimp only; omega) | omega)).trans (by first | assumption | (simp [go_sem]; done) | (simp [go_sem, *]; done)); have y1 : (v3).cell? ⟨w.heap.size, 1, none⟩ = some (.int .i64 0) := (hb.cell (p := ⟨w.heap.size, 1, none⟩) (by first | assumption | (simp; done) | (simp; omega) | (dsimp only; omega) | omega)).trans (by first | assumption | (simp [go_sem]; done) | (simp [go_sem, *]; done)); have yf : ∀ o, (v3).frozen? ⟨w.heap.size, o, none⟩ = false := fun o => (hb.frozen (p := ⟨w.heap.size, o, none⟩) (by first | assumption | (simp; done) | (simp; omega) | (dsimp only; omega) | omega)).trans (by first | (simp [go_sem]; done) | (simp [*]; done))
          have BN3 : Below w.heap.size w v3 := BN.trans (hb.mono BN.size)
          have hz3 := BN3.size
          clear hb x0 x1 xf xz BN hz
          go_wp2_with fail
          refine bodyPost_ret (v := .tuple #[.agg #[.int .i64 lo, .int .i64 hi], .int .i64 e]) (by simp [results, Tryd.results40, go_sem, y0, y1]) rfl ?_
          exact Gives.mk rfl (by repeat' (first | (with_reducible exact Below.refl _ _) | (with_reducible refine Below.alloc ?_ ?_ _) | (with_reducible refine Below.setCell ?_ ?_ _) | (with_reducible refine Below.drew ?_) | (with_reducible refine below_dn ?_ _) | (with_reducible refine Below.trans ?_ (Below.mono (by assumption) ?_)) | (simp; done) | (simp; omega) | omega))
end Go.Proofs.YtjbnejhpfknfcaaDoor
