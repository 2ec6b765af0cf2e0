/-
  Layer 6: ints as bytes, both packages, by contract: folded, unfolded, appendInt, PutInt.
-/
import Derived.Test.YtcjhgihkofmhgaaBase
import Derived.Test.YtcjhgihkofmhgaaCn
import Derived.Test.YtcjhgihkofmhgaaBapp
import Derived.Laws.BitsAllLaws
namespace Go.Proofs.Ytcjhgihkofmhgaa
open Go.RowKit
set_option linter.unusedVariables false
set_option linter.unusedSimpArgs false

theorem not64 (a : Int) (h0 : 0 ≤ a) (h1 : a < 18446744073709551616) : bits .xor .u64 IntKind.u64.max a = 18446744073709551615 - a := by
  obtain ⟨a, rfl⟩ := Int.eq_ofNat_of_zero_le h0
  show IntKind.u64.wrap ((BitVec.ofInt 64 IntKind.u64.max ^^^ BitVec.ofInt 64 (a : Int)).toNat : Int) = _
  have h : BitVec.ofInt 64 IntKind.u64.max = BitVec.allOnes 64 := by decide
  rw [h, BitVec.allOnes_xor, BitVec.toNat_not, ofInt_u64 a (by omega), IntKind.wrap_u64]
  omega
theorem not32_bits (a : Int) (h0 : 0 ≤ a) (h1 : a < 4294967296) : bits .xor .u32 IntKind.u32.max a = 4294967295 - a := by
  obtain ⟨a, rfl⟩ := Int.eq_ofNat_of_zero_le h0
  show IntKind.u32.wrap ((BitVec.ofInt 32 IntKind.u32.max ^^^ BitVec.ofInt 32 (a : Int)).toNat : Int) = _
  have h : BitVec.ofInt 32 IntKind.u32.max = BitVec.allOnes 32 := by decide
  rw [h, BitVec.allOnes_xor, BitVec.toNat_not, ofInt_u32 a (by omega), IntKind.wrap_u32']
  omega
theorem or128 (a : Nat) (h : a < 256) : a ||| 128 = a % 128 + 128 := by
  have : ∀ a : Fin 256, a.val ||| 128 = a.val % 128 + 128 := by decide +kernel
  exact this ⟨a, h⟩
theorem folded_any (n : Int) (h0 : -9223372036854775808 ≤ n) (h1 : n ≤ 9223372036854775807) (w : World) :
    Calls Try.prog 49 #[.int .i64 n] w fun e w' => e = .returned (.int .u64 (Sp.fold n : Int)) ∧ w = w' := by
  by_cases c : n < 0
  · go_enter Try.func49, Try.ntmps49
    go_wp2
    go_ret
    refine ⟨ret_u64 ?_, rfl⟩
    rw [IntKind.wrap_u64, IntKind.wrap_u64, not64 _ (by omega) (by omega)]
    unfold Sp.fold
    rw [if_pos c]
    omega
  · go_enter Try.func49, Try.ntmps49
    go_wp2
    go_ret
    refine ⟨ret_u64 ?_, rfl⟩
    unfold Sp.fold
    rw [if_neg (by omega)]
    omega
theorem unfolded_any (u : Nat) (h : u < 18446744073709551616) (w : World) :
    Calls Try.prog 38 #[.int .u64 (u : Int)] w fun e w' => e = .returned (.int .i64 (Sp.unf u)) ∧ w = w' := by
  by_cases c : u % 2 = 1
  · go_enter Try.func38, Try.ntmps38
    go_wp2
    go_ret
    refine ⟨ret_i64 ?_, rfl⟩
    rw [not64 _ (by omega) (by omega)]
    unfold Sp.unf wrap64
    rw [if_pos c]
    omega
  · go_enter Try.func38, Try.ntmps38
    go_wp2
    go_ret
    refine ⟨ret_i64 ?_, rfl⟩
    unfold Sp.unf
    rw [if_neg c]
    omega
def PutRel (w : World) (base : Nat) (v : Value) (L : List UInt8) (R : List UInt8) (s t : Value) (wr : World) : Prop :=
  ∃ (M : List UInt8) (u k : Nat), t = .int .u64 (u : Int) ∧ OwnB wr base s (L ++ M) ∧ M ++ Sp.putN k u = R ∧ u < 128 ^ (k + 1) ∧ Ow w wr v.ownBlock s.ownBlock ∧ u < 18446744073709551616
theorem put_more {k u : Nat} (h : u < 128 ^ (k + 1)) (c : 128 ≤ u) : ∃ j, k = j + 1 ∧ u / 128 < 128 ^ (j + 1) ∧ Sp.putN k u = UInt8.ofNat (u % 128 + 128) :: Sp.putN j (u / 128) := by
  cases k with
  | zero => simp at h; omega
  | succ j => exact ⟨j, rfl, by rw [Nat.pow_succ] at h; omega, by conv => lhs; unfold Sp.putN; rw [if_pos c]⟩
theorem put_last {k u : Nat} (c : ¬ 128 ≤ u) : Sp.putN k u = [UInt8.ofNat u] := by
  cases k with
  | zero => rfl
  | succ j => unfold Sp.putN; rw [if_neg c]
theorem byte_more (u : Nat) : bits .or .u8 ((u : Int) % 256) 128 = ((UInt8.ofNat (u % 128 + 128)).toNat : Int) := by
  have e : (UInt8.ofNat (u % 128 + 128)).toNat = u % 128 + 128 := by rw [UInt8.toNat_ofNat']; omega
  have h := u8_or_nat (u % 256) 128 (by omega) (by omega)
  have h2 : ((u % 256 : Nat) : Int) = (u : Int) % 256 := by omega
  rw [h2] at h
  rw [e]
  refine h.trans ?_
  rw [or128 _ (by omega)]
  omega
theorem byte_last (u : Nat) : (u : Int) % 256 = ((UInt8.ofNat u).toNat : Int) := by
  rw [UInt8.toNat_ofNat']; omega
theorem byte_small (u : Nat) (h : ¬ 128 ≤ u) : ((UInt8.ofNat u).toNat : Int) = (u : Int) := by
  rw [UInt8.toNat_ofNat']; omega
theorem hid_of {p q : Prop} (h : Hid p) (f : p → q) : Hid q := f h
set_option maxRecDepth 100000 in
set_option maxHeartbeats 1000000 in
theorem appendInt_any (base : Nat) (v : Value) (L : List UInt8) (n : Int) (h0 : -9223372036854775808 ≤ n) (h1 : n ≤ 9223372036854775807) (hL : L.length ≤ 140737488300000) (w : World) (hb : base ≤ w.heap.size) (hv : OwnB w base v L) :
    Calls Try.prog 39 #[v, .int .i64 n] w fun e w' => ∃ v', e = .returned v' ∧ OwnB w' base v' (L ++ Sp.putS n) ∧ Ow w w' v.ownBlock v'.ownBlock := by
  have hR := Sp.putS_len n
  have lt := Sp.fold_lt h0 h1
  have HL : Hid (∀ M : List UInt8, M.length + 1 ≤ 10 → (L ++ M).length + 1 ≤ 140737488355328) := hid fun M hM => by rw [List.length_append]; omega
  clear hL
  go_enter Try.func39, Try.ntmps39
  go_wp2_with (go_at_call 49; refine (folded_any n h0 h1 _).mono ?_; rintro e w' ⟨rfl, rfl⟩)
  go_loopw [0, 5] (fun s t wr => PutRel w base v L (Sp.putS n) s t wr) (fun _ t _ => (intOf t).toNat)
  case atStart => exact ⟨[], Sp.fold n, 9, rfl, by simpa using hv, rfl, Nat.lt_of_lt_of_le lt (by decide), Ow.refl _ _, lt⟩
  case round =>
    obtain ⟨M, u, k, rfl, how, hM, hk, hO, hu⟩ := hrel
    have HU := hid hu
    have hsz := hO.size
    have HM := hid hM
    have HK := hid hk
    have HOW := hid how
    have HO := hid hO
    have hlen : M.length + 1 ≤ 10 := by
      have e : (M ++ Sp.putN k u).length ≤ 10 := by rw [hM]; exact hR.2
      rw [List.length_append] at e
      have := (Sp.putN_len k u).1
      omega
    have HB := hid_of HL (fun f => f M hlen)
    clear hM hk hO how lt h0 h1 HL hu
    by_cases c : 128 ≤ u
    · go_wp2_with (at_builtin; refine app1 rfl _ _ rfl base _ (L ++ M) rfl (HOW.out.alloc _) wr.heap.size rfl (UInt8.ofNat (u % 128 + 128)) (by rw [← byte_more u]; simp [go_sem]) HB (by simp; omega) ?_; intro v' w1 how1 hO1)
      go_roundw
      case rel =>
        obtain ⟨j, rfl, h2, h3⟩ := put_more HK.out c
        refine ⟨M ++ [UInt8.ofNat (u % 128 + 128)], u / 128, j, by go_num, by rw [← List.append_assoc]; exact how1, ?_, h2, (HO.out.alloc _).trans hO1, by have := HU.out; omega⟩
        rw [← HM.out, h3]
        simp
      case measure => simp [intOf]; omega
    · go_wp2_with (at_builtin; refine app1 rfl _ _ rfl base _ (L ++ M) rfl (HOW.out.alloc _) wr.heap.size rfl (UInt8.ofNat u) (by rw [byte_small u c]; simp [go_sem]) HB (by simp; omega) ?_; intro v' w1 how1 hO1)
      go_ret
      refine ⟨v', rfl, ?_, (HO.out.alloc _).trans hO1⟩
      rw [← HM.out, put_last c, ← List.append_assoc]
      exact how1
end Go.Proofs.Ytcjhgihkofmhgaa
