/-
  Layer 6: checksums of both packages, by contract.
-/
import Derived.Test.YtcjhgihkofmhgaaCwf
import Derived.Test.YtcjhgihkofmhgaaCm
namespace Go.Proofs.Ytcjhgihkofmhgaa
open Go.RowKit
set_option linter.unusedVariables false
set_option linter.unusedSimpArgs false

def BitRel (R : Nat) (s t : Value) : Prop := ∃ (j q : Nat), t = .int .i64 (j : Int) ∧ s = .int .u32 (q : Int) ∧ j ≤ 8 ∧ q < 4294967296 ∧ Sp.crcBits (8 - j) q = R
def CrcRel (R : Nat) (L : List UInt8) (s t : Value) : Prop := ∃ (k r : Nat), t = .int .i64 (k : Int) ∧ s = .int .u32 (r : Int) ∧ k ≤ L.length ∧ r < 4294967296 ∧ Sp.crcL r (L.drop k) = R
theorem bits_step {j q R : Nat} (hj : j < 8) (h : Sp.crcBits (8 - j) q = R) : Sp.crcBits (8 - (j + 1)) (Sp.crcBit q) = R := by
  rw [show 8 - j = (8 - (j + 1)) + 1 by omega] at h
  exact h
theorem bit_xor {q : Nat} (h : q < 4294967296) : bits .xor .u32 ((q : Int) / 2) 3988292384 = (((q / 2) ^^^ 3988292384 : Nat) : Int) := by
  have := u32_xor_nat (q / 2) 3988292384 (by omega) (by omega)
  rw [← this]
  congr 1
set_option maxRecDepth 100000 in
set_option maxHeartbeats 2000000 in
theorem update_any (s : Nat) (hs : s < 4294967296) (L : List UInt8) (A : Option Addr) (cap : Nat) (hl : L.length ≤ 9223372036854775807) (B : Nat) (w : World) (hB : B ≤ w.heap.size) (S : Bs w B A L) :
    Calls Try.prog 34 #[.int .u32 (s : Int), .slice A L.length cap] w fun e w' => e = .returned (.int .u32 (Sp.updS s L : Int)) ∧ w = w' := by
  obtain ⟨p, hp⟩ : ∃ p, Sp.not32 s = p := ⟨_, rfl⟩
  have hp0 : p < 4294967296 := by rw [← hp]; exact Sp.not32_lt s
  have e0 : bits .xor .u32 IntKind.u32.max (s : Int) = (p : Int) := by
    rw [not32_bits _ (by omega) (by omega), ← hp]
    unfold Sp.not32
    omega
  obtain ⟨R, hR⟩ : ∃ R, Sp.crcL p L = R := ⟨_, rfl⟩
  have HR := hid hR
  have R0 : R < 4294967296 := by rw [← hR]; exact Sp.crcL_lt L hp0
  have e1 : bits .xor .u32 IntKind.u32.max (R : Int) = (Sp.updS s L : Int) := by
    rw [not32_bits _ (by omega) (by omega)]
    unfold Sp.updS
    rw [hp, hR]
    unfold Sp.not32
    omega
  have HP := hid hp0
  have E1 := hid e1
  have RH := hid R0
  clear hs hp hR hp0 R0 e1
  go_enter Try.func34, Try.ntmps34
  go_wp2_with fail
  go_loop [5, 13] (fun u t => CrcRel R L u t) (fun _ t => L.length - (intOf t).toNat)
  case atStart => exact ⟨0, p, rfl, rfl, Nat.zero_le _, HP.out, HR.out⟩
  case round =>
    obtain ⟨k, r, rfl, rfl, hk, hr, hc⟩ := hrel
    have HC := hid hc
    have HR0 := hid hr
    clear hc hr e0
    by_cases hlt : k < L.length
    · obtain ⟨b, off, rfl, lt, cel⟩ := S.at_ (by omega)
      have x := cel k hlt
      have st := hid (Sp.crcL_step (r := r) hlt)
      have hx : (L[k]).toNat < 256 := UInt8.toNat_lt _
      generalize (L[k]).toNat = X at x hx st
      have ex : bits .xor .u32 (r : Int) (X : Int) = ((r ^^^ X : Nat) : Int) := u32_xor_nat r X HR0.out (by omega)
      obtain ⟨y, hy⟩ : ∃ y, r ^^^ X = y := ⟨_, rfl⟩
      rw [hy] at ex
      have hy0 := hid (show y < 4294967296 by rw [← hy]; exact Sp.xor_lt32 HR0.out (by omega))
      have hT := hid (show Sp.crcByte r X = Sp.crcBits 8 y by unfold Sp.crcByte; rw [hy])
      clear cel hy
      go_wp2_with fail
      go_loop [5, 21] (fun u t => BitRel (Sp.crcBits 8 y) u t) (fun _ t => 8 - (intOf t).toNat)
      case atStart => exact ⟨0, y, rfl, rfl, by omega, hy0.out, rfl⟩
      case round =>
        obtain ⟨j, q, rfl, rfl, hj, hq, hb⟩ := hrel
        have HB := hid hb
        have HQ := hid hq
        have e2 := bit_xor hq
        clear hb hq
        by_cases hj8 : j < 8
        · by_cases o : q % 2 = 1
          · have o1 : ((q : Int) % 2 == 1) = true := by simp; omega
            have O := hid o
            have hw : IntKind.u32.wrap ((q : Int) / 2) = (q : Int) / 2 := by have := HQ.out; rw [IntKind.wrap_u32']; omega
            clear o
            go_wp2_with fail
            go_round
            case rel =>
              have hbq := bits_step hj8 HB.out
              have hlt2 := Sp.crcBit_lt HQ.out
              unfold Sp.crcBit at hbq hlt2
              rw [if_pos O.out] at hbq hlt2
              exact ⟨j + 1, _, by go_num, rfl, by omega, hlt2, hbq⟩
            case measure => simp [intOf]; omega
          · have o1 : ((q : Int) % 2 == 1) = false := by simp; omega
            have O := hid o
            have hw : IntKind.u32.wrap ((q : Int) / 2) = (q : Int) / 2 := by have := HQ.out; rw [IntKind.wrap_u32']; omega
            clear o
            go_wp2_with fail
            go_round
            case rel =>
              have hbq := bits_step hj8 HB.out
              have hlt2 := Sp.crcBit_lt HQ.out
              unfold Sp.crcBit at hbq hlt2
              rw [if_neg O.out] at hbq hlt2
              exact ⟨j + 1, q / 2, by go_num, by go_num, by omega, hlt2, hbq⟩
            case measure => simp [intOf]; omega
        · have e8 : j = 8 := by omega
          subst e8
          go_wp2_with fail
          go_round
          case rel =>
            have hq8 : q = Sp.crcBits 8 y := HB.out
            refine ⟨k + 1, q, by go_num, rfl, by omega, HQ.out, ?_⟩
            rw [← HC.out, st.out, hT.out, hq8]
          case measure => simp [intOf]; omega
    · have e := HC.out
      rw [List.drop_eq_nil_of_le (by omega), Sp.crcL_nil] at e
      subst e
      have e1 := E1.out
      go_wp2_with fail
      go_ret
      exact ⟨rfl, rfl⟩
set_option maxRecDepth 100000 in
set_option maxHeartbeats 2000000 in
theorem rupdate_any (s : Nat) (hs : s < 4294967296) (L : List UInt8) (A : Option Addr) (cap : Nat) (hl : L.length ≤ 9223372036854775807) (B : Nat) (w : World) (hB : B ≤ w.heap.size) (S : Bs w B A L) :
    Calls Try.prog 35 #[.int .u32 (s : Int), .slice A L.length cap] w fun e w' => e = .returned (.int .u32 (Sp.updS s L : Int)) ∧ w = w' := by
  obtain ⟨p, hp⟩ : ∃ p, Sp.not32 s = p := ⟨_, rfl⟩
  have hp0 : p < 4294967296 := by rw [← hp]; exact Sp.not32_lt s
  have e0 : bits .xor .u32 IntKind.u32.max (s : Int) = (p : Int) := by
    rw [not32_bits _ (by omega) (by omega), ← hp]
    unfold Sp.not32
    omega
  obtain ⟨R, hR⟩ : ∃ R, Sp.crcL p L = R := ⟨_, rfl⟩
  have HR := hid hR
  have R0 : R < 4294967296 := by rw [← hR]; exact Sp.crcL_lt L hp0
  have e1 : bits .xor .u32 IntKind.u32.max (R : Int) = (Sp.updS s L : Int) := by
    rw [not32_bits _ (by omega) (by omega)]
    unfold Sp.updS
    rw [hp, hR]
    unfold Sp.not32
    omega
  have HP := hid hp0
  have E1 := hid e1
  have RH := hid R0
  clear hs hp hR hp0 R0 e1
  go_enter Try.func35, Try.ntmps35
  go_wp2_with fail
  go_loop [5, 6] (fun u t => CrcRel R L u t) (fun _ t => L.length - (intOf t).toNat)
  case atStart => exact ⟨0, p, rfl, rfl, Nat.zero_le _, HP.out, HR.out⟩
  case round =>
    obtain ⟨k, r, rfl, rfl, hk, hr, hc⟩ := hrel
    have HC := hid hc
    have HR0 := hid hr
    clear hc hr e0
    by_cases hlt : k < L.length
    · obtain ⟨b, off, rfl, lt, cel⟩ := S.at_ (by omega)
      have x := cel k hlt
      have st := hid (Sp.crcL_step (r := r) hlt)
      have hx : (L[k]).toNat < 256 := UInt8.toNat_lt _
      generalize (L[k]).toNat = X at x hx st
      have ex : bits .xor .u32 (r : Int) (X : Int) = ((r ^^^ X : Nat) : Int) := u32_xor_nat r X HR0.out (by omega)
      obtain ⟨y, hy⟩ : ∃ y, r ^^^ X = y := ⟨_, rfl⟩
      rw [hy] at ex
      have hy0 := hid (show y < 4294967296 by rw [← hy]; exact Sp.xor_lt32 HR0.out (by omega))
      have hT := hid (show Sp.crcByte r X = Sp.crcBits 8 y by unfold Sp.crcByte; rw [hy])
      clear cel hy
      go_wp2_with fail
      go_loop [5, 7] (fun u t => BitRel (Sp.crcBits 8 y) u t) (fun _ t => 8 - (intOf t).toNat)
      case atStart => exact ⟨0, y, rfl, rfl, by omega, hy0.out, rfl⟩
      case round =>
        obtain ⟨j, q, rfl, rfl, hj, hq, hb⟩ := hrel
        have HB := hid hb
        have HQ := hid hq
        have e2 := bit_xor hq
        clear hb hq
        by_cases hj8 : j < 8
        · by_cases o : q % 2 = 1
          · have o1 : ((q : Int) % 2 == 1) = true := by simp; omega
            have O := hid o
            have hw : IntKind.u32.wrap ((q : Int) / 2) = (q : Int) / 2 := by have := HQ.out; rw [IntKind.wrap_u32']; omega
            clear o
            go_wp2_with fail
            go_round
            case rel =>
              have hbq := bits_step hj8 HB.out
              have hlt2 := Sp.crcBit_lt HQ.out
              unfold Sp.crcBit at hbq hlt2
              rw [if_pos O.out] at hbq hlt2
              exact ⟨j + 1, _, by go_num, rfl, by omega, hlt2, hbq⟩
            case measure => simp [intOf]; omega
          · have o1 : ((q : Int) % 2 == 1) = false := by simp; omega
            have O := hid o
            have hw : IntKind.u32.wrap ((q : Int) / 2) = (q : Int) / 2 := by have := HQ.out; rw [IntKind.wrap_u32']; omega
            clear o
            go_wp2_with fail
            go_round
            case rel =>
              have hbq := bits_step hj8 HB.out
              have hlt2 := Sp.crcBit_lt HQ.out
              unfold Sp.crcBit at hbq hlt2
              rw [if_neg O.out] at hbq hlt2
              exact ⟨j + 1, q / 2, by go_num, by go_num, by omega, hlt2, hbq⟩
            case measure => simp [intOf]; omega
        · have e8 : j = 8 := by omega
          subst e8
          go_wp2_with fail
          go_round
          case rel =>
            have hq8 : q = Sp.crcBits 8 y := HB.out
            refine ⟨k + 1, q, by go_num, rfl, by omega, HQ.out, ?_⟩
            rw [← HC.out, st.out, hT.out, hq8]
          case measure => simp [intOf]; omega
    · have e := HC.out
      rw [List.drop_eq_nil_of_le (by omega), Sp.crcL_nil] at e
      subst e
      have e1 := E1.out
      go_wp2_with fail
      go_ret
      exact ⟨rfl, rfl⟩
theorem sum_any (L : List UInt8) (A : Option Addr) (cap : Nat) (hl : L.length ≤ 9223372036854775807) (B : Nat) (w : World) (hB : B ≤ w.heap.size) (S : Bs w B A L) :
    Calls Try.prog 32 #[.slice A L.length cap] w fun e w' => e = .returned (.int .u32 (Sp.updS 0 L : Int)) ∧ w = w' := by
  have up := update_any 0 (by omega) L A cap hl B w hB S
  simp only [Int.natCast_zero] at up
  clear hl S
  go_enter Try.func32, Try.ntmps32
  go_wp2_with (go_at_call 34; refine up.mono ?_; rintro e w' ⟨rfl, rfl⟩)
  go_ret
  exact ⟨rfl, rfl⟩
theorem rsum_any (L : List UInt8) (A : Option Addr) (cap : Nat) (hl : L.length ≤ 9223372036854775807) (B : Nat) (w : World) (hB : B ≤ w.heap.size) (S : Bs w B A L) :
    Calls Try.prog 33 #[.slice A L.length cap] w fun e w' => e = .returned (.int .u32 (Sp.updS 0 L : Int)) ∧ w = w' := by
  have up := rupdate_any 0 (by omega) L A cap hl B w hB S
  simp only [Int.natCast_zero] at up
  clear hl S
  go_enter Try.func33, Try.ntmps33
  go_wp2_with (go_at_call 35; refine up.mono ?_; rintro e w' ⟨rfl, rfl⟩)
  go_ret
  exact ⟨rfl, rfl⟩
end Go.Proofs.Ytcjhgihkofmhgaa
