/-
  Layer 6: ints as bytes, both packages, by contract: PutInt, GetInt.
-/
import Derived.Test.YtcjhgihkofmhgaaCwa
import Derived.Laws.ShiftsVarLaws
namespace Go.Proofs.Ytcjhgihkofmhgaa
open Go.RowKit
set_option linter.unusedVariables false
set_option linter.unusedSimpArgs false

theorem putInt_any (n : Int) (h0 : -9223372036854775808 ≤ n) (h1 : n ≤ 9223372036854775807) (w : World) :
    Calls Try.prog 17 #[.int .i64 n] w fun e w' => ∃ v', e = .returned v' ∧ OwnB w' w.heap.size v' (Sp.putS n) ∧ Below w.heap.size w w' := by
  go_enter Try.func17, Try.ntmps17
  go_wp2_with (go_at_call 39; refine (appendInt_any w.heap.size (.slice none 0 0) [] n h0 h1 (by simp) _ (Nat.le_refl _) (OwnB.nil _ _)).mono ?_; rintro e w' ⟨v', rfl, how, hO⟩)
  go_ret
  exact ⟨v', rfl, how, hO.to_below⟩
def GetRel (R : Nat × Nat × Int) (M : List UInt8) (s t : Value) : Prop :=
  ∃ (i v : Nat), t = .int .i64 (i : Int) ∧ s = .int .u64 (v : Int) ∧ i ≤ 9 ∧ i ≤ M.length ∧ Sp.scan i v (M.drop i) = R ∧ v < 2 ^ (7 * i)
theorem pow_le9 {i : Nat} (hi : i ≤ 9) : (2 : Nat) ^ (7 * i) ≤ 9223372036854775808 := Nat.le_trans (Nat.pow_le_pow_right (by decide) (show 7 * i ≤ 63 by omega)) (by decide)
theorem shl_lt {i X : Nat} (hi : i ≤ 9) (h9 : i = 9 → X ≤ 1) (hX : X < 256) : (X % 128) * 2 ^ (7 * i) < 18446744073709551616 := by
  by_cases e : i = 9
  · subst e
    have := h9 rfl
    omega
  · have h : (2 : Nat) ^ (7 * i) ≤ 72057594037927936 := Nat.le_trans (Nat.pow_le_pow_right (by decide) (show 7 * i ≤ 56 by omega)) (by decide)
    have h2 : X % 128 ≤ 127 := by omega
    have := Nat.mul_le_mul h2 h
    omega
theorem or_step {i v X : Nat} (hi : i ≤ 9) (h9 : i = 9 → X ≤ 1) (hX : X < 256) (hv : v < 2 ^ (7 * i)) :
    bits .or .u64 (v : Int) (IntKind.u64.wrap ((X : Int) % 128 * 2 ^ (7 * i))) = ((v ||| (X % 128) <<< (7 * i) : Nat) : Int) ∧ v ||| (X % 128) <<< (7 * i) < 18446744073709551616 := by
  have hs := shl_lt hi h9 hX
  have hp := pow_le9 hi
  have e : (X : Int) % 128 * 2 ^ (7 * i) = (((X % 128) * 2 ^ (7 * i) : Nat) : Int) := by rw [Int.natCast_mul, Int.natCast_emod, Int.natCast_pow]; rfl
  have hb : (X % 128) * 2 ^ (7 * i) < 2 ^ 64 := hs
  have hvb : v < 2 ^ 64 := by have : (9223372036854775808 : Nat) < 2 ^ 64 := by decide
                              omega
  rw [e, IntKind.wrap_u64, Nat.shiftLeft_eq]
  refine ⟨?_, Nat.or_lt_two_pow hvb hb⟩
  have e2 : (((X % 128) * 2 ^ (7 * i) : Nat) : Int) % 18446744073709551616 = (((X % 128) * 2 ^ (7 * i) : Nat) : Int) := by omega
  rw [e2]
  exact bits_or_u64_nat _ _ (by omega) hs
theorem or_last {v X : Nat} (h9 : X ≤ 1) (hv : v < 2 ^ (7 * 9)) :
    bits .or .u64 (v : Int) ((X : Int) % 128 * 9223372036854775808) = ((v ||| (X % 128) <<< (7 * 9) : Nat) : Int) ∧ v ||| (X % 128) <<< (7 * 9) < 18446744073709551616 := by
  obtain ⟨h1, h2⟩ := or_step (i := 9) (v := v) (X := X) (by omega) (fun _ => h9) (by omega) hv
  refine ⟨?_, h2⟩
  rw [← h1]
  congr 1
  rw [IntKind.wrap_u64, show ((2 : Int) ^ (7 * 9)) = 9223372036854775808 by decide]
  omega
theorem or_bound {i v X : Nat} (hv : v < 2 ^ (7 * i)) : v ||| (X % 128) <<< (7 * i) < 2 ^ (7 * (i + 1)) := by
  have h1 : v < 2 ^ (7 * (i + 1)) := Nat.lt_of_lt_of_le hv (Nat.pow_le_pow_right (by decide) (by omega))
  refine Nat.or_lt_two_pow h1 ?_
  rw [Nat.shiftLeft_eq, show 7 * (i + 1) = 7 + 7 * i by omega, Nat.pow_add]
  exact Nat.mul_lt_mul_of_pos_right (show X % 128 < 2 ^ 7 from Nat.mod_lt _ (by decide)) (Nat.pow_pos (by decide))
theorem getS_of {L : List UInt8} {k : Nat} (hk : k ≤ L.length) {u j : Nat} {e : Int} (h : Sp.scan 0 0 (L.drop k) = (u, j, e)) : Sp.getS L k = if e = 0 then (Sp.unf u, (k : Int) + j, 0) else (0, 0, e) := by
  unfold Sp.getS Sp.getL
  rw [if_neg (by omega), Int.toNat_natCast, h]
  by_cases c : e = 0
  · subst c; simp
  · simp [c]
set_option maxRecDepth 100000 in
set_option maxHeartbeats 1000000 in
theorem getInt_in (L : List UInt8) (A : Option Addr) (cap k : Nat) (hk : k ≤ L.length) (hc : L.length ≤ cap) (hL : L.length ≤ 140737488355328) (B : Nat) (w : World) (hB : B ≤ w.heap.size) (S : Bs w B A L) :
    Calls Try.prog 12 #[.slice A L.length cap, .int .i64 (k : Int)] w fun e w' => e = .returned (.tuple #[.int .i64 (Sp.getS L k).1, .int .i64 (Sp.getS L k).2.1, .int .i64 (Sp.getS L k).2.2]) ∧ w = w' := by
  have sl := fun W => slice_from A L.length cap k hk W
  have SM : Bs w B (if cap = k then A else A.map (·.add k)) (L.drop k) := by simpa using S.cut hk (Nat.le_refl _) hc
  generalize (if cap = k then A else A.map (·.add k)) = A2 at sl SM
  have ml : (L.drop k).length = L.length - k := List.length_drop
  rw [← ml] at sl
  have HG : Hid (∀ u j e, Sp.scan 0 0 (L.drop k) = (u, j, e) → Sp.getS L k = if e = 0 then (Sp.unf u, (k : Int) + j, 0) else (0, 0, e)) := hid fun u j e h => getS_of hk h
  generalize hR : Sp.getS L k = R at HG
  clear hR
  obtain ⟨rn, rx, re⟩ := R
  have HL := hid hL
  clear S hL
  have f1 : decide ((k : Int) < 0) = false := decide_eq_false (by omega)
  have f2 : decide (L.length < k) = false := decide_eq_false (by omega)
  have f3 : L.length ≤ 140737488355328 := HL.out
  generalize L.drop k = M at *
  go_enter Try.func12, Try.ntmps12
  go_wp2_with fail
  go_loop [7, 22] (fun s t => GetRel (Sp.scan 0 0 M) M s t) (fun _ t => M.length - (intOf t).toNat)
  case atStart => exact ⟨0, 0, rfl, rfl, by omega, by omega, rfl, by decide⟩
  case round =>
    obtain ⟨i, v, rfl, rfl, hi, him, hs, hv⟩ := hrel
    by_cases hlt : i < M.length
    · obtain ⟨b, off, rfl, lt, cel⟩ := SM.at_ (by omega)
      have x := cel i hlt
      have hx : (M[i]).toNat < 256 := UInt8.toNat_lt _
      rw [List.drop_eq_getElem_cons hlt, Sp.scan_cons] at hs
      generalize (M[i]).toNat = X at x hx hs
      clear cel
      by_cases c1 : i = 9 ∧ 1 < X
      · rw [if_pos c1] at hs
        have hf := HG.out _ _ _ hs.symm
        rw [if_neg (by decide)] at hf
        simp only [Prod.mk.injEq] at hf
        obtain ⟨rfl, rfl, rfl⟩ := hf
        clear hs hv
        obtain ⟨rfl, c1⟩ := c1
        go_wp2_with fail
        go_ret3
        exact ⟨rfl, rfl⟩
      · rw [if_neg c1] at hs
        by_cases c2 : 0 < i ∧ X = 0
        · rw [if_pos c2] at hs
          have hf := HG.out _ _ _ hs.symm
          rw [if_neg (by decide)] at hf
          simp only [Prod.mk.injEq] at hf
          obtain ⟨rfl, rfl, rfl⟩ := hf
          clear hs hv
          obtain ⟨c2, rfl⟩ := c2
          clear c1
          by_cases e9 : i = 9
          · subst e9
            go_wp2_with fail
            go_ret3
            exact ⟨rfl, rfl⟩
          · have f4 : ((i : Int) == 9) = false := by simp; omega
            go_wp2_with fail
            go_ret3
            exact ⟨rfl, rfl⟩
        · rw [if_neg c2] at hs
          have f5 : 0 < i → ((X : Int) == 0) = false := fun h => by simp; omega
          by_cases c3 : X < 128
          · rw [if_pos c3] at hs
            have hf := HG.out _ _ _ hs.symm
            rw [if_pos rfl] at hf
            simp only [Prod.mk.injEq] at hf
            obtain ⟨rfl, rfl, rfl⟩ := hf
            clear hs
            by_cases e9 : i = 9
            · subst e9
              obtain ⟨h1, h2⟩ := or_last (v := v) (X := X) (by omega) hv
              obtain ⟨y, hy⟩ : ∃ y, v ||| (X % 128) <<< (7 * 9) = y := ⟨_, rfl⟩
              rw [hy] at h1 h2
              have HY := hid hy
              clear hy
              have f6 := f5 (by omega)
              have H2 := hid h2
              have x1 : X ≤ 1 := by omega
              clear hv f5 c1 c2 h2
              go_wp2_with (go_at_call 38; refine (unfolded_any y H2.out _).mono ?_; rintro e w' ⟨rfl, rfl⟩)
              go_ret3
              exact ⟨ret_i3 (by rw [HY.out]) (by omega) rfl, rfl⟩
            · have f4 : ((i : Int) == 9) = false := by simp; omega
              obtain ⟨h1, h2⟩ := or_step (i := i) (v := v) (X := X) hi (fun h => absurd h e9) hx hv
              obtain ⟨y, hy⟩ : ∃ y, v ||| (X % 128) <<< (7 * i) = y := ⟨_, rfl⟩
              rw [hy] at h1 h2
              have HY := hid hy
              clear hy
              have H2 := hid h2
              clear hv c1 c2 h2
              by_cases i0 : 0 < i
              · have f6 := f5 i0
                clear f5
                go_wp2_with (go_at_call 38; refine (unfolded_any y H2.out _).mono ?_; rintro e w' ⟨rfl, rfl⟩)
                go_ret3
                exact ⟨ret_i3 (by rw [HY.out]) (by omega) rfl, rfl⟩
              · clear f5
                go_wp2_with (go_at_call 38; refine (unfolded_any y H2.out _).mono ?_; rintro e w' ⟨rfl, rfl⟩)
                go_ret3
                exact ⟨ret_i3 (by rw [HY.out]) (by omega) rfl, rfl⟩
          · rw [if_neg c3] at hs
            have e9 : ¬ i = 9 := by omega
            have f4 : ((i : Int) == 9) = false := by simp; omega
            have hb := hid (or_bound (X := X) hv)
            obtain ⟨h1, h2⟩ := or_step (i := i) (v := v) (X := X) hi (fun h => absurd h e9) hx hv
            generalize v ||| (X % 128) <<< (7 * i) = y at *
            have HS := hid hs
            clear hv c1 c2 h2 hs
            by_cases i0 : 0 < i
            · have f6 := f5 i0
              clear f5
              go_wp2_with fail
              go_round
              case rel => exact ⟨i + 1, y, by go_num, rfl, by omega, by omega, HS.out, hb.out⟩
              case measure => simp [intOf]; omega
            · clear f5
              go_wp2_with fail
              go_round
              case rel => exact ⟨i + 1, y, by go_num, rfl, by omega, by omega, HS.out, hb.out⟩
              case measure => simp [intOf]; omega
    · rw [List.drop_eq_nil_of_le (by omega), Sp.scan_nil] at hs
      have hf := HG.out _ _ _ hs.symm
      rw [if_neg (by decide)] at hf
      simp only [Prod.mk.injEq] at hf
      obtain ⟨rfl, rfl, rfl⟩ := hf
      clear hs hv
      go_wp2_with fail
      go_ret3
      exact ⟨rfl, rfl⟩
theorem getInt_any (L : List UInt8) (A : Option Addr) (cap : Nat) (at_ : Int) (hc : L.length ≤ cap) (hL : L.length ≤ 140737488355328) (B : Nat) (w : World) (hB : B ≤ w.heap.size) (S : Bs w B A L) :
    Calls Try.prog 12 #[.slice A L.length cap, .int .i64 at_] w fun e w' => e = .returned (.tuple #[.int .i64 (Sp.getS L at_).1, .int .i64 (Sp.getS L at_).2.1, .int .i64 (Sp.getS L at_).2.2]) ∧ w = w' := by
  by_cases c : at_ < 0 ∨ (L.length : Int) < at_
  · have hf : Sp.getS L at_ = (0, 0, 2) := by unfold Sp.getS; rw [if_pos c]
    rw [hf]
    clear hf
    have f3 : L.length ≤ 140737488355328 := hL
    by_cases c1 : at_ < 0
    · clear c
      go_enter Try.func12, Try.ntmps12
      go_wp2_with fail
      go_ret3
      exact ⟨rfl, rfl⟩
    · have c2 : (L.length : Int) < at_ := by omega
      clear c
      go_enter Try.func12, Try.ntmps12
      go_wp2_with fail
      go_ret3
      exact ⟨rfl, rfl⟩
  · obtain ⟨k, rfl⟩ := Int.eq_ofNat_of_zero_le (show 0 ≤ at_ by omega)
    exact getInt_in L A cap k (by omega) hc hL B w hB S
end Go.Proofs.Ytcjhgihkofmhgaa
