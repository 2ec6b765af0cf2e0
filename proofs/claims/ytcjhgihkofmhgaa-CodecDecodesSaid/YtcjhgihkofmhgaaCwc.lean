/-
  Layer 6: the reference's ints as bytes, by contract: PutInt, GetInt.
-/
import Derived.Test.YtcjhgihkofmhgaaCwb
namespace Go.Proofs.Ytcjhgihkofmhgaa
open Go.RowKit
set_option linter.unusedVariables false
set_option linter.unusedSimpArgs false

theorem byte_more2 (u : Nat) : (u : Int) % 128 + 128 = ((UInt8.ofNat (u % 128 + 128)).toNat : Int) := by
  rw [UInt8.toNat_ofNat']; omega
set_option maxRecDepth 100000 in
set_option maxHeartbeats 2000000 in
theorem rputInt_any (n : Int) (h0 : -9223372036854775808 ≤ n) (h1 : n ≤ 9223372036854775807) (w : World) :
    Calls Try.prog 18 #[.int .i64 n] w fun e w' => ∃ v', e = .returned v' ∧ OwnB w' w.heap.size v' (Sp.putS n) ∧ Below w.heap.size w w' := by
  have hR := Sp.putS_len n
  have LT := hid (Sp.fold_lt h0 h1)
  by_cases c : n < 0
  all_goals
    have fe := hid (show (Sp.fold n : Int) = (if n < 0 then -(n + 1) * 2 + 1 else n * 2) by unfold Sp.fold; split <;> omega)
    go_enter Try.func18, Try.ntmps18
    go_wp2_with fail
    go_loopw [3, 4] (fun t s wr => PutRel w w.heap.size (.slice none 0 0) [] (Sp.putS n) s t wr) (fun t _ _ => (intOf t).toNat)
    case atStart =>
      refine ⟨[], Sp.fold n, 9, u64_eq ?_, OwnB.nil _ _, rfl, Nat.lt_of_lt_of_le LT.out (by decide), Ow.refl _ _, LT.out⟩
      have := fe.out
      first | rw [if_pos c] at this | rw [if_neg (by omega)] at this
      omega
    case round =>
      obtain ⟨M, u, k, rfl, how, hM, hk, hO, hu⟩ := hrel
      have HU := hid hu
      have hw : IntKind.u64.wrap ((u : Int) / 128) = (u : Int) / 128 := by rw [IntKind.wrap_u64]; omega
      have hsz := hO.size
      have HM := hid hM
      have HK := hid hk
      have HOW := hid how
      have HO := hid hO
      have hlen : M.length + 1 ≤ 10 := by
        have e : (M ++ Sp.putN k u).length ≤ 10 := by rw [hM]; exact hR.2
        rw [List.length_append] at e
        have := (Sp.putN_len k u).1
        omega
      have HB : Hid (M.length + 1 ≤ 140737488355328) := by show M.length + 1 ≤ 140737488355328; omega
      clear hM hk hO how h0 h1 hu
      by_cases c : 128 ≤ u
      · go_wp2_with (at_builtin; refine app1 rfl _ _ rfl w.heap.size _ M rfl (HOW.out.alloc _) wr.heap.size rfl (UInt8.ofNat (u % 128 + 128)) (by rw [← byte_more2 u]; simp [go_sem]) HB (by simp; omega) ?_; intro v' w1 how1 hO1)
        go_roundw
        case rel =>
          obtain ⟨j, rfl, h2, h3⟩ := put_more HK.out c
          refine ⟨M ++ [UInt8.ofNat (u % 128 + 128)], u / 128, j, by go_num, how1, ?_, h2, (HO.out.alloc _).trans hO1, by have := HU.out; omega⟩
          rw [← HM.out, h3]
          simp
        case measure => simp [intOf]; omega
      · go_wp2_with (at_builtin; refine app1 rfl _ _ rfl w.heap.size _ M rfl (HOW.out.alloc _) wr.heap.size rfl (UInt8.ofNat u) (by rw [byte_small u c]; simp [go_sem]) HB (by simp; omega) ?_; intro v' w1 how1 hO1)
        go_ret
        refine ⟨v', rfl, ?_, ((HO.out.alloc _).trans hO1).to_below⟩
        rw [← HM.out, put_last c]
        exact how1
def RGetRel (R : Nat × Nat × Int) (M : List UInt8) (s t : Value) : Prop :=
  ∃ (i v : Nat), t = .int .i64 (i : Int) ∧ s = .int .u64 (v : Int) ∧ i ≤ 9 ∧ i ≤ M.length ∧ Sp.scan i v (M.drop i) = R ∧ v < 2 ^ (7 * i)
theorem unf_ref (y : Nat) : Sp.unf y = if y % 2 = 1 then -((y : Int) / 2) - 1 else (y : Int) / 2 := by
  unfold Sp.unf; split <;> omega
set_option maxRecDepth 100000 in
set_option maxHeartbeats 2000000 in
theorem rgetInt_in (L : List UInt8) (A : Option Addr) (cap k : Nat) (hk : k ≤ L.length) (hc : L.length ≤ cap) (hL : L.length ≤ 140737488355328) (B : Nat) (w : World) (hB : B ≤ w.heap.size) (S : Bs w B A L) :
    Calls Try.prog 13 #[.slice A L.length cap, .int .i64 (k : Int)] w fun e w' => e = .returned (.tuple #[.int .i64 (Sp.getS L k).1, .int .i64 (Sp.getS L k).2.1, .int .i64 (Sp.getS L k).2.2]) ∧ w = w' := by
  have HG : Hid (∀ u j e, Sp.scan 0 0 (L.drop k) = (u, j, e) → Sp.getS L k = if e = 0 then (Sp.unf u, (k : Int) + j, 0) else (0, 0, e)) := hid fun u j e h => getS_of hk h
  generalize hR : Sp.getS L k = R at HG
  clear hR
  obtain ⟨rn, rx, re⟩ := R
  have f1 : decide ((k : Int) < 0) = false := decide_eq_false (by omega)
  have f2 : decide (L.length < k) = false := decide_eq_false (by omega)
  have f3 : L.length ≤ 140737488355328 := hL
  have ml : (L.drop k).length = L.length - k := List.length_drop
  have SM := hid S
  clear hL S
  go_enter Try.func13, Try.ntmps13
  go_wp2_with fail
  go_loop [7, 8] (fun s t => GetRel (Sp.scan 0 0 (L.drop k)) (L.drop k) s t) (fun _ t => L.length - (intOf t).toNat)
  case atStart => exact ⟨0, 0, rfl, rfl, by omega, by omega, rfl, by decide⟩
  case round =>
    obtain ⟨i, v, rfl, rfl, hi, him, hs, hv⟩ := hrel
    by_cases hlt : i < (L.drop k).length
    · obtain ⟨b, off, rfl, lt, cel⟩ := SM.out.at_ (by omega)
      have x := cel (k + i) (by omega)
      have hx : (L[k + i]'(by omega)).toNat < 256 := UInt8.toNat_lt _
      rw [List.drop_eq_getElem_cons hlt, Sp.scan_cons, List.getElem_drop] at hs
      generalize (L[k + i]'(by omega)).toNat = X at x hx hs
      have lk : k + i < L.length := by omega
      clear cel SM ml
      by_cases c1 : i = 9 ∧ 1 < X
      · rw [if_pos c1] at hs
        have hf := HG.out _ _ _ hs.symm
        rw [if_neg (by decide)] at hf
        simp only [Prod.mk.injEq] at hf
        obtain ⟨rfl, rfl, rfl⟩ := hf
        clear hs hv
        obtain ⟨rfl, c1⟩ := c1
        go_wp2_with fail
        go_ret3
        exact ⟨rfl, rfl⟩
      · rw [if_neg c1] at hs
        have y9 : i = 9 → X ≤ 1 := fun h => by omega
        have hr1 : ∃ y, v ||| (X % 128) <<< (7 * i) = y := ⟨_, rfl⟩
        obtain ⟨h1, h2⟩ := or_step (i := i) (v := v) (X := X) hi y9 hx hv
        have hb := hid (or_bound (X := X) hv)
        have h3 : i = 9 → bits .or .u64 (v : Int) ((X : Int) % 128 * 9223372036854775808) = ((v ||| (X % 128) <<< (7 * i) : Nat) : Int) := fun h => by
          subst h
          exact (or_last (v := v) (X := X) (y9 rfl) hv).1
        obtain ⟨y, hy⟩ := hr1
        rw [hy] at h1 h2 h3 hs hb
        clear hy hv
        have H2 := hid h2
        have HS := hid hs
        clear h2 hs
        by_cases e9 : i = 9
        · subst e9
          have x1 : X ≤ 1 := y9 rfl
          have h3' := h3 rfl
          have hs := HS.out
          clear h3 h1 y9 c1 HS
          by_cases c2 : X = 0
          · rw [if_pos ⟨by omega, c2⟩] at hs
            have hf := HG.out _ _ _ hs.symm
            rw [if_neg (by decide)] at hf
            simp only [Prod.mk.injEq] at hf
            obtain ⟨rfl, rfl, rfl⟩ := hf
            clear hs
            subst c2
            go_wp2_with fail
            go_ret3
            exact ⟨rfl, rfl⟩
          · rw [if_neg (by omega), if_pos (by omega)] at hs
            have hf := HG.out _ _ _ hs.symm
            rw [if_pos rfl] at hf
            simp only [Prod.mk.injEq] at hf
            obtain ⟨rfl, rfl, rfl⟩ := hf
            clear hs
            have f6 : ((X : Int) == 0) = false := by simp; omega
            have hu := hid (unf_ref y)
            have hz : (y : Int) / 2 ≤ 9223372036854775807 := by have := H2.out; omega
            by_cases p : y % 2 = 1
            · have f7 : ((y : Int) % 2 == 1) = true := by simp; omega
              have HP := hid p
              clear p
              go_wp2_with fail
              go_ret3
              exact ⟨ret_i3 (by rw [hu.out, if_pos HP.out]) (by omega) rfl, rfl⟩
            · have f7 : ((y : Int) % 2 == 1) = false := by simp; omega
              have HP := hid p
              clear p
              go_wp2_with fail
              go_ret3
              exact ⟨ret_i3 (by rw [hu.out, if_neg HP.out]) (by omega) rfl, rfl⟩
        · have f4 : ((i : Int) == 9) = false := by simp; omega
          clear h3 y9 c1
          by_cases c3 : X < 128
          · by_cases c2 : 0 < i ∧ X = 0
            · have hs := HS.out
              rw [if_pos c2] at hs
              have hf := HG.out _ _ _ hs.symm
              rw [if_neg (by decide)] at hf
              simp only [Prod.mk.injEq] at hf
              obtain ⟨rfl, rfl, rfl⟩ := hf
              clear hs
              obtain ⟨c2, rfl⟩ := c2
              go_wp2_with fail
              go_ret3
              exact ⟨rfl, rfl⟩
            · have hs := HS.out
              rw [if_neg c2, if_pos c3] at hs
              have hf := HG.out _ _ _ hs.symm
              rw [if_pos rfl] at hf
              simp only [Prod.mk.injEq] at hf
              obtain ⟨rfl, rfl, rfl⟩ := hf
              clear hs
              have f5 : 0 < i → ((X : Int) == 0) = false := fun h => by simp; omega
              have hu := hid (unf_ref y)
              have hz : (y : Int) / 2 ≤ 9223372036854775807 := by have := H2.out; omega
              clear c2
              by_cases i0 : 0 < i
              all_goals
                first | have f6 := f5 i0 | skip
                clear f5
                by_cases p : y % 2 = 1
                · have f7 : ((y : Int) % 2 == 1) = true := by simp; omega
                  have HP := hid p
                  clear p
                  go_wp2_with fail
                  go_ret3
                  exact ⟨ret_i3 (by rw [hu.out, if_pos HP.out]) (by omega) rfl, rfl⟩
                · have f7 : ((y : Int) % 2 == 1) = false := by simp; omega
                  have HP := hid p
                  clear p
                  go_wp2_with fail
                  go_ret3
                  exact ⟨ret_i3 (by rw [hu.out, if_neg HP.out]) (by omega) rfl, rfl⟩
          · have hs := HS.out
            rw [if_neg (by omega), if_neg c3] at hs
            have HS' := hid hs
            clear hs HS
            go_wp2_with fail
            go_round
            case rel => exact ⟨i + 1, y, by go_num, rfl, by omega, by omega, HS'.out, hb.out⟩
            case measure => simp [intOf]; omega
    · rw [List.drop_eq_nil_of_le (by omega), Sp.scan_nil] at hs
      have hf := HG.out _ _ _ hs.symm
      rw [if_neg (by decide)] at hf
      simp only [Prod.mk.injEq] at hf
      obtain ⟨rfl, rfl, rfl⟩ := hf
      have lk : L.length ≤ k + i := by omega
      clear hs hv
      go_wp2_with fail
      go_ret3
      exact ⟨rfl, rfl⟩
theorem rgetInt_any (L : List UInt8) (A : Option Addr) (cap : Nat) (at_ : Int) (hc : L.length ≤ cap) (hL : L.length ≤ 140737488355328) (B : Nat) (w : World) (hB : B ≤ w.heap.size) (S : Bs w B A L) :
    Calls Try.prog 13 #[.slice A L.length cap, .int .i64 at_] w fun e w' => e = .returned (.tuple #[.int .i64 (Sp.getS L at_).1, .int .i64 (Sp.getS L at_).2.1, .int .i64 (Sp.getS L at_).2.2]) ∧ w = w' := by
  by_cases c : at_ < 0 ∨ (L.length : Int) < at_
  · have hf : Sp.getS L at_ = (0, 0, 2) := by unfold Sp.getS; rw [if_pos c]
    rw [hf]
    clear hf
    have f3 : L.length ≤ 140737488355328 := hL
    by_cases c1 : at_ < 0
    · clear c
      go_enter Try.func13, Try.ntmps13
      go_wp2_with fail
      go_ret3
      exact ⟨rfl, rfl⟩
    · have c2 : (L.length : Int) < at_ := by omega
      clear c
      go_enter Try.func13, Try.ntmps13
      go_wp2_with fail
      go_ret3
      exact ⟨rfl, rfl⟩
  · obtain ⟨k, rfl⟩ := Int.eq_ofNat_of_zero_le (show 0 ≤ at_ by omega)
    exact rgetInt_in L A cap k (by omega) hc hL B w hB S
end Go.Proofs.Ytcjhgihkofmhgaa
