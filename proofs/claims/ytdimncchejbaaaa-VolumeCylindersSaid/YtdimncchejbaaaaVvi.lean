/-
  Layer 14: the iterator slicesOf of package volume inside a fence.
-/
import Derived.Test.YtdimncchejbaaaaVvh
import Derived.Test.YtdimncchejbaaaaVstin
namespace Go.Proofs.Ytdimncchejbaaaa
open Go.RowKit
set_option linter.unusedVariables false
set_option linter.unusedSimpArgs false
/-- The first k pairs of neighbours of a list. -/
def prU (l : List Int) (k : Nat) : List (Int × Int) := (List.range k).map (fun i => (l[i]?.getD 0, l[i + 1]?.getD 0))
theorem prU_length (l : List Int) (k : Nat) : (prU l k).length = k := by simp [prU]
theorem prU_succ (l : List Int) (k : Nat) : prU l (k + 1) = prU l k ++ [(l[k]?.getD 0, l[k + 1]?.getD 0)] := by simp [prU, List.range_succ]
theorem pwk {K : Int} (h0 : 0 ≤ K) (h1 : K ≤ 5000) : wrap64 K = K := pw64 _ (by omega)
theorem pwk2 {K : Int} (h0 : 0 ≤ K) (h1 : K ≤ 5000) : IntKind.i64.wrap K = K := IntWalk.i64_in (by omega) (by omega)
theorem slf (k n : Nat) (h : k + 1 < n) (hn : n ≤ 2000) : (0 : Int) ≤ (k : Int) ∧ (k : Int) + 1 < (n : Int) ∧ (k : Int) < (n : Int) ∧ (0 : Int) ≤ (k : Int) + 1 ∧ wrap64 (k : Int) = (k : Int) ∧ wrap64 ((k : Int) + 1 - 1) = (k : Int) ∧ IntKind.i64.wrap (k : Int) = (k : Int) ∧ wrap64 ((k : Int) + 1 + 1) = (k : Int) + 1 + 1 := by
  have k0 : (0 : Int) ≤ (k : Int) := Int.natCast_nonneg k
  have k1 : (k : Int) + 1 < (n : Int) := by omega
  have k2 : (n : Int) ≤ 2000 := by omega
  generalize (k : Int) = K at k0 k1
  generalize (n : Int) = M at k1 k2
  have e : K + 1 - 1 = K := by omega
  rw [e]
  exact ⟨k0, k1, by omega, by omega, pwk k0 (by omega), pwk k0 (by omega), pwk2 k0 (by omega), pwk (by omega) (by omega)⟩
theorem grown_drew (W : World) : W.grownBy W.drew none := fgrown_of_below (Below.refl _ _).drew none
set_option maxHeartbeats 1000000 in
set_option maxRecDepth 100000 in
theorem slices1_in (n : Nat) (hn : 1 ≤ n) (m Bs n0 cap : Nat) (A : Option Addr) (l : List Int) (hl : l.length ≤ 2000) (J Jx : List (Int × Int) → World → Prop)
    (hJ : ∀ s W, J s W → J s W.drew)
    (hY : ∀ pre x W, J pre W → pre.length < l.length → x = (l[pre.length]?.getD 0, l[pre.length + 1]?.getD 0) → YieldAt Fence.wide (n - 1) Try.prog m #[.int .i64 x.1, .int .i64 x.2] W fun e W' =>
      (e = .returned (.bool true) ∧ J (pre ++ [x]) W' ∧ KV n0 Bs W W') ∨ (e = .returned (.bool false) ∧ Jx (pre ++ [x]) W'))
    (W : World) (hBs : W.cell? ⟨Bs, 0, none⟩ = some (.slice A l.length cap)) (hT : Ints W A l) (hT0 : ∀ b off, A = some ⟨b, off, none⟩ → 0 < l.length → b < n0) (h0 : J [] W) :
    CallsIn Fence.wide n Try.prog 68 #[.func (.yield m) #[] #[], .pointer (some ⟨Bs, 0, none⟩)] W fun e W' => (∃ v, e = .returned v) ∧
      ((∃ ys, ys = prU l (l.length - 1) ∧ J ys W') ∨ (∃ pre, (∃ k, k ≤ l.length - 1 ∧ pre = prU l k) ∧ Jx pre W')) := by
  have HT := hid hT
  have HT0 := hid hT0
  have LE := hid hl
  have HBS := hid hBs
  clear hT hT0
  refine callsIn_of_wp Try.func68 rfl trivial ?_ rfl
  simp only [Try.ntmps68, List.size_toArray, List.length_cons, List.length_nil, Nat.reduceAdd, Nat.reduceSub, Array.replicate_succ, Array.replicate_zero, List.push_toArray, List.append_toArray, List.nil_append, List.cons_append]
  gi_wp2
  gi_loopw [3] (fun i wr => ∃ k : Nat, k ≤ l.length - 1 ∧ i = .int .i64 ((k : Int) + 1) ∧ J (prU l k) wr ∧ KV n0 Bs W wr)
    (fun i _ => ((l.length : Int) - intOf i).toNat)
  case atStart => exact ⟨0, Nat.zero_le _, by simp, h0, ⟨Below.refl _ _, rfl⟩⟩
  case round =>
    obtain ⟨k, hk, rfl, hJs, hnx⟩ := hrel
    have hbx := (hnx.cell 0).trans hBs
    by_cases hlt : k + 1 < l.length
    · have hT := HT.out
      obtain ⟨b, off, hA, bl, q⟩ := hT (by omega)
      have hb0 := HT0.out b off hA (by omega)
      have q0 := q k (by omega)
      have q1 := q (k + 1) hlt
      obtain ⟨u, hu⟩ : ∃ u, l[k] = u := ⟨_, rfl⟩
      obtain ⟨v, hv⟩ : ∃ v, l[k + 1] = v := ⟨_, rfl⟩
      rw [hu] at q0
      rw [hv] at q1
      have hs := prU_succ l k
      rw [List.getElem?_eq_getElem (show k < l.length by omega), List.getElem?_eq_getElem hlt, hu, hv] at hs
      simp only [Option.getD_some] at hs
      have c0 := (hnx.below.cell (p := ⟨b, off + k, none⟩) hb0).trans q0
      have c1 := (hnx.below.cell (p := ⟨b, off + (k + 1), none⟩) hb0).trans q1
      subst hA
      have HLT := hid hlt
      have XE := hid (show (u, v) = (l[(prU l k).length]?.getD 0, l[(prU l k).length + 1]?.getD 0) by rw [prU_length, List.getElem?_eq_getElem (show k < l.length by omega), List.getElem?_eq_getElem hlt, hu, hv]; rfl)
      have K1 := hid (show k < l.length by omega)
      have HM := hid (show ((l.length : Int) - intOf (.int .i64 ((k : Int) + 1 + 1))).toNat < ((l.length : Int) - intOf (.int .i64 ((k : Int) + 1))).toNat by simp [intOf]; omega)
      have K2 := hid (show k + 1 ≤ l.length - 1 by omega)
      obtain ⟨i0, i1, i2, i3, wk, wk1, wk2, e2⟩ := slf k l.length hlt LE.out
      have EQ := hid (show (k : Int) + 1 + 1 = ((k + 1 : Nat) : Int) + 1 by rw [Int.natCast_add]; rfl)
      obtain ⟨fn, tmps, assign, body, hy, hR⟩ := hY _ (u, v) wr.drew (hJ _ _ hJs) (by rw [prU_length]; exact K1.out) XE.out
      dsimp only at hy
      have hR2 := hR.mono (R' := fun e W' => ∃ B, e = .returned (.bool B) ∧ (B = true → J (prU l k ++ [(u, v)]) W' ∧ KV n0 Bs wr.drew W') ∧ (B = false → Jx (prU l k ++ [(u, v)]) W')) (by
        rintro e W3 (⟨rfl, hJ3, hk3⟩ | ⟨rfl, hJx3⟩)
        · exact ⟨true, rfl, fun _ => ⟨hJ3, hk3⟩, fun h => (by cases h)⟩
        · exact ⟨false, rfl, fun h => (by cases h), fun _ => hJx3⟩)
      rw [← hs] at hR2
      clear q0 q1 q hR hs hu hv
      gi_wp2
      refine wpIn_region_still_tail 10 (by rfl) (by kernel_rfl) ?_
      simp only [List.take_succ_cons, List.take_zero, List.drop_succ_cons, List.drop_zero]
      repeat still_step
      try refine wpStill_nil ?_
      gi_wp2
      refine hR2.mono ?_
      rintro _ W3 ⟨B, rfl, hB1, hB2⟩
      · cases B
        · have hx := hB2 rfl
          gi_wp2
          refine bodyPost_ret (results_none rfl _ _ _) rfl ?_
          exact ⟨⟨_, rfl⟩, .inr ⟨_, ⟨k + 1, K2.out, rfl⟩, hx⟩⟩
        · obtain ⟨hx, hk3⟩ := hB1 rfl
          gi_wp2
          go_roundw
          case rel => exact ⟨k + 1, K2.out, i64_eq (by first | exact EQ.out | (rw [e2]; exact EQ.out)), hx, hnx.trans (KV.trans ⟨(Below.refl _ _).drew, rfl⟩ hk3)⟩
          case measure => first | exact HM.out | (rw [e2]; exact HM.out)
    · obtain rfl : k = l.length - 1 := by omega
      have z : ¬ ((l.length - 1 : Nat) : Int) + 1 < (l.length : Int) := by omega
      gi_wp2
      go_end0
      first | exact ⟨⟨_, rfl⟩, .inl ⟨_, rfl, hJs⟩⟩ | exact ⟨⟨_, rfl⟩, .inl hJs⟩
end Go.Proofs.Ytdimncchejbaaaa
