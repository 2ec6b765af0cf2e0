/-
  Layer 15: the closure of TerrainDown, and slices.IndexFunc and ContainsFunc over it, by contract.
-/
import Derived.Test.YtmdaanigkhikfaaTya
import Derived.StillTactics
namespace Go.Proofs.Ytmdaanigkhikfaa
open Go.RowKit
set_option linter.unusedVariables false
set_option linter.unusedSimpArgs false
/-- Whether a node is lower than the node i. -/
def Sp.lwB (z : List Int) (i j : Int) : Bool := decide (Sp.hz z j < Sp.hz z i)
set_option maxRecDepth 100000 in
theorem tdn_any (A : Option Addr) (cap : Nat) (c r k : Int) (z : List Int) (T I : Nat) (i j : Nat) (W : World) (zl : z.length ≤ 256) (hi : i < z.length) (hj : j < z.length) (hT : Ints W A z) (tr : TrAt W T c r k A z.length cap) (hI : W.cell? ⟨I, 0, none⟩ = some (.int .i64 (i : Int))) :
    Calls Try.prog 37 #[.int .i64 (j : Int), .pointer (some ⟨T, 0, none⟩), .pointer (some ⟨I, 0, none⟩)] W (Gives (.bool (Sp.lwB z (i : Int) (j : Int))) W) := by
  unfold Sp.lwB
  rw [Sp.hz_at z j hj, Sp.hz_at z i hi]
  obtain ⟨b, off, rfl, bl, q⟩ := hT (Nat.lt_of_le_of_lt (Nat.zero_le _) hj)
  have q0 := q j hj
  have q1 := q i hi
  obtain ⟨x, hx⟩ : ∃ x, z[j]'hj = x := ⟨_, rfl⟩
  obtain ⟨y, hy⟩ : ∃ y, z[i]'hi = y := ⟨_, rfl⟩
  rw [hx] at q0 ⊢
  rw [hy] at q1 ⊢
  obtain ⟨-, -, j0, j1⟩ := rjw j z.length hj (by omega)
  obtain ⟨-, -, i0, i1⟩ := rjw i z.length hi (by omega)
  have c3 := tr.c3
  have hD := hid (show Below W.heap.size W W.drew from (Below.refl _ _).drew)
  clear q hx hy tr hT
  go_enter Try.func37, Try.ntmps37
  go_wp2_with fail
  go_still (by rfl)
  refine (show ∀ (K : Act → World → Prop) a, K a W.drew → K a { W with drawn := W.drawn + 1 } from fun K a h => h) _ _ ?_
  go_wp2_with fail
  go_ret
  exact Gives.mk rfl hD.out
/-- The first place that p holds of, or -1. -/
def Sp.ixF (p : Int → Bool) : Int → List Int → Int
  | _, [] => -1
  | n, v :: l => if p v = true then n else ixF p (n + 1) l
set_option maxRecDepth 100000 in
set_option maxHeartbeats 1000000 in
theorem tixf_any (A : Option Addr) (cap : Nat) (c r k : Int) (z : List Int) (T I i : Nat) (B : Option Addr) (bcap : Nat) (L : List Int) (w : World) (zl : z.length ≤ 256) (ll : L.length ≤ 4) (hi : i < z.length) (hL : ∀ v ∈ L, 0 ≤ v ∧ v < z.length) (hB : Ints w B L) (hT : Ints w A z) (tr : TrAt w T c r k A z.length cap) (hI : w.cell? ⟨I, 0, none⟩ = some (.int .i64 (i : Int))) (Iz : I < w.heap.size) :
    Calls Try.prog 66 #[.slice B L.length bcap, .func (.func 37) #[] #[.pointer (some ⟨T, 0, none⟩), .pointer (some ⟨I, 0, none⟩)]] w (Gives (.int .i64 (Sp.ixF (Sp.lwB z (i : Int)) 0 L)) w) := by
  obtain ⟨R, hR⟩ : ∃ R, Sp.ixF (Sp.lwB z (i : Int)) 0 L = R := ⟨_, rfl⟩
  rw [hR]
  have RR := hid hR
  have HBB := hid hB
  have LL := hid ll
  have HL := hid hL
  have CL := hid (fun (j : Nat) (hj : j < z.length) (W : World) (hb : Below w.heap.size w W) => tdn_any A cap c r k z T I i j W zl hi hj (hT.below hb) (tr.below hb) ((hb.cell (p := ⟨I, 0, none⟩) Iz).trans hI))
  clear hR hB ll hL hT tr hI zl
  go_enter Try.func66, Try.ntmps66
  go_wp2_with fail
  go_loopw [8] (fun t wr => ∃ j : Nat, t = .int .i64 (j : Int) ∧ j ≤ L.length ∧ Sp.ixF (Sp.lwB z (i : Int)) (j : Int) (L.drop j) = R ∧ Below w.heap.size w wr) (fun t _ => L.length - (intOf t).toNat)
  case atStart => exact ⟨0, rfl, Nat.zero_le _, RR.out, Below.refl _ _⟩
  case round =>
    obtain ⟨j, rfl, hj, hd, hb⟩ := hrel
    have HD := hid hd
    have HB := hid hb
    clear hd hb
    by_cases hlt : j < L.length
    · obtain ⟨b, off, rfl, bl, q⟩ := (HBB.out.below HB.out) (Nat.lt_of_le_of_lt (Nat.zero_le _) hlt)
      have q0 := q j hlt
      have g := HL.out _ (List.getElem_mem hlt)
      obtain ⟨v, hv⟩ : ∃ v, L[j]'hlt = v := ⟨_, rfl⟩
      have hd := HD.out
      rw [List.drop_eq_getElem_cons hlt] at hd
      unfold Sp.ixF at hd
      rw [hv] at q0 g hd
      obtain ⟨n, rfl⟩ : ∃ n : Nat, v = (n : Int) := ⟨v.toNat, by omega⟩
      have CN := hid (CL.out n (by omega) wr HB.out)
      generalize Sp.lwB z (i : Int) (n : Int) = P at CN hd
      obtain ⟨ej, eq, i0, i1⟩ := rjw j L.length hlt (Nat.le_trans LL.out (by decide))
      have EQ := hid eq
      have HJ := hid hlt
      have HM := hid (pmeas L.length j hlt)
      have HD2 := hid hd
      clear q hv eq hlt bl g hd
      go_wp2_with fail
      refine CN.out.mono ?_
      rintro _ w5 ⟨rfl, hb⟩
      have B5 := hid (bthen HB.out hb)
      clear hb
      cases P
      · have h2 := HD2.out
        rw [if_neg (by decide)] at h2
        have H2 := hid (show Sp.ixF (Sp.lwB z (i : Int)) ((j + 1 : Nat) : Int) (L.drop (j + 1)) = R by rw [← EQ.out]; exact h2)
        clear h2
        go_wp2_with fail
        go_roundw
        case rel => exact ⟨j + 1, i64_eq (by first | exact EQ.out | exact ej.trans EQ.out), HJ.out, H2.out, B5.out⟩
        case measure => first | exact HM.out | (rw [ej]; exact HM.out)
      · have h2 := HD2.out
        rw [if_pos rfl] at h2
        have H2 := hid h2
        clear h2
        go_wp2_with fail
        go_ret
        exact Gives.mk (i64_eq (by first | exact H2.out | exact H2.out.symm)) B5.out
    · have i1 : ¬ (j : Int) < (L.length : Int) := fun k => hlt (Int.ofNat_lt.mp k)
      have hd := HD.out
      rw [List.drop_eq_nil_of_le (Nat.le_of_not_lt hlt)] at hd
      have HF := hid (show (-1 : Int) = R from hd)
      clear hd
      go_wp2_with fail
      go_ret
      exact Gives.mk (i64_eq (by first | exact HF.out | exact HF.out.symm)) HB.out
theorem Sp.ixF_any (p : Int → Bool) : ∀ (L : List Int) (n : Int), 0 ≤ n → (decide (0 ≤ Sp.ixF p n L)) = L.any p
  | [], n, _ => by simp [Sp.ixF]
  | v :: L, n, h => by
    unfold Sp.ixF
    by_cases g : p v = true
    · rw [if_pos g]; simp [g, h]
    · rw [if_neg g, Sp.ixF_any p L (n + 1) (by omega)]
      simp at g
      simp [g]
set_option maxRecDepth 100000 in
theorem tcf_any (A : Option Addr) (cap : Nat) (c r k : Int) (z : List Int) (T I i : Nat) (B : Option Addr) (bcap : Nat) (L : List Int) (w : World) (zl : z.length ≤ 256) (ll : L.length ≤ 4) (hi : i < z.length) (hL : ∀ v ∈ L, 0 ≤ v ∧ v < z.length) (hB : Ints w B L) (hT : Ints w A z) (tr : TrAt w T c r k A z.length cap) (hI : w.cell? ⟨I, 0, none⟩ = some (.int .i64 (i : Int))) (Iz : I < w.heap.size) :
    Calls Try.prog 36 #[.slice B L.length bcap, .func (.func 37) #[] #[.pointer (some ⟨T, 0, none⟩), .pointer (some ⟨I, 0, none⟩)]] w (Gives (.bool (L.any (Sp.lwB z (i : Int)))) w) := by
  rw [← Sp.ixF_any _ L 0 (Int.le_refl _)]
  have IX := hid (tixf_any A cap c r k z T I i B bcap L w zl ll hi hL hB hT tr hI Iz)
  generalize Sp.ixF (Sp.lwB z (i : Int)) 0 L = R at IX ⊢
  clear hB hT tr hI zl ll hL
  go_enter Try.func36, Try.ntmps36
  go_wp2_with fail
  refine IX.out.mono ?_
  rintro _ w5 ⟨rfl, hb⟩
  have B5 := hid hb
  clear hb
  go_wp2_with fail
  go_ret
  exact Gives.mk rfl B5.out
end Go.Proofs.Ytmdaanigkhikfaa
