/-
  UnitsBack: the walk.
-/
import Derived.Test.YtgfjofdjicepiaaDoorUawake
import Derived.Test.YtgfjofdjicepiaaDoorUkinds
import Derived.Test.YtgfjofdjicepiaaDoorUmd
namespace Go.Proofs.YtgfjofdjicepiaaDoor
open Go.RowKit
set_option linter.unusedVariables false
set_option linter.unusedSimpArgs false

set_option maxRecDepth 100000 in
set_option maxHeartbeats 2000000 in
theorem uback_bad (k n e : Int) (e0 : ¬ e = 0) (w : World) (uf : ∀ W, Below w.heap.size w W → Calls Tryd.prog 15 #[.int .i64 k, .int .i64 n] W (Gives (.tuple #[.string ⟨#[]⟩, .int .i64 e]) W))
    (aw : ∀ W, Below w.heap.size w W → Calls Tryd.prog 17 #[] W (Gives (.bool true) W)) :
    Calls Tryd.prog 8 #[.int .i64 k, .int .i64 n] w (Gives (.bool true) w) := by
  have g : (e != 0) = true := by simpa using e0
  go_enter Tryd.func8, Tryd.ntmps8
  have BW0 : Below w.heap.size w w := Below.refl _ _
  go_wp2_with fail
  refine (uf _ BW0).mono ?_; rintro _ w1 ⟨rfl, hb⟩
  have BW1 : Below w.heap.size w w1 := BW0.trans (hb.mono BW0.size)
  clear hb BW0
  go_wp2_with fail
  refine (aw _ BW1).mono ?_; rintro _ w2 ⟨rfl, hb⟩
  have BW2 : Below w.heap.size w w2 := BW1.trans (hb.mono BW1.size)
  clear hb BW1
  go_wp2_with fail
  go_ret
  exact Gives.mk rfl BW2

def ZRL (c : Int → Int) (d : Int) (w : World) (vz vi : Value) (wr : World) : Prop :=
  ∃ (q : Int) (z : Bool), vz = .bool z ∧ vi = .int .i64 q ∧ 1 ≤ q ∧ q ≤ d + 1 ∧ (z = true → ∀ x, 1 ≤ x → x < q → c x = 48) ∧ Below w.heap.size w wr
set_option maxRecDepth 100000 in
set_option maxHeartbeats 2000000 in
theorem uback_walk (k n d : Int) (S U Z T1 Y : ByteArray) (c : Int → Int) (sz un : Nat) (hS : S.size = sz) (hU : U.size = un) (s9 : sz ≤ 1000) (u9 : un ≤ 1000) (d1 : 1 ≤ d) (d3 : d ≤ 3) (q1 q2 q3 P d2 d3' : Int) (h1 : (sz : Int) - un = q1) (h2 : q1 - 1 = q2) (h3 : q2 - d = q3) (h4 : q3 - 1 = P) (P1 : 1 ≤ P)
    (hd2 : d + 2 = d2) (hd3 : d2 + un = d3') (hsz : d3' ≤ sz) (b0 : ∀ q, 1 ≤ q → q ≤ d → 0 ≤ c q) (b1 : ∀ q, 1 ≤ q → q ≤ d → c q ≤ 255) (w : World)
    (ip : ∀ W, (Instr.index 9 (.string S) (.int .i64 P)).run Tryd.prog W = .ok (.int .u8 46) W) (ix : ∀ q, 1 ≤ q → q ≤ d → ∀ W, (Instr.index 9 (.string S) (.int .i64 (P + q))).run Tryd.prog W = .ok (.int .u8 (c q)) W)
    (t1 : ∀ W, (Instr.slice 9 (.string S) none (some (.int .i64 P)) none).run Tryd.prog W = .ok (.string T1) W) (s1 : ∀ W, (Op.stringOp .add T1 ⟨#[32]⟩).run Tryd.prog W = .ok (.string Y) W) (s2 : ∀ W, (Op.stringOp .add Y U).run Tryd.prog W = .ok (.string Z) W)
    (uf : ∀ W, Below w.heap.size w W → Calls Tryd.prog 15 #[.int .i64 k, .int .i64 n] W (Gives (.tuple #[.string S, .int .i64 0]) W)) (up : ∀ W, Below w.heap.size w W → Calls Tryd.prog 18 #[.int .i64 k, .string S] W (Gives (.tuple #[.int .i64 n, .int .i64 0]) W)) (ud : ∀ W, Below w.heap.size w W → Calls Tryd.prog 13 #[.int .i64 k] W (Gives (.tuple #[.int .i64 d, .int .i64 0]) W)) (un2 : ∀ W, Below w.heap.size w W → Calls Tryd.prog 11 #[.int .i64 k] W (Gives (.tuple #[.string U, .int .i64 0]) W))
    (uz : (∀ x, 1 ≤ x → x ≤ d → c x = 48) → ∀ W, Below w.heap.size w W → Calls Tryd.prog 18 #[.int .i64 k, .string Z] W (Gives (.tuple #[.int .i64 n, .int .i64 0]) W))
    (aw : ∀ W, Below w.heap.size w W → Calls Tryd.prog 17 #[] W (Gives (.bool true) W)) :
    Calls Tryd.prog 8 #[.int .i64 k, .int .i64 n] w (Gives (.bool true) w) := by
  have g1 : decide (d < 1) = false := decide_eq_false (by omega)
  have g2 : decide (3 < d) = false := decide_eq_false (by omega)
  have g3 : decide ((sz : Int) < d3') = false := decide_eq_false (by omega)
  have g4 : decide (P < 1) = false := decide_eq_false (by omega)
  have P9 : P ≤ 1000 := by omega
  have UZ := hid uz
  have IX := hid ix
  have C0 := hid b0
  have C1 := hid b1
  have AWH := hid aw
  clear uz ix b0 b1 aw
  go_enter Tryd.func8, Tryd.ntmps8
  have BW0 : Below w.heap.size w w := Below.refl _ _
  go_wp2_with fail
  refine (uf _ BW0).mono ?_; rintro _ w1 ⟨rfl, hb⟩
  have BW1 : Below w.heap.size w w1 := BW0.trans (hb.mono BW0.size)
  clear hb BW0
  go_wp2_with fail
  refine (up _ BW1).mono ?_; rintro _ w2 ⟨rfl, hb⟩
  have BW2 : Below w.heap.size w w2 := BW1.trans (hb.mono BW1.size)
  clear hb BW1
  go_wp2_with fail
  refine (ud _ BW2).mono ?_; rintro _ w3 ⟨rfl, hb⟩
  have BW3 : Below w.heap.size w w3 := BW2.trans (hb.mono BW2.size)
  clear hb BW2
  go_wp2_with fail
  refine (un2 _ BW3).mono ?_; rintro _ w4 ⟨rfl, hb⟩
  have BW4 : Below w.heap.size w w4 := BW3.trans (hb.mono BW3.size)
  clear hb BW3
  have BH := hid BW4
  clear BW4 uf up ud un2
  go_wp2_with fail
  go_loopw [14, 15] (fun vz vi wr => ZRL c d w vz vi wr) (fun _ vi _ => (d + 1 - intOf vi).toNat)
  case atStart => exact ⟨1, true, rfl, rfl, by omega, by omega, fun _ x a b => by omega, BH.out⟩
  case round =>
    obtain ⟨q, z, rfl, rfl, q1', q2', hz, hB⟩ := hrel
    have HZ := hid hz
    have BI := hid hB
    clear hz hB
    by_cases hlt : q ≤ d
    · have f1 : decide (q ≤ d) = true := decide_eq_true hlt
      cases z with
      | false =>
        go_wp2_with fail
        go_roundw
        case rel => exact ⟨q + 1, false, rfl, rfl, by omega, by omega, fun h => absurd h (by simp), BI.out⟩
        case measure => simp [intOf]; omega
      | true =>
        have ij := IX.out q q1' hlt
        have c0 := C0.out q q1' hlt
        have c1 := C1.out q q1' hlt
        obtain ⟨cc, hcc⟩ : ∃ cc, c q = cc := ⟨_, rfl⟩
        rw [hcc] at ij c0 c1
        have CH := hid hcc
        clear hcc
        go_wp2_with fail
        go_roundw
        case rel =>
          refine ⟨q + 1, _, rfl, rfl, by omega, by omega, fun h x a b => ?_, BI.out⟩
          by_cases e : x = q
          · subst e
            rw [CH.out]
            simpa using h
          · exact HZ.out rfl x a (by omega)
        case measure => simp [intOf]; omega
    · have f1 : decide (q ≤ d) = false := decide_eq_false hlt
      cases z with
      | false =>
        go_wp2_with fail
        refine (AWH.out _ BI.out).mono ?_; rintro _ w5 ⟨rfl, hb⟩
        have BW5 : Below w.heap.size w w5 := BI.out.trans (hb.mono BI.out.size)
        clear hb
        go_wp2_with fail
        go_ret
        exact Gives.mk rfl BW5
      | true =>
        have up2 := UZ.out (fun x a b => HZ.out rfl x a (by omega))
        clear HZ
        by_cases n0 : n = 0
        · have f2 : (n == 0) = true := by simpa using n0
          clear n0
          go_wp2_with fail
          refine (AWH.out _ BI.out).mono ?_; rintro _ w5 ⟨rfl, hb⟩
          have BW5 : Below w.heap.size w w5 := BI.out.trans (hb.mono BI.out.size)
          clear hb
          go_wp2_with fail
          go_ret
          exact Gives.mk rfl BW5
        · have f2 : (n == 0) = false := by simpa using n0
          clear n0
          go_wp2_with fail
          refine (up2 _ BI.out).mono ?_; rintro _ w5 ⟨rfl, hb⟩
          have BW5 : Below w.heap.size w w5 := BI.out.trans (hb.mono BI.out.size)
          clear hb
          go_wp2_with fail
          refine (AWH.out _ BW5).mono ?_; rintro _ w6 ⟨rfl, hb⟩
          have BW6 : Below w.heap.size w w6 := BW5.trans (hb.mono BW5.size)
          clear hb
          go_wp2_with fail
          go_ret
          exact Gives.mk rfl BW6

theorem ubk_at {r : ByteArray} {l : List UInt8} (hr : r.data.toList = l) (k : Nat) (c : UInt8) (h : l[k]? = some c) : ∀ W, (Instr.index 9 (.string r) (.int .i64 k)).run Tryd.prog W = .ok (.int .u8 ((c.toNat : Nat) : Int)) W := by
  subst hr
  obtain ⟨h1, e⟩ := List.getElem?_eq_some_iff.1 h
  have := urun_byte r k h1
  rw [e] at this
  exact this

theorem uback_as (k n : Int) (k0 : -9223372036854775808 ≤ k) (k1 : k ≤ 9223372036854775807) (n0 : -9223372036854775808 ≤ n) (n1 : n ≤ 9223372036854775807) (w : World) (ht : Lib.TabIs Tryd.prog w "internal/strconv.uint64pow10" .u64 Lib.pow10Tab) (K : KI w) :
    Calls Tryd.prog 8 #[.int .i64 k, .int .i64 n] w (Gives (.bool true) w) := by
  have aw := fun W (B : Below w.heap.size w W) => uawake_any W (tab_below gPow ht B) (K.below B)
  have uf := fun W (B : Below w.heap.size w W) => uformat_any k n n0 n1 W (tab_below gPow ht B) (K.below B)
  unfold Sp.formatS at uf
  by_cases h : 1 ≤ k ∧ k ≤ 5
  · rw [if_neg (by simpa using h)] at uf
    by_cases hn : n < -1000000000000000 ∨ 1000000000000000 < n
    · rw [if_pos hn] at uf
      exact uback_bad k n 8 (by omega) w uf aw
    · rw [if_neg hn] at uf
      have pb := Sp.parse_back h (n := n) (by omega) (by omega)
      have pz := Sp.parse_back0 h (n := n) (by omega) (by omega)
      have up := fun W (B : Below w.heap.size w W) => uparse_any k ⟨(Sp.fmtL k n).toArray⟩ W (K.below B)
      rw [utoList_mk, pb] at up
      have ud := fun W (B : Below w.heap.size w W) => udec_any k W (K.below B)
      have un := fun W (B : Below w.heap.size w W) => uname_any k W (K.below B)
      have e1 : Sp.decS k = ((Sp.decK k : Int), 0) := by unfold Sp.decS; rw [if_pos h]
      have e2 : Sp.nameS k = (Sp.unitL k, 0) := by unfold Sp.nameS; rw [if_pos h]
      rw [e1] at ud
      rw [e2] at un
      have pl := padL_len n.natAbs (Sp.decK k + 1)
      have il := uitoa_len (n.natAbs : Int) (by omega) (by omega)
      have dk : 1 ≤ Sp.decK k ∧ Sp.decK k ≤ 3 := by
        have hc : k = 1 ∨ k = 2 ∨ k = 3 ∨ k = 4 ∨ k = 5 := by omega
        rcases hc with rfl | rfl | rfl | rfl | rfl <;> decide
      have ul := unitL_len k
      unfold Sp.fmtL at uf up
      have l2 : ((Sp.padL n.natAbs (Sp.decK k + 1)).drop ((Sp.padL n.natAbs (Sp.decK k + 1)).length - Sp.decK k)).length = Sp.decK k := by rw [List.length_drop]; omega
      have l1 : 1 ≤ ((Sp.padL n.natAbs (Sp.decK k + 1)).take ((Sp.padL n.natAbs (Sp.decK k + 1)).length - Sp.decK k)).length ∧ ((Sp.padL n.natAbs (Sp.decK k + 1)).take ((Sp.padL n.natAbs (Sp.decK k + 1)).length - Sp.decK k)).length ≤ 30 := by rw [List.length_take]; omega
      clear pb pl il e1 e2
      generalize (Sp.padL n.natAbs (Sp.decK k + 1)).take ((Sp.padL n.natAbs (Sp.decK k + 1)).length - Sp.decK k) = T1 at uf up pz l1
      generalize (Sp.padL n.natAbs (Sp.decK k + 1)).drop ((Sp.padL n.natAbs (Sp.decK k + 1)).length - Sp.decK k) = T2 at uf up pz l2
      have lg : ((if n < 0 then [45] else []) : List UInt8).length ≤ 1 := by split <;> simp
      generalize ((if n < 0 then [45] else []) : List UInt8) = g at uf up pz lg
      generalize Sp.decK k = d at ud dk l2
      have uz : (∀ c, c ∈ T2 → c = 48) → ∀ W, Below w.heap.size w W → Calls Tryd.prog 18 #[.int .i64 k, .string ⟨(g ++ T1 ++ [32] ++ Sp.unitL k).toArray⟩] W (Gives (.tuple #[.int .i64 n, .int .i64 0]) W) := fun q W B => by
        have := uparse_any k ⟨(g ++ T1 ++ [32] ++ Sp.unitL k).toArray⟩ W (K.below B)
        rw [utoList_mk, pz q] at this
        exact this
      clear pz
      generalize Sp.unitL k = u at uf up un uz ul
      have lp : 1 ≤ (g ++ T1).length ∧ (g ++ T1).length ≤ 31 := by rw [List.length_append]; omega
      generalize g ++ T1 = pre at uf up uz lp
      have hU : (⟨u.toArray⟩ : ByteArray).size = u.length := by rw [Lib.size_eq, utoList_mk]
      have hl : (pre ++ [46] ++ T2 ++ [32] ++ u).length = pre.length + 1 + T2.length + 1 + u.length := by simp only [List.length_append, List.length_singleton]
      have hS : (⟨(pre ++ [46] ++ T2 ++ [32] ++ u).toArray⟩ : ByteArray).size = pre.length + 1 + d + 1 + u.length := by rw [Lib.size_eq, utoList_mk, hl, l2]
      have hSl : (⟨(pre ++ [46] ++ T2 ++ [32] ++ u).toArray⟩ : ByteArray).data.toList = pre ++ 46 :: (T2 ++ 32 :: u) := by rw [utoList_mk]; simp
      have ip := ubk_at hSl pre.length 46 (by simp)
      have ix : ∀ q : Int, 1 ≤ q → q ≤ d → ∀ W, (Instr.index 9 (.string ⟨(pre ++ [46] ++ T2 ++ [32] ++ u).toArray⟩) (.int .i64 ((pre.length : Int) + q))).run Tryd.prog W = .ok (.int .u8 (((T2.getD (q - 1).toNat 0).toNat : Nat) : Int)) W := fun q a b => by
        have e : (pre.length : Int) + q = ((pre.length + ((q - 1).toNat + 1) : Nat) : Int) := by omega
        rw [e]
        have j : (q - 1).toNat < T2.length := by omega
        refine ubk_at hSl _ _ ?_
        rw [List.getElem?_append_right (by omega), Nat.add_sub_cancel_left, List.getElem?_cons_succ, List.getElem?_append_left j, List.getD_eq_getElem?_getD, List.getElem?_eq_getElem j]
        rfl
      have t1 := urun_take ⟨(pre ++ [46] ++ T2 ++ [32] ++ u).toArray⟩ pre.length (by omega)
      have ht1 : (pre ++ 46 :: (T2 ++ 32 :: u)).take pre.length = pre := List.take_left
      rw [hSl, ht1] at t1
      exact uback_walk k n d _ ⟨u.toArray⟩ _ _ _ (fun q => (((T2.getD (q - 1).toNat 0).toNat : Nat) : Int)) _ _ hS hU (by omega) (by omega) (by omega) (by omega) ((pre.length : Int) + d + 2) ((pre.length : Int) + d + 1) ((pre.length : Int) + 1) pre.length ((d : Int) + 2) ((d : Int) + 2 + u.length)
        (by omega) (by omega) (by omega) (by omega) (by omega) rfl rfl (by omega) (fun q _ _ => by omega) (fun q _ _ => by have := (T2.getD (q - 1).toNat 0).toNat_lt; omega) w ip ix t1 (add_run pre [32] (by simp; omega)) (add_run (pre ++ [32]) u (by simp; omega)) uf up ud un
        (fun q => uz (fun cc hc => by
          obtain ⟨j, hj, rfl⟩ := List.getElem_of_mem hc
          have h1 := q ((j : Int) + 1) (by omega) (by omega)
          have e : ((j : Int) + 1 - 1).toNat = j := by omega
          simp only [e] at h1
          rw [List.getD_eq_getElem?_getD, List.getElem?_eq_getElem hj] at h1
          have h2 : ((T2[j]).toNat : Int) = 48 := h1
          exact UInt8.toNat_inj.1 (by have : (48 : UInt8).toNat = 48 := rfl; omega))) aw
  · rw [if_pos h] at uf
    exact uback_bad k n 1 (by omega) w uf aw
end Go.Proofs.YtgfjofdjicepiaaDoor
