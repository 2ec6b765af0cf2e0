/-
  UnitsTexts, UnitsReads, UnitsDays: the walks.
-/
import Derived.Test.YtgfjofdjicepiaaDoorUawake
import Derived.Test.YtgfjofdjicepiaaDoorUkinds
import Derived.Test.YtgfjofdjicepiaaDoorUrefy
namespace Go.Proofs.YtgfjofdjicepiaaDoor
open Go.RowKit
set_option linter.unusedVariables false
set_option linter.unusedSimpArgs false

set_option maxRecDepth 100000 in
set_option maxHeartbeats 2000000 in
theorem utexts_walk (k n e g i c : Int) (A X : ByteArray) (w : World)
    (un : ∀ W, Below w.heap.size w W → Calls Tryd.prog 11 #[.int .i64 k] W (Gives (.tuple #[.string A, .int .i64 e]) W)) (rn : ∀ w : World, Calls Tryd.prog 12 #[.int .i64 k] w (Gives (.tuple #[.string A, .int .i64 e]) w))
    (ud : ∀ W, Below w.heap.size w W → Calls Tryd.prog 13 #[.int .i64 k] W (Gives (.tuple #[.int .i64 c, .int .i64 g]) W)) (rd : ∀ w : World, Calls Tryd.prog 14 #[.int .i64 k] w (Gives (.tuple #[.int .i64 c, .int .i64 g]) w))
    (uf : ∀ W, Below w.heap.size w W → Calls Tryd.prog 15 #[.int .i64 k, .int .i64 n] W (Gives (.tuple #[.string X, .int .i64 i]) W)) (rf : ∀ W, Below w.heap.size w W → Calls Tryd.prog 16 #[.int .i64 k, .int .i64 n] W (Gives (.tuple #[.string X, .int .i64 i]) W))
    (aw : ∀ W, Below w.heap.size w W → Calls Tryd.prog 17 #[] W (Gives (.bool true) W)) :
    Calls Tryd.prog 3 #[.int .i64 k, .int .i64 n] w (Gives (.bool true) w) := by
  go_enter Tryd.func3, Tryd.ntmps3
  have BW0 : Below w.heap.size w w := Below.refl _ _
  go_wp2_with fail
  refine (un _ BW0).mono ?_; rintro _ w1 ⟨rfl, hb⟩
  have BW1 : Below w.heap.size w w1 := BW0.trans (hb.mono BW0.size)
  clear hb BW0
  go_wp2_with fail
  refine (rn _).mono ?_; rintro _ w2 ⟨rfl, hb⟩
  have BW2 : Below w.heap.size w w2 := BW1.trans (hb.mono BW1.size)
  clear hb BW1
  go_wp2_with fail
  refine (ud _ BW2).mono ?_; rintro _ w3 ⟨rfl, hb⟩
  have BW3 : Below w.heap.size w w3 := BW2.trans (hb.mono BW2.size)
  clear hb BW2
  go_wp2_with fail
  refine (rd _).mono ?_; rintro _ w4 ⟨rfl, hb⟩
  have BW4 : Below w.heap.size w w4 := BW3.trans (hb.mono BW3.size)
  clear hb BW3
  go_wp2_with fail
  refine (uf _ BW4).mono ?_; rintro _ w5 ⟨rfl, hb⟩
  have BW5 : Below w.heap.size w w5 := BW4.trans (hb.mono BW4.size)
  clear hb BW4
  go_wp2_with fail
  refine (rf _ BW5).mono ?_; rintro _ w6 ⟨rfl, hb⟩
  have BW6 : Below w.heap.size w w6 := BW5.trans (hb.mono BW5.size)
  clear hb BW5
  go_wp2_with fail
  refine (aw _ BW6).mono ?_; rintro _ w7 ⟨rfl, hb⟩
  have BW7 : Below w.heap.size w w7 := BW6.trans (hb.mono BW6.size)
  clear hb BW6
  go_wp2_with fail
  go_ret
  exact Gives.mk rfl BW7

theorem utexts_as (k n : Int) (k0 : -9223372036854775808 ≤ k) (k1 : k ≤ 9223372036854775807) (n0 : -9223372036854775808 ≤ n) (n1 : n ≤ 9223372036854775807) (w : World) (ht : Lib.TabIs Tryd.prog w "internal/strconv.uint64pow10" .u64 Lib.pow10Tab) (K : KI w) :
    Calls Tryd.prog 3 #[.int .i64 k, .int .i64 n] w (Gives (.bool true) w) :=
  utexts_walk k n _ _ _ _ _ _ w (fun W B => uname_any k W (K.below B)) (fun w => rname_any k w) (fun W B => udec_any k W (K.below B)) (fun w => rdec_any k w)
    (fun W B => uformat_any k n n0 n1 W (tab_below gPow ht B) (K.below B)) (fun W B => rformat_any k n n0 n1 W (tab_below gPow ht B)) (fun W B => uawake_any W (tab_below gPow ht B) (K.below B))

set_option maxRecDepth 100000 in
set_option maxHeartbeats 2000000 in
theorem ureads_long (k : Int) (t : ByteArray) (m : Nat) (hm : t.size = m) (h : 200 < m) (w : World) (aw : ∀ W, Below w.heap.size w W → Calls Tryd.prog 17 #[] W (Gives (.bool true) W)) :
    Calls Tryd.prog 4 #[.int .i64 k, .string t] w (Gives (.bool true) w) := by
  have f1 : decide (200 < (m : Int)) = true := decide_eq_true (by omega)
  go_enter Tryd.func4, Tryd.ntmps4
  have BW0 : Below w.heap.size w w := Below.refl _ _
  go_wp2_with fail
  refine (aw _ BW0).mono ?_; rintro _ w1 ⟨rfl, hb⟩
  have BW1 : Below w.heap.size w w1 := BW0.trans (hb.mono BW0.size)
  clear hb BW0
  go_wp2_with fail
  go_ret
  exact Gives.mk rfl BW1

set_option maxRecDepth 100000 in
set_option maxHeartbeats 2000000 in
theorem ureads_walk (k a e : Int) (t : ByteArray) (m : Nat) (hm : t.size = m) (h : m ≤ 200) (w : World) (up : ∀ W, Below w.heap.size w W → Calls Tryd.prog 18 #[.int .i64 k, .string t] W (Gives (.tuple #[.int .i64 a, .int .i64 e]) W)) (rp : ∀ w : World, Calls Tryd.prog 19 #[.int .i64 k, .string t] w (Gives (.tuple #[.int .i64 a, .int .i64 e]) w))
    (aw : ∀ W, Below w.heap.size w W → Calls Tryd.prog 17 #[] W (Gives (.bool true) W)) :
    Calls Tryd.prog 4 #[.int .i64 k, .string t] w (Gives (.bool true) w) := by
  have f1 : decide (200 < (m : Int)) = false := decide_eq_false (by omega)
  go_enter Tryd.func4, Tryd.ntmps4
  have BW0 : Below w.heap.size w w := Below.refl _ _
  go_wp2_with fail
  refine (up _ BW0).mono ?_; rintro _ w1 ⟨rfl, hb⟩
  have BW1 : Below w.heap.size w w1 := BW0.trans (hb.mono BW0.size)
  clear hb BW0
  go_wp2_with fail
  refine (rp _).mono ?_; rintro _ w2 ⟨rfl, hb⟩
  have BW2 : Below w.heap.size w w2 := BW1.trans (hb.mono BW1.size)
  clear hb BW1
  go_wp2_with fail
  refine (aw _ BW2).mono ?_; rintro _ w3 ⟨rfl, hb⟩
  have BW3 : Below w.heap.size w w3 := BW2.trans (hb.mono BW2.size)
  clear hb BW2
  go_wp2_with fail
  go_ret
  exact Gives.mk rfl BW3

theorem ureads_as (k : Int) (k0 : -9223372036854775808 ≤ k) (k1 : k ≤ 9223372036854775807) (t : ByteArray) (w : World) (ht : Lib.TabIs Tryd.prog w "internal/strconv.uint64pow10" .u64 Lib.pow10Tab) (K : KI w) :
    Calls Tryd.prog 4 #[.int .i64 k, .string t] w (Gives (.bool true) w) := by
  have aw := fun W (B : Below w.heap.size w W) => uawake_any W (tab_below gPow ht B) (K.below B)
  by_cases h : 200 < t.size
  · exact ureads_long k t _ rfl h w aw
  · have rp := fun w => rparse_any k t w
    rw [Sp.parse_same] at rp
    exact ureads_walk k _ _ t _ rfl (by omega) w (fun W B => uparse_any k t W (K.below B)) rp aw

set_option maxRecDepth 100000 in
set_option maxHeartbeats 2000000 in
theorem udays_long (k : Int) (t : ByteArray) (m : Nat) (hm : t.size = m) (h : 100 < m) (w : World) (aw : ∀ W, Below w.heap.size w W → Calls Tryd.prog 17 #[] W (Gives (.bool true) W)) :
    Calls Tryd.prog 7 #[.int .i64 k, .string t] w (Gives (.bool true) w) := by
  have f1 : decide (100 < (m : Int)) = true := decide_eq_true (by omega)
  go_enter Tryd.func7, Tryd.ntmps7
  have BW0 : Below w.heap.size w w := Below.refl _ _
  go_wp2_with fail
  refine (aw _ BW0).mono ?_; rintro _ w1 ⟨rfl, hb⟩
  have BW1 : Below w.heap.size w w1 := BW0.trans (hb.mono BW0.size)
  clear hb BW0
  go_wp2_with fail
  go_ret
  exact Gives.mk rfl BW1

set_option maxRecDepth 100000 in
set_option maxHeartbeats 2000000 in
theorem udays_walk (k a e g x i : Int) (s t : ByteArray) (m : Nat) (hm : t.size = m) (h : m ≤ 100) (w : World)
    (uw : ∀ w : World, Calls Tryd.prog 27 #[.int .i64 k] w (Gives (.tuple #[.int .i64 a, .int .i64 e]) w)) (rw : ∀ w : World, Calls Tryd.prog 28 #[.int .i64 k] w (Gives (.tuple #[.int .i64 a, .int .i64 e]) w))
    (ud : ∀ W, Below w.heap.size w W → Calls Tryd.prog 29 #[.int .i64 k] W (Gives (.tuple #[.string s, .int .i64 g]) W)) (rd : ∀ W, Below w.heap.size w W → Calls Tryd.prog 30 #[.int .i64 k] W (Gives (.tuple #[.string s, .int .i64 g]) W))
    (up : ∀ w : World, Calls Tryd.prog 31 #[.string t] w (Gives (.tuple #[.int .i64 x, .int .i64 i]) w)) (rp : ∀ w : World, Calls Tryd.prog 32 #[.string t] w (Gives (.tuple #[.int .i64 x, .int .i64 i]) w))
    (aw : ∀ W, Below w.heap.size w W → Calls Tryd.prog 17 #[] W (Gives (.bool true) W)) :
    Calls Tryd.prog 7 #[.int .i64 k, .string t] w (Gives (.bool true) w) := by
  have f1 : decide (100 < (m : Int)) = false := decide_eq_false (by omega)
  go_enter Tryd.func7, Tryd.ntmps7
  have BW0 : Below w.heap.size w w := Below.refl _ _
  go_wp2_with fail
  refine (uw _).mono ?_; rintro _ w1 ⟨rfl, hb⟩
  have BW1 : Below w.heap.size w w1 := BW0.trans (hb.mono BW0.size)
  clear hb BW0
  go_wp2_with fail
  refine (rw _).mono ?_; rintro _ w2 ⟨rfl, hb⟩
  have BW2 : Below w.heap.size w w2 := BW1.trans (hb.mono BW1.size)
  clear hb BW1
  go_wp2_with fail
  refine (ud _ BW2).mono ?_; rintro _ w3 ⟨rfl, hb⟩
  have BW3 : Below w.heap.size w w3 := BW2.trans (hb.mono BW2.size)
  clear hb BW2
  go_wp2_with fail
  refine (rd _ BW3).mono ?_; rintro _ w4 ⟨rfl, hb⟩
  have BW4 : Below w.heap.size w w4 := BW3.trans (hb.mono BW3.size)
  clear hb BW3
  go_wp2_with fail
  refine (up _).mono ?_; rintro _ w5 ⟨rfl, hb⟩
  have BW5 : Below w.heap.size w w5 := BW4.trans (hb.mono BW4.size)
  clear hb BW4
  go_wp2_with fail
  refine (rp _).mono ?_; rintro _ w6 ⟨rfl, hb⟩
  have BW6 : Below w.heap.size w w6 := BW5.trans (hb.mono BW5.size)
  clear hb BW5
  go_wp2_with fail
  refine (aw _ BW6).mono ?_; rintro _ w7 ⟨rfl, hb⟩
  have BW7 : Below w.heap.size w w7 := BW6.trans (hb.mono BW6.size)
  clear hb BW6
  go_wp2_with fail
  go_ret
  exact Gives.mk rfl BW7

theorem udays_as (k : Int) (k0 : -9223372036854775808 ≤ k) (k1 : k ≤ 9223372036854775807) (t : ByteArray) (w : World) (ht : Lib.TabIs Tryd.prog w "internal/strconv.uint64pow10" .u64 Lib.pow10Tab) (K : KI w) :
    Calls Tryd.prog 7 #[.int .i64 k, .string t] w (Gives (.bool true) w) := by
  have aw := fun W (B : Below w.heap.size w W) => uawake_any W (tab_below gPow ht B) (K.below B)
  by_cases h : 100 < t.size
  · exact udays_long k t _ rfl h w aw
  · have hz : t.data.toList.length ≤ 900 := by rw [← Lib.size_eq]; omega
    have rp := fun w => rparsedate_any t hz w
    rw [Sp.date_same] at rp
    exact udays_walk k _ _ _ _ _ _ t _ rfl (by omega) w (fun w => uweek_all k w) (fun w => rweek_all k w) (fun W B => udate_any k W (tab_below gPow ht B)) (fun W B => rdate_any k W (tab_below gPow ht B))
      (fun w => uparsedate_any t hz w) rp aw
end Go.Proofs.YtgfjofdjicepiaaDoor
