/-
  The functions of package couperef01, each by a contract: DivFloor where the signs differ.
-/
import Derived.Test.YthfnblifefnfmaaWrefquo
import Derived.Deep.DeepCutAuto
namespace Go.Proofs.Ythfnblifefnfmaa
open Go.RowKit
set_option linter.unusedVariables false
set_option linter.unusedSimpArgs false

/-- Behind the division of the magnitudes: the quotient's box, whatever block it lies in, the rest, the boxes of the argument and of the result. -/
def DvRel (w : World) (n1 : Bool) (h1 l1 : Int) (nq : Bool) (a b r : Int) (v v' : Value) (wx : World) : Prop :=
  ∃ k : Nat, v = .pointer (some ⟨k, 0, none⟩) ∧ v' = .int .u64 r ∧ w.heap.size + 1 < k ∧ k < wx.heap.size ∧
    (wx.cell? ⟨k, 0, none⟩ = some (.bool nq) ∧ wx.cell? ⟨k, 1, none⟩ = some (.int .u64 a) ∧ wx.cell? ⟨k, 2, none⟩ = some (.int .u64 b) ∧ ∀ o, wx.frozen? ⟨k, o, none⟩ = false) ∧
    (wx.cell? ⟨w.heap.size, 0, none⟩ = some (.bool n1) ∧ wx.cell? ⟨w.heap.size, 1, none⟩ = some (.int .u64 h1) ∧ wx.cell? ⟨w.heap.size, 2, none⟩ = some (.int .u64 l1)) ∧
    (wx.cell? ⟨w.heap.size + 1, 0, none⟩ = some (.bool false) ∧ wx.cell? ⟨w.heap.size + 1, 1, none⟩ = some (.int .u64 0) ∧ wx.cell? ⟨w.heap.size + 1, 2, none⟩ = some (.int .u64 0) ∧ ∀ o, wx.frozen? ⟨w.heap.size + 1, o, none⟩ = false) ∧
    Below w.heap.size w wx

/-- The same without the box of the argument. -/
def DvRel2 (w : World) (nq : Bool) (a b r : Int) (v v' : Value) (wx : World) : Prop :=
  ∃ k : Nat, v = .pointer (some ⟨k, 0, none⟩) ∧ v' = .int .u64 r ∧ w.heap.size + 1 < k ∧ k < wx.heap.size ∧
    (wx.cell? ⟨k, 0, none⟩ = some (.bool nq) ∧ wx.cell? ⟨k, 1, none⟩ = some (.int .u64 a) ∧ wx.cell? ⟨k, 2, none⟩ = some (.int .u64 b) ∧ ∀ o, wx.frozen? ⟨k, o, none⟩ = false) ∧
    (wx.cell? ⟨w.heap.size + 1, 0, none⟩ = some (.bool false) ∧ wx.cell? ⟨w.heap.size + 1, 1, none⟩ = some (.int .u64 0) ∧ wx.cell? ⟨w.heap.size + 1, 2, none⟩ = some (.int .u64 0) ∧ ∀ o, wx.frozen? ⟨w.heap.size + 1, o, none⟩ = false) ∧
    Below w.heap.size w wx

set_option maxRecDepth 100000 in
set_option maxHeartbeats 8000000 in
/-- The walk where the signs differ. -/
theorem rwdiv_diff (n1 : Bool) (h1 l1 d f a b r r' : Int) (nq n2 : Bool) (A B : Int) (w : World) (g : (d == 0) = false) (hs : decide (d < 0) = !n1) (a0 : 0 ≤ a) (b0 : 0 ≤ b)
    (hq : (decide (0 < a) || decide (0 < b)) = nq) (rs : Int) (hrs : (if d < 0 then -r' else r') = rs) (r0 : 0 ≤ r') (r1 : r' ≤ 9223372036854775807)
    (hc : (r = 0 ∧ r' = 0 ∧ n2 = nq ∧ A = a ∧ B = b) ∨ (0 < r ∧ IntKind.u64.wrap (f - r) = r' ∧ ∀ w : World, Calls Try.prog 52 #[.agg #[.bool nq, .int .u64 a, .int .u64 b], .agg #[.bool true, .int .u64 0, .int .u64 1]] w (Gives (.tuple #[.agg #[.bool n2, .int .u64 A, .int .u64 B], .int .i64 0]) w)))
    (ck : ∀ w : World, Calls Try.prog 11 #[.agg #[.bool n1, .int .u64 h1, .int .u64 l1]] w fun e w' => e = .returned (.int .i64 0) ∧ w' = w.alloc (Obj.cells #[.bool n1, .int .u64 h1, .int .u64 l1] 24))
    (ma : ∀ w : World, Calls Try.prog 41 #[.int .i64 d] w fun e w' => e = .returned (.int .u64 f) ∧ w' = w)
    (oo : ∀ w : World, Calls Try.prog 13 #[.int .i64 (-1)] w (Gives (.agg #[.bool true, .int .u64 0, .int .u64 1]) w))
    (dv : ∀ w : World, Calls Try.prog 43 #[.agg #[.bool n1, .int .u64 h1, .int .u64 l1], .int .u64 f] w (Gives (.tuple #[.agg #[.bool false, .int .u64 a, .int .u64 b], .int .u64 r]) w)) :
    Calls Try.prog 26 #[.agg #[.bool n1, .int .u64 h1, .int .u64 l1], .int .i64 d] w (Gives (.tuple #[.agg #[.bool n2, .int .u64 A, .int .u64 B], .int .i64 rs, .int .i64 0]) w) := by
  have HC := hid hc
  have HQ := hid hq
  have HS := hid hs
  have HR := hid hrs
  clear hc hq hs hrs
  go_enter Try.func26, Try.ntmps26
  go_upto_region 6 with (first | (go_at_call 11; refine (ck _).mono ?_; rintro e w' ⟨rfl, rfl⟩))
  go_cut [8, 9] (fun v v' wx => DvRel w n1 h1 l1 false a b r v v' wx)
  case first =>
    go_region_with (first | (go_at_call 41; (with_reducible refine (ma _).mono ?_); rintro e w4 ⟨rfl, rfl⟩) | (go_at_call 43; (with_reducible refine (dv _).mono ?_); rintro e y1 ⟨rfl, hb⟩; have pz : w.heap.size < (y1).heap.size := Nat.lt_of_lt_of_le (show w.heap.size < _ from (by first | assumption | (simp; done) | (simp; omega) | (dsimp only; omega) | omega)) hb.size; have p0 : (y1).cell? ⟨w.heap.size, 0, none⟩ = some (.bool n1) := (hb.cell (p := ⟨w.heap.size, 0, none⟩) (by first | assumption | (simp; done) | (simp; omega) | (dsimp only; omega) | omega)).trans (by first | assumption | (simp [go_sem]; done)); have p1 : (y1).cell? ⟨w.heap.size, 1, none⟩ = some (.int .u64 h1) := (hb.cell (p := ⟨w.heap.size, 1, none⟩) (by first | assumption | (simp; done) | (simp; omega) | (dsimp only; omega) | omega)).trans (by first | assumption | (simp [go_sem]; done)); have p2 : (y1).cell? ⟨w.heap.size, 2, none⟩ = some (.int .u64 l1) := (hb.cell (p := ⟨w.heap.size, 2, none⟩) (by first | assumption | (simp; done) | (simp; omega) | (dsimp only; omega) | omega)).trans (by first | assumption | (simp [go_sem]; done)); have pf : ∀ o, (y1).frozen? ⟨w.heap.size, o, none⟩ = false := fun o => (hb.frozen (p := ⟨w.heap.size, o, none⟩) (by first | assumption | (simp; done) | (simp; omega) | (dsimp only; omega) | omega)).trans (by first | (simp [go_sem]; done) | (simp [*]; done)); have xz : w.heap.size + 1 < (y1).heap.size := Nat.lt_of_lt_of_le (show w.heap.size + 1 < _ from (by first | assumption | (simp; done) | (simp; omega) | (dsimp only; omega) | omega)) hb.size; have x0 : (y1).cell? ⟨w.heap.size + 1, 0, none⟩ = some (.bool false) := (hb.cell (p := ⟨w.heap.size + 1, 0, none⟩) (by first | assumption | (simp; done) | (simp; omega) | (dsimp only; omega) | omega)).trans (by first | assumption | (simp [go_sem]; done)); have x1 : (y1).cell? ⟨w.heap.size + 1, 1, none⟩ = some (.int .u64 0) := (hb.cell (p := ⟨w.heap.size + 1, 1, none⟩) (by first | assumption | (simp; done) | (simp; omega) | (dsimp only; omega) | omega)).trans (by first | assumption | (simp [go_sem]; done)); have x2 : (y1).cell? ⟨w.heap.size + 1, 2, none⟩ = some (.int .u64 0) := (hb.cell (p := ⟨w.heap.size + 1, 2, none⟩) (by first | assumption | (simp; done) | (simp; omega) | (dsimp only; omega) | omega)).trans (by first | assumption | (simp [go_sem]; done)); have xf : ∀ o, (y1).frozen? ⟨w.heap.size + 1, o, none⟩ = false := fun o => (hb.frozen (p := ⟨w.heap.size + 1, o, none⟩) (by first | assumption | (simp; done) | (simp; omega) | (dsimp only; omega) | omega)).trans (by first | (simp [go_sem]; done) | (simp [*]; done)); (first | (have qz : w.heap.size + 1 + 1 + 1 < (y1).heap.size := Nat.lt_of_lt_of_le (show w.heap.size + 1 + 1 + 1 < _ from (by first | assumption | (simp; done) | (simp; omega) | (dsimp only; omega) | omega)) hb.size; have q0 : (y1).cell? ⟨w.heap.size + 1 + 1 + 1, 0, none⟩ = some (.bool false) := (hb.cell (p := ⟨w.heap.size + 1 + 1 + 1, 0, none⟩) (by first | assumption | (simp; done) | (simp; omega) | (dsimp only; omega) | omega)).trans (by first | assumption | (simp [go_sem]; done)); have q1 : (y1).cell? ⟨w.heap.size + 1 + 1 + 1, 1, none⟩ = some (.int .u64 0) := (hb.cell (p := ⟨w.heap.size + 1 + 1 + 1, 1, none⟩) (by first | assumption | (simp; done) | (simp; omega) | (dsimp only; omega) | omega)).trans (by first | assumption | (simp [go_sem]; done)); have q2 : (y1).cell? ⟨w.heap.size + 1 + 1 + 1, 2, none⟩ = some (.int .u64 0) := (hb.cell (p := ⟨w.heap.size + 1 + 1 + 1, 2, none⟩) (by first | assumption | (simp; done) | (simp; omega) | (dsimp only; omega) | omega)).trans (by first | assumption | (simp [go_sem]; done)); have qf : ∀ o, (y1).frozen? ⟨w.heap.size + 1 + 1 + 1, o, none⟩ = false := fun o => (hb.frozen (p := ⟨w.heap.size + 1 + 1 + 1, o, none⟩) (by first | assumption | (simp; done) | (simp; omega) | (dsimp only; omega) | omega)).trans (by first | (simp [go_sem]; done) | (simp [*]; done))) | skip)))
    all_goals
      go_wp2_with fail
      go_meet
      refine ⟨_, rfl, rfl, ?_, ?_, ⟨?_, ?_, ?_, ?_⟩, ⟨?_, ?_, ?_⟩, ⟨?_, ?_, ?_, ?_⟩, by repeat' (first | (with_reducible exact Below.refl _ _) | (with_reducible refine Below.alloc ?_ ?_ _) | (with_reducible refine Below.setCell ?_ ?_ _) | (with_reducible refine Below.drew ?_) | (with_reducible refine Below.trans ?_ (Below.mono (by assumption) ?_)) | (simp; done) | (simp; omega) | omega)⟩
      all_goals first | omega | (simp; done) | (simp; omega) | (simp [go_sem]; done) | (simp [go_sem, *]; done)
  case rest =>
    obtain ⟨k, rfl, rfl, hk1, hk2, ⟨q0, q1, q2, qf⟩, ⟨p0, p1, p2⟩, ⟨x0, x1, x2, xf⟩, hB⟩ := hcut
    have BH := hid hB
    have hsz := hB.size
    clear hB
    have n1k : ¬ k = w.heap.size := by omega
    have n2k : ¬ w.heap.size = k := by omega
    have n3k : ¬ k = w.heap.size + 1 := by omega
    have n4k : ¬ w.heap.size + 1 = k := by omega
    have gk : w.heap.size ≤ k := by omega
    cases n1
    · have hd : d < 0 := of_decide_eq_true HS.out
      have hdd : decide (d < 0) = true := decide_eq_true hd
      go_upto_region 8 with fail
      go_cut [8, 9] (fun v v' wx => DvRel2 w nq a b r v v' wx)
      case first =>
        have QQ := HQ.out
        have BB := BH.out
        by_cases ha : 0 < a
        · have hn : nq = true := by rw [← QQ]; simp [ha]
          subst hn
          clear QQ
          go_wp2_with fail
          go_meet
          refine ⟨k, rfl, rfl, by omega, ?_, ⟨?_, ?_, ?_, ?_⟩, ⟨?_, ?_, ?_, ?_⟩, by repeat' (first | (with_reducible exact Below.refl _ _) | (with_reducible refine Below.alloc ?_ ?_ _) | (with_reducible refine Below.setCell ?_ ?_ _) | (with_reducible refine Below.drew ?_) | (with_reducible refine Below.trans ?_ (Below.mono (by assumption) ?_)) | (simp; done) | (simp; omega) | omega)⟩
          all_goals first | (simp; omega) | (simp [go_sem]; done) | (simp [go_sem, *]; done)
        · by_cases hbb : 0 < b
          · have hn : nq = true := by rw [← QQ]; simp [hbb]
            subst hn
            clear QQ
            go_wp2_with fail
            go_meet
            refine ⟨k, rfl, rfl, by omega, ?_, ⟨?_, ?_, ?_, ?_⟩, ⟨?_, ?_, ?_, ?_⟩, by repeat' (first | (with_reducible exact Below.refl _ _) | (with_reducible refine Below.alloc ?_ ?_ _) | (with_reducible refine Below.setCell ?_ ?_ _) | (with_reducible refine Below.drew ?_) | (with_reducible refine Below.trans ?_ (Below.mono (by assumption) ?_)) | (simp; done) | (simp; omega) | omega)⟩
            all_goals first | (simp; omega) | (simp [go_sem]; done) | (simp [go_sem, *]; done)
          · have hn : nq = false := by rw [← QQ]; simp [ha, hbb]
            subst hn
            clear QQ
            go_wp2_with fail
            go_meet
            refine ⟨k, rfl, rfl, by omega, ?_, ⟨?_, ?_, ?_, ?_⟩, ⟨?_, ?_, ?_, ?_⟩, by repeat' (first | (with_reducible exact Below.refl _ _) | (with_reducible refine Below.alloc ?_ ?_ _) | (with_reducible refine Below.setCell ?_ ?_ _) | (with_reducible refine Below.drew ?_) | (with_reducible refine Below.trans ?_ (Below.mono (by assumption) ?_)) | (simp; done) | (simp; omega) | omega)⟩
            all_goals first | (simp; omega) | (simp [go_sem]; done) | (simp [go_sem, *]; done)
      case rest =>
        clear n1k n2k n3k n4k gk BH hsz q0 q1 q2 qf p0 p1 p2 x0 x1 x2 xf hk1 hk2
        obtain ⟨k, rfl, rfl, hk1, hk2, ⟨q0, q1, q2, qf⟩, ⟨x0, x1, x2, xf⟩, hB⟩ := hcut
        have BH := hid hB
        have hsz := hB.size
        clear hB
        have n1k : ¬ k = w.heap.size := by omega
        have n2k : ¬ w.heap.size = k := by omega
        have n3k : ¬ k = w.heap.size + 1 := by omega
        have n4k : ¬ w.heap.size + 1 = k := by omega
        have gk : w.heap.size ≤ k := by omega
        have HRO := HR.out
        rw [if_pos hd] at HRO
        subst HRO
        rcases HC.out with ⟨rfl, rfl, rfl, rfl, rfl⟩ | ⟨hr, hw, ad⟩
        · clear HC HR HQ HS
          go_wp2_with fail
          have BB := BH.out
          refine bodyPost_ret (v := .tuple #[.agg #[.bool n2, .int .u64 A, .int .u64 B], .int .i64 (-0), .int .i64 0]) (by simp [results, Try.results26, go_sem, q0, q1, q2, x0, x1, x2, World.size_setCell]) rfl ?_
          exact Gives.mk rfl (by repeat' (first | (with_reducible exact Below.refl _ _) | (with_reducible refine Below.alloc ?_ ?_ _) | (with_reducible refine Below.setCell ?_ ?_ _) | (with_reducible refine Below.drew ?_) | (with_reducible refine Below.trans ?_ (Below.mono (by assumption) ?_)) | (simp; done) | (simp; omega) | omega))
        · have HW := hid hw
          clear HC HR HQ HS hw
          go_upto_region 10 with fail
          go_cut [8, 9] (fun v v' wx => DvRel2 w n2 A B r v v' wx)
          case first =>
            have BB := BH.out
            go_region_with (first | (go_at_call 13; (with_reducible refine (oo _).mono ?_); rintro e y1 ⟨rfl, hb⟩; have qz : k < (y1).heap.size := Nat.lt_of_lt_of_le (show k < _ from (by first | assumption | (simp; done) | (simp; omega) | (dsimp only; omega) | omega)) hb.size; have q0 : (y1).cell? ⟨k, 0, none⟩ = some (.bool nq) := (hb.cell (p := ⟨k, 0, none⟩) (by first | assumption | (simp; done) | (simp; omega) | (dsimp only; omega) | omega)).trans (by first | assumption | (simp [go_sem]; done)); have q1 : (y1).cell? ⟨k, 1, none⟩ = some (.int .u64 a) := (hb.cell (p := ⟨k, 1, none⟩) (by first | assumption | (simp; done) | (simp; omega) | (dsimp only; omega) | omega)).trans (by first | assumption | (simp [go_sem]; done)); have q2 : (y1).cell? ⟨k, 2, none⟩ = some (.int .u64 b) := (hb.cell (p := ⟨k, 2, none⟩) (by first | assumption | (simp; done) | (simp; omega) | (dsimp only; omega) | omega)).trans (by first | assumption | (simp [go_sem]; done)); have qf : ∀ o, (y1).frozen? ⟨k, o, none⟩ = false := fun o => (hb.frozen (p := ⟨k, o, none⟩) (by first | assumption | (simp; done) | (simp; omega) | (dsimp only; omega) | omega)).trans (by first | (simp [go_sem]; done) | (simp [*]; done)); have xz : w.heap.size + 1 < (y1).heap.size := Nat.lt_of_lt_of_le (show w.heap.size + 1 < _ from (by first | assumption | (simp; done) | (simp; omega) | (dsimp only; omega) | omega)) hb.size; have x0 : (y1).cell? ⟨w.heap.size + 1, 0, none⟩ = some (.bool false) := (hb.cell (p := ⟨w.heap.size + 1, 0, none⟩) (by first | assumption | (simp; done) | (simp; omega) | (dsimp only; omega) | omega)).trans (by first | assumption | (simp [go_sem]; done)); have x1 : (y1).cell? ⟨w.heap.size + 1, 1, none⟩ = some (.int .u64 0) := (hb.cell (p := ⟨w.heap.size + 1, 1, none⟩) (by first | assumption | (simp; done) | (simp; omega) | (dsimp only; omega) | omega)).trans (by first | assumption | (simp [go_sem]; done)); have x2 : (y1).cell? ⟨w.heap.size + 1, 2, none⟩ = some (.int .u64 0) := (hb.cell (p := ⟨w.heap.size + 1, 2, none⟩) (by first | assumption | (simp; done) | (simp; omega) | (dsimp only; omega) | omega)).trans (by first | assumption | (simp [go_sem]; done)); have xf : ∀ o, (y1).frozen? ⟨w.heap.size + 1, o, none⟩ = false := fun o => (hb.frozen (p := ⟨w.heap.size + 1, o, none⟩) (by first | assumption | (simp; done) | (simp; omega) | (dsimp only; omega) | omega)).trans (by first | (simp [go_sem]; done) | (simp [*]; done))) | (go_at_call 52; (with_reducible refine (ad _).mono ?_); rintro e y2 ⟨rfl, hb2⟩; have qz : k < (y2).heap.size := Nat.lt_of_lt_of_le (show k < _ from (by first | assumption | (simp; done) | (simp; omega) | (dsimp only; omega) | omega)) hb2.size; have q0 : (y2).cell? ⟨k, 0, none⟩ = some (.bool nq) := (hb2.cell (p := ⟨k, 0, none⟩) (by first | assumption | (simp; done) | (simp; omega) | (dsimp only; omega) | omega)).trans (by first | assumption | (simp [go_sem]; done)); have q1 : (y2).cell? ⟨k, 1, none⟩ = some (.int .u64 a) := (hb2.cell (p := ⟨k, 1, none⟩) (by first | assumption | (simp; done) | (simp; omega) | (dsimp only; omega) | omega)).trans (by first | assumption | (simp [go_sem]; done)); have q2 : (y2).cell? ⟨k, 2, none⟩ = some (.int .u64 b) := (hb2.cell (p := ⟨k, 2, none⟩) (by first | assumption | (simp; done) | (simp; omega) | (dsimp only; omega) | omega)).trans (by first | assumption | (simp [go_sem]; done)); have qf : ∀ o, (y2).frozen? ⟨k, o, none⟩ = false := fun o => (hb2.frozen (p := ⟨k, o, none⟩) (by first | assumption | (simp; done) | (simp; omega) | (dsimp only; omega) | omega)).trans (by first | (simp [go_sem]; done) | (simp [*]; done)); have xz : w.heap.size + 1 < (y2).heap.size := Nat.lt_of_lt_of_le (show w.heap.size + 1 < _ from (by first | assumption | (simp; done) | (simp; omega) | (dsimp only; omega) | omega)) hb2.size; have x0 : (y2).cell? ⟨w.heap.size + 1, 0, none⟩ = some (.bool false) := (hb2.cell (p := ⟨w.heap.size + 1, 0, none⟩) (by first | assumption | (simp; done) | (simp; omega) | (dsimp only; omega) | omega)).trans (by first | assumption | (simp [go_sem]; done)); have x1 : (y2).cell? ⟨w.heap.size + 1, 1, none⟩ = some (.int .u64 0) := (hb2.cell (p := ⟨w.heap.size + 1, 1, none⟩) (by first | assumption | (simp; done) | (simp; omega) | (dsimp only; omega) | omega)).trans (by first | assumption | (simp [go_sem]; done)); have x2 : (y2).cell? ⟨w.heap.size + 1, 2, none⟩ = some (.int .u64 0) := (hb2.cell (p := ⟨w.heap.size + 1, 2, none⟩) (by first | assumption | (simp; done) | (simp; omega) | (dsimp only; omega) | omega)).trans (by first | assumption | (simp [go_sem]; done)); have xf : ∀ o, (y2).frozen? ⟨w.heap.size + 1, o, none⟩ = false := fun o => (hb2.frozen (p := ⟨w.heap.size + 1, o, none⟩) (by first | assumption | (simp; done) | (simp; omega) | (dsimp only; omega) | omega)).trans (by first | (simp [go_sem]; done) | (simp [*]; done))))
            all_goals
              go_wp2_with fail
              go_meet
              refine ⟨k, rfl, rfl, by omega, ?_, ⟨?_, ?_, ?_, ?_⟩, ⟨?_, ?_, ?_, ?_⟩, by repeat' (first | (with_reducible exact Below.refl _ _) | (with_reducible refine Below.alloc ?_ ?_ _) | (with_reducible refine Below.setCell ?_ ?_ _) | (with_reducible refine Below.drew ?_) | (with_reducible refine Below.trans ?_ (Below.mono (by assumption) ?_)) | (simp; done) | (simp; omega) | omega)⟩
              all_goals first | (simp; omega) | (simp [go_sem]; done) | (simp [go_sem, *]; done)
          case rest =>
            clear n1k n2k n3k n4k gk BH hsz q0 q1 q2 qf x0 x1 x2 xf hk1 hk2
            obtain ⟨k, rfl, rfl, hk1, hk2, ⟨q0, q1, q2, qf⟩, ⟨x0, x1, x2, xf⟩, hB⟩ := hcut
            have BH := hid hB
            have hsz := hB.size
            clear hB
            have n1k : ¬ k = w.heap.size := by omega
            have n2k : ¬ w.heap.size = k := by omega
            have n3k : ¬ k = w.heap.size + 1 := by omega
            have n4k : ¬ w.heap.size + 1 = k := by omega
            have gk : w.heap.size ≤ k := by omega
            have hw := HW.out
            go_wp2_with (go_at_call 41; (with_reducible refine (ma _).mono ?_); rintro e w4 ⟨rfl, rfl⟩)
            have BB := BH.out
            refine bodyPost_ret (v := .tuple #[.agg #[.bool n2, .int .u64 A, .int .u64 B], .int .i64 (-r'), .int .i64 0]) (by simp [results, Try.results26, go_sem, q0, q1, q2, x0, x1, x2, World.size_setCell]) rfl ?_
            exact Gives.mk rfl (by repeat' (first | (with_reducible exact Below.refl _ _) | (with_reducible refine Below.alloc ?_ ?_ _) | (with_reducible refine Below.setCell ?_ ?_ _) | (with_reducible refine Below.drew ?_) | (with_reducible refine Below.trans ?_ (Below.mono (by assumption) ?_)) | (simp; done) | (simp; omega) | omega))
    · have hd : ¬ d < 0 := of_decide_eq_false HS.out
      have hdd : decide (d < 0) = false := decide_eq_false hd
      go_upto_region 8 with fail
      go_cut [8, 9] (fun v v' wx => DvRel2 w nq a b r v v' wx)
      case first =>
        have QQ := HQ.out
        have BB := BH.out
        by_cases ha : 0 < a
        · have hn : nq = true := by rw [← QQ]; simp [ha]
          subst hn
          clear QQ
          go_wp2_with fail
          go_meet
          refine ⟨k, rfl, rfl, by omega, ?_, ⟨?_, ?_, ?_, ?_⟩, ⟨?_, ?_, ?_, ?_⟩, by repeat' (first | (with_reducible exact Below.refl _ _) | (with_reducible refine Below.alloc ?_ ?_ _) | (with_reducible refine Below.setCell ?_ ?_ _) | (with_reducible refine Below.drew ?_) | (with_reducible refine Below.trans ?_ (Below.mono (by assumption) ?_)) | (simp; done) | (simp; omega) | omega)⟩
          all_goals first | (simp; omega) | (simp [go_sem]; done) | (simp [go_sem, *]; done)
        · by_cases hbb : 0 < b
          · have hn : nq = true := by rw [← QQ]; simp [hbb]
            subst hn
            clear QQ
            go_wp2_with fail
            go_meet
            refine ⟨k, rfl, rfl, by omega, ?_, ⟨?_, ?_, ?_, ?_⟩, ⟨?_, ?_, ?_, ?_⟩, by repeat' (first | (with_reducible exact Below.refl _ _) | (with_reducible refine Below.alloc ?_ ?_ _) | (with_reducible refine Below.setCell ?_ ?_ _) | (with_reducible refine Below.drew ?_) | (with_reducible refine Below.trans ?_ (Below.mono (by assumption) ?_)) | (simp; done) | (simp; omega) | omega)⟩
            all_goals first | (simp; omega) | (simp [go_sem]; done) | (simp [go_sem, *]; done)
          · have hn : nq = false := by rw [← QQ]; simp [ha, hbb]
            subst hn
            clear QQ
            go_wp2_with fail
            go_meet
            refine ⟨k, rfl, rfl, by omega, ?_, ⟨?_, ?_, ?_, ?_⟩, ⟨?_, ?_, ?_, ?_⟩, by repeat' (first | (with_reducible exact Below.refl _ _) | (with_reducible refine Below.alloc ?_ ?_ _) | (with_reducible refine Below.setCell ?_ ?_ _) | (with_reducible refine Below.drew ?_) | (with_reducible refine Below.trans ?_ (Below.mono (by assumption) ?_)) | (simp; done) | (simp; omega) | omega)⟩
            all_goals first | (simp; omega) | (simp [go_sem]; done) | (simp [go_sem, *]; done)
      case rest =>
        clear n1k n2k n3k n4k gk BH hsz q0 q1 q2 qf p0 p1 p2 x0 x1 x2 xf hk1 hk2
        obtain ⟨k, rfl, rfl, hk1, hk2, ⟨q0, q1, q2, qf⟩, ⟨x0, x1, x2, xf⟩, hB⟩ := hcut
        have BH := hid hB
        have hsz := hB.size
        clear hB
        have n1k : ¬ k = w.heap.size := by omega
        have n2k : ¬ w.heap.size = k := by omega
        have n3k : ¬ k = w.heap.size + 1 := by omega
        have n4k : ¬ w.heap.size + 1 = k := by omega
        have gk : w.heap.size ≤ k := by omega
        have HRO := HR.out
        rw [if_neg hd] at HRO
        subst HRO
        rcases HC.out with ⟨rfl, rfl, rfl, rfl, rfl⟩ | ⟨hr, hw, ad⟩
        · clear HC HR HQ HS
          go_wp2_with fail
          have BB := BH.out
          refine bodyPost_ret (v := .tuple #[.agg #[.bool n2, .int .u64 A, .int .u64 B], .int .i64 (0), .int .i64 0]) (by simp [results, Try.results26, go_sem, q0, q1, q2, x0, x1, x2, World.size_setCell]) rfl ?_
          exact Gives.mk rfl (by repeat' (first | (with_reducible exact Below.refl _ _) | (with_reducible refine Below.alloc ?_ ?_ _) | (with_reducible refine Below.setCell ?_ ?_ _) | (with_reducible refine Below.drew ?_) | (with_reducible refine Below.trans ?_ (Below.mono (by assumption) ?_)) | (simp; done) | (simp; omega) | omega))
        · have HW := hid hw
          clear HC HR HQ HS hw
          go_upto_region 10 with fail
          go_cut [8, 9] (fun v v' wx => DvRel2 w n2 A B r v v' wx)
          case first =>
            have BB := BH.out
            go_region_with (first | (go_at_call 13; (with_reducible refine (oo _).mono ?_); rintro e y1 ⟨rfl, hb⟩; have qz : k < (y1).heap.size := Nat.lt_of_lt_of_le (show k < _ from (by first | assumption | (simp; done) | (simp; omega) | (dsimp only; omega) | omega)) hb.size; have q0 : (y1).cell? ⟨k, 0, none⟩ = some (.bool nq) := (hb.cell (p := ⟨k, 0, none⟩) (by first | assumption | (simp; done) | (simp; omega) | (dsimp only; omega) | omega)).trans (by first | assumption | (simp [go_sem]; done)); have q1 : (y1).cell? ⟨k, 1, none⟩ = some (.int .u64 a) := (hb.cell (p := ⟨k, 1, none⟩) (by first | assumption | (simp; done) | (simp; omega) | (dsimp only; omega) | omega)).trans (by first | assumption | (simp [go_sem]; done)); have q2 : (y1).cell? ⟨k, 2, none⟩ = some (.int .u64 b) := (hb.cell (p := ⟨k, 2, none⟩) (by first | assumption | (simp; done) | (simp; omega) | (dsimp only; omega) | omega)).trans (by first | assumption | (simp [go_sem]; done)); have qf : ∀ o, (y1).frozen? ⟨k, o, none⟩ = false := fun o => (hb.frozen (p := ⟨k, o, none⟩) (by first | assumption | (simp; done) | (simp; omega) | (dsimp only; omega) | omega)).trans (by first | (simp [go_sem]; done) | (simp [*]; done)); have xz : w.heap.size + 1 < (y1).heap.size := Nat.lt_of_lt_of_le (show w.heap.size + 1 < _ from (by first | assumption | (simp; done) | (simp; omega) | (dsimp only; omega) | omega)) hb.size; have x0 : (y1).cell? ⟨w.heap.size + 1, 0, none⟩ = some (.bool false) := (hb.cell (p := ⟨w.heap.size + 1, 0, none⟩) (by first | assumption | (simp; done) | (simp; omega) | (dsimp only; omega) | omega)).trans (by first | assumption | (simp [go_sem]; done)); have x1 : (y1).cell? ⟨w.heap.size + 1, 1, none⟩ = some (.int .u64 0) := (hb.cell (p := ⟨w.heap.size + 1, 1, none⟩) (by first | assumption | (simp; done) | (simp; omega) | (dsimp only; omega) | omega)).trans (by first | assumption | (simp [go_sem]; done)); have x2 : (y1).cell? ⟨w.heap.size + 1, 2, none⟩ = some (.int .u64 0) := (hb.cell (p := ⟨w.heap.size + 1, 2, none⟩) (by first | assumption | (simp; done) | (simp; omega) | (dsimp only; omega) | omega)).trans (by first | assumption | (simp [go_sem]; done)); have xf : ∀ o, (y1).frozen? ⟨w.heap.size + 1, o, none⟩ = false := fun o => (hb.frozen (p := ⟨w.heap.size + 1, o, none⟩) (by first | assumption | (simp; done) | (simp; omega) | (dsimp only; omega) | omega)).trans (by first | (simp [go_sem]; done) | (simp [*]; done))) | (go_at_call 52; (with_reducible refine (ad _).mono ?_); rintro e y2 ⟨rfl, hb2⟩; have qz : k < (y2).heap.size := Nat.lt_of_lt_of_le (show k < _ from (by first | assumption | (simp; done) | (simp; omega) | (dsimp only; omega) | omega)) hb2.size; have q0 : (y2).cell? ⟨k, 0, none⟩ = some (.bool nq) := (hb2.cell (p := ⟨k, 0, none⟩) (by first | assumption | (simp; done) | (simp; omega) | (dsimp only; omega) | omega)).trans (by first | assumption | (simp [go_sem]; done)); have q1 : (y2).cell? ⟨k, 1, none⟩ = some (.int .u64 a) := (hb2.cell (p := ⟨k, 1, none⟩) (by first | assumption | (simp; done) | (simp; omega) | (dsimp only; omega) | omega)).trans (by first | assumption | (simp [go_sem]; done)); have q2 : (y2).cell? ⟨k, 2, none⟩ = some (.int .u64 b) := (hb2.cell (p := ⟨k, 2, none⟩) (by first | assumption | (simp; done) | (simp; omega) | (dsimp only; omega) | omega)).trans (by first | assumption | (simp [go_sem]; done)); have qf : ∀ o, (y2).frozen? ⟨k, o, none⟩ = false := fun o => (hb2.frozen (p := ⟨k, o, none⟩) (by first | assumption | (simp; done) | (simp; omega) | (dsimp only; omega) | omega)).trans (by first | (simp [go_sem]; done) | (simp [*]; done)); have xz : w.heap.size + 1 < (y2).heap.size := Nat.lt_of_lt_of_le (show w.heap.size + 1 < _ from (by first | assumption | (simp; done) | (simp; omega) | (dsimp only; omega) | omega)) hb2.size; have x0 : (y2).cell? ⟨w.heap.size + 1, 0, none⟩ = some (.bool false) := (hb2.cell (p := ⟨w.heap.size + 1, 0, none⟩) (by first | assumption | (simp; done) | (simp; omega) | (dsimp only; omega) | omega)).trans (by first | assumption | (simp [go_sem]; done)); have x1 : (y2).cell? ⟨w.heap.size + 1, 1, none⟩ = some (.int .u64 0) := (hb2.cell (p := ⟨w.heap.size + 1, 1, none⟩) (by first | assumption | (simp; done) | (simp; omega) | (dsimp only; omega) | omega)).trans (by first | assumption | (simp [go_sem]; done)); have x2 : (y2).cell? ⟨w.heap.size + 1, 2, none⟩ = some (.int .u64 0) := (hb2.cell (p := ⟨w.heap.size + 1, 2, none⟩) (by first | assumption | (simp; done) | (simp; omega) | (dsimp only; omega) | omega)).trans (by first | assumption | (simp [go_sem]; done)); have xf : ∀ o, (y2).frozen? ⟨w.heap.size + 1, o, none⟩ = false := fun o => (hb2.frozen (p := ⟨w.heap.size + 1, o, none⟩) (by first | assumption | (simp; done) | (simp; omega) | (dsimp only; omega) | omega)).trans (by first | (simp [go_sem]; done) | (simp [*]; done))))
            all_goals
              go_wp2_with fail
              go_meet
              refine ⟨k, rfl, rfl, by omega, ?_, ⟨?_, ?_, ?_, ?_⟩, ⟨?_, ?_, ?_, ?_⟩, by repeat' (first | (with_reducible exact Below.refl _ _) | (with_reducible refine Below.alloc ?_ ?_ _) | (with_reducible refine Below.setCell ?_ ?_ _) | (with_reducible refine Below.drew ?_) | (with_reducible refine Below.trans ?_ (Below.mono (by assumption) ?_)) | (simp; done) | (simp; omega) | omega)⟩
              all_goals first | (simp; omega) | (simp [go_sem]; done) | (simp [go_sem, *]; done)
          case rest =>
            clear n1k n2k n3k n4k gk BH hsz q0 q1 q2 qf x0 x1 x2 xf hk1 hk2
            obtain ⟨k, rfl, rfl, hk1, hk2, ⟨q0, q1, q2, qf⟩, ⟨x0, x1, x2, xf⟩, hB⟩ := hcut
            have BH := hid hB
            have hsz := hB.size
            clear hB
            have n1k : ¬ k = w.heap.size := by omega
            have n2k : ¬ w.heap.size = k := by omega
            have n3k : ¬ k = w.heap.size + 1 := by omega
            have n4k : ¬ w.heap.size + 1 = k := by omega
            have gk : w.heap.size ≤ k := by omega
            have hw := HW.out
            go_wp2_with (go_at_call 41; (with_reducible refine (ma _).mono ?_); rintro e w4 ⟨rfl, rfl⟩)
            have BB := BH.out
            refine bodyPost_ret (v := .tuple #[.agg #[.bool n2, .int .u64 A, .int .u64 B], .int .i64 r', .int .i64 0]) (by simp [results, Try.results26, go_sem, q0, q1, q2, x0, x1, x2, World.size_setCell]) rfl ?_
            exact Gives.mk rfl (by repeat' (first | (with_reducible exact Below.refl _ _) | (with_reducible refine Below.alloc ?_ ?_ _) | (with_reducible refine Below.setCell ?_ ?_ _) | (with_reducible refine Below.drew ?_) | (with_reducible refine Below.trans ?_ (Below.mono (by assumption) ?_)) | (simp; done) | (simp; omega) | omega))
end Go.Proofs.Ythfnblifefnfmaa
