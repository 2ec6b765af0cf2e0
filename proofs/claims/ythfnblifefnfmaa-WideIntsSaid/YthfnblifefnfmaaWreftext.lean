/-
  The functions of package couperef01, each by a contract: Text.
-/
import Derived.Test.YthfnblifefnfmaaWrefint
import Derived.Test.YthfnblifefnfmaaWtext
namespace Go.Proofs.Ythfnblifefnfmaa
open Go.RowKit
set_option linter.unusedVariables false
set_option linter.unusedSimpArgs false

theorem cons_bytes (x : UInt8) (l : List UInt8) : ((⟨#[x]⟩ : ByteArray) ++ (⟨l.toArray⟩ : ByteArray)) = ⟨(x :: l).toArray⟩ := by
  apply ByteArray.ext
  rw [ByteArray.data_append]
  simp
theorem size_step (x : UInt8) (l : List UInt8) (h : l.length < 39) : 40 - ((⟨#[x]⟩ : ByteArray) ++ (⟨l.toArray⟩ : ByteArray)).size < 40 - (⟨l.toArray⟩ : ByteArray).size := by
  rw [cons_bytes]
  simp [ByteArray.size]
  omega
theorem digit_slice (d : Nat) (h : d < 10) (w : World) :
    (Instr.slice 9 (.string ⟨#[48, 49, 50, 51, 52, 53, 54, 55, 56, 57]⟩) (some (.int .u64 (d : Int))) (some (.int .u64 ((d : Int) + 1))) none).run Try.prog w = .ok (.string ⟨#[UInt8.ofNat (48 + d)]⟩) w := by
  have hc : d = 0 ∨ d = 1 ∨ d = 2 ∨ d = 3 ∨ d = 4 ∨ d = 5 ∨ d = 6 ∨ d = 7 ∨ d = 8 ∨ d = 9 := by omega
  rcases hc with rfl | rfl | rfl | rfl | rfl | rfl | rfl | rfl | rfl | rfl <;> (first | rfl | (refine run_slice_string _ _ _ _ _ _ _ Try.underlying9 ?_ ?_ ?_ <;> decide))

/-- At the head of a round of Text: the digits so far, and what is left in the argument's box. -/
def RTextRel (w : World) (N : Nat) (v4 : Value) (wr : World) : Prop :=
  ∃ (acc : List UInt8) (m : Nat) (hi lo : Int), v4 = .string ⟨acc.toArray⟩ ∧ (0 ≤ hi ∧ hi < 9223372036854775808 ∧ 0 ≤ lo ∧ lo < 18446744073709551616 ∧ hi * 18446744073709551616 + lo = (m : Int)) ∧ Wd.Dg N m acc ∧ acc.length ≤ 39 ∧
    (wr.cell? ⟨w.heap.size, 0, none⟩ = some (.bool false) ∧ wr.cell? ⟨w.heap.size, 1, none⟩ = some (.int .u64 hi) ∧ wr.cell? ⟨w.heap.size, 2, none⟩ = some (.int .u64 lo) ∧ ∀ o, wr.frozen? ⟨w.heap.size, o, none⟩ = false) ∧ w.heap.size < wr.heap.size ∧ Below w.heap.size w wr

set_option maxRecDepth 100000 in
set_option maxHeartbeats 2000000 in
theorem rtext_walk (n : Bool) (h l : Int) (b0 : 0 ≤ h) (b1 : h < 9223372036854775808) (b2 : 0 ≤ l) (b3 : l < 18446744073709551616) (N : Nat) (hN : h * 18446744073709551616 + l = (N : Int)) (S : ByteArray) (hNb : N < 170141183460469231731687303715884105728) (hS : S = ⟨((if n = true then [45] else []) ++ Lib.decDigits N).toArray⟩) (w : World)
    (ck : ∀ w : World, Calls Try.prog 11 #[.agg #[.bool n, .int .u64 h, .int .u64 l]] w fun e w' => e = .returned (.int .i64 0) ∧ w' = w.alloc (Obj.cells #[.bool n, .int .u64 h, .int .u64 l] 24))
    (dv : Hid (∀ hi lo a b r : Int, 0 ≤ hi → hi < 9223372036854775808 → 0 ≤ lo → lo < 18446744073709551616 → (hi * 18446744073709551616 + lo) / 10 / 18446744073709551616 = a → (hi * 18446744073709551616 + lo) / 10 % 18446744073709551616 = b → (hi * 18446744073709551616 + lo) % 10 = r → ∀ w : World, Calls Try.prog 43 #[.agg #[.bool false, .int .u64 hi, .int .u64 lo], .int .u64 10] w (Gives (.tuple #[.agg #[.bool false, .int .u64 a, .int .u64 b], .int .u64 r]) w))) :
    Calls Try.prog 15 #[.agg #[.bool n, .int .u64 h, .int .u64 l]] w (Gives (.string S) w) := by
  have HN := hid hN
  have HS := hid hS
  have HNb := hid hNb
  clear hN hS hNb
  go_enter Try.func15, Try.ntmps15
  go_wp2_with (go_at_call 11; refine (ck _).mono ?_; rintro e w' ⟨rfl, rfl⟩)
  go_loopw [4] (fun v4 wr => RTextRel w N v4 wr) (fun v4 _ => match v4 with | .string s => 40 - s.size | _ => 0)
  case atStart =>
    refine ⟨[], N, h, l, rfl, ⟨b0, b1, b2, b3, HN.out⟩, Wd.Dg.start N, by simp, ⟨?_, ?_, ?_, ?_⟩, ?_, by repeat' (first | (with_reducible exact Below.refl _ _) | (with_reducible refine Below.alloc ?_ ?_ _) | (with_reducible refine Below.setCell ?_ ?_ _) | (with_reducible refine Below.drew ?_) | (with_reducible refine Below.trans ?_ (Below.mono (by assumption) ?_)) | (simp; done) | (simp; omega) | omega)⟩
    all_goals first | (simp [go_sem]; done) | (simp; omega) | omega
  case round =>
    obtain ⟨acc, m, hi, lo, rfl, ⟨c0, c1, c2, c3, hm⟩, hD, hl39, ⟨k0, k1, k2, kf⟩, hsz, hB⟩ := hrel
    have HM := hid hm
    have HD := hid hD
    have HB := hid hB
    clear hm hD hB
    by_cases go : acc = [] ∨ m ≠ 0
    · have len := Wd.Dg.len HD.out HNb.out go
      obtain ⟨a', ha'⟩ : ∃ x, (hi * 18446744073709551616 + lo) / 10 / 18446744073709551616 = x := ⟨_, rfl⟩
      obtain ⟨b', hb'⟩ : ∃ x, (hi * 18446744073709551616 + lo) / 10 % 18446744073709551616 = x := ⟨_, rfl⟩
      obtain ⟨d, hd⟩ : ∃ d : Nat, m % 10 = d := ⟨_, rfl⟩
      have hd10 : d < 10 := by omega
      have hr : (hi * 18446744073709551616 + lo) % 10 = (d : Int) := by have := HM.out; omega
      have ds := dv.out hi lo a' b' (d : Int) c0 c1 c2 c3 ha' hb' hr
      have hm2 : a' * 18446744073709551616 + b' = ((m / 10 : Nat) : Int) := by have := HM.out; omega
      have ba : 0 ≤ a' ∧ a' < 9223372036854775808 ∧ 0 ≤ b' ∧ b' < 18446744073709551616 := by have := HM.out; omega
      have BA := hid ba
      have HM2 := hid hm2
      have LEN := hid len
      have ST := hid (Wd.Dg.step HD.out go)
      rw [hd] at ST
      have HD10 := hid hd10
      have hdi : (d : Int) < 10 := by omega
      clear ha' hb' hd hr hm2 ba len hd10
      have dsl := fun w => digit_slice d HD10.out w
      obtain ⟨u, hu⟩ : ∃ u, UInt8.ofNat (48 + d) = u := ⟨_, rfl⟩
      rw [hu] at dsl ST
      clear hu
      by_cases ha : acc = []
      · subst ha
        clear go
        go_wp2_with (go_at_call 43; refine (ds _).mono ?_; rintro e w1 ⟨rfl, hb⟩; have pz : w.heap.size < (w1).heap.size := Nat.lt_of_lt_of_le (show w.heap.size < _ from (by first | assumption | (simp; done) | (simp; omega) | (dsimp only; omega) | omega)) hb.size; have p0 : (w1).cell? ⟨w.heap.size, 0, none⟩ = some (.bool false) := (hb.cell (p := ⟨w.heap.size, 0, none⟩) (by first | assumption | (simp; done) | (simp; omega) | (dsimp only; omega) | omega)).trans (by first | assumption | (simp [go_sem]; done)); have p1 : (w1).cell? ⟨w.heap.size, 1, none⟩ = some (.int .u64 hi) := (hb.cell (p := ⟨w.heap.size, 1, none⟩) (by first | assumption | (simp; done) | (simp; omega) | (dsimp only; omega) | omega)).trans (by first | assumption | (simp [go_sem]; done)); have p2 : (w1).cell? ⟨w.heap.size, 2, none⟩ = some (.int .u64 lo) := (hb.cell (p := ⟨w.heap.size, 2, none⟩) (by first | assumption | (simp; done) | (simp; omega) | (dsimp only; omega) | omega)).trans (by first | assumption | (simp [go_sem]; done)); have pf : ∀ o, (w1).frozen? ⟨w.heap.size, o, none⟩ = false := fun o => (hb.frozen (p := ⟨w.heap.size, o, none⟩) (by first | assumption | (simp; done) | (simp; omega) | (dsimp only; omega) | omega)).trans (by first | (simp [go_sem]; done) | (simp [*]; done)))
        go_roundw
        case rel =>
          have BB := HB.out
          have hz1 : wr.heap.size ≤ w1.heap.size := hb.size
          refine ⟨u :: [], m / 10, a', b', by first | (simp only [Value.string.injEq]; exact cons_bytes _ _) | exact congrArg Value.string (cons_bytes _ _), ⟨BA.out.1, BA.out.2.1, BA.out.2.2.1, BA.out.2.2.2, HM2.out⟩, ST.out, by (have := LEN.out; simp only [List.length_cons]; omega), ⟨?_, ?_, ?_, ?_⟩, ?_, by repeat' (first | (with_reducible exact Below.refl _ _) | (with_reducible refine Below.alloc ?_ ?_ _) | (with_reducible refine Below.setCell ?_ ?_ _) | (with_reducible refine Below.drew ?_) | (with_reducible refine Below.trans ?_ (Below.mono (by assumption) ?_)) | (simp; done) | (simp; omega) | omega)⟩
          all_goals first | (simp [go_sem]; done) | (simp [go_sem, *]; done) | (simp; omega) | omega
        case measure => exact size_step u [] LEN.out
      · have hm0 : m ≠ 0 := go.resolve_left ha
        clear go
        by_cases hh : 0 < hi
        · clear hm0
          go_wp2_with (go_at_call 43; refine (ds _).mono ?_; rintro e w1 ⟨rfl, hb⟩; have pz : w.heap.size < (w1).heap.size := Nat.lt_of_lt_of_le (show w.heap.size < _ from (by first | assumption | (simp; done) | (simp; omega) | (dsimp only; omega) | omega)) hb.size; have p0 : (w1).cell? ⟨w.heap.size, 0, none⟩ = some (.bool false) := (hb.cell (p := ⟨w.heap.size, 0, none⟩) (by first | assumption | (simp; done) | (simp; omega) | (dsimp only; omega) | omega)).trans (by first | assumption | (simp [go_sem]; done)); have p1 : (w1).cell? ⟨w.heap.size, 1, none⟩ = some (.int .u64 hi) := (hb.cell (p := ⟨w.heap.size, 1, none⟩) (by first | assumption | (simp; done) | (simp; omega) | (dsimp only; omega) | omega)).trans (by first | assumption | (simp [go_sem]; done)); have p2 : (w1).cell? ⟨w.heap.size, 2, none⟩ = some (.int .u64 lo) := (hb.cell (p := ⟨w.heap.size, 2, none⟩) (by first | assumption | (simp; done) | (simp; omega) | (dsimp only; omega) | omega)).trans (by first | assumption | (simp [go_sem]; done)); have pf : ∀ o, (w1).frozen? ⟨w.heap.size, o, none⟩ = false := fun o => (hb.frozen (p := ⟨w.heap.size, o, none⟩) (by first | assumption | (simp; done) | (simp; omega) | (dsimp only; omega) | omega)).trans (by first | (simp [go_sem]; done) | (simp [*]; done)))
          go_roundw
          case rel =>
            have BB := HB.out
            have hz1 : wr.heap.size ≤ w1.heap.size := hb.size
            refine ⟨u :: acc, m / 10, a', b', by first | (simp only [Value.string.injEq]; exact cons_bytes _ _) | exact congrArg Value.string (cons_bytes _ _), ⟨BA.out.1, BA.out.2.1, BA.out.2.2.1, BA.out.2.2.2, HM2.out⟩, ST.out, by (have := LEN.out; simp only [List.length_cons]; omega), ⟨?_, ?_, ?_, ?_⟩, ?_, by repeat' (first | (with_reducible exact Below.refl _ _) | (with_reducible refine Below.alloc ?_ ?_ _) | (with_reducible refine Below.setCell ?_ ?_ _) | (with_reducible refine Below.drew ?_) | (with_reducible refine Below.trans ?_ (Below.mono (by assumption) ?_)) | (simp; done) | (simp; omega) | omega)⟩
            all_goals first | (simp [go_sem]; done) | (simp [go_sem, *]; done) | (simp; omega) | omega
          case measure => exact size_step u acc LEN.out
        · have hz0 : hi = 0 := by omega
          subst hz0
          have hl0 : 0 < lo := by have := HM.out; omega
          clear hm0 hh
          go_wp2_with (go_at_call 43; refine (ds _).mono ?_; rintro e w1 ⟨rfl, hb⟩; have pz : w.heap.size < (w1).heap.size := Nat.lt_of_lt_of_le (show w.heap.size < _ from (by first | assumption | (simp; done) | (simp; omega) | (dsimp only; omega) | omega)) hb.size; have p0 : (w1).cell? ⟨w.heap.size, 0, none⟩ = some (.bool false) := (hb.cell (p := ⟨w.heap.size, 0, none⟩) (by first | assumption | (simp; done) | (simp; omega) | (dsimp only; omega) | omega)).trans (by first | assumption | (simp [go_sem]; done)); have p1 : (w1).cell? ⟨w.heap.size, 1, none⟩ = some (.int .u64 0) := (hb.cell (p := ⟨w.heap.size, 1, none⟩) (by first | assumption | (simp; done) | (simp; omega) | (dsimp only; omega) | omega)).trans (by first | assumption | (simp [go_sem]; done)); have p2 : (w1).cell? ⟨w.heap.size, 2, none⟩ = some (.int .u64 lo) := (hb.cell (p := ⟨w.heap.size, 2, none⟩) (by first | assumption | (simp; done) | (simp; omega) | (dsimp only; omega) | omega)).trans (by first | assumption | (simp [go_sem]; done)); have pf : ∀ o, (w1).frozen? ⟨w.heap.size, o, none⟩ = false := fun o => (hb.frozen (p := ⟨w.heap.size, o, none⟩) (by first | assumption | (simp; done) | (simp; omega) | (dsimp only; omega) | omega)).trans (by first | (simp [go_sem]; done) | (simp [*]; done)))
          go_roundw
          case rel =>
            have BB := HB.out
            have hz1 : wr.heap.size ≤ w1.heap.size := hb.size
            refine ⟨u :: acc, m / 10, a', b', by first | (simp only [Value.string.injEq]; exact cons_bytes _ _) | exact congrArg Value.string (cons_bytes _ _), ⟨BA.out.1, BA.out.2.1, BA.out.2.2.1, BA.out.2.2.2, HM2.out⟩, ST.out, by (have := LEN.out; simp only [List.length_cons]; omega), ⟨?_, ?_, ?_, ?_⟩, ?_, by repeat' (first | (with_reducible exact Below.refl _ _) | (with_reducible refine Below.alloc ?_ ?_ _) | (with_reducible refine Below.setCell ?_ ?_ _) | (with_reducible refine Below.drew ?_) | (with_reducible refine Below.trans ?_ (Below.mono (by assumption) ?_)) | (simp; done) | (simp; omega) | omega)⟩
            all_goals first | (simp [go_sem]; done) | (simp [go_sem, *]; done) | (simp; omega) | omega
          case measure => exact size_step u acc LEN.out
    · have ha : ¬ acc = [] := fun h => go (Or.inl h)
      have hm0 : m = 0 := Classical.byContradiction fun h => go (Or.inr h)
      subst hm0
      have hz0 : hi = 0 := by have := HM.out; omega
      subst hz0
      have hl0 : lo = 0 := by have := HM.out; omega
      subst hl0
      have fin := Wd.Dg.done HD.out ha
      have SS := HS.out
      rw [← fin] at SS
      clear go fin
      cases n
      · have e : S = ⟨acc.toArray⟩ := by rw [SS]; simp
        subst e
        clear SS
        go_wp2_with fail
        · exfalso
          simp_all
        · go_ret
          have BB := HB.out
          exact Gives.mk rfl (by repeat' (first | (with_reducible exact Below.refl _ _) | (with_reducible refine Below.alloc ?_ ?_ _) | (with_reducible refine Below.setCell ?_ ?_ _) | (with_reducible refine Below.drew ?_) | (with_reducible refine Below.trans ?_ (Below.mono (by assumption) ?_)) | (simp; done) | (simp; omega) | omega))
      · have e : S = (⟨#[45]⟩ : ByteArray) ++ ⟨acc.toArray⟩ := by rw [SS, cons_bytes]; simp
        subst e
        clear SS
        go_wp2_with fail
        · exfalso
          simp_all
        · go_ret
          have BB := HB.out
          exact Gives.mk rfl (by repeat' (first | (with_reducible exact Below.refl _ _) | (with_reducible refine Below.alloc ?_ ?_ _) | (with_reducible refine Below.setCell ?_ ?_ _) | (with_reducible refine Below.drew ?_) | (with_reducible refine Below.trans ?_ (Below.mono (by assumption) ?_)) | (simp; done) | (simp; omega) | omega))

theorem rtext_any (n : Bool) (h l : Int) (F : Wd.Fits ⟨n, h, l⟩) (hc : Wd.chk ⟨n, h, l⟩ = 0) (S : ByteArray) (hS : S = ⟨(Lib.itoa (Wd.toInt ⟨n, h, l⟩)).toArray⟩) (w : World) :
    Calls Try.prog 15 #[.agg #[.bool n, .int .u64 h, .int .u64 l]] w (Gives (.string S) w) := by
  have F' := F
  obtain ⟨⟨b0, b1⟩, ⟨b2, b3⟩⟩ := F
  simp only at b0 b1 b2 b3
  have hh := chk_of hc
  have ck := fun w => refCheck_any n h l w b0 b2
  rw [hc] at ck
  obtain ⟨N, hN⟩ : ∃ N : Nat, h * 18446744073709551616 + l = (N : Int) := ⟨(h * 18446744073709551616 + l).toNat, by omega⟩
  have sg := Wd.toInt_neg _ hc F'
  simp only at sg
  have hT : Wd.toInt ⟨n, h, l⟩ = Wd.sv n (N : Int) := by rw [← hN]; rfl
  rw [hT] at hS sg
  refine rtext_walk n h l b0 hh b2 b3 N hN S (by omega) ?_ w ck (hid fun hi lo a b r c0 c1 c2 c3 ha hb hr w => rdivide_any false hi lo 10 c0 c1 c2 c3 (by omega) (by omega) a b r ha hb hr w)
  rw [hS]
  unfold Lib.itoa
  cases n
  · rw [if_neg (by simpa using sg)]
    simp [Wd.sv]
  · rw [if_pos (by simpa using sg.symm)]
    simp [Wd.sv]
theorem text_bad (n : Bool) (h l c : Int) (w : World) (c0 : ¬ c = 0) (ck : ∀ w : World, Calls Try.prog 10 #[.agg #[.bool n, .int .u64 h, .int .u64 l]] w fun e w' => e = .returned (.int .i64 c) ∧ w' = w.alloc (Obj.cells #[.bool n, .int .u64 h, .int .u64 l] 24)) :
    Calls Try.prog 14 #[.agg #[.bool n, .int .u64 h, .int .u64 l]] w (Gives (.string ⟨#[]⟩) w) := by
  go_enter Try.func14, Try.ntmps14
  go_wp2_with (go_at_call 10; refine (ck _).mono ?_; rintro e w' ⟨rfl, rfl⟩)
  go_ret
  exact Gives.mk rfl (by repeat' (first | (with_reducible exact Below.refl _ _) | (with_reducible refine Below.alloc ?_ ?_ _) | (with_reducible refine Below.setCell ?_ ?_ _) | (with_reducible refine Below.drew ?_) | (with_reducible refine Below.trans ?_ (Below.mono (by assumption) ?_)) | (simp; done) | (simp; omega) | omega))
theorem rtext_bad (n : Bool) (h l c : Int) (w : World) (c0 : ¬ c = 0) (ck : ∀ w : World, Calls Try.prog 11 #[.agg #[.bool n, .int .u64 h, .int .u64 l]] w fun e w' => e = .returned (.int .i64 c) ∧ w' = w.alloc (Obj.cells #[.bool n, .int .u64 h, .int .u64 l] 24)) :
    Calls Try.prog 15 #[.agg #[.bool n, .int .u64 h, .int .u64 l]] w (Gives (.string ⟨#[]⟩) w) := by
  go_enter Try.func15, Try.ntmps15
  go_wp2_with (go_at_call 11; refine (ck _).mono ?_; rintro e w' ⟨rfl, rfl⟩)
  go_ret
  exact Gives.mk rfl (by repeat' (first | (with_reducible exact Below.refl _ _) | (with_reducible refine Below.alloc ?_ ?_ _) | (with_reducible refine Below.setCell ?_ ?_ _) | (with_reducible refine Below.drew ?_) | (with_reducible refine Below.trans ?_ (Below.mono (by assumption) ?_)) | (simp; done) | (simp; omega) | omega))
/-- Both texts, for every integer: the same. -/
theorem texts_any (n : Bool) (h l : Int) (F : Wd.Fits ⟨n, h, l⟩) :
    ∃ S : ByteArray, (∀ w : World, Calls Try.prog 14 #[.agg #[.bool n, .int .u64 h, .int .u64 l]] w (Gives (.string S) w)) ∧ (∀ w : World, Calls Try.prog 15 #[.agg #[.bool n, .int .u64 h, .int .u64 l]] w (Gives (.string S) w)) := by
  by_cases hc : Wd.chk ⟨n, h, l⟩ = 0
  · exact ⟨_, fun w => text_any n h l F hc _ rfl w, fun w => rtext_any n h l F hc _ rfl w⟩
  · exact ⟨⟨#[]⟩, fun w => text_bad n h l _ w hc (fun w => check_any n h l w), fun w => rtext_bad n h l _ w hc (fun w => refCheck_any n h l w F.1.1 F.2.1)⟩
end Go.Proofs.Ythfnblifefnfmaa
