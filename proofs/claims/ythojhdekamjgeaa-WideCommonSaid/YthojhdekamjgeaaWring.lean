/-
  WideRing: the walk.
-/
import Derived.Test.YthojhdekamjgeaaWawake
import Derived.Test.YthojhdekamjgeaaWsub
import Derived.Deep.DeepCutAuto
namespace Go.Proofs.Ythojhdekamjgeaa
open Go.RowKit
set_option linter.unusedVariables false

/-- A box that holds an integer, and no error: whatever block it lies in. -/
def BackRel (w : World) (n : Bool) (h l : Int) (v v' : Value) (wx : World) : Prop :=
  ∃ k : Nat, v = .pointer (some ⟨k, 0, none⟩) ∧ v' = .int .i64 0 ∧ (k < wx.heap.size ∧ wx.cell? ⟨k, 0, none⟩ = some (.bool n) ∧ wx.cell? ⟨k, 1, none⟩ = some (.int .u64 h) ∧ wx.cell? ⟨k, 2, none⟩ = some (.int .u64 l)) ∧ Below w.heap.size w wx
set_option maxRecDepth 100000 in
set_option maxHeartbeats 2000000 in
theorem ring_walk (a b c : Int) (na : Bool) (ha la : Int) (nb : Bool) (hb' lb : Int) (nx : Bool) (hx lx : Int) (ns : Bool) (hs ls : Int) (nl : Bool) (hl ll e : Int) (np : Bool) (hp lp : Int) (nq : Bool) (hq lq : Int) (w : World)
    (oa : ∀ w : World, Calls Try.prog 14 #[.int .i64 a] w fun e w' => e = .returned (.agg #[.bool na, .int .u64 ha, .int .u64 la]) ∧ w' = (w.alloc (Obj.cells #[.bool na, .int .u64 ha, .int .u64 la] 24)).alloc (Obj.cells #[.bool na, .int .u64 ha, .int .u64 la] 24))
    (ob : ∀ w : World, Calls Try.prog 14 #[.int .i64 b] w fun e w' => e = .returned (.agg #[.bool nb, .int .u64 hb', .int .u64 lb]) ∧ w' = (w.alloc (Obj.cells #[.bool nb, .int .u64 hb', .int .u64 lb] 24)).alloc (Obj.cells #[.bool nb, .int .u64 hb', .int .u64 lb] 24))
    (mab : ∀ w : World, Calls Try.prog 27 #[.int .i64 a, .int .i64 b] w fun e w' => e = .returned (.agg #[.bool nx, .int .u64 hx, .int .u64 lx]) ∧ w' = (w.alloc (Obj.cells #[.bool nx, .int .u64 hx, .int .u64 lx] 24)).alloc (Obj.cells #[.bool nx, .int .u64 hx, .int .u64 lx] 24))
    (mba : ∀ w : World, Calls Try.prog 27 #[.int .i64 b, .int .i64 a] w fun e w' => e = .returned (.agg #[.bool nx, .int .u64 hx, .int .u64 lx]) ∧ w' = (w.alloc (Obj.cells #[.bool nx, .int .u64 hx, .int .u64 lx] 24)).alloc (Obj.cells #[.bool nx, .int .u64 hx, .int .u64 lx] 24))
    (mac : ∀ w : World, Calls Try.prog 27 #[.int .i64 a, .int .i64 c] w fun e w' => e = .returned (.agg #[.bool np, .int .u64 hp, .int .u64 lp]) ∧ w' = (w.alloc (Obj.cells #[.bool np, .int .u64 hp, .int .u64 lp] 24)).alloc (Obj.cells #[.bool np, .int .u64 hp, .int .u64 lp] 24))
    (mbc : ∀ w : World, Calls Try.prog 27 #[.int .i64 b, .int .i64 c] w fun e w' => e = .returned (.agg #[.bool nq, .int .u64 hq, .int .u64 lq]) ∧ w' = (w.alloc (Obj.cells #[.bool nq, .int .u64 hq, .int .u64 lq] 24)).alloc (Obj.cells #[.bool nq, .int .u64 hq, .int .u64 lq] 24))
    (ab : ∀ w : World, Calls Try.prog 19 #[.agg #[.bool na, .int .u64 ha, .int .u64 la], .agg #[.bool nb, .int .u64 hb', .int .u64 lb]] w (Gives (.tuple #[.agg #[.bool ns, .int .u64 hs, .int .u64 ls], .int .i64 0]) w))
    (ba : ∀ w : World, Calls Try.prog 19 #[.agg #[.bool nb, .int .u64 hb', .int .u64 lb], .agg #[.bool na, .int .u64 ha, .int .u64 la]] w (Gives (.tuple #[.agg #[.bool ns, .int .u64 hs, .int .u64 ls], .int .i64 0]) w))
    (tc : ∀ w : World, Calls Try.prog 25 #[.agg #[.bool ns, .int .u64 hs, .int .u64 ls], .int .i64 c] w (Gives (.tuple #[.agg #[.bool nl, .int .u64 hl, .int .u64 ll], .int .i64 e]) w))
    (pq : ∀ w : World, Calls Try.prog 19 #[.agg #[.bool np, .int .u64 hp, .int .u64 lp], .agg #[.bool nq, .int .u64 hq, .int .u64 lq]] w (Gives (.tuple #[.agg #[.bool nl, .int .u64 hl, .int .u64 ll], .int .i64 e]) w))
    (su : ∀ w : World, Calls Try.prog 21 #[.agg #[.bool ns, .int .u64 hs, .int .u64 ls], .agg #[.bool nb, .int .u64 hb', .int .u64 lb]] w (Gives (.tuple #[.agg #[.bool na, .int .u64 ha, .int .u64 la], .int .i64 0]) w)) :
    Calls Try.prog 8 #[.int .i64 a, .int .i64 b, .int .i64 c] w (Gives (.bool true) w) := by
  go_enter Try.func8, Try.ntmps8
  go_wp2_with fail
  refine (mab _).mono ?_; rintro e w' ⟨rfl, rfl⟩
  go_wp2_with fail
  refine (mba _).mono ?_; rintro e w' ⟨rfl, rfl⟩
  go_wp2_with fail
  refine (oa _).mono ?_; rintro e w' ⟨rfl, rfl⟩
  go_wp2_with fail
  refine (ob _).mono ?_; rintro e w' ⟨rfl, rfl⟩
  go_wp2_with fail
  refine (ab _).mono ?_; rintro e w1 ⟨rfl, hb⟩
  have pz : w.heap.size + 1 + 1 + 1 + 1 < (w1).heap.size := Nat.lt_of_lt_of_le (show w.heap.size + 1 + 1 + 1 + 1 < _ from (by first | assumption | (simp; done) | (simp; omega) | (dsimp only; omega) | omega)) hb.size; have p0 : (w1).cell? ⟨w.heap.size + 1 + 1 + 1 + 1, 0, none⟩ = some (.bool nx) := (hb.cell (p := ⟨w.heap.size + 1 + 1 + 1 + 1, 0, none⟩) (by first | assumption | (simp; done) | (simp; omega) | (dsimp only; omega) | omega)).trans (by first | assumption | (simp [go_sem]; done) | (simp [go_sem, *]; done)); have p1 : (w1).cell? ⟨w.heap.size + 1 + 1 + 1 + 1, 1, none⟩ = some (.int .u64 hx) := (hb.cell (p := ⟨w.heap.size + 1 + 1 + 1 + 1, 1, none⟩) (by first | assumption | (simp; done) | (simp; omega) | (dsimp only; omega) | omega)).trans (by first | assumption | (simp [go_sem]; done) | (simp [go_sem, *]; done)); have p2 : (w1).cell? ⟨w.heap.size + 1 + 1 + 1 + 1, 2, none⟩ = some (.int .u64 lx) := (hb.cell (p := ⟨w.heap.size + 1 + 1 + 1 + 1, 2, none⟩) (by first | assumption | (simp; done) | (simp; omega) | (dsimp only; omega) | omega)).trans (by first | assumption | (simp [go_sem]; done) | (simp [go_sem, *]; done))
  have qz : w.heap.size + 1 + 1 + 1 + 1 + 1 < (w1).heap.size := Nat.lt_of_lt_of_le (show w.heap.size + 1 + 1 + 1 + 1 + 1 < _ from (by first | assumption | (simp; done) | (simp; omega) | (dsimp only; omega) | omega)) hb.size; have q0 : (w1).cell? ⟨w.heap.size + 1 + 1 + 1 + 1 + 1, 0, none⟩ = some (.bool nx) := (hb.cell (p := ⟨w.heap.size + 1 + 1 + 1 + 1 + 1, 0, none⟩) (by first | assumption | (simp; done) | (simp; omega) | (dsimp only; omega) | omega)).trans (by first | assumption | (simp [go_sem]; done) | (simp [go_sem, *]; done)); have q1 : (w1).cell? ⟨w.heap.size + 1 + 1 + 1 + 1 + 1, 1, none⟩ = some (.int .u64 hx) := (hb.cell (p := ⟨w.heap.size + 1 + 1 + 1 + 1 + 1, 1, none⟩) (by first | assumption | (simp; done) | (simp; omega) | (dsimp only; omega) | omega)).trans (by first | assumption | (simp [go_sem]; done) | (simp [go_sem, *]; done)); have q2 : (w1).cell? ⟨w.heap.size + 1 + 1 + 1 + 1 + 1, 2, none⟩ = some (.int .u64 lx) := (hb.cell (p := ⟨w.heap.size + 1 + 1 + 1 + 1 + 1, 2, none⟩) (by first | assumption | (simp; done) | (simp; omega) | (dsimp only; omega) | omega)).trans (by first | assumption | (simp [go_sem]; done) | (simp [go_sem, *]; done))
  have P1 := hid (And.intro pz (And.intro p0 (And.intro p1 p2)))
  have Q1 := hid (And.intro qz (And.intro q0 (And.intro q1 q2)))
  have B1 : Below w.heap.size w w1 := by repeat' (first | (with_reducible exact Below.refl _ _) | (with_reducible refine Below.alloc ?_ ?_ _) | (with_reducible refine Below.setCell ?_ ?_ _) | (with_reducible refine Below.drew ?_) | (with_reducible refine Below.trans ?_ (Below.mono (by assumption) ?_)) | (simp; done) | (simp; omega) | omega)
  clear hb pz p0 p1 p2 qz q0 q1 q2
  go_wp2_with fail
  refine (ob _).mono ?_; rintro e w' ⟨rfl, rfl⟩
  go_wp2_with fail
  refine (oa _).mono ?_; rintro e w' ⟨rfl, rfl⟩
  go_wp2_with fail
  refine (ba _).mono ?_; rintro e w2 ⟨rfl, hb⟩
  have sz : w1.heap.size < (w2).heap.size := Nat.lt_of_lt_of_le (show w1.heap.size < _ from (by first | assumption | (simp; done) | (simp; omega) | (dsimp only; omega) | omega)) hb.size; have s0 : (w2).cell? ⟨w1.heap.size, 0, none⟩ = some (.bool ns) := (hb.cell (p := ⟨w1.heap.size, 0, none⟩) (by first | assumption | (simp; done) | (simp; omega) | (dsimp only; omega) | omega)).trans (by first | assumption | (simp [go_sem]; done) | (simp [go_sem, *]; done)); have s1 : (w2).cell? ⟨w1.heap.size, 1, none⟩ = some (.int .u64 hs) := (hb.cell (p := ⟨w1.heap.size, 1, none⟩) (by first | assumption | (simp; done) | (simp; omega) | (dsimp only; omega) | omega)).trans (by first | assumption | (simp [go_sem]; done) | (simp [go_sem, *]; done)); have s2 : (w2).cell? ⟨w1.heap.size, 2, none⟩ = some (.int .u64 ls) := (hb.cell (p := ⟨w1.heap.size, 2, none⟩) (by first | assumption | (simp; done) | (simp; omega) | (dsimp only; omega) | omega)).trans (by first | assumption | (simp [go_sem]; done) | (simp [go_sem, *]; done))
  have B2 : Below w1.heap.size w1 w2 := by repeat' (first | (with_reducible exact Below.refl _ _) | (with_reducible refine Below.alloc ?_ ?_ _) | (with_reducible refine Below.setCell ?_ ?_ _) | (with_reducible refine Below.drew ?_) | (with_reducible refine Below.trans ?_ (Below.mono (by assumption) ?_)) | (simp; done) | (simp; omega) | omega)
  clear hb
  obtain ⟨pz, p0, p1, p2⟩ := keep3 B2 P1.out
  obtain ⟨qz, q0, q1, q2⟩ := keep3 B2 Q1.out
  have S2 := hid (And.intro sz (And.intro s0 (And.intro s1 s2)))
  go_wp2_with fail
  refine (tc _).mono ?_; rintro e w3 ⟨rfl, hb⟩
  have B3 : Below w2.heap.size w2 w3 := by repeat' (first | (with_reducible exact Below.refl _ _) | (with_reducible refine Below.alloc ?_ ?_ _) | (with_reducible refine Below.setCell ?_ ?_ _) | (with_reducible refine Below.drew ?_) | (with_reducible refine Below.trans ?_ (Below.mono (by assumption) ?_)) | (simp; done) | (simp; omega) | omega)
  clear hb pz p0 p1 p2 qz q0 q1 q2 sz s0 s1 s2
  have S3 := hid (keep3 B3 S2.out)
  go_wp2_with fail
  refine (mac _).mono ?_; rintro e w' ⟨rfl, rfl⟩
  go_wp2_with fail
  refine (mbc _).mono ?_; rintro e w' ⟨rfl, rfl⟩
  go_wp2_with fail
  refine (pq _).mono ?_; rintro e w4 ⟨rfl, hb⟩
  have tz : w3.heap.size < (w4).heap.size := Nat.lt_of_lt_of_le (show w3.heap.size < _ from (by first | assumption | (simp; done) | (simp; omega) | (dsimp only; omega) | omega)) hb.size; have t0 : (w4).cell? ⟨w3.heap.size, 0, none⟩ = some (.bool nl) := (hb.cell (p := ⟨w3.heap.size, 0, none⟩) (by first | assumption | (simp; done) | (simp; omega) | (dsimp only; omega) | omega)).trans (by first | assumption | (simp [go_sem]; done) | (simp [go_sem, *]; done)); have t1 : (w4).cell? ⟨w3.heap.size, 1, none⟩ = some (.int .u64 hl) := (hb.cell (p := ⟨w3.heap.size, 1, none⟩) (by first | assumption | (simp; done) | (simp; omega) | (dsimp only; omega) | omega)).trans (by first | assumption | (simp [go_sem]; done) | (simp [go_sem, *]; done)); have t2 : (w4).cell? ⟨w3.heap.size, 2, none⟩ = some (.int .u64 ll) := (hb.cell (p := ⟨w3.heap.size, 2, none⟩) (by first | assumption | (simp; done) | (simp; omega) | (dsimp only; omega) | omega)).trans (by first | assumption | (simp [go_sem]; done) | (simp [go_sem, *]; done))
  have B4 : Below w3.heap.size w3 w4 := by repeat' (first | (with_reducible exact Below.refl _ _) | (with_reducible refine Below.alloc ?_ ?_ _) | (with_reducible refine Below.setCell ?_ ?_ _) | (with_reducible refine Below.drew ?_) | (with_reducible refine Below.trans ?_ (Below.mono (by assumption) ?_)) | (simp; done) | (simp; omega) | omega)
  clear hb
  obtain ⟨sz, s0, s1, s2⟩ := keep3 B4 S3.out
  have BB : Below w.heap.size w w4 := B1.trans ((B2.trans ((B3.trans (B4.mono B3.size)).mono B2.size)).mono B1.size)
  have BH := hid BB
  have hsz := BB.size
  have S4 := hid (And.intro sz (And.intro s0 (And.intro s1 s2)))
  go_wp2_with fail
  clear BB B1 B2 B3 B4 P1 Q1 S2 S3 mab mba mac mbc ab ba tc pq sz s0 s1 s2 tz t0 t1 t2
  go_cut [17, 18] (fun v v' wx => BackRel w na ha la v v' wx)
  case first =>
    have K : Hid (∀ W', Below w4.heap.size w4 W' → (Below w4.heap.size w4 W' ∧ W'.cell? ⟨w1.heap.size, 0, none⟩ = some (.bool ns) ∧ W'.cell? ⟨w1.heap.size, 1, none⟩ = some (.int .u64 hs) ∧ W'.cell? ⟨w1.heap.size, 2, none⟩ = some (.int .u64 ls))) := hid fun W' B => ⟨B, (keep3 B S4.out).2⟩
    have q1 : w4.heap.size + 1 < w4.heap.size + 1 + 1 + 1 + 1 := by omega
    have q2 : w4.heap.size + 1 < w4.heap.size + 1 + 1 + 1 := by omega
    go_region_held3 (fun w' => Below w4.heap.size w4 w' ∧ w'.cell? ⟨w1.heap.size, 0, none⟩ = some (.bool ns) ∧ w'.cell? ⟨w1.heap.size, 1, none⟩ = some (.int .u64 hs) ∧ w'.cell? ⟨w1.heap.size, 2, none⟩ = some (.int .u64 ls)) ((exact K.out _ (by repeat' (first | (with_reducible exact Below.refl _ _) | (with_reducible refine Below.alloc ?_ ?_ _) | (with_reducible refine Below.setCell ?_ ?_ _) | (with_reducible refine Below.drew ?_) | (with_reducible refine Below.trans ?_ (Below.mono (by assumption) ?_)) | (simp; done) | (simp; omega) | omega))))
      (first | (go_at_call 14; refine (ob _).mono ?_; rintro e w5 ⟨rfl, rfl⟩) | (go_at_call 21; refine (su _).mono ?_; rintro e w5 ⟨rfl, hb2⟩; have hb : Below w4.heap.size w4 w5 := (by repeat' (first | (with_reducible exact Below.refl _ _) | (with_reducible refine Below.alloc ?_ ?_ _) | (with_reducible refine Below.setCell ?_ ?_ _) | (with_reducible refine Below.drew ?_) | (with_reducible refine Below.trans ?_ (Below.mono (by assumption) ?_)) | (simp; done) | (simp; omega) | omega)); have hz2 : w4.heap.size ≤ w5.heap.size := hb.size; have hz3 := hb2.size; obtain ⟨hc2, hf2⟩ := bcell hb2))
    all_goals
      go_wp2_with fail
      go_meet
      have BB := BH.out
      refine ⟨_, rfl, rfl, ⟨?_, ?_, ?_, ?_⟩, by repeat' (first | (with_reducible exact Below.refl _ _) | (with_reducible refine Below.alloc ?_ ?_ _) | (with_reducible refine Below.setCell ?_ ?_ _) | (with_reducible refine Below.drew ?_) | (with_reducible refine Below.trans ?_ (Below.mono (by assumption) ?_)) | (simp; done) | (simp; omega) | omega)⟩
      · first | (simp; done) | (simp at *; omega) | omega
      all_goals first | (simp [go_sem]; done) | (simp [go_sem, hc2, q1, q2]; done) | (simp [go_sem, *]; done)
  case rest =>
    obtain ⟨k, rfl, rfl, hk, hBw⟩ := hcut
    have KH := hid hk
    have HBW := hid hBw
    clear hk hBw BH hsz S4 ob su
    have K : Hid (∀ W', Below wc.heap.size wc W' → (Below wc.heap.size wc W' ∧ W'.cell? ⟨k, 0, none⟩ = some (.bool na) ∧ W'.cell? ⟨k, 1, none⟩ = some (.int .u64 ha) ∧ W'.cell? ⟨k, 2, none⟩ = some (.int .u64 la))) := hid fun W' B => ⟨B, (keep3 B KH.out).2⟩
    go_wp2_with fail
    go_region_held3 (fun w' => Below wc.heap.size wc w' ∧ w'.cell? ⟨k, 0, none⟩ = some (.bool na) ∧ w'.cell? ⟨k, 1, none⟩ = some (.int .u64 ha) ∧ w'.cell? ⟨k, 2, none⟩ = some (.int .u64 la)) ((exact K.out _ (by repeat' (first | (with_reducible exact Below.refl _ _) | (with_reducible refine Below.alloc ?_ ?_ _) | (with_reducible refine Below.setCell ?_ ?_ _) | (with_reducible refine Below.drew ?_) | (with_reducible refine Below.trans ?_ (Below.mono (by assumption) ?_)) | (simp; done) | (simp; omega) | omega))))
      (first | (go_at_call 14; refine (oa _).mono ?_; rintro e w5 ⟨rfl, rfl⟩) | (go_at_call 18; refine (awake_any _).mono ?_; rintro e w5 ⟨rfl, hb2⟩))
    all_goals
      have BB := HBW.out
      have hsz := BB.size
      go_wp2
      go_ret
      exact Gives.mk rfl (by repeat' (first | (with_reducible exact Below.refl _ _) | (with_reducible refine Below.alloc ?_ ?_ _) | (with_reducible refine Below.setCell ?_ ?_ _) | (with_reducible refine Below.drew ?_) | (with_reducible refine Below.trans ?_ (Below.mono (by assumption) ?_)) | (simp; done) | (simp; omega) | omega))
end Go.Proofs.Ythojhdekamjgeaa
