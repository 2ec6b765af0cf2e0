/-
  The exported functions of package wide, each by a contract: sums of products.
-/
import Derived.Test.YthfnblifefnfmaaWcmp
import Derived.Deep.RegionHeld3
namespace Go.Proofs.Ythfnblifefnfmaa
open Go.RowKit
set_option linter.unusedVariables false
set_option linter.unusedSimpArgs false

/-- Behind a call that turned nothing below: what was there reads as before. -/
theorem bcell {W w1 : World} (hb : Below W.heap.size W w1) : (∀ b o, b < W.heap.size → w1.cell? ⟨b, o, none⟩ = W.cell? ⟨b, o, none⟩) ∧ (∀ b o, b < W.heap.size → w1.frozen? ⟨b, o, none⟩ = W.frozen? ⟨b, o, none⟩) :=
  ⟨fun b o h => hb.cell (p := ⟨b, o, none⟩) h, fun b o h => hb.frozen (p := ⟨b, o, none⟩) h⟩
/-- At the head of a round: which product is next; what the total is; what is left to be done gives the answer. -/
def DotRel (w : World) (xs ys : List Int) (R : Wd × Int) (v : Value) (wr : World) : Prop :=
  ∃ (k : Nat) (s : Int), v = .int .i64 k ∧ k ≤ xs.length ∧ s.natAbs < 170141183460469231731687303715884105728 ∧ Wd.dotGo s (xs.drop k) (ys.drop k) = R
    ∧ Below w.heap.size w wr ∧ w.heap.size + 1 < wr.heap.size
    ∧ (∃ (a : Bool) (b c : Int), wr.cell? ⟨w.heap.size, 0, none⟩ = some (.bool a) ∧ wr.cell? ⟨w.heap.size, 1, none⟩ = some (.int .u64 b) ∧ wr.cell? ⟨w.heap.size, 2, none⟩ = some (.int .u64 c))
    ∧ (∀ o, wr.frozen? ⟨w.heap.size, o, none⟩ = false)
    ∧ wr.cell? ⟨w.heap.size + 1, 0, none⟩ = some (.bool (Wd.ofInt s).neg) ∧ wr.cell? ⟨w.heap.size + 1, 1, none⟩ = some (.int .u64 (Wd.ofInt s).hi) ∧ wr.cell? ⟨w.heap.size + 1, 2, none⟩ = some (.int .u64 (Wd.ofInt s).lo)
    ∧ (∀ o, wr.frozen? ⟨w.heap.size + 1, o, none⟩ = false)

theorem mul_small {x y : Int} (x0 : -9223372036854775808 ≤ x) (x1 : x ≤ 9223372036854775807) (y0 : -9223372036854775808 ≤ y) (y1 : y ≤ 9223372036854775807) : (x * y).natAbs < 170141183460469231731687303715884105728 := by
  have h := nat_mul_le (a := x) (b := y) (c := 9223372036854775808) (by omega) (by omega) (by omega)
  rw [← Int.natCast_mul, ← Int.natAbs_mul] at h
  omega
/-- sum, of two integers in their own form. -/
theorem dot_sum (a b : Int) (ha : a.natAbs < 170141183460469231731687303715884105728) (hb : b.natAbs < 170141183460469231731687303715884105728) (n1 : Bool) (h1 l1 : Int) (n2 : Bool) (h2 l2 : Int) (n : Bool) (h l e : Int)
    (hA : Wd.ofInt a = ⟨n1, h1, l1⟩) (hB : Wd.ofInt b = ⟨n2, h2, l2⟩) (hv : Wd.lim (a + b) = (⟨n, h, l⟩, e)) :
    ∀ w : World, Calls Try.prog 53 #[.agg #[.bool n1, .int .u64 h1, .int .u64 l1], .agg #[.bool n2, .int .u64 h2, .int .u64 l2]] w (Gives (.tuple #[.agg #[.bool n, .int .u64 h, .int .u64 l], .int .i64 e]) w) := by
  intro w
  have f1 := Wd.fits_ofInt a (by omega)
  have f2 := Wd.fits_ofInt b (by omega)
  have k1 := Wd.chk_ofInt a ha
  have k2 := Wd.chk_ofInt b hb
  have t1 := Wd.toInt_ofInt a
  have t2 := Wd.toInt_ofInt b
  rw [hA] at f1 k1 t1
  rw [hB] at f2 k2 t2
  obtain ⟨⟨a0, a1⟩, ⟨a2, a3⟩⟩ := f1
  obtain ⟨⟨b0, b1⟩, ⟨b2, b3⟩⟩ := f2
  refine sum_any n1 n2 h1 l1 h2 l2 a0 (chk_of k1) a2 a3 b0 (chk_of k2) b2 b3 n h l e ?_ w
  rw [← hv]
  congr 1
  exact congr (congrArg _ t1) t2
theorem dot_step {xs ys : List Int} {k : Nat} {u v s : Int} {R : Wd × Int} (hx : k < xs.length) (hy : k < ys.length) (hu : xs.getD k 0 = u) (hv : ys.getD k 0 = v) (h : Wd.dotGo s (xs.drop k) (ys.drop k) = R) :
    (if (s + u * v).natAbs < 170141183460469231731687303715884105728 then Wd.dotGo (s + u * v) (xs.drop (k + 1)) (ys.drop (k + 1)) else (Wd.zero, 8)) = R := by
  rw [List.drop_eq_getElem_cons hx, List.drop_eq_getElem_cons hy] at h
  have e1 : xs[k] = u := by rw [← hu, List.getD_eq_getElem?_getD, List.getElem?_eq_getElem hx]; rfl
  have e2 : ys[k] = v := by rw [← hv, List.getD_eq_getElem?_getD, List.getElem?_eq_getElem hy]; rfl
  rw [e1, e2] at h
  rw [← h]
  rfl
set_option maxHeartbeats 1000000 in
theorem dot_walk (x y : Addr) (xs ys : List Int) (cx cy : Nat) (hl : ys.length = xs.length) (hle : xs.length ≤ 1000) (h0 : ¬ xs.length = 0)
    (wx : ∀ i ∈ xs, -9223372036854775808 ≤ i ∧ i ≤ 9223372036854775807) (wy : ∀ i ∈ ys, -9223372036854775808 ≤ i ∧ i ≤ 9223372036854775807)
    (n : Bool) (h l e : Int) (hR : Wd.dotGo 0 xs ys = (⟨n, h, l⟩, e)) (w : World) (sx : x.spot = none) (sy : y.spot = none)
    (hx : ∀ i, i < xs.length → w.cell? ⟨x.block, x.off + i, none⟩ = some (.int .i64 (xs.getD i 0))) (hy : ∀ i, i < xs.length → w.cell? ⟨y.block, y.off + i, none⟩ = some (.int .i64 (ys.getD i 0)))
    (bx : x.block < w.heap.size) (bY : y.block < w.heap.size) :
    Calls Try.prog 29 #[.slice (some x) xs.length cx, .slice (some y) xs.length cy] w (Gives (.tuple #[.agg #[.bool n, .int .u64 h, .int .u64 l], .int .i64 e]) w) := by
  obtain ⟨xb, xo, xsp⟩ := x
  obtain ⟨yb, yo, ysp⟩ := y
  simp only at sx sy bx bY hx hy
  subst sx sy
  have WX := hid wx
  have WY := hid wy
  have HX := hid hx
  have HY := hid hy
  have HR := hid hR
  have HL := hid hl
  clear wx wy hx hy hR hl
  obtain ⟨len, hlen⟩ : ∃ len, xs.length = len := ⟨_, rfl⟩
  have HN := hid hlen
  rw [hlen] at hle h0 ⊢
  clear hlen
  have hd : decide ((1000 : Int) < (len : Int)) = false := by simp; omega
  go_enter Try.func29, Try.ntmps29
  go_wp2
  go_loopw [24] (fun v wr => DotRel w xs ys (⟨n, h, l⟩, e) v wr) (fun v _ => (len - (intOf v).toNat))
  case atStart => exact ⟨0, 0, rfl, Nat.zero_le _, by simp, by simpa using HR.out, by repeat' (first | (with_reducible exact Below.refl _ _) | (with_reducible refine Below.alloc ?_ ?_ _) | (with_reducible refine Below.setCell ?_ ?_ _) | (with_reducible refine Below.drew ?_) | (with_reducible refine Below.trans ?_ (Below.mono (by assumption) ?_)) | (simp; done) | (simp; omega) | omega), by simp, ⟨false, 0, 0, by simp [go_sem], by simp [go_sem], by simp [go_sem]⟩, by simp [go_sem], by simp [go_sem]; rfl, by simp [go_sem]; rfl, by simp [go_sem]; rfl, by simp [go_sem]⟩
  case round =>
    obtain ⟨k, s, rfl, hk, hs, hgo, hB, hsz, ⟨ra, rb, rc, z0, z1, z2⟩, zf, t0, t1, t2, tf⟩ := hrel
    rw [HN.out] at hk
    have GO := hid hgo
    clear hgo
    obtain ⟨⟨sn, sh, sl⟩, hS⟩ : ∃ x, Wd.ofInt s = x := ⟨_, rfl⟩
    rw [hS] at t0 t1 t2
    simp only at t0 t1 t2
    have HS := hid hS
    clear hS
    by_cases hlt : k < len
    · obtain ⟨u, hu⟩ : ∃ u, xs.getD k 0 = u := ⟨_, rfl⟩
      obtain ⟨v, hv⟩ : ∃ v, ys.getD k 0 = v := ⟨_, rfl⟩
      have cx0 : wr.cell? ⟨xb, xo + k, none⟩ = some (.int .i64 u) := by
        rw [← hu]; exact (hB.cell (p := ⟨xb, xo + k, none⟩) bx).trans (HX.out k (by rw [HN.out]; exact hlt))
      have cy0 : wr.cell? ⟨yb, yo + k, none⟩ = some (.int .i64 v) := by
        rw [← hv]; exact (hB.cell (p := ⟨yb, yo + k, none⟩) bY).trans (HY.out k (by rw [HN.out]; exact hlt))
      have hux := WX.out u (by rw [← hu, List.getD_eq_getElem?_getD, List.getElem?_eq_getElem (by rw [HN.out]; exact hlt)]; simp)
      have hvy := WY.out v (by rw [← hv, List.getD_eq_getElem?_getD, List.getElem?_eq_getElem (by rw [HL.out, HN.out]; exact hlt)]; simp)
      obtain ⟨⟨pn, ph, pl⟩, hP⟩ : ∃ q, Wd.ofInt (u * v) = q := ⟨_, rfl⟩
      have m := fun w => mul_any u v hux.1 hux.2 hvy.1 hvy.2 pn ph pl hP w
      obtain ⟨⟨⟨tn, th, tl⟩, te⟩, hT⟩ : ∃ q, Wd.lim (s + u * v) = q := ⟨_, rfl⟩
      have sm : ∀ w : World, Calls Try.prog 53 #[.agg #[.bool sn, .int .u64 sh, .int .u64 sl], .agg #[.bool pn, .int .u64 ph, .int .u64 pl]] w (Gives (.tuple #[.agg #[.bool tn, .int .u64 th, .int .u64 tl], .int .i64 te]) w) := dot_sum s (u * v) hs (mul_small hux.1 hux.2 hvy.1 hvy.2) sn sh sl pn ph pl tn th tl te HS.out hP hT
      have st := dot_step (xs := xs) (ys := ys) (k := k) (u := u) (v := v) (s := s) (by rw [HN.out]; exact hlt) (by rw [HL.out, HN.out]; exact hlt) hu hv GO.out
      have hsz2 : w.heap.size + 1 + 1 ≤ wr.heap.size := hsz
      have q1 : wr.heap.size < wr.heap.size + 1 + 1 := by omega
      have q2 : wr.heap.size < wr.heap.size + 1 + 1 + 1 := by omega
      have q3 : wr.heap.size + 1 + 1 < wr.heap.size + 1 + 1 + 1 := by omega
      have q4 : w.heap.size < w.heap.size + 1 + 1 := by omega
      unfold Wd.lim at hT
      by_cases big : (s + u * v).natAbs < 170141183460469231731687303715884105728
      · rw [if_pos big] at hT st
        obtain ⟨hT1, rfl⟩ := Prod.mk.inj hT
        have ST := hid st
        have TV := hid hT1
        have BIG := hid big
        clear hT hT1 hP hu hv hux hvy st big
        have K : Hid (∀ W', Below (w.heap.size + 1 + 1) wr W' → (Below (w.heap.size + 1 + 1) wr W' ∧ W'.cell? ⟨w.heap.size + 1, 0, none⟩ = some (.bool sn) ∧ W'.cell? ⟨w.heap.size + 1, 1, none⟩ = some (.int .u64 sh) ∧ W'.cell? ⟨w.heap.size + 1, 2, none⟩ = some (.int .u64 sl) ∧ W'.cell? ⟨yb, yo + k, none⟩ = some (.int .i64 v))) := hid fun W' B =>
          ⟨B, (B.cell (p := ⟨w.heap.size + 1, 0, none⟩) (by simp)).trans t0, (B.cell (p := ⟨w.heap.size + 1, 1, none⟩) (by simp)).trans t1, (B.cell (p := ⟨w.heap.size + 1, 2, none⟩) (by simp)).trans t2, (B.cell (p := ⟨yb, yo + k, none⟩) (by simp; omega)).trans cy0⟩
        have hsz2 : w.heap.size + 1 + 1 ≤ wr.heap.size := hsz
        go_wp2
        go_region_held3 (fun w' => Below (w.heap.size + 1 + 1) wr w' ∧ w'.cell? ⟨w.heap.size + 1, 0, none⟩ = some (.bool sn) ∧ w'.cell? ⟨w.heap.size + 1, 1, none⟩ = some (.int .u64 sh) ∧ w'.cell? ⟨w.heap.size + 1, 2, none⟩ = some (.int .u64 sl) ∧ w'.cell? ⟨yb, yo + k, none⟩ = some (.int .i64 v)) ((exact K.out _ (by repeat' (first | (with_reducible exact Below.refl _ _) | (with_reducible refine Below.alloc ?_ ?_ _) | (with_reducible refine Below.setCell ?_ ?_ _) | (with_reducible refine Below.drew ?_) | (with_reducible refine Below.trans ?_ (Below.mono (by assumption) ?_)) | (simp; done) | (simp; omega) | omega))))
          (first | (go_at_call 19; refine (m _).mono ?_; rintro e w2 ⟨rfl, rfl⟩) | (go_at_call 53; refine (sm _).mono ?_; rintro e w2 ⟨rfl, hb2⟩; have hb : Below (w.heap.size + 1 + 1) wr w2 := (by repeat' (first | (with_reducible exact Below.refl _ _) | (with_reducible refine Below.alloc ?_ ?_ _) | (with_reducible refine Below.setCell ?_ ?_ _) | (with_reducible refine Below.drew ?_) | (with_reducible refine Below.trans ?_ (Below.mono (by assumption) ?_)) | (simp; done) | (simp; omega) | omega)); have hz2 : wr.heap.size ≤ w2.heap.size := hb.size; have yz : w.heap.size < (w2).heap.size := Nat.lt_of_lt_of_le (show w.heap.size < _ from (by first | assumption | (simp; done) | (simp; omega) | (dsimp only; omega) | omega)) hb.size; have y0 : (w2).cell? ⟨w.heap.size, 0, none⟩ = some (.bool ra) := (hb.cell (p := ⟨w.heap.size, 0, none⟩) (by first | assumption | (simp; done) | (simp; omega) | (dsimp only; omega) | omega)).trans (by first | assumption | (simp [go_sem]; done)); have y1 : (w2).cell? ⟨w.heap.size, 1, none⟩ = some (.int .u64 rb) := (hb.cell (p := ⟨w.heap.size, 1, none⟩) (by first | assumption | (simp; done) | (simp; omega) | (dsimp only; omega) | omega)).trans (by first | assumption | (simp [go_sem]; done)); have y2 : (w2).cell? ⟨w.heap.size, 2, none⟩ = some (.int .u64 rc) := (hb.cell (p := ⟨w.heap.size, 2, none⟩) (by first | assumption | (simp; done) | (simp; omega) | (dsimp only; omega) | omega)).trans (by first | assumption | (simp [go_sem]; done)); have yf : ∀ o, (w2).frozen? ⟨w.heap.size, o, none⟩ = false := fun o => (hb.frozen (p := ⟨w.heap.size, o, none⟩) (by first | assumption | (simp; done) | (simp; omega) | (dsimp only; omega) | omega)).trans (by first | (simp [go_sem]; done) | (simp [*]; done)); have sz : w.heap.size + 1 < (w2).heap.size := Nat.lt_of_lt_of_le (show w.heap.size + 1 < _ from (by first | assumption | (simp; done) | (simp; omega) | (dsimp only; omega) | omega)) hb.size; have s0 : (w2).cell? ⟨w.heap.size + 1, 0, none⟩ = some (.bool sn) := (hb.cell (p := ⟨w.heap.size + 1, 0, none⟩) (by first | assumption | (simp; done) | (simp; omega) | (dsimp only; omega) | omega)).trans (by first | assumption | (simp [go_sem]; done)); have s1 : (w2).cell? ⟨w.heap.size + 1, 1, none⟩ = some (.int .u64 sh) := (hb.cell (p := ⟨w.heap.size + 1, 1, none⟩) (by first | assumption | (simp; done) | (simp; omega) | (dsimp only; omega) | omega)).trans (by first | assumption | (simp [go_sem]; done)); have s2 : (w2).cell? ⟨w.heap.size + 1, 2, none⟩ = some (.int .u64 sl) := (hb.cell (p := ⟨w.heap.size + 1, 2, none⟩) (by first | assumption | (simp; done) | (simp; omega) | (dsimp only; omega) | omega)).trans (by first | assumption | (simp [go_sem]; done)); have sf : ∀ o, (w2).frozen? ⟨w.heap.size + 1, o, none⟩ = false := fun o => (hb.frozen (p := ⟨w.heap.size + 1, o, none⟩) (by first | assumption | (simp; done) | (simp; omega) | (dsimp only; omega) | omega)).trans (by first | (simp [go_sem]; done) | (simp [*]; done)); obtain ⟨hc2, hf2⟩ := bcell hb2))
        all_goals
          go_wp2
          go_roundw
          case rel =>
            refine ⟨k + 1, s + u * v, by go_num, by rw [HN.out]; omega, BIG.out, ST.out, by repeat' (first | (with_reducible exact Below.refl _ _) | (with_reducible refine Below.alloc ?_ ?_ _) | (with_reducible refine Below.setCell ?_ ?_ _) | (with_reducible refine Below.drew ?_) | (with_reducible refine Below.trans ?_ (Below.mono (by assumption) ?_)) | (simp; done) | (simp; omega) | omega), by (simp; omega), ⟨ra, rb, rc, ?_, ?_, ?_⟩, ?_, by rw [TV.out]; simp [go_sem, s0, s1, s2, sz, hc2], by rw [TV.out]; simp [go_sem, s0, s1, s2, sz, hc2], by rw [TV.out]; simp [go_sem, s0, s1, s2, sz, hc2], ?_⟩
            all_goals first | (simp [go_sem, y0, y1, y2, yz, yf, sf, World.size_setCell]; done) | (simp [go_sem, sz, sf, World.size_setCell]; done)
          case measure => simp [intOf]; omega
      · rw [if_neg big] at hT st
        obtain ⟨hT1, rfl⟩ := Prod.mk.inj hT
        obtain ⟨rfl, rfl, rfl⟩ := Wd.mk.inj hT1
        obtain ⟨hR1, rfl⟩ := Prod.mk.inj st
        obtain ⟨rfl, rfl, rfl⟩ := Wd.mk.inj hR1
        clear hT hT1 hP hu hv hux hvy st big hR1 HR GO
        have K : Hid (∀ W', Below (w.heap.size + 1 + 1) wr W' → (Below (w.heap.size + 1 + 1) wr W' ∧ W'.cell? ⟨w.heap.size + 1, 0, none⟩ = some (.bool sn) ∧ W'.cell? ⟨w.heap.size + 1, 1, none⟩ = some (.int .u64 sh) ∧ W'.cell? ⟨w.heap.size + 1, 2, none⟩ = some (.int .u64 sl) ∧ W'.cell? ⟨yb, yo + k, none⟩ = some (.int .i64 v))) := hid fun W' B =>
          ⟨B, (B.cell (p := ⟨w.heap.size + 1, 0, none⟩) (by simp)).trans t0, (B.cell (p := ⟨w.heap.size + 1, 1, none⟩) (by simp)).trans t1, (B.cell (p := ⟨w.heap.size + 1, 2, none⟩) (by simp)).trans t2, (B.cell (p := ⟨yb, yo + k, none⟩) (by simp; omega)).trans cy0⟩
        have hsz2 : w.heap.size + 1 + 1 ≤ wr.heap.size := hsz
        go_wp2
        go_region_held3 (fun w' => Below (w.heap.size + 1 + 1) wr w' ∧ w'.cell? ⟨w.heap.size + 1, 0, none⟩ = some (.bool sn) ∧ w'.cell? ⟨w.heap.size + 1, 1, none⟩ = some (.int .u64 sh) ∧ w'.cell? ⟨w.heap.size + 1, 2, none⟩ = some (.int .u64 sl) ∧ w'.cell? ⟨yb, yo + k, none⟩ = some (.int .i64 v)) ((exact K.out _ (by repeat' (first | (with_reducible exact Below.refl _ _) | (with_reducible refine Below.alloc ?_ ?_ _) | (with_reducible refine Below.setCell ?_ ?_ _) | (with_reducible refine Below.drew ?_) | (with_reducible refine Below.trans ?_ (Below.mono (by assumption) ?_)) | (simp; done) | (simp; omega) | omega))))
          (first | (go_at_call 19; refine (m _).mono ?_; rintro e w2 ⟨rfl, rfl⟩) | (go_at_call 53; refine (sm _).mono ?_; rintro e w2 ⟨rfl, hb2⟩; have hb : Below (w.heap.size + 1 + 1) wr w2 := (by repeat' (first | (with_reducible exact Below.refl _ _) | (with_reducible refine Below.alloc ?_ ?_ _) | (with_reducible refine Below.setCell ?_ ?_ _) | (with_reducible refine Below.drew ?_) | (with_reducible refine Below.trans ?_ (Below.mono (by assumption) ?_)) | (simp; done) | (simp; omega) | omega)); have hz2 : wr.heap.size ≤ w2.heap.size := hb.size; have yz : w.heap.size < (w2).heap.size := Nat.lt_of_lt_of_le (show w.heap.size < _ from (by first | assumption | (simp; done) | (simp; omega) | (dsimp only; omega) | omega)) hb.size; have y0 : (w2).cell? ⟨w.heap.size, 0, none⟩ = some (.bool ra) := (hb.cell (p := ⟨w.heap.size, 0, none⟩) (by first | assumption | (simp; done) | (simp; omega) | (dsimp only; omega) | omega)).trans (by first | assumption | (simp [go_sem]; done)); have y1 : (w2).cell? ⟨w.heap.size, 1, none⟩ = some (.int .u64 rb) := (hb.cell (p := ⟨w.heap.size, 1, none⟩) (by first | assumption | (simp; done) | (simp; omega) | (dsimp only; omega) | omega)).trans (by first | assumption | (simp [go_sem]; done)); have y2 : (w2).cell? ⟨w.heap.size, 2, none⟩ = some (.int .u64 rc) := (hb.cell (p := ⟨w.heap.size, 2, none⟩) (by first | assumption | (simp; done) | (simp; omega) | (dsimp only; omega) | omega)).trans (by first | assumption | (simp [go_sem]; done)); have yf : ∀ o, (w2).frozen? ⟨w.heap.size, o, none⟩ = false := fun o => (hb.frozen (p := ⟨w.heap.size, o, none⟩) (by first | assumption | (simp; done) | (simp; omega) | (dsimp only; omega) | omega)).trans (by first | (simp [go_sem]; done) | (simp [*]; done)); have sz : w.heap.size + 1 < (w2).heap.size := Nat.lt_of_lt_of_le (show w.heap.size + 1 < _ from (by first | assumption | (simp; done) | (simp; omega) | (dsimp only; omega) | omega)) hb.size; have s0 : (w2).cell? ⟨w.heap.size + 1, 0, none⟩ = some (.bool sn) := (hb.cell (p := ⟨w.heap.size + 1, 0, none⟩) (by first | assumption | (simp; done) | (simp; omega) | (dsimp only; omega) | omega)).trans (by first | assumption | (simp [go_sem]; done)); have s1 : (w2).cell? ⟨w.heap.size + 1, 1, none⟩ = some (.int .u64 sh) := (hb.cell (p := ⟨w.heap.size + 1, 1, none⟩) (by first | assumption | (simp; done) | (simp; omega) | (dsimp only; omega) | omega)).trans (by first | assumption | (simp [go_sem]; done)); have s2 : (w2).cell? ⟨w.heap.size + 1, 2, none⟩ = some (.int .u64 sl) := (hb.cell (p := ⟨w.heap.size + 1, 2, none⟩) (by first | assumption | (simp; done) | (simp; omega) | (dsimp only; omega) | omega)).trans (by first | assumption | (simp [go_sem]; done)); have sf : ∀ o, (w2).frozen? ⟨w.heap.size + 1, o, none⟩ = false := fun o => (hb.frozen (p := ⟨w.heap.size + 1, o, none⟩) (by first | assumption | (simp; done) | (simp; omega) | (dsimp only; omega) | omega)).trans (by first | (simp [go_sem]; done) | (simp [*]; done)); obtain ⟨hc2, hf2⟩ := bcell hb2))
        all_goals
          go_wp2
          refine bodyPost_ret (v := .tuple #[.agg #[.bool false, .int .u64 0, .int .u64 0], .int .i64 8]) (by simp [results, Try.results29, go_sem, y0, y1, y2, yz, World.size_setCell]) rfl ?_
          exact Gives.mk rfl (by repeat' (first | (with_reducible exact Below.refl _ _) | (with_reducible refine Below.alloc ?_ ?_ _) | (with_reducible refine Below.setCell ?_ ?_ _) | (with_reducible refine Below.drew ?_) | (with_reducible refine Below.trans ?_ (Below.mono (by assumption) ?_)) | (simp; done) | (simp; omega) | omega))
    · have hke : k = xs.length := by rw [HN.out]; omega
      have fin := GO.out
      rw [List.drop_eq_nil_of_le (by omega), List.drop_eq_nil_of_le (by rw [HL.out]; omega)] at fin
      have fin2 : Wd.dotGo s [] [] = (Wd.ofInt s, 0) := rfl
      rw [fin2, HS.out] at fin
      obtain ⟨f1, rfl⟩ := Prod.mk.inj fin
      obtain ⟨rfl, rfl, rfl⟩ := Wd.mk.inj f1
      clear fin fin2 f1 hke GO HS HR
      go_wp2
      refine bodyPost_ret (v := .tuple #[.agg #[.bool sn, .int .u64 sh, .int .u64 sl], .int .i64 0]) (by simp [results, Try.results29, go_sem, z0, z1, z2, t0, t1, t2]) rfl ?_
      exact Gives.mk rfl (by repeat' (first | (with_reducible exact Below.refl _ _) | (with_reducible refine Below.alloc ?_ ?_ _) | (with_reducible refine Below.setCell ?_ ?_ _) | (with_reducible refine Below.drew ?_) | (with_reducible refine Below.trans ?_ (Below.mono (by assumption) ?_)) | (simp; done) | (simp; omega) | omega))
end Go.Proofs.Ythfnblifefnfmaa
