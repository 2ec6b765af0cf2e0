/-
  Layer 15: the closures of Volume of package terrain, by contract.
-/
import Derived.Test.YtmdaanigkhikfaaTr
import Derived.Test.YtmdaanigkhikfaaVstr
namespace Go.Proofs.Ytmdaanigkhikfaa
open Go.RowKit Go.Shelf
set_option linter.unusedVariables false
set_option linter.unusedSimpArgs false
attribute [local go_sem] Oper.semAt_some
namespace Sp
/-- What a cell adds. -/
def celG (g : Int → Int) (z : List Int) (c : Int) (q : Int × Int) : Int := g (hz z (q.2 * c + q.1)) + g (hz z (q.2 * c + q.1 + 1)) + g (hz z (q.2 * c + q.1 + c + 1)) + g (hz z (q.2 * c + q.1 + c))
def sumG (g : Int → Int) (z : List Int) (c : Int) (l : List (Int × Int)) : Int := (l.map (celG g z c)).sum
theorem sumG_snoc (g : Int → Int) (z : List Int) (c : Int) (l : List (Int × Int)) (q : Int × Int) : sumG g z c (l ++ [q]) = sumG g z c l + celG g z c q := by simp [sumG]
/-- The sum over all cells. -/
def sumS (g : Int → Int) (c r : Int) (z : List Int) : Int := sumG g z c (cellU (c - 1).toNat ((r - 1).toNat * (c - 1).toNat))
def upG (lv v : Int) : Int := max 0 (v - lv)
def dnG (lv v : Int) : Int := max 0 (lv - v)
theorem celG_in {g : Int → Int} {z : List Int} (hg : ∀ v, 0 ≤ v → v ≤ 50000 → 0 ≤ g v ∧ g v ≤ 50000) (hz5 : ∀ v ∈ z, 0 ≤ v ∧ v ≤ 50000) (c : Int) (q : Int × Int) : 0 ≤ celG g z c q ∧ celG g z c q ≤ 200000 := by
  unfold celG
  have a := fun i => hz_in hz5 i
  have b := fun i => hg _ (a i).1 (a i).2
  have b1 := b (q.2 * c + q.1)
  have b2 := b (q.2 * c + q.1 + 1)
  have b3 := b (q.2 * c + q.1 + c + 1)
  have b4 := b (q.2 * c + q.1 + c)
  omega
theorem sumG_in {g : Int → Int} {z : List Int} (hg : ∀ v, 0 ≤ v → v ≤ 50000 → 0 ≤ g v ∧ g v ≤ 50000) (hz5 : ∀ v ∈ z, 0 ≤ v ∧ v ≤ 50000) (c : Int) : ∀ l : List (Int × Int), 0 ≤ sumG g z c l ∧ sumG g z c l ≤ 200000 * l.length
  | [] => by simp [sumG]
  | q :: l => by
    have h := sumG_in hg hz5 c l
    have e := celG_in hg hz5 c q
    have s : sumG g z c (q :: l) = celG g z c q + sumG g z c l := by simp [sumG]
    rw [s, List.length_cons]
    push_cast
    omega
end Sp
/-- The boxes of a sum: the function's, and the total's. -/
structure VS (w : World) (fv : Value) (tot : Int) (W : World) : Prop where
  pt : W.cell? ⟨w.heap.size, 0, none⟩ = some fv
  sm : W.cell? ⟨w.heap.size + 1, 0, none⟩ = some (.int .i64 tot)
  sf : ∀ o, W.frozen? ⟨w.heap.size + 1, o, none⟩ = false
  bw : Below w.heap.size w W
  sz : w.heap.size + 1 < W.heap.size
theorem VS.grown {w W W' : World} {fv : Value} {tot : Int} (s : VS w fv tot W) {row : Option Nat} {b : Nat} (hB : w.heap.size ≤ b) (hg : W.grownBy W' row) (hr : ∀ q, row = some q → b ≤ q ∧ ∃ o : Obj, W.heap[q]? = some o ∧ o.isCells = false) : VS w fv tot W' := by
  have hr' := fun q e => (hr q e).2
  exact ⟨cell_kept s.pt hg hr', cell_kept s.sm hg hr', frozen_at s.sm s.sf hg hr', s.bw.grown hg s.bw.size (fun q e => Nat.le_trans hB (hr q e).1), Nat.lt_of_lt_of_le s.sz hg.size⟩
theorem VS.below {w W W' : World} {fv : Value} {tot : Int} (s : VS w fv tot W) (hb : Below W.heap.size W W') : VS w fv tot W' := by
  have z := s.sz
  exact ⟨(hb.cell (p := ⟨w.heap.size, 0, none⟩) (by simp only; omega)).trans s.pt, (hb.cell (p := ⟨w.heap.size + 1, 0, none⟩) z).trans s.sm, fun o => (hb.frozen (p := ⟨w.heap.size + 1, o, none⟩) z).trans (s.sf o), bthen s.bw hb, Nat.lt_of_lt_of_le z hb.size⟩
theorem VS.set {w W : World} {fv : Value} {tot : Int} (s : VS w fv tot W) (t' : Int) : VS w fv t' (W.setCell ⟨w.heap.size + 1, 0, none⟩ (.int .i64 t')) :=
  ⟨by rw [World.cell?_setCell_other _ _ _ _ (by simp)]; exact s.pt, by simp [go_sem, s.sm], fun o => by simp [go_sem, s.sf], s.bw.setCell (p := ⟨w.heap.size + 1, 0, none⟩) (by simp only; omega) _, by simpa using s.sz⟩
theorem VS.put {w W : World} {fv : Value} {tot : Int} (h : VS w fv tot W) {D : Nat} {o o' : Obj} (hD : w.heap.size ≤ D) (hK : W.heap[D]? = some o) (hc : o.isCells = false) : VS w fv tot (W.putObj D o') := by
  exact h.grown (b := w.heap.size) (Nat.le_refl _) (grownBy_putObj' W D o') (fun q e => by cases e; exact ⟨hD, _, hK, hc⟩)
def VRel (w : World) (fv : Value) (B n0 Bs : Nat) (t0 t1 t2 t3 t4 : Int) (W : World) (t : Value) (wr : World) : Prop :=
  ∃ tot, VS w fv tot wr ∧ KeepsFrom B W wr ∧ KV n0 Bs W wr ∧ ((t = .int .i64 0 ∧ tot = t0) ∨ (t = .int .i64 1 ∧ tot = t1) ∨ (t = .int .i64 2 ∧ tot = t2) ∨ (t = .int .i64 3 ∧ tot = t3) ∨ (t = .int .i64 4 ∧ tot = t4))
set_option maxRecDepth 100000 in
theorem tpart2_any (v lv : Int) (L : Nat) (W : World) (hv : 0 ≤ v ∧ v ≤ 50000) (hl : 0 ≤ lv ∧ lv ≤ 50000) (hc : W.cell? ⟨L, 0, none⟩ = some (.int .i64 lv)) :
    Calls Try.prog 57 #[.int .i64 v, .pointer (some ⟨L, 0, none⟩)] W (fun e w' => e = .returned (.int .i64 (Sp.upG lv v)) ∧ w' = W) := by
  have y : wrap64 (v - lv) = v - lv := pw64 _ (by omega)
  clear hv hl
  go_enter Try.func57, Try.ntmps57
  go_wp2_with fail
  go_ret
  exact ⟨rfl, rfl⟩
set_option maxRecDepth 100000 in
set_option maxHeartbeats 4000000 in
theorem tsum2_any (A : Option Addr) (cap : Nat) (c r k : Int) (z : List Int) (T L : Nat) (lv : Int) (w : World) (g1 : 2 ≤ c ∧ c ≤ 16) (g2 : 2 ≤ r ∧ r ≤ 16) (g3 : 1 ≤ k ∧ k ≤ 1000) (g4 : (z.length : Int) = c * r) (g5 : ∀ v ∈ z, 0 ≤ v ∧ v ≤ 50000) (hl : 0 ≤ lv ∧ lv ≤ 50000)
    (hT : Ints w A z) (tr : TrAt w T c r k A z.length cap) (lc : w.cell? ⟨L, 0, none⟩ = some (.int .i64 lv)) (ll : L < w.heap.size) :
    Calls Try.prog 55 #[.func (.func 57) #[] #[.pointer (some ⟨L, 0, none⟩)], .pointer (some ⟨T, 0, none⟩)] w (Gives (.int .i64 (Sp.sumS (Sp.upG lv) c r z)) w) := by
  obtain ⟨SS, hSS⟩ : ∃ SS, Sp.sumS (Sp.upG lv) c r z = SS := ⟨_, rfl⟩
  rw [hSS]
  have HSS := hid hSS
  have gb : ∀ v, 0 ≤ v → v ≤ 50000 → 0 ≤ Sp.upG lv v ∧ Sp.upG lv v ≤ 50000 := fun v a b => by unfold Sp.upG; omega
  have PA := hid (fun (v : Int) (W : World) (hv : 0 ≤ v ∧ v ≤ 50000) (hc : W.cell? ⟨L, 0, none⟩ = some (.int .i64 lv)) => tpart2_any v lv L W hv hl hc)
  generalize Sp.upG lv = g at gb PA hSS HSS
  have GB := hid gb
  have HL := hid lc
  have TR := hid tr
  have CO := hid (fun (x y : Int) (W : World) (hb : Below w.heap.size w W) (hx : okC c r (x, y)) => tcorners_any A cap c r k z x y W g1 g2 g4 hx.1.1 hx.1.2 hx.2.1 hx.2.2 (hT.below hb))
  obtain ⟨nc, hnc⟩ : ∃ nc : Nat, c - 1 = (nc : Int) := ⟨(c - 1).toNat, by omega⟩
  obtain ⟨nr, hnr⟩ : ∃ nr : Nat, r - 1 = (nr : Int) := ⟨(r - 1).toNat, by omega⟩
  have bc : nc ≤ 15 := by omega
  have br : nr ≤ 15 := by omega
  have c0 := tr.c0
  have c1 := tr.c1
  have c2 := tr.c2
  have c3 := tr.c3
  have cl := tr.lt
  have cn : ¬ T = w.heap.size := by omega
  have cn2 : ¬ T = w.heap.size + 1 := by omega
  have cn3 : ¬ w.heap.size = T := by omega
  have cn4 : ¬ w.heap.size + 1 = T := by omega
  clear hSS tr gb hT lc
  refine (callsIn_wide (n := 3)).1 ?_
  refine callsIn_of_wp_marks Try.func55 rfl trivial ?_ rfl
  simp only [Try.ntmps55, List.size_toArray, List.length_cons, List.length_nil, Nat.reduceAdd, Nat.reduceSub, Array.replicate_succ, Array.replicate_zero, List.push_toArray, List.append_toArray, List.nil_append, List.cons_append]
  gi_wp2_with (refine ⟨trivial, ?_⟩; gi_at_call 51; refine (cells_in _ _ _ _ _ _ _ _).mono ?_; rintro e w' ⟨rfl, rfl⟩)
  obtain ⟨W0, hW0⟩ : ∃ W0, ((w.alloc (.cells #[.func (.func 57) #[] #[.pointer (some ⟨L, 0, none⟩)]] 75)).alloc (.cells #[.int .i64 0] 3)).alloc (Obj.cells #[.int .i64 c, .int .i64 r, .int .i64 k, .slice A z.length cap] 24) = W0 := ⟨_, rfl⟩
  have zW : W0.heap.size = w.heap.size + 3 := by rw [← hW0]; simp
  have kW : Below w.heap.size w W0 := by rw [← hW0]; exact bthen (balloc _ _) (bthen (balloc _ _) (balloc _ _))
  have b0 : W0.cell? ⟨w.heap.size + 1 + 1, 0, none⟩ = some (.int .i64 c) := by rw [← hW0]; simp [go_sem]
  have b1 : W0.cell? ⟨w.heap.size + 1 + 1, 1, none⟩ = some (.int .i64 r) := by rw [← hW0]; simp [go_sem]
  have I0 : VS w (.func (.func 57) #[] #[.pointer (some ⟨L, 0, none⟩)]) 0 W0 := ⟨by rw [← hW0]; simp [go_sem], by rw [← hW0]; simp [go_sem], fun o => by rw [← hW0]; simp [go_sem], kW, by omega⟩
  have i0 : ∀ (v0 v1 v2 v3 : Int) W, (Instr.index 76 (.agg #[.int .i64 v0, .int .i64 v1, .int .i64 v2, .int .i64 v3]) (.int .i64 0)).run Try.prog W = .ok (.int .i64 v0) W := fun _ _ _ _ _ => by kernel_rfl
  have i1 : ∀ (v0 v1 v2 v3 : Int) W, (Instr.index 76 (.agg #[.int .i64 v0, .int .i64 v1, .int .i64 v2, .int .i64 v3]) (.int .i64 1)).run Try.prog W = .ok (.int .i64 v1) W := fun _ _ _ _ _ => by kernel_rfl
  have i2 : ∀ (v0 v1 v2 v3 : Int) W, (Instr.index 76 (.agg #[.int .i64 v0, .int .i64 v1, .int .i64 v2, .int .i64 v3]) (.int .i64 2)).run Try.prog W = .ok (.int .i64 v2) W := fun _ _ _ _ _ => by kernel_rfl
  have i3 : ∀ (v0 v1 v2 v3 : Int) W, (Instr.index 76 (.agg #[.int .i64 v0, .int .i64 v1, .int .i64 v2, .int .i64 v3]) (.int .i64 3)).run Try.prog W = .ok (.int .i64 v3) W := fun _ _ _ _ _ => by kernel_rfl
  rw [hW0]
  clear hW0 kW c0 c1 c2 c3 cl cn cn2 cn3 cn4
  refine wpIn_rangeFunc_ownH rfl (by omega) (gf := 70) (lb := #[.pointer (some ⟨w.heap.size + 1 + 1, 0, none⟩)]) rfl trivial (enters_of Try.func70 (by kernel_rfl) rfl)
    (cells_stops _ (by omega) (w.heap.size + 1 + 1) w.heap.size c r nc nr hnc hnr bc br W0 (by omega) b0 b1)
    (fun h k => KV.trans h k) (KV.put (by omega) (by omega)) (Below.refl _ _) (fun _ => rfl)
    (fun (pre : List (CQ c r)) W => VS w (.func (.func 57) #[] #[.pointer (some ⟨L, 0, none⟩)]) (Sp.sumG g z c (vC pre)) W)
    (fun cd pre W => False)
    (fun s X Y row hs hg hr => hs.grown (b := W0.heap.size) (by omega) hg hr)
    (fun cd s X Y row hs hg hr => hs.elim)
    I0
    (fun q a' W => a' = { tmps := #[.func (.func 57) #[] #[.pointer (some ⟨L, 0, none⟩)], .pointer (some ⟨T, 0, none⟩), .pointer (some ⟨w.heap.size, 0, none⟩), .int .i64 0, .pointer (some ⟨w.heap.size + 1, 0, none⟩), .int .i64 q.1.1, .int .i64 q.1.2, undef, undef, .agg #[.int .i64 c, .int .i64 r, .int .i64 k, .slice A z.length cap], .func (.func 70) #[] #[.pointer (some ⟨w.heap.size + 1 + 1, 0, none⟩)], .int .i64 q.1.1, .int .i64 q.1.2, undef, undef, undef, undef, undef, undef, undef, undef, undef, undef, undef, undef, undef, undef], defers := [] })
    (fun q a' _ X Y row hs hg hr => hs) ?assign ?body ?done ?stop
  case assign =>
    rintro m pre q W K hI hK
    gi_wp2
    exact hK _ _ (keeps_below (Below.refl _ _)) ⟨Below.refl _ _, rfl⟩ hI rfl
  case body =>
    rintro m pre ⟨⟨x, y⟩, hxy⟩ a' W hl0 ⟨r', hr'⟩ hI rfl hlt
    have HW := hid (show w.heap.size + 3 ≤ W.heap.size by have := (Array.getElem?_eq_some_iff.1 hr').1; omega)
    have CO1 := hid (fun (q : Nat) (W' : World) (hb : Below w.heap.size w W') => CallsIn.inRound m (callsIn_wide (n := q).2 (CO.out x y W' hb hxy)))
    have a0 := Sp.hz_in g5 (y * c + x)
    have a1 := Sp.hz_in g5 (y * c + x + 1)
    have a2 := Sp.hz_in g5 (y * c + x + c + 1)
    have a3 := Sp.hz_in g5 (y * c + x + c)
    have sn : Sp.sumG g z c (vC (pre ++ [(⟨(x, y), hxy⟩ : CQ c r)])) = Sp.sumG g z c (vC pre) + (g (Sp.hz z (y * c + x)) + g (Sp.hz z (y * c + x + 1)) + g (Sp.hz z (y * c + x + c + 1)) + g (Sp.hz z (y * c + x + c))) := by rw [vC_snoc, Sp.sumG_snoc]; rfl
    generalize Sp.hz z (y * c + x) = v0 at a0 sn CO1
    generalize Sp.hz z (y * c + x + 1) = v1 at a1 sn CO1
    generalize Sp.hz z (y * c + x + c + 1) = v2 at a2 sn CO1
    generalize Sp.hz z (y * c + x + c) = v3 at a3 sn CO1
    have tb := Sp.sumG_in GB.out g5 c (vC pre)
    rw [vC_len] at tb
    have pl : pre.length ≤ 225 := by have := Nat.mul_le_mul br bc; omega
    generalize Sp.sumG g z c (vC pre) = t0 at tb sn hI
    have e0 := GB.out v0 a0.1 a0.2
    have e1 := GB.out v1 a1.1 a1.2
    have e2 := GB.out v2 a2.1 a2.2
    have e3 := GB.out v3 a3.1 a3.2
    obtain ⟨t1, h1⟩ : ∃ t, t0 + g v0 = t := ⟨_, rfl⟩
    obtain ⟨t2, h2⟩ : ∃ t, t1 + g v1 = t := ⟨_, rfl⟩
    obtain ⟨t3, h3⟩ : ∃ t, t2 + g v2 = t := ⟨_, rfl⟩
    obtain ⟨t4, h4⟩ : ∃ t, t3 + g v3 = t := ⟨_, rfl⟩
    have SN := hid (show Sp.sumG g z c (vC (pre ++ [(⟨(x, y), hxy⟩ : CQ c r)])) = t4 by rw [sn]; omega)
    have d1 : IntKind.i64.wrap t1 = t1 := pi64 _ (by omega)
    have d2 : IntKind.i64.wrap t2 = t2 := pi64 _ (by omega)
    have d3 : IntKind.i64.wrap t3 = t3 := pi64 _ (by omega)
    have d4 : IntKind.i64.wrap t4 = t4 := pi64 _ (by omega)
    have PA0 := hid (fun (W' : World) (h : W'.cell? ⟨L, 0, none⟩ = some (.int .i64 lv)) => CallsIn.inRound m (callsIn_wide (n := 0).2 (PA.out v0 W' a0 h)))
    have A0 := hid a0
    have A1 := hid a1
    have A2 := hid a2
    have A3 := hid a3
    have trW := TR.out.below hI.bw
    have c0 := trW.c0
    have c1 := trW.c1
    have c2 := trW.c2
    have c3 := trW.c3
    have cl := trW.lt
    have HI := hid hI
    clear sn tb pl e0 e1 e2 e3 a0 a1 a2 a3 hI hlt hl0 trW hr'
    gi_wp2
    refine ⟨trivial, ?_⟩
    gi_at_call 56
    refine (CO1.out _ _ HI.out.bw).mono ?_
    rintro _ w7 ⟨rfl, hb⟩
    have HB7 := hid hb
    clear hb c0 c1 c2 c3 cl
    gi_wp2
    gi_loopw [17] (fun t wr => VRel w (.func (.func 57) #[] #[.pointer (some ⟨L, 0, none⟩)]) W0.heap.size w.heap.size (w.heap.size + 1 + 1) t0 t1 t2 t3 t4 W t wr) (fun t _ => 4 - (intOf t).toNat)
    case atStart => exact ⟨t0, HI.out.below HB7.out, keeps_below HB7.out, KV.of_below HB7.out HI.out.bw.size (by have := HW.out; omega), .inl ⟨rfl, rfl⟩⟩
    case round =>
      obtain ⟨tot, hS, hKF, hKV, hs⟩ := hrel
      have HS := hid hS
      have HKF := hid hKF
      have HKV := hid hKV
      have p0 := hS.pt
      have s0 := hS.sm
      have sf := hS.sf
      have sz := hS.sz
      have sz1 : w.heap.size < wr.heap.size := Nat.lt_of_succ_lt sz
      have lcD : wr.drew.cell? ⟨L, 0, none⟩ = some (.int .i64 lv) := (hS.bw.cell (p := ⟨L, 0, none⟩) ll).trans HL.out
      have SD := hid (hS.below (Below.refl _ _).drew)
      have KD := hid (hKF.trans (keeps_below (Below.refl _ _).drew))
      have VD := hid (show KV w.heap.size (w.heap.size + 1 + 1) W wr.drew from ⟨hKV.below.drew, hKV.blk⟩)
      clear hS hKF hKV
      rcases hs with ⟨rfl, rfl⟩ | ⟨rfl, rfl⟩ | ⟨rfl, rfl⟩ | ⟨rfl, rfl⟩ | ⟨rfl, rfl⟩
      · gi_wp2
        refine wpInR_region_still_tail 5 (by rfl) (by kernel_rfl) (by kernel_rfl) ?_
        simp only [List.take_succ_cons, List.take_zero, List.drop_succ_cons, List.drop_zero]
        still_step
        still_step
        still_step
        still_call (PA.out v0 _ A0.out lcD)
        still_step
        try refine wpStill_nil ?_
        gi_wp2
        go_roundw
        case rel => exact ⟨_, SD.out.set _, KD.out.trans ((KeepsOthers.setCell _ _ _).from _), VD.out.set (Nat.le_succ _) (Nat.succ_ne_self (w.heap.size + 1)) _, .inr (.inl ⟨by simp, rfl⟩)⟩
        case measure => decide
      · gi_wp2
        refine wpInR_region_still_tail 5 (by rfl) (by kernel_rfl) (by kernel_rfl) ?_
        simp only [List.take_succ_cons, List.take_zero, List.drop_succ_cons, List.drop_zero]
        still_step
        still_step
        still_step
        still_call (PA.out v1 _ A1.out lcD)
        still_step
        try refine wpStill_nil ?_
        gi_wp2
        go_roundw
        case rel => exact ⟨_, SD.out.set _, KD.out.trans ((KeepsOthers.setCell _ _ _).from _), VD.out.set (Nat.le_succ _) (Nat.succ_ne_self (w.heap.size + 1)) _, .inr (.inr (.inl ⟨by simp, rfl⟩))⟩
        case measure => decide
      · gi_wp2
        refine wpInR_region_still_tail 5 (by rfl) (by kernel_rfl) (by kernel_rfl) ?_
        simp only [List.take_succ_cons, List.take_zero, List.drop_succ_cons, List.drop_zero]
        still_step
        still_step
        still_step
        still_call (PA.out v2 _ A2.out lcD)
        still_step
        try refine wpStill_nil ?_
        gi_wp2
        go_roundw
        case rel => exact ⟨_, SD.out.set _, KD.out.trans ((KeepsOthers.setCell _ _ _).from _), VD.out.set (Nat.le_succ _) (Nat.succ_ne_self (w.heap.size + 1)) _, .inr (.inr (.inr (.inl ⟨by simp, rfl⟩)))⟩
        case measure => decide
      · gi_wp2
        refine wpInR_region_still_tail 5 (by rfl) (by kernel_rfl) (by kernel_rfl) ?_
        simp only [List.take_succ_cons, List.take_zero, List.drop_succ_cons, List.drop_zero]
        still_step
        still_step
        still_step
        still_call (PA.out v3 _ A3.out lcD)
        still_step
        try refine wpStill_nil ?_
        gi_wp2
        go_roundw
        case rel => exact ⟨_, SD.out.set _, KD.out.trans ((KeepsOthers.setCell _ _ _).from _), VD.out.set (Nat.le_succ _) (Nat.succ_ne_self (w.heap.size + 1)) _, .inr (.inr (.inr (.inr ⟨by simp, rfl⟩)))⟩
        case measure => decide
      · gi_wp2
        refine ⟨HKF.out, HKV.out, ?_⟩
        show VS w (.func (.func 57) #[] #[.pointer (some ⟨L, 0, none⟩)]) (Sp.sumG g z c (vC (pre ++ [(⟨(x, y), hxy⟩ : CQ c r)]))) _
        rw [SN.out]
        exact HS.out
  case done =>
    rintro D xs W hD hxs hI hK
    have hS : Sp.sumG g z c (vC xs) = SS := by
      rw [hxs, ← HSS.out]
      unfold Sp.sumS
      rw [hnc, hnr]
      simp
    rw [hS] at hI
    have s0 := hI.sm
    clear hnc hnr
    gi_wp2
    have V9 := hI.put (o' := .deferred none) (by omega) hK rfl
    refine ⟨by simp, .inl ⟨_, _, rfl, run_takeDeferred hK, ?_⟩⟩
    exact ⟨.int .i64 SS, by simp [results, Try.results55, go_sem], Gives.mk rfl V9.bw⟩
  case stop =>
    rintro D cd pre W hD hk h hK
    exact h.elim
set_option maxRecDepth 100000 in
theorem tpart3_any (v lv : Int) (L : Nat) (W : World) (hv : 0 ≤ v ∧ v ≤ 50000) (hl : 0 ≤ lv ∧ lv ≤ 50000) (hc : W.cell? ⟨L, 0, none⟩ = some (.int .i64 lv)) :
    Calls Try.prog 58 #[.int .i64 v, .pointer (some ⟨L, 0, none⟩)] W (fun e w' => e = .returned (.int .i64 (Sp.dnG lv v)) ∧ w' = W) := by
  have y : wrap64 (lv - v) = lv - v := pw64 _ (by omega)
  clear hv hl
  go_enter Try.func58, Try.ntmps58
  go_wp2_with fail
  go_ret
  exact ⟨rfl, rfl⟩
set_option maxRecDepth 100000 in
set_option maxHeartbeats 4000000 in
theorem tsum3_any (A : Option Addr) (cap : Nat) (c r k : Int) (z : List Int) (T L : Nat) (lv : Int) (w : World) (g1 : 2 ≤ c ∧ c ≤ 16) (g2 : 2 ≤ r ∧ r ≤ 16) (g3 : 1 ≤ k ∧ k ≤ 1000) (g4 : (z.length : Int) = c * r) (g5 : ∀ v ∈ z, 0 ≤ v ∧ v ≤ 50000) (hl : 0 ≤ lv ∧ lv ≤ 50000)
    (hT : Ints w A z) (tr : TrAt w T c r k A z.length cap) (lc : w.cell? ⟨L, 0, none⟩ = some (.int .i64 lv)) (ll : L < w.heap.size) :
    Calls Try.prog 55 #[.func (.func 58) #[] #[.pointer (some ⟨L, 0, none⟩)], .pointer (some ⟨T, 0, none⟩)] w (Gives (.int .i64 (Sp.sumS (Sp.dnG lv) c r z)) w) := by
  obtain ⟨SS, hSS⟩ : ∃ SS, Sp.sumS (Sp.dnG lv) c r z = SS := ⟨_, rfl⟩
  rw [hSS]
  have HSS := hid hSS
  have gb : ∀ v, 0 ≤ v → v ≤ 50000 → 0 ≤ Sp.dnG lv v ∧ Sp.dnG lv v ≤ 50000 := fun v a b => by unfold Sp.dnG; omega
  have PA := hid (fun (v : Int) (W : World) (hv : 0 ≤ v ∧ v ≤ 50000) (hc : W.cell? ⟨L, 0, none⟩ = some (.int .i64 lv)) => tpart3_any v lv L W hv hl hc)
  generalize Sp.dnG lv = g at gb PA hSS HSS
  have GB := hid gb
  have HL := hid lc
  have TR := hid tr
  have CO := hid (fun (x y : Int) (W : World) (hb : Below w.heap.size w W) (hx : okC c r (x, y)) => tcorners_any A cap c r k z x y W g1 g2 g4 hx.1.1 hx.1.2 hx.2.1 hx.2.2 (hT.below hb))
  obtain ⟨nc, hnc⟩ : ∃ nc : Nat, c - 1 = (nc : Int) := ⟨(c - 1).toNat, by omega⟩
  obtain ⟨nr, hnr⟩ : ∃ nr : Nat, r - 1 = (nr : Int) := ⟨(r - 1).toNat, by omega⟩
  have bc : nc ≤ 15 := by omega
  have br : nr ≤ 15 := by omega
  have c0 := tr.c0
  have c1 := tr.c1
  have c2 := tr.c2
  have c3 := tr.c3
  have cl := tr.lt
  have cn : ¬ T = w.heap.size := by omega
  have cn2 : ¬ T = w.heap.size + 1 := by omega
  have cn3 : ¬ w.heap.size = T := by omega
  have cn4 : ¬ w.heap.size + 1 = T := by omega
  clear hSS tr gb hT lc
  refine (callsIn_wide (n := 3)).1 ?_
  refine callsIn_of_wp_marks Try.func55 rfl trivial ?_ rfl
  simp only [Try.ntmps55, List.size_toArray, List.length_cons, List.length_nil, Nat.reduceAdd, Nat.reduceSub, Array.replicate_succ, Array.replicate_zero, List.push_toArray, List.append_toArray, List.nil_append, List.cons_append]
  gi_wp2_with (refine ⟨trivial, ?_⟩; gi_at_call 51; refine (cells_in _ _ _ _ _ _ _ _).mono ?_; rintro e w' ⟨rfl, rfl⟩)
  obtain ⟨W0, hW0⟩ : ∃ W0, ((w.alloc (.cells #[.func (.func 58) #[] #[.pointer (some ⟨L, 0, none⟩)]] 75)).alloc (.cells #[.int .i64 0] 3)).alloc (Obj.cells #[.int .i64 c, .int .i64 r, .int .i64 k, .slice A z.length cap] 24) = W0 := ⟨_, rfl⟩
  have zW : W0.heap.size = w.heap.size + 3 := by rw [← hW0]; simp
  have kW : Below w.heap.size w W0 := by rw [← hW0]; exact bthen (balloc _ _) (bthen (balloc _ _) (balloc _ _))
  have b0 : W0.cell? ⟨w.heap.size + 1 + 1, 0, none⟩ = some (.int .i64 c) := by rw [← hW0]; simp [go_sem]
  have b1 : W0.cell? ⟨w.heap.size + 1 + 1, 1, none⟩ = some (.int .i64 r) := by rw [← hW0]; simp [go_sem]
  have I0 : VS w (.func (.func 58) #[] #[.pointer (some ⟨L, 0, none⟩)]) 0 W0 := ⟨by rw [← hW0]; simp [go_sem], by rw [← hW0]; simp [go_sem], fun o => by rw [← hW0]; simp [go_sem], kW, by omega⟩
  have i0 : ∀ (v0 v1 v2 v3 : Int) W, (Instr.index 76 (.agg #[.int .i64 v0, .int .i64 v1, .int .i64 v2, .int .i64 v3]) (.int .i64 0)).run Try.prog W = .ok (.int .i64 v0) W := fun _ _ _ _ _ => by kernel_rfl
  have i1 : ∀ (v0 v1 v2 v3 : Int) W, (Instr.index 76 (.agg #[.int .i64 v0, .int .i64 v1, .int .i64 v2, .int .i64 v3]) (.int .i64 1)).run Try.prog W = .ok (.int .i64 v1) W := fun _ _ _ _ _ => by kernel_rfl
  have i2 : ∀ (v0 v1 v2 v3 : Int) W, (Instr.index 76 (.agg #[.int .i64 v0, .int .i64 v1, .int .i64 v2, .int .i64 v3]) (.int .i64 2)).run Try.prog W = .ok (.int .i64 v2) W := fun _ _ _ _ _ => by kernel_rfl
  have i3 : ∀ (v0 v1 v2 v3 : Int) W, (Instr.index 76 (.agg #[.int .i64 v0, .int .i64 v1, .int .i64 v2, .int .i64 v3]) (.int .i64 3)).run Try.prog W = .ok (.int .i64 v3) W := fun _ _ _ _ _ => by kernel_rfl
  rw [hW0]
  clear hW0 kW c0 c1 c2 c3 cl cn cn2 cn3 cn4
  refine wpIn_rangeFunc_ownH rfl (by omega) (gf := 70) (lb := #[.pointer (some ⟨w.heap.size + 1 + 1, 0, none⟩)]) rfl trivial (enters_of Try.func70 (by kernel_rfl) rfl)
    (cells_stops _ (by omega) (w.heap.size + 1 + 1) w.heap.size c r nc nr hnc hnr bc br W0 (by omega) b0 b1)
    (fun h k => KV.trans h k) (KV.put (by omega) (by omega)) (Below.refl _ _) (fun _ => rfl)
    (fun (pre : List (CQ c r)) W => VS w (.func (.func 58) #[] #[.pointer (some ⟨L, 0, none⟩)]) (Sp.sumG g z c (vC pre)) W)
    (fun cd pre W => False)
    (fun s X Y row hs hg hr => hs.grown (b := W0.heap.size) (by omega) hg hr)
    (fun cd s X Y row hs hg hr => hs.elim)
    I0
    (fun q a' W => a' = { tmps := #[.func (.func 58) #[] #[.pointer (some ⟨L, 0, none⟩)], .pointer (some ⟨T, 0, none⟩), .pointer (some ⟨w.heap.size, 0, none⟩), .int .i64 0, .pointer (some ⟨w.heap.size + 1, 0, none⟩), .int .i64 q.1.1, .int .i64 q.1.2, undef, undef, .agg #[.int .i64 c, .int .i64 r, .int .i64 k, .slice A z.length cap], .func (.func 70) #[] #[.pointer (some ⟨w.heap.size + 1 + 1, 0, none⟩)], .int .i64 q.1.1, .int .i64 q.1.2, undef, undef, undef, undef, undef, undef, undef, undef, undef, undef, undef, undef, undef, undef], defers := [] })
    (fun q a' _ X Y row hs hg hr => hs) ?assign ?body ?done ?stop
  case assign =>
    rintro m pre q W K hI hK
    gi_wp2
    exact hK _ _ (keeps_below (Below.refl _ _)) ⟨Below.refl _ _, rfl⟩ hI rfl
  case body =>
    rintro m pre ⟨⟨x, y⟩, hxy⟩ a' W hl0 ⟨r', hr'⟩ hI rfl hlt
    have HW := hid (show w.heap.size + 3 ≤ W.heap.size by have := (Array.getElem?_eq_some_iff.1 hr').1; omega)
    have CO1 := hid (fun (q : Nat) (W' : World) (hb : Below w.heap.size w W') => CallsIn.inRound m (callsIn_wide (n := q).2 (CO.out x y W' hb hxy)))
    have a0 := Sp.hz_in g5 (y * c + x)
    have a1 := Sp.hz_in g5 (y * c + x + 1)
    have a2 := Sp.hz_in g5 (y * c + x + c + 1)
    have a3 := Sp.hz_in g5 (y * c + x + c)
    have sn : Sp.sumG g z c (vC (pre ++ [(⟨(x, y), hxy⟩ : CQ c r)])) = Sp.sumG g z c (vC pre) + (g (Sp.hz z (y * c + x)) + g (Sp.hz z (y * c + x + 1)) + g (Sp.hz z (y * c + x + c + 1)) + g (Sp.hz z (y * c + x + c))) := by rw [vC_snoc, Sp.sumG_snoc]; rfl
    generalize Sp.hz z (y * c + x) = v0 at a0 sn CO1
    generalize Sp.hz z (y * c + x + 1) = v1 at a1 sn CO1
    generalize Sp.hz z (y * c + x + c + 1) = v2 at a2 sn CO1
    generalize Sp.hz z (y * c + x + c) = v3 at a3 sn CO1
    have tb := Sp.sumG_in GB.out g5 c (vC pre)
    rw [vC_len] at tb
    have pl : pre.length ≤ 225 := by have := Nat.mul_le_mul br bc; omega
    generalize Sp.sumG g z c (vC pre) = t0 at tb sn hI
    have e0 := GB.out v0 a0.1 a0.2
    have e1 := GB.out v1 a1.1 a1.2
    have e2 := GB.out v2 a2.1 a2.2
    have e3 := GB.out v3 a3.1 a3.2
    obtain ⟨t1, h1⟩ : ∃ t, t0 + g v0 = t := ⟨_, rfl⟩
    obtain ⟨t2, h2⟩ : ∃ t, t1 + g v1 = t := ⟨_, rfl⟩
    obtain ⟨t3, h3⟩ : ∃ t, t2 + g v2 = t := ⟨_, rfl⟩
    obtain ⟨t4, h4⟩ : ∃ t, t3 + g v3 = t := ⟨_, rfl⟩
    have SN := hid (show Sp.sumG g z c (vC (pre ++ [(⟨(x, y), hxy⟩ : CQ c r)])) = t4 by rw [sn]; omega)
    have d1 : IntKind.i64.wrap t1 = t1 := pi64 _ (by omega)
    have d2 : IntKind.i64.wrap t2 = t2 := pi64 _ (by omega)
    have d3 : IntKind.i64.wrap t3 = t3 := pi64 _ (by omega)
    have d4 : IntKind.i64.wrap t4 = t4 := pi64 _ (by omega)
    have PA0 := hid (fun (W' : World) (h : W'.cell? ⟨L, 0, none⟩ = some (.int .i64 lv)) => CallsIn.inRound m (callsIn_wide (n := 0).2 (PA.out v0 W' a0 h)))
    have A0 := hid a0
    have A1 := hid a1
    have A2 := hid a2
    have A3 := hid a3
    have trW := TR.out.below hI.bw
    have c0 := trW.c0
    have c1 := trW.c1
    have c2 := trW.c2
    have c3 := trW.c3
    have cl := trW.lt
    have HI := hid hI
    clear sn tb pl e0 e1 e2 e3 a0 a1 a2 a3 hI hlt hl0 trW hr'
    gi_wp2
    refine ⟨trivial, ?_⟩
    gi_at_call 56
    refine (CO1.out _ _ HI.out.bw).mono ?_
    rintro _ w7 ⟨rfl, hb⟩
    have HB7 := hid hb
    clear hb c0 c1 c2 c3 cl
    gi_wp2
    gi_loopw [17] (fun t wr => VRel w (.func (.func 58) #[] #[.pointer (some ⟨L, 0, none⟩)]) W0.heap.size w.heap.size (w.heap.size + 1 + 1) t0 t1 t2 t3 t4 W t wr) (fun t _ => 4 - (intOf t).toNat)
    case atStart => exact ⟨t0, HI.out.below HB7.out, keeps_below HB7.out, KV.of_below HB7.out HI.out.bw.size (by have := HW.out; omega), .inl ⟨rfl, rfl⟩⟩
    case round =>
      obtain ⟨tot, hS, hKF, hKV, hs⟩ := hrel
      have HS := hid hS
      have HKF := hid hKF
      have HKV := hid hKV
      have p0 := hS.pt
      have s0 := hS.sm
      have sf := hS.sf
      have sz := hS.sz
      have sz1 : w.heap.size < wr.heap.size := Nat.lt_of_succ_lt sz
      have lcD : wr.drew.cell? ⟨L, 0, none⟩ = some (.int .i64 lv) := (hS.bw.cell (p := ⟨L, 0, none⟩) ll).trans HL.out
      have SD := hid (hS.below (Below.refl _ _).drew)
      have KD := hid (hKF.trans (keeps_below (Below.refl _ _).drew))
      have VD := hid (show KV w.heap.size (w.heap.size + 1 + 1) W wr.drew from ⟨hKV.below.drew, hKV.blk⟩)
      clear hS hKF hKV
      rcases hs with ⟨rfl, rfl⟩ | ⟨rfl, rfl⟩ | ⟨rfl, rfl⟩ | ⟨rfl, rfl⟩ | ⟨rfl, rfl⟩
      · gi_wp2
        refine wpInR_region_still_tail 5 (by rfl) (by kernel_rfl) (by kernel_rfl) ?_
        simp only [List.take_succ_cons, List.take_zero, List.drop_succ_cons, List.drop_zero]
        still_step
        still_step
        still_step
        still_call (PA.out v0 _ A0.out lcD)
        still_step
        try refine wpStill_nil ?_
        gi_wp2
        go_roundw
        case rel => exact ⟨_, SD.out.set _, KD.out.trans ((KeepsOthers.setCell _ _ _).from _), VD.out.set (Nat.le_succ _) (Nat.succ_ne_self (w.heap.size + 1)) _, .inr (.inl ⟨by simp, rfl⟩)⟩
        case measure => decide
      · gi_wp2
        refine wpInR_region_still_tail 5 (by rfl) (by kernel_rfl) (by kernel_rfl) ?_
        simp only [List.take_succ_cons, List.take_zero, List.drop_succ_cons, List.drop_zero]
        still_step
        still_step
        still_step
        still_call (PA.out v1 _ A1.out lcD)
        still_step
        try refine wpStill_nil ?_
        gi_wp2
        go_roundw
        case rel => exact ⟨_, SD.out.set _, KD.out.trans ((KeepsOthers.setCell _ _ _).from _), VD.out.set (Nat.le_succ _) (Nat.succ_ne_self (w.heap.size + 1)) _, .inr (.inr (.inl ⟨by simp, rfl⟩))⟩
        case measure => decide
      · gi_wp2
        refine wpInR_region_still_tail 5 (by rfl) (by kernel_rfl) (by kernel_rfl) ?_
        simp only [List.take_succ_cons, List.take_zero, List.drop_succ_cons, List.drop_zero]
        still_step
        still_step
        still_step
        still_call (PA.out v2 _ A2.out lcD)
        still_step
        try refine wpStill_nil ?_
        gi_wp2
        go_roundw
        case rel => exact ⟨_, SD.out.set _, KD.out.trans ((KeepsOthers.setCell _ _ _).from _), VD.out.set (Nat.le_succ _) (Nat.succ_ne_self (w.heap.size + 1)) _, .inr (.inr (.inr (.inl ⟨by simp, rfl⟩)))⟩
        case measure => decide
      · gi_wp2
        refine wpInR_region_still_tail 5 (by rfl) (by kernel_rfl) (by kernel_rfl) ?_
        simp only [List.take_succ_cons, List.take_zero, List.drop_succ_cons, List.drop_zero]
        still_step
        still_step
        still_step
        still_call (PA.out v3 _ A3.out lcD)
        still_step
        try refine wpStill_nil ?_
        gi_wp2
        go_roundw
        case rel => exact ⟨_, SD.out.set _, KD.out.trans ((KeepsOthers.setCell _ _ _).from _), VD.out.set (Nat.le_succ _) (Nat.succ_ne_self (w.heap.size + 1)) _, .inr (.inr (.inr (.inr ⟨by simp, rfl⟩)))⟩
        case measure => decide
      · gi_wp2
        refine ⟨HKF.out, HKV.out, ?_⟩
        show VS w (.func (.func 58) #[] #[.pointer (some ⟨L, 0, none⟩)]) (Sp.sumG g z c (vC (pre ++ [(⟨(x, y), hxy⟩ : CQ c r)]))) _
        rw [SN.out]
        exact HS.out
  case done =>
    rintro D xs W hD hxs hI hK
    have hS : Sp.sumG g z c (vC xs) = SS := by
      rw [hxs, ← HSS.out]
      unfold Sp.sumS
      rw [hnc, hnr]
      simp
    rw [hS] at hI
    have s0 := hI.sm
    clear hnc hnr
    gi_wp2
    have V9 := hI.put (o' := .deferred none) (by omega) hK rfl
    refine ⟨by simp, .inl ⟨_, _, rfl, run_takeDeferred hK, ?_⟩⟩
    exact ⟨.int .i64 SS, by simp [results, Try.results55, go_sem], Gives.mk rfl V9.bw⟩
  case stop =>
    rintro D cd pre W hD hk h hK
    exact h.elim
end Go.Proofs.Ytmdaanigkhikfaa
