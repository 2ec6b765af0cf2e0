/-
  Layer 6: CodecLinear, the walk.
-/
import Derived.Test.YtcjhgihkofmhgaaCza
import Derived.Test.YtcjhgihkofmhgaaRegion2
import Derived.Laws.BitsAllLaws
import Derived.Deep.OwnRows
namespace Go.Proofs.Ytcjhgihkofmhgaa
open Go.RowKit
attribute [local go_sem ↓] Go.wp_at_zero Go.wp_at_succ
set_option linter.unusedVariables false
set_option linter.unusedSimpArgs false

theorem min3_run (a b c n : Nat) (h : min (min a b) c = n) (ts : Array TypeId) (ty : TypeId) (w : World) :
    (Builtin.min_ ts ty #[.int .i64 (a : Int), .int .i64 (b : Int), .int .i64 (c : Int)]).run Try.prog w = .ok (.int .i64 (n : Int)) w := by
  have e1 : (if (b : Int) < (a : Int) then (b : Int) else (a : Int)) = ((min a b : Nat) : Int) := by split <;> omega
  have e2 : (if (c : Int) < ((min a b : Nat) : Int) then (c : Int) else ((min a b : Nat) : Int)) = (n : Int) := by split <;> omega
  rw [← e2, ← e1]
  rfl
theorem made_u8 : (Try.prog.info? 5).map (fun i => (i.zero, i.size, i.bytes)) = some (some (.int .u8 0), 1, 1) := by kernel_rfl
/-- A block of bytes that may be written. -/
structure RowB (W : World) (g : Nat) (L : List UInt8) : Prop where
  lt : g < W.heap.size
  cell : ∀ j, (h : j < L.length) → W.cell? ⟨g, j, none⟩ = some (.int .u8 ((L[j]).toNat : Int))
  fr : ∀ o, W.frozen? ⟨g, o, none⟩ = false
theorem RowB.below {W W' : World} {g : Nat} {L : List UInt8} (h : RowB W g L) (hb : Below W.heap.size W W') : RowB W' g L :=
  ⟨Nat.lt_of_lt_of_le h.lt hb.size, fun j hj => (hb.cell (p := ⟨g, j, none⟩) h.lt).trans (h.cell j hj), fun o => (hb.frozen (p := ⟨g, o, none⟩) h.lt).trans (h.fr o)⟩
theorem RowB.made (w : World) (n : Nat) : RowB (w.alloc (.cells (madeCells #[.int .u8 0] n) 5)) w.heap.size (List.replicate n 0) :=
  ⟨by simp, fun j hj => by
    have hj2 : j < n := by simpa using hj
    rw [World.cell?_alloc_new]
    simp [madeCells, hj2, Nat.mod_one], fun o => by simp [go_sem]⟩
theorem RowB.set {W : World} {g : Nat} {L : List UInt8} (h : RowB W g L) (i : Nat) (b : UInt8) (v : Value) (hv : v = .int .u8 (b.toNat : Int)) : RowB (W.setCell ⟨g, i, none⟩ v) g (L.set i b) := by
  subst hv
  refine ⟨by simpa [World.setCell] using h.lt, fun j hj => ?_, fun o => ?_⟩
  · have hj2 : j < L.length := by simpa using hj
    by_cases e : i = j
    · subst e
      have hc := h.cell i hj2
      have := World.cell?_setCell_same (w := W) (a := ⟨g, i, none⟩) (v := .int .u8 (b.toNat : Int)) hc
      rw [this]
      simp
    · have := World.cell?_setCell_other (w := W) (a := ⟨g, i, none⟩) (b := ⟨g, j, none⟩) (v := .int .u8 (b.toNat : Int)) (by simp [e])
      rw [this]
      simpa [List.getElem_set, e] using h.cell j hj2
  · have := h.fr o
    simpa [go_sem] using this
theorem RowB.bs {W : World} {g : Nat} {L : List UInt8} (h : RowB W g L) : Bs W W.heap.size (some ⟨g, 0, none⟩) L :=
  ⟨fun _ => ⟨g, 0, rfl, h.lt, fun j hj => by rw [Nat.zero_add]; exact h.cell j hj⟩⟩
theorem xor8 (x y : UInt8) : bits .xor .u8 (x.toNat : Int) (y.toNat : Int) = ((x ^^^ y).toNat : Int) := by
  have h1 := x.toNat_lt
  have h2 := y.toNat_lt
  rw [u8_xor_nat _ _ (by omega) (by omega), UInt8.toNat_xor]
theorem xorL_at : ∀ (l m : List UInt8) (i : Nat) (x y : UInt8), l[i]? = some x → m[i]? = some y → (Sp.xorL l m)[i]? = some (x ^^^ y)
  | [], m, i, x, y, h, _ => by simp at h
  | c :: l, [], i, x, y, _, h => by simp at h
  | c :: l, d :: m, 0, x, y, h1, h2 => by
    simp at h1 h2
    subst h1 h2
    rfl
  | c :: l, d :: m, i + 1, x, y, h1, h2 => by
    simp at h1 h2
    show (Sp.xorL l m)[i]? = _
    exact xorL_at l m i x y h1 h2
theorem lin_set (n : Nat) (X : List UInt8) (i : Nat) (b : UInt8) (h : X[i]? = some b) (hi : i < n) : (X.take i ++ List.replicate (n - i) 0).set i b = X.take (i + 1) ++ List.replicate (n - (i + 1)) 0 := by
  obtain ⟨hl, hb⟩ := List.getElem?_eq_some_iff.1 h
  have e1 : (X.take i).length = i := by simp; omega
  obtain ⟨k, hk⟩ : ∃ k, n - i = k + 1 := ⟨n - i - 1, by omega⟩
  have e2 : n - (i + 1) = k := by omega
  rw [List.set_append, if_neg (by omega), e1, Nat.sub_self, hk, e2, List.replicate_succ, List.set_cons_zero, List.take_add_one, h]
  simp
theorem slice_to (A : Option Addr) (k cap m : Nat) (hm : m ≤ cap) (W : World) :
    (Instr.slice 22 (.slice A k cap) none (some (.int .i64 (m : Int))) none).run Try.prog W = .ok (.slice A m cap) W := by
  rw [run_slice_h W 22 A k cap Try.underlying22 .i64 (m : Int) (by omega) (by omega)]
  have hs : (sizeOf (Try.prog.elem 22)).run Try.prog W = .ok 1 W := by kernel_rfl
  rw [hs]
  have e0 : A.map (·.add 0) = A := by cases A <;> simp [Addr.add]
  simp [Result.andThen, sliced, e0]
theorem Bs.take {w : World} {B : Nat} {A : Option Addr} {L : List UInt8} (h : Bs w B A L) {m : Nat} (hm : m ≤ L.length) : Bs w B A (L.take m) :=
  ⟨fun h0 => by
    have h1 : 0 < L.length := by simp at h0; omega
    obtain ⟨b, off, e, lt, hc⟩ := h.at_ h1
    exact ⟨b, off, e, lt, fun j hj => by
      have hj2 : j < L.length := by simp at hj; omega
      rw [hc j hj2]
      simp⟩⟩
def LinRel (w : World) (n : Nat) (X : List UInt8) (t : Value) (W : World) : Prop :=
  ∃ i : Nat, t = .int .i64 (i : Int) ∧ i ≤ n ∧ RowB W w.heap.size (X.take i ++ List.replicate (n - i) 0) ∧ Below w.heap.size w W
set_option maxRecDepth 100000 in
set_option maxHeartbeats 4000000 in
theorem clin_as (A : Option Addr) (ca : Nat) (L : List UInt8) (C : Option Addr) (cc : Nat) (M : List UInt8) (D : Option Addr) (cd : Nat) (N : List UInt8) (w : World)
    (hca : L.length ≤ ca) (hma : ca ≤ 9223372036854775807) (SL : Bs w w.heap.size A L) (hcc : M.length ≤ cc) (hmc : cc ≤ 9223372036854775807) (SM : Bs w w.heap.size C M) (hcd : N.length ≤ cd) (hmd : cd ≤ 9223372036854775807) (SN : Bs w w.heap.size D N) :
    Calls Try.prog 10 #[.slice A L.length ca, .slice C M.length cc, .slice D N.length cd] w (Gives (.bool true) w) := by
  obtain ⟨n, hn⟩ : ∃ n : Nat, min (min L.length M.length) N.length = n := ⟨_, rfl⟩
  have HN := hid hn
  have mn := fun ts ty w => min3_run L.length M.length N.length n hn ts ty w
  by_cases c : (5000 : Int) < (n : Int)
  · clear hca hma SL hcc hmc SM hcd hmd SN hn
    go_enter Try.func10, Try.ntmps10
    go_wp2_with (go_at_call 11; refine (awake_any _).mono ?_; rintro e w1 ⟨rfl, hb⟩)
    go_ret
    exact Gives.mk rfl hb
  · have n5 := hid (show n ≤ 5000 by omega)
    have nL := hid (show n ≤ L.length by omega)
    have nM := hid (show n ≤ M.length by omega)
    have nN := hid (show n ≤ N.length by omega)
    have nA := hid (show n ≤ ca by omega)
    have nC := hid (show n ≤ cc by omega)
    have nD := hid (show n ≤ cd by omega)
    have HL := hid SL
    have HM := hid SM
    have HD := hid SN
    clear hca hma SL hcc hmc SM hcd hmd SN hn
    have mk := run_make_row' (P := Try.prog) 22 5 (.int .u8 0) 1 Try.underlying22 made_u8 rfl .i64 .i64 n (by omega) (by omega)
    obtain ⟨X, hX⟩ : ∃ X, Sp.xorL (Sp.xorL (L.take n) (M.take n)) (N.take n) = X := ⟨_, rfl⟩
    have HX := hid hX
    clear hX
    have XL : Hid (X.length = n) := by
      have a := nL.out; have b := nM.out; have d := nN.out
      have e1 : (L.take n).length = (M.take n).length := by simp; omega
      show X.length = n
      rw [← HX.out, Sp.xorL_len _ _ (by rw [Sp.xorL_len _ _ e1]; simp; omega), Sp.xorL_len _ _ e1]
      simp; omega
    have M0 := hid (RowB.made w n)
    have mk0 := mk
    clear mk
    go_enter Try.func10, Try.ntmps10
    go_wp2_with fail
    go_loopw [24] (fun t wr => LinRel w n X t wr) (fun t _ => n - (intOf t).toNat)
    case atStart => exact ⟨0, rfl, Nat.zero_le _, by simpa using M0.out, by repeat' (first | (with_reducible exact Below.refl _ _) | (with_reducible refine Below.alloc ?_ ?_ _) | (with_reducible refine Below.setCell ?_ ?_ _) | (with_reducible refine Below.drew ?_) | (with_reducible refine below_dn ?_ _) | (with_reducible refine Below.trans ?_ (Below.mono (by assumption) ?_)) | (simp; done) | (simp; omega) | omega)⟩
    case round =>
      obtain ⟨i, rfl, hi, hR, hB⟩ := hrel
      have RW := hid hR
      have HB := hid hB
      clear hR hB
      by_cases c2 : i < n
      · have f1 : (i : Int) < (n : Int) := by omega
        have hL : i < L.length := by have := nL.out; omega
        have hM : i < M.length := by have := nM.out; omega
        have hN : i < N.length := by have := nN.out; omega
        obtain ⟨b0, o0, rfl, h0, cl0⟩ := HL.out.at_ (by omega)
        obtain ⟨b1, o1, rfl, h1, cl1⟩ := HM.out.at_ (by omega)
        obtain ⟨b2, o2, rfl, h2, cl2⟩ := HD.out.at_ (by omega)
        have cl0 := (HB.out.cell (p := ⟨b0, o0 + i, none⟩) h0).trans (cl0 i hL)
        have cl1 := (HB.out.cell (p := ⟨b1, o1 + i, none⟩) h1).trans (cl1 i hM)
        have cl2 := (HB.out.cell (p := ⟨b2, o2 + i, none⟩) h2).trans (cl2 i hN)
        have lt0 : b0 < wr.heap.size := Nat.lt_of_lt_of_le h0 HB.out.size
        have lt1 : b1 < wr.heap.size := Nat.lt_of_lt_of_le h1 HB.out.size
        have lt2 : b2 < wr.heap.size := Nat.lt_of_lt_of_le h2 HB.out.size
        have hX2 : X[i]? = some (L[i] ^^^ M[i] ^^^ N[i]) := by
          rw [← HX.out]
          exact xorL_at _ _ _ _ _ (xorL_at _ _ _ _ _ (by simp [List.getElem?_take, c2]) (by simp [List.getElem?_take, c2])) (by simp [List.getElem?_take, c2])
        have HX2 := hid hX2
        obtain ⟨xL, hxL⟩ : ∃ x, L[i] = x := ⟨_, rfl⟩
        obtain ⟨xM, hxM⟩ : ∃ x, M[i] = x := ⟨_, rfl⟩
        obtain ⟨xN, hxN⟩ : ∃ x, N[i] = x := ⟨_, rfl⟩
        rw [hxL] at cl0 HX2
        rw [hxM] at cl1 HX2
        rw [hxN] at cl2 HX2
        clear hX2 hxL hxM hxN
        go_wp2_with fail
        -- region 8
        refine region_inv_last (m := 17) (by kernel_rfl) [SP.eq (.slice (some ⟨w.heap.size, 0, none⟩) n n), SP.eq (.int .i64 (i : Int)), SP.eq (.slice (some ⟨b0, o0, none⟩) L.length ca), SP.eq (.int .i64 (i : Int)), SP.eq (.pointer (some ⟨b0, o0 + i, none⟩)), SP.eq (.int .u8 ((xL).toNat : Int)), SP.eq (.slice (some ⟨b1, o1, none⟩) M.length cc), SP.eq (.int .i64 (i : Int)), SP.eq (.pointer (some ⟨b1, o1 + i, none⟩)), SP.eq (.int .u8 ((xM).toNat : Int)), SP.eq (.int .u8 ((xL ^^^ xM).toNat : Int)), SP.eq (.slice (some ⟨b2, o2, none⟩) N.length cd), SP.eq (.int .i64 (i : Int)), SP.eq (.pointer (some ⟨b2, o2 + i, none⟩)), SP.eq (.int .u8 ((xN).toNat : Int)), SP.eq (.int .u8 ((xL ^^^ xM ^^^ xN).toNat : Int)), SP.eq (.pointer (some ⟨w.heap.size, i, none⟩))] (by kernel_rfl) ?_ ?_
        · intro i hi a w2 FR DP BW
          have hc : i = 0 ∨ i = 1 ∨ i = 2 ∨ i = 3 ∨ i = 4 ∨ i = 5 ∨ i = 6 ∨ i = 7 ∨ i = 8 ∨ i = 9 ∨ i = 10 ∨ i = 11 ∨ i = 12 ∨ i = 13 ∨ i = 14 ∨ i = 15 ∨ i = 16 := by
            have hi2 : i < 17 := hi
            omega
          clear hi
          rcases hc with rfl | rfl | rfl | rfl | rfl | rfl | rfl | rfl | rfl | rfl | rfl | rfl | rfl | rfl | rfl | rfl | rfl
          · -- 0: Op.move (Operand.tmp 8)
            have g8 : a.tmps[8]? = some _ := (FR 8 (by kernel_rfl)).trans rfl
            refine wpOp_run rfl (wanted_none rfl) fun K2 hK => ?_
            clear FR DP
            go_simp
            exact hK _ _ ⟨_, 27, rfl, rfl, KR.refl _ _, rfl⟩
          · -- 1: Op.move (Operand.tmp 9)
            have g9 : a.tmps[9]? = some _ := (FR 9 (by kernel_rfl)).trans rfl
            refine wpOp_run rfl (wanted_none rfl) fun K2 hK => ?_
            clear FR DP
            go_simp
            exact hK _ _ ⟨_, 28, rfl, rfl, KR.refl _ _, rfl⟩
          · -- 2: Op.move (Operand.tmp 0)
            have g0 : a.tmps[0]? = some _ := (FR 0 (by kernel_rfl)).trans rfl
            refine wpOp_run rfl (wanted_none rfl) fun K2 hK => ?_
            clear FR DP
            go_simp
            exact hK _ _ ⟨_, 29, rfl, rfl, KR.refl _ _, rfl⟩
          · -- 3: Op.move (Operand.tmp 9)
            have g9 : a.tmps[9]? = some _ := (FR 9 (by kernel_rfl)).trans rfl
            refine wpOp_run rfl (wanted_none rfl) fun K2 hK => ?_
            clear FR DP
            go_simp
            exact hK _ _ ⟨_, 30, rfl, rfl, KR.refl _ _, rfl⟩
          · -- 4: Op.indexAddr 22 (Operand.tmp 29) (Operand.tmp 30)
            obtain ⟨_, g29, rfl⟩ := DP 2 29 (by kernel_rfl) (by kernel_rfl)
            obtain ⟨_, g30, rfl⟩ := DP 3 30 (by kernel_rfl) (by kernel_rfl)
            refine wpOp_run rfl (wanted_none rfl) fun K2 hK => ?_
            clear FR DP
            go_simp
            exact hK _ _ ⟨_, 31, rfl, rfl, KR.refl _ _, rfl⟩
          · -- 5: Op.load 5 (Operand.tmp 31)
            obtain ⟨_, g31, rfl⟩ := DP 4 31 (by kernel_rfl) (by kernel_rfl)
            have X0 := (BW.cell (p := ⟨b0, o0 + i, none⟩) lt0).trans cl0
            refine wpOp_run rfl (wanted_none rfl) fun K2 hK => ?_
            clear FR DP
            go_simp
            exact hK _ _ ⟨_, 32, rfl, rfl, KR.refl _ _, rfl⟩
          · -- 6: Op.move (Operand.tmp 1)
            have g1 : a.tmps[1]? = some _ := (FR 1 (by kernel_rfl)).trans rfl
            refine wpOp_run rfl (wanted_none rfl) fun K2 hK => ?_
            clear FR DP
            go_simp
            exact hK _ _ ⟨_, 33, rfl, rfl, KR.refl _ _, rfl⟩
          · -- 7: Op.move (Operand.tmp 9)
            have g9 : a.tmps[9]? = some _ := (FR 9 (by kernel_rfl)).trans rfl
            refine wpOp_run rfl (wanted_none rfl) fun K2 hK => ?_
            clear FR DP
            go_simp
            exact hK _ _ ⟨_, 34, rfl, rfl, KR.refl _ _, rfl⟩
          · -- 8: Op.indexAddr 22 (Operand.tmp 33) (Operand.tmp 34)
            obtain ⟨_, g33, rfl⟩ := DP 6 33 (by kernel_rfl) (by kernel_rfl)
            obtain ⟨_, g34, rfl⟩ := DP 7 34 (by kernel_rfl) (by kernel_rfl)
            refine wpOp_run rfl (wanted_none rfl) fun K2 hK => ?_
            clear FR DP
            go_simp
            exact hK _ _ ⟨_, 35, rfl, rfl, KR.refl _ _, rfl⟩
          · -- 9: Op.load 5 (Operand.tmp 35)
            obtain ⟨_, g35, rfl⟩ := DP 8 35 (by kernel_rfl) (by kernel_rfl)
            have X0 := (BW.cell (p := ⟨b1, o1 + i, none⟩) lt1).trans cl1
            refine wpOp_run rfl (wanted_none rfl) fun K2 hK => ?_
            clear FR DP
            go_simp
            exact hK _ _ ⟨_, 36, rfl, rfl, KR.refl _ _, rfl⟩
          · -- 10: Op.binOp BinOp.xor 5 (Operand.tmp 32) (Operand.tmp 36) 5
            obtain ⟨_, g32, rfl⟩ := DP 5 32 (by kernel_rfl) (by kernel_rfl)
            obtain ⟨_, g36, rfl⟩ := DP 9 36 (by kernel_rfl) (by kernel_rfl)
            have XE := xor8 xL xM
            refine wpOp_run rfl (wanted_none rfl) fun K2 hK => ?_
            clear FR DP
            go_simp
            exact hK _ _ ⟨_, 37, rfl, rfl, KR.refl _ _, rfl⟩
          · -- 11: Op.move (Operand.tmp 2)
            have g2 : a.tmps[2]? = some _ := (FR 2 (by kernel_rfl)).trans rfl
            refine wpOp_run rfl (wanted_none rfl) fun K2 hK => ?_
            clear FR DP
            go_simp
            exact hK _ _ ⟨_, 38, rfl, rfl, KR.refl _ _, rfl⟩
          · -- 12: Op.move (Operand.tmp 9)
            have g9 : a.tmps[9]? = some _ := (FR 9 (by kernel_rfl)).trans rfl
            refine wpOp_run rfl (wanted_none rfl) fun K2 hK => ?_
            clear FR DP
            go_simp
            exact hK _ _ ⟨_, 39, rfl, rfl, KR.refl _ _, rfl⟩
          · -- 13: Op.indexAddr 22 (Operand.tmp 38) (Operand.tmp 39)
            obtain ⟨_, g38, rfl⟩ := DP 11 38 (by kernel_rfl) (by kernel_rfl)
            obtain ⟨_, g39, rfl⟩ := DP 12 39 (by kernel_rfl) (by kernel_rfl)
            refine wpOp_run rfl (wanted_none rfl) fun K2 hK => ?_
            clear FR DP
            go_simp
            exact hK _ _ ⟨_, 40, rfl, rfl, KR.refl _ _, rfl⟩
          · -- 14: Op.load 5 (Operand.tmp 40)
            obtain ⟨_, g40, rfl⟩ := DP 13 40 (by kernel_rfl) (by kernel_rfl)
            have X0 := (BW.cell (p := ⟨b2, o2 + i, none⟩) lt2).trans cl2
            refine wpOp_run rfl (wanted_none rfl) fun K2 hK => ?_
            clear FR DP
            go_simp
            exact hK _ _ ⟨_, 41, rfl, rfl, KR.refl _ _, rfl⟩
          · -- 15: Op.binOp BinOp.xor 5 (Operand.tmp 37) (Operand.tmp 41) 5
            obtain ⟨_, g37, rfl⟩ := DP 10 37 (by kernel_rfl) (by kernel_rfl)
            obtain ⟨_, g41, rfl⟩ := DP 14 41 (by kernel_rfl) (by kernel_rfl)
            refine wpOp_run rfl (wanted_none rfl) fun K2 hK => ?_
            clear FR DP
            go_simp
            rw [← UInt8.toNat_xor xL xM, xor8]
            exact hK _ _ ⟨_, 42, rfl, rfl, KR.refl _ _, rfl⟩
          · -- 16: Op.indexAddr 22 (Operand.tmp 27) (Operand.tmp 28)
            obtain ⟨_, g27, rfl⟩ := DP 0 27 (by kernel_rfl) (by kernel_rfl)
            obtain ⟨_, g28, rfl⟩ := DP 1 28 (by kernel_rfl) (by kernel_rfl)
            refine wpOp_run rfl (wanted_none rfl) fun K2 hK => ?_
            clear FR DP
            go_simp
            exact hK _ _ ⟨_, 43, rfl, rfl, KR.refl _ _, rfl⟩
        · intro a w2 FR DP BW DF AZ
          obtain ⟨_, g43, rfl⟩ := DP 16 43 (by decide) (by kernel_rfl)
          obtain ⟨_, g42, rfl⟩ := DP 15 42 (by decide) (by kernel_rfl)
          have XF := (RW.out.below BW).fr i
          have XC := (RW.out.below BW).cell i (by rw [List.length_append, List.length_take, List.length_replicate, XL.out]; omega)
          refine wpOp_run rfl (wanted_none rfl) fun K2 hK => ?_
          have HDF := hid DF; have HAZ := hid AZ; have HFR := hid FR
          clear FR DP DF AZ
          go_simp
          refine hK _ _ ?_
          obtain ⟨xs, rfl⟩ := frame_xs [27, 28, 29, 30, 31, 32, 33, 34, 35, 36, 37, 38, 39, 40, 41, 42, 43] (by kernel_rfl) HFR.out HAZ.out HDF.out
          clear HFR HAZ HDF hK
          simp only [List.foldl, Exit.inBlock, Exit.then]
          go_at_K
          go_wp2_with fail
          have hs := lin_set n X i (xL ^^^ xM ^^^ xN) HX2.out c2
          have hr := (RW.out.below BW).set i (xL ^^^ xM ^^^ xN) (.int .u8 ((xL.toNat ^^^ xM.toNat ^^^ xN.toNat : Nat) : Int)) (by simp [UInt8.toNat_xor])
          rw [hs] at hr
          exact ⟨⟨i + 1, by simp, by omega, hr, ((HB.out.trans (BW.mono HB.out.size)).setCell (Nat.le_refl _) _)⟩, by simp [intOf]; omega⟩
        -- end 8
      · have e : n = i := by omega
        subst e
        go_wp2_with fail
        have SX := RW.out.bs
        rw [Nat.sub_self, List.replicate_zero, List.append_nil, List.take_of_length_le (Nat.le_of_eq XL.out)] at SX
        have S0 := hid ((HL.out.below HB.out).take nL.out)
        have S1 := hid ((HM.out.below HB.out).take nM.out)
        have S2 := hid ((HD.out.below HB.out).take nN.out)
        obtain ⟨y, hy⟩ : ∃ y, Sp.updS 0 X = y := ⟨_, rfl⟩
        obtain ⟨y1, hy1⟩ : ∃ y, Sp.updS 0 (L.take n) = y := ⟨_, rfl⟩
        obtain ⟨y2, hy2⟩ : ∃ y, Sp.updS 0 (M.take n) = y := ⟨_, rfl⟩
        obtain ⟨y3, hy3⟩ : ∃ y, Sp.updS 0 (N.take n) = y := ⟨_, rfl⟩
        have hY : Hid (y1 ^^^ y2 ^^^ y3 = y) := by
          have a := nL.out; have b := nM.out; have d := nN.out
          show _ = _
          rw [← hy, ← hy1, ← hy2, ← hy3, ← HX.out, Sp.upd_three _ _ _ (by simp; omega) (by simp; omega)]
        have l1 : Hid (y1 < 4294967296) := by rw [← hy1]; exact Sp.updS_lt _ _
        have l2 : Hid (y2 < 4294967296) := by rw [← hy2]; exact Sp.updS_lt _ _
        have l3 : Hid (y3 < 4294967296) := by rw [← hy3]; exact Sp.updS_lt _ _
        have sX : ∀ w2, Below wr.heap.size wr w2 → Calls Try.prog 32 #[.slice (some ⟨w.heap.size, 0, none⟩) n n] w2 (fun e w' => e = .returned (.int .u32 (y : Int)) ∧ w2 = w') := fun w2 BW => by
          have h := sum_any X (some ⟨w.heap.size, 0, none⟩) n (by rw [XL.out]; have := n5.out; omega) _ w2 BW.size (SX.below BW)
          rw [hy, XL.out] at h
          exact h
        have s1 : ∀ w2, Below wr.heap.size wr w2 → Calls Try.prog 32 #[.slice A n ca] w2 (fun e w' => e = .returned (.int .u32 (y1 : Int)) ∧ w2 = w') := fun w2 BW => by
          have e1 : (L.take n).length = n := by have a := nL.out; simp; omega
          have h := sum_any (L.take n) A ca (by rw [e1]; have := n5.out; omega) _ w2 (Nat.le_trans HB.out.size BW.size) (S0.out.below (BW.mono HB.out.size))
          rw [hy1, e1] at h
          exact h
        have s2 : ∀ w2, Below wr.heap.size wr w2 → Calls Try.prog 32 #[.slice C n cc] w2 (fun e w' => e = .returned (.int .u32 (y2 : Int)) ∧ w2 = w') := fun w2 BW => by
          have e1 : (M.take n).length = n := by have a := nM.out; simp; omega
          have h := sum_any (M.take n) C cc (by rw [e1]; have := n5.out; omega) _ w2 (Nat.le_trans HB.out.size BW.size) (S1.out.below (BW.mono HB.out.size))
          rw [hy2, e1] at h
          exact h
        have s3 : ∀ w2, Below wr.heap.size wr w2 → Calls Try.prog 32 #[.slice D n cd] w2 (fun e w' => e = .returned (.int .u32 (y3 : Int)) ∧ w2 = w') := fun w2 BW => by
          have e1 : (N.take n).length = n := by have a := nN.out; simp; omega
          have h := sum_any (N.take n) D cd (by rw [e1]; have := n5.out; omega) _ w2 (Nat.le_trans HB.out.size BW.size) (S2.out.below (BW.mono HB.out.size))
          rw [hy3, e1] at h
          exact h
        clear hy hy1 hy2 hy3 SX
    -- region 10
        refine region_inv (by kernel_rfl) [SP.eq (.slice (some ⟨w.heap.size, 0, none⟩) n n), SP.eq (.int .u32 (y : Int)), SP.eq (.slice A L.length ca), SP.eq (.int .i64 (n : Int)), SP.eq (.slice A n ca), SP.eq (.int .u32 (y1 : Int)), SP.eq (.slice C M.length cc), SP.eq (.int .i64 (n : Int)), SP.eq (.slice C n cc), SP.eq (.int .u32 (y2 : Int)), SP.eq (.int .u32 ((y1 ^^^ y2 : Nat) : Int)), SP.eq (.slice D N.length cd), SP.eq (.int .i64 (n : Int)), SP.eq (.slice D n cd), SP.eq (.int .u32 (y3 : Int)), SP.eq (.int .u32 (y : Int)), SP.eq (.bool true), SP.eq (.bool true), SP.eq (.bool true), SP.eq (.bool true), SP.eq (.bool true)] (by kernel_rfl) ?_ ?_
        · intro i hi a w2 FR DP BW
          have hc : i = 0 ∨ i = 1 ∨ i = 2 ∨ i = 3 ∨ i = 4 ∨ i = 5 ∨ i = 6 ∨ i = 7 ∨ i = 8 ∨ i = 9 ∨ i = 10 ∨ i = 11 ∨ i = 12 ∨ i = 13 ∨ i = 14 ∨ i = 15 ∨ i = 16 ∨ i = 17 ∨ i = 18 ∨ i = 19 ∨ i = 20 := by
            have hi2 : i < 21 := hi
            omega
          clear hi
          rcases hc with rfl | rfl | rfl | rfl | rfl | rfl | rfl | rfl | rfl | rfl | rfl | rfl | rfl | rfl | rfl | rfl | rfl | rfl | rfl | rfl | rfl
          · -- 0: Op.move (Operand.tmp 8)
            have g8 : a.tmps[8]? = some _ := (FR 8 (by kernel_rfl)).trans rfl
            refine wpOp_run rfl (wanted_none rfl) fun K2 hK => ?_
            clear FR DP
            go_simp
            exact hK _ _ ⟨_, 45, rfl, rfl, KR.refl _ _, rfl⟩
          · -- 1: Op.call { callee := Callee.value (Operand.func 32), args := #[Operand.
            obtain ⟨_, g45, rfl⟩ := DP 0 45 (by kernel_rfl) (by kernel_rfl)
            refine wpOp_run rfl (wanted_none rfl) fun K2 hK => ?_
            clear FR DP
            go_simp
            refine (sX w2 BW).mono ?_
            rintro _ w3 ⟨rfl, rfl⟩
            exact hK _ _ ⟨_, 46, rfl, rfl, KR.refl _ _, rfl⟩
          · -- 2: Op.move (Operand.tmp 0)
            have g0 : a.tmps[0]? = some _ := (FR 0 (by kernel_rfl)).trans rfl
            refine wpOp_run rfl (wanted_none rfl) fun K2 hK => ?_
            clear FR DP
            go_simp
            exact hK _ _ ⟨_, 47, rfl, rfl, KR.refl _ _, rfl⟩
          · -- 3: Op.move (Operand.tmp 7)
            have g7 : a.tmps[7]? = some _ := (FR 7 (by kernel_rfl)).trans rfl
            refine wpOp_run rfl (wanted_none rfl) fun K2 hK => ?_
            clear FR DP
            go_simp
            exact hK _ _ ⟨_, 48, rfl, rfl, KR.refl _ _, rfl⟩
          · -- 4: Op.slice 22 (Operand.tmp 47) none (some (Operand.tmp 48)) none
            obtain ⟨_, g47, rfl⟩ := DP 2 47 (by kernel_rfl) (by kernel_rfl)
            obtain ⟨_, g48, rfl⟩ := DP 3 48 (by kernel_rfl) (by kernel_rfl)
            have sl := slice_to A L.length ca n nA.out w2
            refine wpOp_run rfl (wanted_none rfl) fun K2 hK => ?_
            clear FR DP
            go_simp
            exact hK _ _ ⟨_, 49, rfl, rfl, KR.refl _ _, rfl⟩
          · -- 5: Op.call { callee := Callee.value (Operand.func 32), args := #[Operand.
            obtain ⟨_, g49, rfl⟩ := DP 4 49 (by kernel_rfl) (by kernel_rfl)
            refine wpOp_run rfl (wanted_none rfl) fun K2 hK => ?_
            clear FR DP
            go_simp
            refine (s1 w2 BW).mono ?_
            rintro _ w3 ⟨rfl, rfl⟩
            exact hK _ _ ⟨_, 50, rfl, rfl, KR.refl _ _, rfl⟩
          · -- 6: Op.move (Operand.tmp 1)
            have g1 : a.tmps[1]? = some _ := (FR 1 (by kernel_rfl)).trans rfl
            refine wpOp_run rfl (wanted_none rfl) fun K2 hK => ?_
            clear FR DP
            go_simp
            exact hK _ _ ⟨_, 51, rfl, rfl, KR.refl _ _, rfl⟩
          · -- 7: Op.move (Operand.tmp 7)
            have g7 : a.tmps[7]? = some _ := (FR 7 (by kernel_rfl)).trans rfl
            refine wpOp_run rfl (wanted_none rfl) fun K2 hK => ?_
            clear FR DP
            go_simp
            exact hK _ _ ⟨_, 52, rfl, rfl, KR.refl _ _, rfl⟩
          · -- 8: Op.slice 22 (Operand.tmp 51) none (some (Operand.tmp 52)) none
            obtain ⟨_, g51, rfl⟩ := DP 6 51 (by kernel_rfl) (by kernel_rfl)
            obtain ⟨_, g52, rfl⟩ := DP 7 52 (by kernel_rfl) (by kernel_rfl)
            have sl := slice_to C M.length cc n nC.out w2
            refine wpOp_run rfl (wanted_none rfl) fun K2 hK => ?_
            clear FR DP
            go_simp
            exact hK _ _ ⟨_, 53, rfl, rfl, KR.refl _ _, rfl⟩
          · -- 9: Op.call { callee := Callee.value (Operand.func 32), args := #[Operand.
            obtain ⟨_, g53, rfl⟩ := DP 8 53 (by kernel_rfl) (by kernel_rfl)
            refine wpOp_run rfl (wanted_none rfl) fun K2 hK => ?_
            clear FR DP
            go_simp
            refine (s2 w2 BW).mono ?_
            rintro _ w3 ⟨rfl, rfl⟩
            exact hK _ _ ⟨_, 54, rfl, rfl, KR.refl _ _, rfl⟩
          · -- 10: Op.binOp BinOp.xor 43 (Operand.tmp 50) (Operand.tmp 54) 43
            obtain ⟨_, g50, rfl⟩ := DP 5 50 (by kernel_rfl) (by kernel_rfl)
            obtain ⟨_, g54, rfl⟩ := DP 9 54 (by kernel_rfl) (by kernel_rfl)
            have XE := u32_xor_nat y1 y2 l1.out l2.out
            refine wpOp_run rfl (wanted_none rfl) fun K2 hK => ?_
            clear FR DP
            go_simp
            exact hK _ _ ⟨_, 55, rfl, rfl, KR.refl _ _, rfl⟩
          · -- 11: Op.move (Operand.tmp 2)
            have g2 : a.tmps[2]? = some _ := (FR 2 (by kernel_rfl)).trans rfl
            refine wpOp_run rfl (wanted_none rfl) fun K2 hK => ?_
            clear FR DP
            go_simp
            exact hK _ _ ⟨_, 56, rfl, rfl, KR.refl _ _, rfl⟩
          · -- 12: Op.move (Operand.tmp 7)
            have g7 : a.tmps[7]? = some _ := (FR 7 (by kernel_rfl)).trans rfl
            refine wpOp_run rfl (wanted_none rfl) fun K2 hK => ?_
            clear FR DP
            go_simp
            exact hK _ _ ⟨_, 57, rfl, rfl, KR.refl _ _, rfl⟩
          · -- 13: Op.slice 22 (Operand.tmp 56) none (some (Operand.tmp 57)) none
            obtain ⟨_, g56, rfl⟩ := DP 11 56 (by kernel_rfl) (by kernel_rfl)
            obtain ⟨_, g57, rfl⟩ := DP 12 57 (by kernel_rfl) (by kernel_rfl)
            have sl := slice_to D N.length cd n nD.out w2
            refine wpOp_run rfl (wanted_none rfl) fun K2 hK => ?_
            clear FR DP
            go_simp
            exact hK _ _ ⟨_, 58, rfl, rfl, KR.refl _ _, rfl⟩
          · -- 14: Op.call { callee := Callee.value (Operand.func 32), args := #[Operand.
            obtain ⟨_, g58, rfl⟩ := DP 13 58 (by kernel_rfl) (by kernel_rfl)
            refine wpOp_run rfl (wanted_none rfl) fun K2 hK => ?_
            clear FR DP
            go_simp
            refine (s3 w2 BW).mono ?_
            rintro _ w3 ⟨rfl, rfl⟩
            exact hK _ _ ⟨_, 59, rfl, rfl, KR.refl _ _, rfl⟩
          · -- 15: Op.binOp BinOp.xor 43 (Operand.tmp 55) (Operand.tmp 59) 43
            obtain ⟨_, g55, rfl⟩ := DP 10 55 (by kernel_rfl) (by kernel_rfl)
            obtain ⟨_, g59, rfl⟩ := DP 14 59 (by kernel_rfl) (by kernel_rfl)
            have XE := u32_xor_nat (y1 ^^^ y2) y3 (Sp.xor_lt32 l1.out l2.out) l3.out
            have HY := hY.out
            refine wpOp_run rfl (wanted_none rfl) fun K2 hK => ?_
            clear FR DP
            go_simp
            exact hK _ _ ⟨_, 60, rfl, rfl, KR.refl _ _, rfl⟩
          · -- 16: Op.binOp BinOp.eql 43 (Operand.tmp 46) (Operand.tmp 60) 43
            obtain ⟨_, g46, rfl⟩ := DP 1 46 (by kernel_rfl) (by kernel_rfl)
            obtain ⟨_, g60, rfl⟩ := DP 15 60 (by kernel_rfl) (by kernel_rfl)
            refine wpOp_run rfl (wanted_none rfl) fun K2 hK => ?_
            clear FR DP
            go_simp
            exact hK _ _ ⟨_, 61, rfl, rfl, KR.refl _ _, rfl⟩
          · -- 17: Op.move (Operand.tmp 61)
            obtain ⟨_, g61, rfl⟩ := DP 16 61 (by kernel_rfl) (by kernel_rfl)
            refine wpOp_run rfl (wanted_none rfl) fun K2 hK => ?_
            clear FR DP
            go_simp
            exact hK _ _ ⟨_, 62, rfl, rfl, KR.refl _ _, rfl⟩
          · -- 18: Op.call { callee := Callee.value (Operand.func 11), args := #[], argTy
            obtain ⟨_, g62, rfl⟩ := DP 17 62 (by kernel_rfl) (by kernel_rfl)
            refine wpOp_run rfl (wanted_true rfl (by kernel_rfl) g62) fun K2 hK => ?_
            clear FR DP
            go_simp
            refine (awake_any _).mono ?_
            rintro _ w3 ⟨rfl, hb3⟩
            exact hK _ _ ⟨_, 63, rfl, rfl, KR.of BW.size hb3, rfl⟩
          · -- 19: Op.pick (Operand.tmp 62) (Operand.tmp 63) (Operand.const (Value.bool f
            obtain ⟨_, g62, rfl⟩ := DP 17 62 (by kernel_rfl) (by kernel_rfl)
            obtain ⟨_, g63, rfl⟩ := DP 18 63 (by kernel_rfl) (by kernel_rfl)
            refine wpOp_run rfl (wanted_none rfl) fun K2 hK => ?_
            clear FR DP
            go_simp
            exact hK _ _ ⟨_, 64, rfl, rfl, KR.refl _ _, rfl⟩
          · -- 20: Op.assign (Operand.tmp 64)
            obtain ⟨_, g64, rfl⟩ := DP 19 64 (by kernel_rfl) (by kernel_rfl)
            refine wpOp_run rfl (wanted_none rfl) fun K2 hK => ?_
            clear FR DP
            go_simp
            exact hK _ _ ⟨_, 6, rfl, rfl, KR.refl _ _, rfl⟩
        · intro a w2 FR DP BW DF AZ
          obtain ⟨_, g6, rfl⟩ := DP 20 6 (by kernel_rfl)
          refine (by assumption : ∀ (a : Act) (w_1 : World), Code.wp Try.prog Code.ret (bodyPost Try.prog Try.f10 (Gives (Value.bool true) w)) a w_1 → _) _ _ ?_
          refine wp_ret (bodyPost_ret (fn := Try.f10) (v := .bool true) (by simp [results, Try.results10, g6]) DF ?_)
          exact Gives.mk rfl (HB.out.trans (BW.mono HB.out.size))
    -- end 10
end Go.Proofs.Ytcjhgihkofmhgaa
