/-
  Layer 16: the reference's Apportion and Shares, by contract; the walk of TreelistShares.
-/
import Derived.Test.YtmdaanigkhikfabLh
import Derived.Test.YtmdaanigkhikfabLm
import Derived.Test.YtmdaanigkhikfabLpar
namespace Go.Proofs.Ytmdaanigkhikfab
open Go.RowKit
set_option linter.unusedVariables false
set_option linter.unusedSimpArgs false
theorem Sp.le_sumA : ∀ L : List Int, (∀ v ∈ L, 0 ≤ v) → 0 ≤ L.sum ∧ ∀ v ∈ L, v ≤ L.sum
  | [], _ => ⟨by simp, fun v h => by simp at h⟩
  | a :: L, h => by
    obtain ⟨h1, h2⟩ := Sp.le_sumA L (fun v hv => h v (List.mem_cons_of_mem _ hv))
    have a0 := h a List.mem_cons_self
    rw [List.sum_cons]
    refine ⟨by omega, fun v hv => ?_⟩
    rcases List.mem_cons.1 hv with rfl | hv
    · omega
    · have := h2 v hv; omega
theorem Sp.takeA (L : List Int) (j : Nat) (h : j < L.length) : (L.take (j + 1)).sum = (L.take j).sum + L[j] := by
  rw [List.take_succ_eq_append_getElem h, List.sum_append]
  simp
theorem Sp.takeA_in {L : List Int} (h : ∀ v ∈ L, 0 ≤ v) (j : Nat) : 0 ≤ (L.take j).sum ∧ (L.take j).sum ≤ L.sum := by
  have a := (Sp.le_sumA (L.take j) (fun v hv => h v (List.mem_of_mem_take hv))).1
  have b := (Sp.le_sumA (L.drop j) (fun v hv => h v (List.mem_of_mem_drop hv))).1
  have c : (L.take j).sum + (L.drop j).sum = L.sum := by rw [← List.sum_append, List.take_append_drop]
  omega
namespace Sp
/-- The remainders behind the first ones are not there yet. -/
def remJ (T : Int) (P : List Int) (j : Nat) : List Int := (List.range P.length).map (fun i => if i < j then remK P T i else 0)
theorem remJ_len (T : Int) (P : List Int) (j : Nat) : (remJ T P j).length = P.length := by simp [remJ]
theorem remJ_get (T : Int) (P : List Int) (j i : Nat) (h : i < (remJ T P j).length) : (remJ T P j)[i] = if i < j then remK P T i else 0 := by simp [remJ]
theorem remJ_zero (T : Int) (P : List Int) : remJ T P 0 = List.replicate P.length 0 := by
  unfold remJ
  apply List.ext_getElem
  · simp
  · intro i h1 h2; simp
theorem remJ_set (T : Int) (P : List Int) (j : Nat) (h : j < P.length) : (remJ T P j).set j (remK P T j) = remJ T P (j + 1) := by
  apply List.ext_getElem
  · simp [remJ]
  · intro i h1 h2
    rw [List.getElem_set]
    by_cases e : j = i
    · subst e
      rw [if_pos rfl, remJ_get, if_pos (by omega)]
    · rw [if_neg e, remJ_get, remJ_get]
      by_cases c : i < j
      · rw [if_pos c, if_pos (by omega)]
      · rw [if_neg c, if_neg (by omega)]
/-- What stands in the row of remainders after k picks. -/
def Rst (key : Nat → Int) (n k : Nat) (R : List Int) : Prop := R.length = n ∧ ∀ i, (h : i < R.length) → ((∃ j, j < k ∧ ordF (keyC key) n j = i) → R[i] = -1) ∧ ((¬ ∃ j, j < k ∧ ordF (keyC key) n j = i) → R[i] = key i)
theorem rst_zero (T : Int) (P : List Int) : Rst (remK P T) P.length 0 (remJ T P P.length) := by
  refine ⟨remJ_len _ _ _, fun i h => ⟨fun ⟨j, hj, _⟩ => absurd hj (Nat.not_lt_zero _), fun _ => ?_⟩⟩
  have h2 : i < P.length := by rw [remJ_len] at h; exact h
  rw [remJ_get, if_pos h2]
/-- The place that the reference picks is the next one of the order. -/
theorem pick {key : Nat → Int} {n k b : Nat} {R : List Int} (hR : Rst key n k R) (hk : k < n) (hb : b < R.length) (pos : ∀ i, 0 ≤ key i)
    (le : ∀ x, (hx : x < R.length) → R[x] ≤ R[b]) (lt : ∀ x, (hx : x < R.length) → x < b → R[x] < R[b]) : b = ordF (keyC key) n k := by
  obtain ⟨ln, at_⟩ := hR
  have cl := ordF_lt (keyC key) n k (by omega)
  obtain ⟨m, hm, e⟩ := ordF_surj (keyC key) n b (by omega)
  have c1 := (at_ _ (by omega : ordF (keyC key) n k < R.length)).2 (fun ⟨j, hj, ej⟩ => by
    have := ordF_inj key n (a := j) (b := k) (by omega) hk ej
    omega)
  have l1 := le _ (by omega : ordF (keyC key) n k < R.length)
  have p1 := pos (ordF (keyC key) n k)
  rcases Nat.lt_trichotomy m k with h | h | h
  · have b1 := (at_ b hb).1 ⟨m, h, e⟩
    omega
  · rw [← e, h]
  · have b1 := (at_ b hb).2 (fun ⟨j, hj, ej⟩ => by
      have := ordF_inj key n (a := j) (b := m) (by omega) hm (ej.trans e.symm)
      omega)
    have s := ordF_sorted key n k m h hm
    rw [e] at s
    rcases s with s | ⟨s1, s2⟩
    · omega
    · have := lt _ (by omega : ordF (keyC key) n k < R.length) s2
      omega
theorem rst_succ {key : Nat → Int} {n k : Nat} {R : List Int} (hR : Rst key n k R) {b : Nat} (e : b = ordF (keyC key) n k) : Rst key n (k + 1) (R.set b (-1)) := by
  obtain ⟨ln, at_⟩ := hR
  refine ⟨by rw [List.length_set]; exact ln, fun i h => ?_⟩
  have h' : i < R.length := by rw [List.length_set] at h; exact h
  rw [List.getElem_set]
  by_cases c : b = i
  · rw [if_pos c]
    refine ⟨fun _ => rfl, fun h2 => absurd ⟨k, Nat.lt_succ_self _, e.symm.trans c⟩ h2⟩
  · rw [if_neg c]
    refine ⟨fun ⟨j, hj, ej⟩ => (at_ i h').1 ⟨j, ?_, ej⟩, fun h2 => (at_ i h').2 (fun ⟨j, hj, ej⟩ => h2 ⟨j, by omega, ej⟩)⟩
    rcases Nat.lt_or_ge j k with q | q
    · exact q
    · have : j = k := by omega
      subst this
      exact absurd (e.trans ej) c
theorem ordL_at (cf : Nat → Nat → Int) (n k : Nat) (h : k < (ordL cf n).length) : (ordL cf n)[k] = ((ordF cf n k : Nat) : Int) := by simp [ordL_eq]
end Sp
/-- A row is untouched by a store elsewhere. -/
theorem RowI.over {w : World} {g h : Nat} {l : List Int} (r : RowI w g l) (n : ¬ h = g) (v : Value) {p : Nat} : RowI (w.setCell ⟨h, p, none⟩ v) g l := by
  have n2 : ¬ g = h := fun e => n e.symm
  refine ⟨by simpa using r.lt, fun i hi => ?_, fun o => ?_⟩
  · rw [World.cell?_setCell_other _ _ _ _ (by simp [n, n2])]
    exact r.c i hi
  · simp [go_sem, r.f]
set_option maxRecDepth 100000 in
set_option maxHeartbeats 4000000 in
theorem rlapp_any (A : Option Addr) (cap : Nat) (P : List Int) (T : Int) (w : World) (hl : P.length ≤ 19) (hp : ∀ p ∈ P, 0 ≤ p ∧ p ≤ 2000000000) (t1 : 1 ≤ T) (t2 : T ≤ 2000000000) (hs : P.sum = T) (hT : Ints w A P) :
    Calls Try.prog 46 #[.int .i64 1000000, .slice A P.length cap] w (fun e w' => Below w.heap.size w w' ∧ ∃ B c, e = .returned (.slice B P.length c) ∧ Ints w' B (Sp.apS T P)) := by
  have p0 : ∀ p ∈ P, 0 ≤ p := fun p h => (hp p h).1
  obtain ⟨mi0, mi1⟩ := Sp.mis_in t1 p0 hs
  have mj := fun j (hj : j ≤ P.length) => Sp.misJ_le t1 p0 (P.length - j) j (by omega)
  obtain ⟨F, hF⟩ : ∃ F, Sp.apS T P = F := ⟨_, rfl⟩
  rw [hF]
  unfold Sp.apS at hF
  obtain ⟨mm, hmm⟩ : ∃ mm : Nat, Sp.misJ T P P.length = (mm : Int) := ⟨(Sp.misJ T P P.length).toNat, by omega⟩
  rw [hmm, Int.toNat_natCast] at hF
  have PF := hid (fun (j : Nat) (hj : j < P.length) => Sp.flo_in t1 (p0 _ (List.getElem_mem hj)))
  have HP := hid hp
  have TB := hid (⟨t1, t2⟩ : 1 ≤ T ∧ T ≤ 2000000000)
  have HT := hid hT
  have HL := hid hl
  have MJ := hid mj
  have HMM := hid hmm
  have HF := hid hF
  have ML := hid (show mm < P.length by omega)
  have KP := hid (fun i => (Sp.remK_in t1 p0 i).1)
  have TS := hid (fun k => Sp.takeA_in p0 k)
  have HS := hid hs
  have mk := run_make_row' (P := Try.prog) 31 3 (.int .i64 0) 8 Try.underlying31 info_int rfl .i64 .i64 P.length (by omega) (by omega) w
  have W0 := rowI_made w P.length
  have hb0 : Below w.heap.size w (w.alloc (.cells (madeCells #[.int .i64 0] P.length) 3)) := balloc _ _
  generalize hV : w.alloc (.cells (madeCells #[.int .i64 0] P.length) 3) = V at mk W0 hb0
  have mk2 := run_make_row' (P := Try.prog) 31 3 (.int .i64 0) 8 Try.underlying31 info_int rfl .i64 .i64 P.length (by omega) (by omega) V
  have W1 := rowI_made V P.length
  have hb1 : Below V.heap.size V (V.alloc (.cells (madeCells #[.int .i64 0] P.length) 3)) := balloc _ _
  generalize hV2 : V.alloc (.cells (madeCells #[.int .i64 0] P.length) 3) = V2 at mk2 W1 hb1
  have HB0 := hid (bthen hb0 hb1)
  have HW0 := hid (W0.below hb1)
  have HW1 := hid W1
  have VZ := hid W0.lt
  have tz : ¬ T = 0 := by omega
  have ty : (T == 0) = false := by simp; omega
  clear hV hV2 hT hp t1 t2 hs hF hmm mj mi0 mi1 p0 hl W0 W1 hb0 hb1
  go_enter Try.func46, Try.ntmps46
  go_wp2_with fail
  go_loopw [17, 5] (fun t u wr => wr = w ∧ ∃ j : Nat, t = .int .i64 (j : Int) ∧ j ≤ P.length ∧ u = .int .i64 ((P.take j).sum)) (fun t _ _ => P.length - (intOf t).toNat)
  case atStart => exact ⟨rfl, 0, rfl, Nat.zero_le _, by simp⟩
  case round =>
    obtain ⟨rfl, j, rfl, hj, rfl⟩ := hrel
    by_cases hlt : j < P.length
    · obtain ⟨b, off, rfl, bl, q⟩ := HT.out (by omega)
      have q0 := q j hlt
      have ts := Sp.takeA P j hlt
      have s1 := TS.out (j + 1)
      have s0 := TS.out j
      rw [ts, HS.out] at s1
      have tb := TB.out
      obtain ⟨p, hp⟩ : ∃ p, P[j]'hlt = p := ⟨_, rfl⟩
      rw [hp] at q0 ts s1
      have TS1 := hid ts
      generalize (P.take j).sum = S0 at s0 s1 TS1 ⊢
      have w1 : wrap64 (S0 + p) = S0 + p := pw64 _ (by omega)
      obtain ⟨ej, eq, i0, i1⟩ := rjw j P.length hlt (by have := HL.out; omega)
      have EQ := hid eq
      have HJ := hid hlt
      have HM := hid (pmeas P.length j hlt)
      clear q ts s0 s1 tb hp eq hlt bl hj
      go_wp2_with fail
      go_roundw
      case rel => exact ⟨by trivial, j + 1, i64_eq (by first | exact EQ.out | exact ej.trans EQ.out), HJ.out, by rw [TS1.out]; first | rfl | exact i64_eq w1⟩
      case measure => first | exact HM.out | (rw [ej]; exact HM.out)
    · obtain rfl : j = P.length := Nat.le_antisymm hj (Nat.le_of_not_lt hlt)
      have i1 : ¬ (P.length : Int) < (P.length : Int) := Int.lt_irrefl _
      rw [List.take_length, HS.out]
      clear hlt hj
      go_wp2_with fail
      clear mk mk2
      obtain ⟨w, rfl⟩ : ∃ w', w' = wr := ⟨_, rfl⟩
      go_loopw [34, 10] (fun t u wr => ∃ j : Nat, t = .int .i64 (j : Int) ∧ j ≤ P.length ∧ u = .int .i64 (Sp.misJ T P j) ∧ RowI wr w.heap.size (Sp.floJ T P j) ∧ RowI wr V.heap.size (Sp.remJ T P j) ∧ Below w.heap.size w wr) (fun t _ _ => P.length - (intOf t).toNat)
      case atStart => exact ⟨0, rfl, Nat.zero_le _, by simp [Sp.misJ], by rw [Sp.floJ_zero]; exact HW0.out, by rw [Sp.remJ_zero]; exact HW1.out, HB0.out⟩
      case round =>
        obtain ⟨j, rfl, hj, rfl, hR1, hR2, hB⟩ := hrel
        have HR1 := hid hR1
        have HR2 := hid hR2
        have HB := hid hB
        clear hR1 hR2 hB
        by_cases hlt : j < P.length
        · obtain ⟨b, off, rfl, bl, q⟩ := (HT.out.below HB.out) (by omega)
          have q0 := q j hlt
          have pf := PF.out j hlt
          have pb := HP.out _ (List.getElem_mem hlt)
          have ms := Sp.misJ_succ T P j hlt
          have m1 := MJ.out (j + 1) hlt
          rw [ms] at m1
          have fs := Sp.floJ_set T P j hlt
          have rs := Sp.remJ_set T P j hlt
          have rl := HR1.out.lt
          have rf := HR1.out.f
          have rc := HR1.out.c j (by rw [Sp.floJ_len]; exact hlt)
          have sl := HR2.out.lt
          have sf := HR2.out.f
          have sc := HR2.out.c j (by rw [Sp.remJ_len]; exact hlt)
          obtain ⟨Y, hY⟩ : ∃ Y, Sp.flo T (P[j]'hlt) = Y := ⟨_, rfl⟩
          obtain ⟨Z, hZ⟩ : ∃ Z, Sp.remK P T j = Z := ⟨_, rfl⟩
          have hY2 := hY
          have hZ2 := hZ
          unfold Sp.flo at hY2
          unfold Sp.remK at hZ2
          rw [Sp.getD_at j hlt] at hZ2
          rw [hY] at pf ms m1 fs
          rw [hZ] at rs
          have nV : ¬ w.heap.size = V.heap.size := by have := VZ.out; omega
          have nV2 : ¬ V.heap.size = w.heap.size := by omega
          have A1 := HR1.out.set j Y (by rw [Sp.floJ_len]; exact hlt)
          rw [fs] at A1
          have A2 : RowI ((wr.setCell ⟨w.heap.size, j, none⟩ (.int .i64 Y)).setCell ⟨V.heap.size, j, none⟩ (.int .i64 Z)) V.heap.size (Sp.remJ T P (j + 1)) := by
            have h : RowI (wr.setCell ⟨w.heap.size, j, none⟩ (.int .i64 Y)) V.heap.size (Sp.remJ T P j) := HR2.out.over nV _
            have h3 := h.set j Z (by rw [Sp.remJ_len]; exact hlt)
            rw [rs] at h3
            exact h3
          have A1' : RowI ((wr.setCell ⟨w.heap.size, j, none⟩ (.int .i64 Y)).setCell ⟨V.heap.size, j, none⟩ (.int .i64 Z)) w.heap.size (Sp.floJ T P (j + 1)) := A1.over nV2 _
          replace A1' := A1'.below (Below.refl _ _).drew
          replace A2 := A2.below (Below.refl _ _).drew
          have x1 := A1'.c j (by rw [Sp.floJ_len]; exact hlt)
          rw [Sp.floJ_get, if_pos (Nat.lt_succ_self _), Sp.getD_at j hlt, hY] at x1
          have BB : Below w.heap.size w ((wr.setCell ⟨w.heap.size, j, none⟩ (.int .i64 Y)).setCell ⟨V.heap.size, j, none⟩ (.int .i64 Z)).drew :=
            ((HB.out.setCell (p := ⟨w.heap.size, j, none⟩) (Nat.le_refl _) _).setCell (p := ⟨V.heap.size, j, none⟩) (Nat.le_of_lt VZ.out) _).drew
          obtain ⟨ZW, hZW⟩ : ∃ ZW, ((wr.setCell ⟨w.heap.size, j, none⟩ (.int .i64 Y)).setCell ⟨V.heap.size, j, none⟩ (.int .i64 Z)).drew = ZW := ⟨_, rfl⟩
          rw [hZW] at A1' A2 x1 BB
          have HZW := hid hZW
          have HA1 := hid A1'
          have HA2 := hid A2
          have HX1 := hid x1
          have HBB := hid BB
          have wl := (MJ.out P.length (Nat.le_refl _)).1
          have m0 := HMM.out
          have tb := TB.out
          obtain ⟨p, hp⟩ : ∃ p, P[j]'hlt = p := ⟨_, rfl⟩
          rw [hp] at q0 pf pb hY2 hZ2
          obtain ⟨X, hX⟩ : ∃ X, 1000000 * p = X := ⟨_, rfl⟩
          rw [hX] at pf hY2 hZ2
          rw [hZ2] at pf
          have MS := hid ms
          generalize Sp.misJ T P j = Q at m1 MS ⊢
          have w1 : wrap64 X = X := pw64 _ (by omega)
          have w2 : wrap64 Y = Y := pw64 _ (by omega)
          have w3 : wrap64 (Q - Y) = Q - Y := pw64 _ (by omega)
          have w4 : wrap64 Z = Z := pw64 _ (by omega)
          have wY : IntKind.i64.wrap Y = Y := pi64 _ (by omega)
          have wZ : IntKind.i64.wrap Z = Z := pi64 _ (by omega)
          obtain ⟨ej, eq, i0, i1⟩ := rjw j P.length hlt (by have := HL.out; omega)
          obtain ⟨x, hx⟩ : ∃ x, (Sp.floJ T P j)[j]'(by rw [Sp.floJ_len]; exact hlt) = x := ⟨_, rfl⟩
          rw [hx] at rc
          obtain ⟨y, hy⟩ : ∃ y, (Sp.remJ T P j)[j]'(by rw [Sp.remJ_len]; exact hlt) = y := ⟨_, rfl⟩
          rw [hy] at sc
          have EQ := hid eq
          have HJ := hid hlt
          have HM := hid (pmeas P.length j hlt)
          clear q pf pb m1 fs rs wl m0 tb hp eq hlt bl hx hy hj A1 A1' A2 x1 BB hZW hY hZ ms
          go_upto_region 13 with fail
          go_big_region
          rw [HZW.out]
          clear rl rf rc sl sf sc
          have x1 := HX1.out
          go_wp2_with fail
          go_roundw
          case rel => exact ⟨j + 1, i64_eq (by first | exact EQ.out | exact ej.trans EQ.out), HJ.out, by rw [MS.out]; first | rfl | exact i64_eq w3, HA1.out, HA2.out, HBB.out⟩
          case measure => first | exact HM.out | (rw [ej]; exact HM.out)
        · obtain rfl : j = P.length := Nat.le_antisymm hj (Nat.le_of_not_lt hlt)
          have i1 : ¬ (P.length : Int) < (P.length : Int) := Int.lt_irrefl _
          rw [HMM.out]
          obtain ⟨W2, rfl⟩ : ∃ W2, W2 = wr := ⟨_, rfl⟩
          clear hlt hj
          go_wp2_with fail
          go_loopw [10] (fun t wr => ∃ (k : Nat) (L R : List Int), k ≤ mm ∧ t = .int .i64 ((mm : Int) - (k : Int)) ∧ L.length = P.length ∧ Sp.bump L (((Sp.ordL (Sp.keyC (Sp.remK P T)) P.length).take mm).drop k) = F ∧ (∀ v ∈ L, 0 ≤ v ∧ v ≤ 2000000000000000 + (k : Int)) ∧ Sp.Rst (Sp.remK P T) P.length k R ∧ RowI wr w.heap.size L ∧ RowI wr V.heap.size R ∧ Below w.heap.size w wr) (fun t _ => (intOf t).toNat)
          case atStart =>
            refine ⟨0, _, _, Nat.zero_le _, by simp, Sp.floJ_len _ _ _, HF.out, fun v hv => ?_, Sp.rst_zero _ _, HR1.out, HR2.out, HB.out⟩
            unfold Sp.floJ at hv
            obtain ⟨i, hi, rfl⟩ := List.mem_map.1 hv
            have hi := List.mem_range.1 hi
            rw [if_pos hi, Sp.getD_at i hi]
            have pf := PF.out i hi
            have pb := HP.out _ (List.getElem_mem hi)
            have e0 : ((0 : Nat) : Int) = 0 := rfl
            rw [e0]
            omega
          case round =>
            obtain ⟨k, L, R, hk, rfl, hL, hbm, hvb, hRs, hR1, hR2, hB⟩ := hrel
            have HL1 := hid hR1
            have HL2 := hid hR2
            have HB3 := hid hB
            have HRS := hid hRs
            clear hR1 hR2 hB
            by_cases hlt : k < mm
            · generalize hlf : (mm : Int) - (k : Int) = lf
              have i1 : (0 : Int) < lf := by omega
              have mw : wrap64 (lf - 1) = lf - 1 := pw64 _ (by have := ML.out; have := HL.out; omega)
              have LF := hid hlf
              have RL : R.length = P.length := hRs.1
              have n0 : 0 < P.length := by have := ML.out; omega
              have HBM := hid hbm
              have HVB := hid hvb
              have HLL := hid hL
              have HRL := hid RL
              have N0 := hid n0
              have KT := hid hlt
              have MW := hid mw
              obtain ⟨W3, rfl⟩ : ∃ W3, W3 = wr := ⟨_, rfl⟩
              clear hbm hvb hL hRs hlt hk RL n0 mw hlf
              go_wp2_with fail
              clear i1
              go_loopw [68, 13] (fun t u wr => ∃ i b : Nat, t = .int .i64 (i : Int) ∧ u = .int .i64 (b : Int) ∧ i ≤ P.length ∧ ∃ hb : b < R.length, (∀ x, (hx : x < R.length) → x < i → R[x] ≤ R[b]) ∧ (∀ x, (hx : x < R.length) → x < b → R[x] < R[b]) ∧ Below W3.heap.size W3 wr) (fun t _ _ => P.length - (intOf t).toNat)
              case atStart => exact ⟨0, 0, rfl, rfl, Nat.zero_le _, by rw [HRL.out]; exact N0.out, fun x _ h => absurd h (Nat.not_lt_zero _), fun x _ h => absurd h (Nat.not_lt_zero _), Below.refl _ _⟩
              case round =>
                obtain ⟨i, b, rfl, rfl, hi, hb, le, lt, hB⟩ := hrel
                have R2 := HL2.out.below hB
                by_cases hlt : i < P.length
                · have ir : i < R.length := by rw [HRL.out]; exact hlt
                  have ci := R2.c i ir
                  have cb := R2.c b hb
                  have rl := R2.lt
                  have LE := hid le
                  have LT := hid lt
                  have BB := hid (hB.drew)
                  have IR := hid ir
                  have HB4 := hid hb
                  have b0 : (b : Int) < (P.length : Int) := by have := HRL.out; omega
                  obtain ⟨p, hp⟩ : ∃ p, R[i]'ir = p := ⟨_, rfl⟩
                  obtain ⟨q, hq⟩ : ∃ q, R[b]'hb = q := ⟨_, rfl⟩
                  rw [hp] at ci
                  rw [hq] at cb
                  have HP4 := hid hp
                  have HQ4 := hid hq
                  obtain ⟨ei, eq, i2, i3⟩ := rjw i P.length hlt (by have := HL.out; omega)
                  have EQ := hid eq
                  have HJ := hid hlt
                  have HM := hid (pmeas P.length i hlt)
                  clear R2 hp hq le lt hB eq hi
                  by_cases c : q < p
                  · go_upto_region 22 with fail
                    go_still (by rfl)
                    clear ci cb
                    go_wp2_with fail
                    go_roundw
                    case rel =>
                      refine ⟨i + 1, i, i64_eq (by first | exact EQ.out | exact ei.trans EQ.out), rfl, HJ.out, IR.out, fun x hx h => ?_, fun x hx h => ?_, BB.out⟩
                      · rcases Nat.lt_or_ge x i with z | z
                        · have := LE.out x hx z
                          rw [HP4.out]
                          rw [HQ4.out] at this
                          omega
                        · obtain rfl : x = i := by omega
                          exact Int.le_refl _
                      · have := LE.out x hx h
                        rw [HP4.out]
                        rw [HQ4.out] at this
                        omega
                    case measure => first | exact HM.out | (rw [ei]; exact HM.out)
                  · go_upto_region 22 with fail
                    go_still (by rfl)
                    clear ci cb
                    go_wp2_with fail
                    go_roundw
                    case rel =>
                      refine ⟨i + 1, b, i64_eq (by first | exact EQ.out | exact ei.trans EQ.out), rfl, HJ.out, HB4.out, fun x hx h => ?_, LT.out, BB.out⟩
                      rcases Nat.lt_or_ge x i with z | z
                      · exact LE.out x hx z
                      · obtain rfl : x = i := by omega
                        rw [HP4.out, HQ4.out]
                        omega
                    case measure => first | exact HM.out | (rw [ei]; exact HM.out)
                · obtain rfl : i = P.length := Nat.le_antisymm hi (Nat.le_of_not_lt hlt)
                  have i2 : ¬ (P.length : Int) < (P.length : Int) := Int.lt_irrefl _
                  have pk := Sp.pick HRS.out (by have := KT.out; have := ML.out; omega) hb KP.out (fun x hx => le x hx (by have := HRL.out; omega)) lt
                  have hbm := HBM.out
                  have ol : (Sp.ordL (Sp.keyC (Sp.remK P T)) P.length).length = P.length := Sp.ordL_len _ _
                  have ko : k < (Sp.ordL (Sp.keyC (Sp.remK P T)) P.length).length := by have := KT.out; have := ML.out; omega
                  have kt : k < ((Sp.ordL (Sp.keyC (Sp.remK P T)) P.length).take mm).length := by rw [List.length_take]; have := KT.out; omega
                  rw [List.drop_eq_getElem_cons kt, List.getElem_take, Sp.ordL_at, ← pk] at hbm
                  unfold Sp.bump at hbm
                  have bl : b < L.length := by have := HLL.out; have := HRL.out; omega
                  rw [Int.toNat_natCast, Sp.getD_at b bl] at hbm
                  have RS := Sp.rst_succ HRS.out pk
                  have vb := HVB.out _ (List.getElem_mem bl)
                  obtain ⟨W4, rfl⟩ : ∃ W4, W4 = wr := ⟨_, rfl⟩
                  have R1 := HL1.out.below hB
                  have R2 := HL2.out.below hB
                  have rl := R1.lt
                  have rf := R1.f
                  have rc := R1.c b bl
                  have sl := R2.lt
                  have sf := R2.f
                  have sc := R2.c b hb
                  have nV : ¬ w.heap.size = V.heap.size := by have := VZ.out; omega
                  have nV2 : ¬ V.heap.size = w.heap.size := by omega
                  obtain ⟨x, hx⟩ : ∃ x, L[b]'bl = x := ⟨_, rfl⟩
                  rw [hx] at rc hbm vb
                  obtain ⟨y, hy⟩ : ∃ y, R[b]'hb = y := ⟨_, rfl⟩
                  rw [hy] at sc
                  have A1 := hid ((R1.set b (x + 1) bl).over nV2 (.int .i64 (-1)) (p := b))
                  have A2 := hid ((R2.over nV (.int .i64 (x + 1)) (p := b)).set b (-1) hb)
                  have wx : wrap64 (x + 1) = x + 1 := pw64 _ (by have := KT.out; have := ML.out; have := HL.out; omega)
                  have b0 : (0 : Int) ≤ (b : Int) := by omega
                  have b1 : (b : Int) < (P.length : Int) := by have := HRL.out; omega
                  have VB := hid (Sp.set_le (p := b) HVB.out vb)
                  have BB := hid (((HB3.out.trans (hB.mono HB3.out.size)).setCell (p := ⟨w.heap.size, b, none⟩) (Nat.le_refl _) (.int .i64 (x + 1))).setCell (p := ⟨V.heap.size, b, none⟩) (Nat.le_of_lt VZ.out) (.int .i64 (-1)))
                  have HBM2 := hid hbm
                  have RS2 := hid RS
                  have LL := hid (show (L.set b (x + 1)).length = P.length by rw [List.length_set]; exact HLL.out)
                  have em : lf - 1 = (mm : Int) - ((k + 1 : Nat) : Int) := by have := LF.out; omega
                  have EM := hid (MW.out.trans em)
                  have ME := hid (show (lf - 1).toNat < lf.toNat by have := KT.out; have := LF.out; omega)
                  have mw := MW.out
                  have KN := hid (show k + 1 ≤ mm from KT.out)
                  clear R1 R2 hbm RS vb hx hy hB le lt hlt hi ko kt ol pk em
                  go_wp2_with fail
                  go_roundw
                  case rel => exact ⟨k + 1, _, _, KN.out, (by first | exact i64_eq EM.out | (rw [mw] at *; exact i64_eq (MW.out.symm.trans EM.out))), LL.out, HBM2.out, VB.out, RS2.out, A1.out, A2.out, BB.out⟩
                  case measure => first | exact ME.out | (rw [mw]; exact ME.out) | (simp only [intOf]; first | exact ME.out | (rw [mw]; exact ME.out))
            · obtain rfl : k = mm := Nat.le_antisymm hk (Nat.le_of_not_lt hlt)
              have i1 : ¬ (0 : Int) < (k : Int) - (k : Int) := by omega
              rw [List.drop_eq_nil_of_le (by rw [List.length_take]; omega)] at hbm
              have HFL := hid (show L = F from hbm)
              have HLL := hid hL
              clear hbm hlt hk hvb hL hRs
              go_wp2_with fail
              go_ret
              first | refine ⟨HB3.out, _, _, rfl, ?_⟩ | refine ⟨HB3.out, some ⟨w.heap.size, 0, none⟩, ⟨_, rfl⟩, ?_⟩
              rw [← HFL.out]
              exact HL1.out.ints
end Go.Proofs.Ytmdaanigkhikfab
