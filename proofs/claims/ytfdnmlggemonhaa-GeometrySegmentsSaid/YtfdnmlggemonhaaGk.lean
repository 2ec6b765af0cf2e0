/-
  Layer 7: slices.Contains of points, slices.SortFunc of at most 12 numbers, Order of package geometry, by contract.
-/
import Derived.Test.YtfdnmlggemonhaaGj
import Derived.Laws.MakeOwn
namespace Go.Proofs.Ytfdnmlggemonhaa
open Go.RowKit
set_option linter.unusedVariables false
set_option linter.unusedSimpArgs false

def IdxRel (w : World) (o : Sp.Pt) (l : List Sp.Pt) (R : Bool) (t : Value) (wr : World) : Prop := ∃ j : Nat, t = .int .i64 (j : Int) ∧ j ≤ l.length ∧ (l.drop j).any (fun p => decide (p = o)) = R ∧ Below w.heap.size w wr
set_option maxRecDepth 100000 in
set_option maxHeartbeats 2000000 in
theorem index_any (o : Sp.Pt) (A : Option Addr) (c : Nat) (l : List Sp.Pt) (hl : l.length ≤ 64) (w : World) (T : Pts w A l) :
    Calls Try.prog 66 #[.slice A l.length c, .agg #[.int .i64 o.1, .int .i64 o.2]] w fun e w' => ∃ r : Int, e = .returned (.int .i64 r) ∧ decide (0 ≤ r) = l.any (fun p => decide (p = o)) ∧ Below w.heap.size w w' := by
  obtain ⟨R, hR⟩ : ∃ R, l.any (fun p => decide (p = o)) = R := ⟨_, rfl⟩
  rw [hR]
  have HR := hid hR
  have TT := hid T
  have LE := hid hl
  clear T hR hl
  obtain ⟨V, hV⟩ : ∃ V : World, w.alloc (Obj.cells #[.int .i64 (o.1), .int .i64 (o.2)] 23) = V := ⟨_, rfl⟩
  have bV : Below w.heap.size w V := by rw [← hV]; exact (Below.refl _ _).alloc (Nat.le_refl _) _
  have zV : V.heap.size = w.heap.size + 1 := by rw [← hV]; simp
  have K : Hid (∀ W' : World, Below V.heap.size V W' → W'.cell? ⟨w.heap.size, 0, none⟩ = some (.int .i64 o.1) ∧ W'.cell? ⟨w.heap.size, 1, none⟩ = some (.int .i64 o.2)) := hid fun W' B =>
    ⟨(B.cell (p := ⟨w.heap.size, 0, none⟩) (by simp only; omega)).trans (by rw [← hV]; simp [go_sem]), (B.cell (p := ⟨w.heap.size, 1, none⟩) (by simp only; omega)).trans (by rw [← hV]; simp [go_sem])⟩
  have TV := hid (TT.out.below bV)
  have BV := hid bV
  have HV := hid hV
  have ZV := hid zV
  clear bV hV zV
  obtain ⟨o1, o2⟩ := o
  dsimp only at *
  go_enter Try.func66, Try.ntmps66
  go_upto_region 1 with fail
  rw [HV.out]
  go_wp2_with fail
  go_loopw [8] (fun t wr => IdxRel V (o1, o2) l R t wr) (fun t _ => l.length - (intOf t).toNat)
  case atStart => exact ⟨0, rfl, Nat.zero_le _, HR.out, Below.refl _ _⟩
  case round =>
    obtain ⟨j, rfl, hj, hd, hB⟩ := hrel
    have HD := hid hd
    have HB := hid hB
    clear hd hB
    by_cases hlt : j < l.length
    · obtain ⟨b, off, rfl, bl, q0, q1⟩ := TV.out.at_ HB.out hlt
      obtain ⟨k0, k1⟩ := K.out _ HB.out
      have hd := HD.out
      rw [List.drop_eq_getElem_cons hlt, List.any_cons] at hd
      obtain ⟨⟨px, py⟩, hp⟩ : ∃ c1, l[j]'hlt = c1 := ⟨_, rfl⟩
      rw [hp] at q0 q1 hd
      dsimp only at q0 q1
      have HX := hid hd
      have i0 : (0 : Int) ≤ (j : Int) := by omega
      have i1 : (j : Int) < (l.length : Int) := by omega
      have i2 : (l.length : Int) ≤ 64 := by have := LE.out; omega
      have HJ := hid hlt
      clear hd hp
      by_cases c1 : o1 = px
      · subst c1
        by_cases c2 : o2 = py
        · subst c2
          have HF : Hid (R = true) := by
            have h := HX.out
            show _ = _
            simpa using h.symm
          go_wp2_with fail
          go_region
          all_goals
            simp only [Exit.then]
            go_at_K
            go_wp2_with fail
            go_ret
            exact ⟨_, rfl, by rw [HF.out]; simp, (BV.out.trans (HB.out.mono BV.out.size)).drew⟩
        · have HF : Hid ((l.drop (j + 1)).any (fun p => decide (p = (o1, o2))) = R) := by
            have h := HX.out
            have ne : ¬ ((o1, py) = ((o1, o2) : Sp.Pt)) := fun e => c2 (Prod.mk.inj e).2.symm
            rw [decide_eq_false ne, Bool.false_or] at h
            exact h
          go_wp2_with fail
          go_region
          all_goals
            simp only [Exit.then]
            go_at_K
            go_wp2_with fail
            go_roundw
            case rel => exact ⟨j + 1, by go_num, HJ.out, HF.out, HB.out.drew⟩
            case measure => exact smeas _ _ HJ.out
      · have HF : Hid ((l.drop (j + 1)).any (fun p => decide (p = (o1, o2))) = R) := by
          have h := HX.out
          have ne : ¬ ((px, py) = ((o1, o2) : Sp.Pt)) := fun e => c1 (Prod.mk.inj e).1.symm
          rw [decide_eq_false ne, Bool.false_or] at h
          exact h
        go_wp2_with fail
        go_region
        all_goals
          simp only [Exit.then]
          go_at_K
          go_wp2_with fail
          go_roundw
          case rel => exact ⟨j + 1, by go_num, HJ.out, HF.out, HB.out.drew⟩
          case measure => exact smeas _ _ HJ.out
    · have i1 : ¬ (j : Int) < (l.length : Int) := by omega
      have HF : Hid (R = false) := by
        have h := HD.out
        rw [List.drop_eq_nil_of_le (by omega)] at h
        exact h.symm
      go_wp2_with fail
      go_ret
      exact ⟨_, rfl, by rw [HF.out]; rfl, BV.out.trans (HB.out.mono BV.out.size)⟩
set_option maxRecDepth 100000 in
set_option maxHeartbeats 2000000 in
theorem contains_any (o : Sp.Pt) (A : Option Addr) (c : Nat) (l : List Sp.Pt) (hl : l.length ≤ 64) (w : World) (T : Pts w A l) :
    Calls Try.prog 57 #[.slice A l.length c, .agg #[.int .i64 o.1, .int .i64 o.2]] w (Gives (.bool (l.any (fun p => decide (p = o)))) w) := by
  have ix := fun (W : World) (T : Pts W A l) => index_any o A c l hl W T
  have bA := (Below.refl w.heap.size w).alloc (Nat.le_refl _) (Obj.cells #[.int .i64 (o.1), .int .i64 (o.2)] 23)
  have TV := hid (T.below bA)
  have BA := hid bA
  generalize l.any (fun p => decide (p = o)) = R at ix ⊢
  obtain ⟨o1, o2⟩ := o
  dsimp only at *
  clear T bA
  go_enter Try.func57, Try.ntmps57
  go_wp2_with fail
  refine (ix _ TV.out).mono ?_
  rintro _ u1 ⟨r, rfl, hr, hb⟩
  have HR := hid hr
  have BB := hid (BA.out.trans (hb.mono BA.out.size))
  clear hr hb
  go_wp2_with fail
  go_ret
  exact Gives.mk (congrArg Value.bool HR.out.symm) BB.out
set_option maxRecDepth 100000 in
set_option maxHeartbeats 4000000 in
theorem pdq_small (v : Value) (n c b lim : Nat) (w : World) (post : World → Prop) (n1 : 1 ≤ n) (n2 : n ≤ 12) (hlim : lim ≤ 64)
    (hI : Calls Try.prog 77 #[.slice (some ⟨b, 0, none⟩) n c, .int .i64 0, .int .i64 (n : Int), .func (.func 59) #[v] #[]] w fun e w' => e = .returned (.tuple #[]) ∧ post w') :
    Calls Try.prog 67 #[.slice (some ⟨b, 0, none⟩) n c, .int .i64 0, .int .i64 (n : Int), .int .i64 (lim : Int), .func (.func 59) #[v] #[]] w fun e w' => e = .returned (.tuple #[]) ∧ post w' := by
  have i1 : (1 : Int) ≤ (n : Int) := by omega
  have i2 : (n : Int) ≤ 12 := by omega
  clear n1 n2
  go_enter Try.func67, Try.ntmps67
  go_wp2_with fail
  refine wp_loop_rounds 1 ?_
  rw [rounds_succ]
  go_wp2_with fail
  refine hI.mono ?_
  rintro _ u1 ⟨rfl, hp⟩
  have HP := hid hp
  clear hp hI
  go_wp2_with fail
  refine bodyPost_ret (v := .tuple #[]) (by simp [results, Try.results67, go_sem]) rfl ?_
  exact ⟨rfl, HP.out⟩
set_option maxRecDepth 100000 in
set_option maxHeartbeats 4000000 in
theorem sortf_small (v : Value) (n c b : Nat) (w : World) (post : World → Prop) (n1 : 1 ≤ n) (n2 : n ≤ 12)
    (hI : Calls Try.prog 77 #[.slice (some ⟨b, 0, none⟩) n c, .int .i64 0, .int .i64 (n : Int), .func (.func 59) #[v] #[]] w fun e w' => e = .returned (.tuple #[]) ∧ post w') :
    Calls Try.prog 58 #[.slice (some ⟨b, 0, none⟩) n c, .func (.func 59) #[v] #[]] w fun e w' => e = .returned (.tuple #[]) ∧ post w' := by
  have bl := Try.bits_Len (n : Int) w (by omega) (by omega)
  have hlim : Lib.bitLen (n : Int).toNat ≤ 64 := Lib.bitLen_le _ 64 (by omega) (by omega)
  have pd := pdq_small v n c b (Lib.bitLen (n : Int).toNat) w post n1 n2 hlim hI
  generalize Lib.bitLen (n : Int).toNat = lim at bl pd
  have i1 : (1 : Int) ≤ (n : Int) := by omega
  have i2 : (n : Int) ≤ 12 := by omega
  have e1 : IntKind.u64.wrap (n : Int) = (n : Int) := by simp [IntKind.wrap, IntKind.bits, IntKind.signed]; omega
  clear n1 n2 hI hlim
  go_enter Try.func58, Try.ntmps58
  go_wp2_with fail
  refine bl.mono ?_
  rintro _ u1 ⟨rfl, rfl⟩
  go_wp2_with fail
  refine pd.mono ?_
  rintro _ u1 ⟨rfl, hp⟩
  have HP := hid hp
  clear hp pd bl
  go_wp2_with fail
  go_end0
  exact ⟨rfl, HP.out⟩
/-- What Order answers where nothing is wrong: a row of its own. -/
def fillF (j : Nat) : Nat → Nat := fun k => if k < j then k else 0
def FillRel (w : World) (b n : Nat) (t : Value) (wr : World) : Prop := ∃ j : Nat, t = .int .i64 (j : Int) ∧ j ≤ n ∧ SortW w b n (fillF j) wr
theorem row_set {w : World} {b n : Nat} {d : Nat → Nat} (h : Row w b n d) (j v : Nat) : Row (w.setCell ⟨b, j, none⟩ (.int .i64 (v : Int))) b n (fun k => if k = j then v else d k) := by
  refine ⟨by simpa using h.lt, fun k hk => ?_, fun o => by simp [h.f o]⟩
  by_cases c : k = j
  · subst c
    rw [if_pos rfl]
    exact World.cell?_setCell_same _ _ _ (h.c _ hk)
  · rw [if_neg c, World.cell?_setCell_other (h := fun e => c (Addr.mk.inj e).2.1.symm)]
    exact h.c k hk
theorem ginfo : (Try.prog.info? 3).map (fun i => (i.zero, i.size, i.bytes)) = some (some (.int .i64 0), 1, 8) := by kernel_rfl
theorem gmake (n : Nat) (hn : n ≤ 64) : ∃ M : Array Value, (∀ k, k < n → M[k]? = some (.int .i64 0)) ∧ ∀ W : World, (Instr.makeSlice 44 (.int .i64 (n : Int)) (.int .i64 (n : Int))).run Try.prog W = .ok (.slice (some ⟨W.heap.size, 0, none⟩) n n) (W.alloc (.cells M 3)) := by
  obtain ⟨i, hi, z0, z1, z2⟩ := info_parts ginfo
  refine ⟨madeCells (Value.int .i64 0).cells (n * 1), fun k hk => ?_, fun W => ?_⟩
  · have h : (Value.int .i64 0).cells = #[Value.int .i64 0] := rfl
    rw [h, Nat.mul_one, ← Array.getElem?_toList, toList_madeCells_one]
    simp [hk]
  · have h := run_makeSlice (P := Try.prog) (w := W) 44 3 i (.int .i64 0) Try.underlying44 hi z0 .i64 .i64 (n : Int) (n : Int) (by omega) (Int.le_refl _) (by rw [z1]; omega) (by rw [z2]; omega) (by omega)
    rw [z1] at h
    simpa only [Int.toNat_natCast] using h
set_option maxRecDepth 100000 in
set_option maxHeartbeats 4000000 in
theorem order_good (o : Sp.Pt) (ho : Sp.okP o = true) (l : List Sp.Pt) (A : Option Addr) (c : Nat) (hl : l.length ≤ 64) (hall : Sp.chkL l = 0) (hno : l.any (fun p => decide (p = o)) = false) (D : Nat → Nat) (w : World) (T : Pts w A l)
    (hS : ∀ (W : World) (b : Nat), w.heap.size ≤ b → Below w.heap.size w W → Row W b l.length (fillF l.length) →
      Calls Try.prog 58 #[.slice (some ⟨b, 0, none⟩) l.length l.length, .func (.func 59) #[.agg #[.int .i64 o.1, .int .i64 o.2, .slice A l.length c]] #[]] W fun e w' => e = .returned (.tuple #[]) ∧ SortW W b l.length D w') :
    Calls Try.prog 31 #[.agg #[.int .i64 o.1, .int .i64 o.2], .slice A l.length c] w fun e w' => ∃ b, e = .returned (.tuple #[.slice (some ⟨b, 0, none⟩) l.length l.length, .int .i64 0]) ∧ w.heap.size ≤ b ∧ Row w' b l.length D ∧ Below w.heap.size w w' := by
  have ck := fun (W : World) T => chk_any (some ⟨w.heap.size + 1, 0, none⟩) 1 [o] (by simp) W T 0 (Sp.chkL_good (by simpa using ho))
  have K6 := fun (W : World) => Pts.mk1 (g := w.heap.size + 1) (w := W) (a := o)
  have ck2 := fun (W : World) (T : Pts W A l) => chk_any A c l (by omega) W T 0 hall
  have cn := fun (W : World) (T : Pts W A l) => contains_any o A c l hl W T
  rw [hno] at cn
  obtain ⟨M, hM, hmk⟩ := gmake l.length hl
  have l2 : (l.length : Int) ≤ 64 := by omega
  have TT := hid T
  have HS := hid hS
  have HM := hid hM
  clear T hS hM ho hall hno
  obtain ⟨o1, o2⟩ := o
  dsimp only at *
  go_enter Try.func31, Try.ntmps31
  go_wp2_with fail
  refine (ck _ (K6 _ (by simp) (by simp [go_sem]) (by simp [go_sem]))).mono ?_
  rintro _ u1 ⟨rfl, hb⟩
  have pz : w.heap.size < (u1).heap.size := Nat.lt_of_lt_of_le (show w.heap.size < _ from (by first | assumption | (simp; done) | (simp; omega) | (dsimp only; omega) | omega)) hb.size; have p0 : (u1).cell? ⟨w.heap.size, 0, none⟩ = some (.int .i64 (o1)) := (hb.cell (p := ⟨w.heap.size, 0, none⟩) (by first | assumption | (simp; done) | (simp; omega) | (dsimp only; omega) | omega)).trans (by first | assumption | (simp [go_sem]; done) | (simp [go_sem, *]; done)); have p1 : (u1).cell? ⟨w.heap.size, 1, none⟩ = some (.int .i64 (o2)) := (hb.cell (p := ⟨w.heap.size, 1, none⟩) (by first | assumption | (simp; done) | (simp; omega) | (dsimp only; omega) | omega)).trans (by first | assumption | (simp [go_sem]; done) | (simp [go_sem, *]; done))
  have B1 : Below w.heap.size w u1 := by repeat' (first | (with_reducible exact Below.refl _ _) | (with_reducible refine Below.alloc ?_ ?_ _) | (with_reducible refine Below.setCell ?_ ?_ _) | (with_reducible refine Below.drew ?_) | (with_reducible refine Below.trans ?_ (Below.mono (by assumption) ?_)) | (simp; done) | (simp; omega) | omega)
  have BH1 := hid B1
  clear hb ck K6 B1
  go_wp2_with fail
  refine (ck2 _ (TT.out.below BH1.out)).mono ?_
  rintro _ u2 ⟨rfl, hb⟩
  have q0 := (hb.cell (p := ⟨w.heap.size, 0, none⟩) pz).trans p0
  have q1 := (hb.cell (p := ⟨w.heap.size, 1, none⟩) pz).trans p1
  have qz : w.heap.size < u2.heap.size := Nat.lt_of_lt_of_le pz hb.size
  have BH2 := hid (BH1.out.trans (hb.mono BH1.out.size))
  clear hb ck2 pz p0 p1
  go_wp2_with fail
  refine (cn _ (TT.out.below BH2.out)).mono ?_
  rintro _ u3 ⟨rfl, hb⟩
  have r0 := (hb.cell (p := ⟨w.heap.size, 0, none⟩) qz).trans q0
  have r1 := (hb.cell (p := ⟨w.heap.size, 1, none⟩) qz).trans q1
  have rz : w.heap.size < u3.heap.size := Nat.lt_of_lt_of_le qz hb.size
  have BH3 := hid (BH2.out.trans (hb.mono BH2.out.size))
  clear hb cn qz q0 q1
  go_wp2_with fail
  go_loopw [28] (fun t wr => FillRel (u3.alloc (.cells M 3)) u3.heap.size l.length t wr) (fun t _ => l.length - (intOf t).toNat)
  case atStart =>
    refine ⟨0, rfl, Nat.zero_le _, ⟨by simp, fun k hk => ?_, fun o => by simp [go_sem]⟩, Below.refl _ _⟩
    have := HM.out k hk
    simp [go_sem, fillF, this]
  case round =>
    obtain ⟨j, rfl, hj, hS⟩ := hrel
    have HR := hid hS
    clear hS
    by_cases hlt : j < l.length
    · have x0 := HR.out.row.c j hlt
      have xf := HR.out.row.f j
      have i0 : (0 : Int) ≤ (j : Int) := by omega
      have i1 : (j : Int) < (l.length : Int) := by omega
      have HL := hid hlt
      clear hlt
      go_wp2_with fail
      go_roundw
      case rel =>
        refine ⟨j + 1, by go_num, HL.out, ?_, Below.setCell HR.out.bw (Nat.le_refl _) _⟩
        have h := row_set HR.out.row j j
        have e : (fun k => if k = j then j else fillF j k) = fillF (j + 1) := by
          funext k
          unfold fillF
          by_cases c1 : k = j
          · subst c1; simp
          · by_cases c2 : k < j
            · rw [if_neg c1, if_pos c2, if_pos (by omega)]
            · rw [if_neg c1, if_neg c2, if_neg (by omega)]
        rw [e] at h
        exact h
      case measure => exact smeas _ _ HL.out
    · have e1 : j = l.length := by omega
      subst e1
      have i1 : ¬ (l.length : Int) < (l.length : Int) := by omega
      have ha : Below u3.heap.size u3 (u3.alloc (.cells M 3)) := (Below.refl _ _).alloc (Nat.le_refl _) _
      have s0 := (HR.out.bw.cell (p := ⟨w.heap.size, 0, none⟩) rz).trans ((ha.cell (p := ⟨w.heap.size, 0, none⟩) rz).trans r0)
      have s1 := (HR.out.bw.cell (p := ⟨w.heap.size, 1, none⟩) rz).trans ((ha.cell (p := ⟨w.heap.size, 1, none⟩) rz).trans r1)
      have BW := hid (BH3.out.trans ((ha.trans HR.out.bw).mono BH3.out.size))
      have sf := HS.out wr u3.heap.size (Nat.le_of_lt rz) BW.out HR.out.row
      clear ha r0 r1
      go_wp2_with fail
      refine sf.mono ?_
      rintro _ u4 ⟨rfl, hs⟩
      have HT := hid hs
      clear hs sf s0 s1
      go_wp2_with fail
      refine bodyPost_ret (v := .tuple #[.slice (some ⟨u3.heap.size, 0, none⟩) l.length l.length, .int .i64 0]) (by simp [results, Try.results31, go_sem]) rfl ?_
      exact ⟨_, rfl, Nat.le_of_lt rz, HT.out.row, BW.out.trans (HT.out.bw.mono (Nat.le_of_lt rz))⟩
end Go.Proofs.Ytfdnmlggemonhaa
