/-
  Layer 16: Order, Top of package treelist at lists of at most 19 trees, by contract. Written by tools/gen_le.py.
-/
import Derived.Test.YtmdaanigkhikfabLd
import Derived.Test.YtmdaanigkhikfabFnew
namespace Go.Proofs.Ytmdaanigkhikfab
open Go.RowKit
set_option linter.unusedVariables false
set_option linter.unusedSimpArgs false
theorem islice_to (A : Option Addr) (k cap m : Nat) (hm : m ≤ cap) (W : World) :
    (Instr.slice 31 (.slice A k cap) none (some (.int .i64 (m : Int))) none).run Try.prog W = .ok (.slice A m cap) W := by
  rw [run_slice_h W 31 A k cap Try.underlying31 .i64 (m : Int) (by omega) (by omega)]
  have hs : (sizeOf (Try.prog.elem 31)).run Try.prog W = .ok 1 W := by kernel_rfl
  rw [hs]
  have e0 : A.map (·.add 0) = A := by cases A <;> simp [Addr.add]
  simp [Result.andThen, sliced, e0]
/-- The diameter of a tree. -/
def Sp.dia (l : List Sp.Te) (k : Nat) : Int := (l[k]?).elim 0 (·.d)
theorem Sp.dia_at (l : List Sp.Te) (k : Nat) (h : k < l.length) : Sp.dia l k = (l[k]).d := by unfold Sp.dia; rw [List.getElem?_eq_getElem h]; rfl
/-- How the trees are compared. -/
def Sp.keyC (key : Nat → Int) (i j : Nat) : Int := Lib.compareInt (key j) (key i)
set_option maxRecDepth 100000 in
theorem lord1_any (A : Option Addr) (cap g k : Nat) (l : List Sp.Te) (W : World) (hk : k < l.length) (hT : Trs W A l) (hg : W.cell? ⟨g, 0, none⟩ = some (.slice A l.length cap)) :
    Calls Try.prog 42 #[.int .i64 (k : Int), .pointer (some ⟨g, 0, none⟩)] W (fun e w' => e = .returned (.int .i64 (Sp.dia l k)) ∧ ∃ q, w' = W.drewN q) := by
  rw [Sp.dia_at l k hk]
  obtain ⟨b, off, rfl, bl, q⟩ := hT (by omega)
  obtain ⟨-, q1, -, -⟩ := q k hk
  have i0 : (0 : Int) ≤ (k : Int) := by omega
  have i1 : (k : Int) < (l.length : Int) := by omega
  generalize l[k].d = D at q1 ⊢
  clear q hT hk
  go_enter Try.func42, Try.ntmps42
  go_wp2_with fail
  go_ret
  exact ⟨rfl, 0, rfl⟩
set_option maxRecDepth 100000 in
set_option maxHeartbeats 2000000 in
theorem ldcl_ord (g : Nat) (G : Nat) (key : Nat → Int) (n i j : Nat) (W : World) (hg : W.cell? ⟨g, 0, none⟩ = some (.func (.func 42) #[] #[.pointer (some ⟨G, 0, none⟩)])) (hi : i < n) (hj : j < n)
    (VAL : ∀ (m k : Nat), k < n → Calls Try.prog 42 #[.int .i64 (k : Int), .pointer (some ⟨G, 0, none⟩)] (W.drewN m) (fun e w' => e = .returned (.int .i64 (key k)) ∧ ∃ q, w' = (W.drewN m).drewN q)) :
    Calls Try.prog 57 #[.int .i64 (i : Int), .int .i64 (j : Int), .pointer (some ⟨g, 0, none⟩)] W (Gives (.int .i64 (Lib.compareInt (key j) (key i))) W) := by
  have V1 := hid (fun m => VAL m i hi)
  have V2 := hid (fun m => VAL m j hj)
  obtain ⟨x, hx⟩ : ∃ x, key i = x := ⟨_, rfl⟩
  obtain ⟨y, hy⟩ : ∃ y, key j = y := ⟨_, rfl⟩
  rw [hx, hy]
  rw [hx] at V1
  rw [hy] at V2
  have CM := hid (fun W => Try.cmp_Compare_int y x W)
  generalize Lib.compareInt y x = r at CM ⊢
  clear VAL hi hj hx hy
  go_enter Try.func57, Try.ntmps57
  go_wp2_with fail
  go_quiet (first
    | (go_at_call 42; first | (with_reducible exact Calls.quiet_of (V2.out _)) | (with_reducible exact Calls.quiet_of (V1.out _)))
    | (go_at_call 58; with_reducible exact Calls.quiet_of_same (CM.out _)))
  go_wp2_with fail
  go_ret
  exact Gives.mk rfl (below_dn (Below.refl _ _) _)
set_option maxRecDepth 100000 in
set_option maxHeartbeats 1000000 in
theorem lorder_any (A : Option Addr) (cap : Nat) (l : List Sp.Te) (w : World) (hl : l.length ≤ 19) (hT : Trs w A l) (hE : (Sp.sqS l).2 = 0) :
    Calls Try.prog 20 #[.slice A l.length cap] w (fun e w' => Below w.heap.size w w' ∧ ∃ B c, e = .returned (.tuple #[.slice B l.length c, .int .i64 0]) ∧ l.length ≤ c ∧ Ints w' B (Sp.ordL (Sp.keyC (Sp.dia l)) l.length)) := by
  obtain ⟨V, hV⟩ : ∃ V, w.alloc (.cells #[.slice A l.length cap] 23) = V := ⟨_, rfl⟩
  have bV : Below w.heap.size w V := by rw [← hV]; exact balloc _ _
  have vz : w.heap.size < V.heap.size := by rw [← hV]; simp
  have v0 : V.cell? ⟨w.heap.size, 0, none⟩ = some (.slice A l.length cap) := by rw [← hV]; simp [go_sem]
  obtain ⟨S, hS⟩ : ∃ S, (Sp.sqS l).1 = S := ⟨_, rfl⟩
  have SQ := hid (lsquares_any A cap l S 0 V (by omega) (hT.below bV) (by rw [← hS, ← hE]))
  have KC := hid (fun W (hb : Below V.heap.size V W) => (hb.cell (p := ⟨w.heap.size, 0, none⟩) vz).trans v0)
  have DE := hid (fun (W : World) (hb : Below V.heap.size V W) => ldesc_any 42 #[.pointer (some ⟨w.heap.size, 0, none⟩)] (Sp.keyC (Sp.dia l)) l.length W hl (fun W' g hb' hg i j hi hj =>
    ldcl_ord g w.heap.size (Sp.dia l) l.length i j W' hg hi hj (fun m k hk => lord1_any A cap w.heap.size k l _ hk (hT.below (bthen bV (bthen hb (below_dn hb' m)))) (((below_dn (bthen hb hb') m).cell (p := ⟨w.heap.size, 0, none⟩) vz).trans v0))))
  have HV := hid hV
  have BV := hid bV
  have VZ := hid vz
  generalize Sp.ordL (Sp.keyC (Sp.dia l)) l.length = L at DE ⊢
  clear hV bV hT hS hE hl
  go_enter Try.func20, Try.ntmps20
  go_upto_region 1 with fail
  rw [HV.out]
  go_wp2_with fail
  refine SQ.out.mono ?_
  rintro _ w5 ⟨rfl, hb⟩
  have B5 := hid hb
  have c0 := KC.out _ hb
  have cz := Nat.lt_of_lt_of_le VZ.out hb.size
  have D5 := hid (DE.out w5 hb)
  clear hb v0 vz
  go_wp2_with fail
  refine D5.out.mono ?_
  rintro _ w6 ⟨hb, B, c, rfl, hc, hI, -⟩
  have B6 := hid (bthen BV.out (bthen B5.out hb))
  have HI := hid hI
  have HC := hid hc
  clear hb hI hc
  go_wp2_with fail
  go_ret2
  exact ⟨B6.out, B, c, rfl, HC.out, HI.out⟩
/-- The sum of the diameters of trees. -/
def Sp.sumD (l : List Sp.Te) (o : List Int) : Int := (o.map (fun x => Sp.dia l x.toNat)).sum
theorem Sp.sumD_succ (l : List Sp.Te) (O : List Int) (m : Nat) (h : m < O.length) : Sp.sumD l (O.take (m + 1)) = Sp.sumD l (O.take m) + Sp.dia l (O[m]).toNat := by
  unfold Sp.sumD
  rw [List.take_succ_eq_append_getElem h, List.map_append, List.sum_append]
  simp only [List.map_cons, List.map_nil, List.sum_cons, List.sum_nil]
  omega
set_option maxRecDepth 100000 in
set_option maxHeartbeats 1000000 in
theorem ltop_any (A : Option Addr) (cap : Nat) (l : List Sp.Te) (n : Nat) (O : List Int) (x y e : Int) (w : World) (hl : l.length ≤ 19) (hT : Trs w A l) (hE : (Sp.sqS l).2 = 0) (n1 : 1 ≤ n) (n2 : n ≤ l.length) (hO : Sp.ordL (Sp.keyC (Sp.dia l)) l.length = O) (oi : ∀ v ∈ O, 0 ≤ v ∧ v < l.length) (hv : Sp.newS (Sp.sumD l (O.take n)) (n : Int) = (x, y, e)) :
    Calls Try.prog 22 #[.slice A l.length cap, .int .i64 (n : Int)] w (Gives (.tuple #[.agg #[.int .i64 x, .int .i64 y], .int .i64 e]) w) := by
  obtain ⟨V, hV⟩ : ∃ V, w.alloc (Obj.cells #[.int .i64 0, .int .i64 0] 35) = V := ⟨_, rfl⟩
  have bV : Below w.heap.size w V := by rw [← hV]; exact balloc _ _
  have vz : w.heap.size < V.heap.size := by rw [← hV]; simp
  have v0 : V.cell? ⟨w.heap.size, 0, none⟩ = some (.int .i64 0) := by rw [← hV]; simp [go_sem]
  have v1 : V.cell? ⟨w.heap.size, 1, none⟩ = some (.int .i64 0) := by rw [← hV]; simp [go_sem]
  have vf : ∀ o, V.frozen? ⟨w.heap.size, o, none⟩ = false := fun o => by rw [← hV]; simp [go_sem]
  have KC := hid (fun W (hb : Below V.heap.size V W) => (⟨(hb.cell (p := ⟨w.heap.size, 0, none⟩) vz).trans v0, (hb.cell (p := ⟨w.heap.size, 1, none⟩) vz).trans v1, fun o => (hb.frozen (p := ⟨w.heap.size, o, none⟩) vz).trans (vf o), Nat.lt_of_lt_of_le vz hb.size⟩ :
    W.cell? ⟨w.heap.size, 0, none⟩ = some (.int .i64 0) ∧ W.cell? ⟨w.heap.size, 1, none⟩ = some (.int .i64 0) ∧ (∀ o, W.frozen? ⟨w.heap.size, o, none⟩ = false) ∧ w.heap.size < W.heap.size))
  have OD := hid (lorder_any A cap l V hl (hT.below bV) hE)
  rw [hO] at OD
  obtain ⟨-, dok, -⟩ := Sp.sqS_ok hE
  have DB := hid (fun (k : Nat) (hk : k < l.length) => (by rw [Sp.dia_at l k hk]; exact dok _ (List.getElem_mem hk) : 1 ≤ Sp.dia l k ∧ Sp.dia l k ≤ 3000))
  have OL : O.length = l.length := by rw [← hO, Sp.ordL_len]
  have WI := hid (fun W => lwithin_any (n : Int) 1 (l.length : Int) W)
  have wt : (decide ((1 : Int) ≤ (n : Int)) && decide ((n : Int) ≤ (l.length : Int))) = true := by simp; omega
  rw [wt] at WI
  have sb : ∀ m, m ≤ n → 0 ≤ Sp.sumD l (O.take m) ∧ Sp.sumD l (O.take m) ≤ 3000 * (m : Int) := by
    intro m
    induction m with
    | zero => intro _; simp [Sp.sumD]
    | succ m ih =>
      intro hm
      have h := ih (by omega)
      have hmo : m < O.length := by omega
      have e1 := Sp.sumD_succ l O m hmo
      have g := oi _ (List.getElem_mem hmo)
      have d := DB.out (O[m]).toNat (by omega)
      push_cast
      omega
  have SB := hid sb
  have NE := hid (fun W => fnew_any (Sp.sumD l (O.take n)) (n : Int) (by have := sb n (Nat.le_refl _); omega) (by have := sb n (Nat.le_refl _); omega) (by omega) (by omega) x y e hv W)
  have HT := hid hT
  have HV := hid hV
  have BV := hid bV
  have OI := hid oi
  have N2 := hid n2
  have HL := hid hl
  have OLL := hid OL
  clear hV bV hT hE hO hv vz v0 v1 vf dok wt sb oi n2 hl
  go_enter Try.func22, Try.ntmps22
  go_upto_region 1 with fail
  rw [HV.out]
  go_wp2_with fail
  refine OD.out.mono ?_
  rintro _ w5 ⟨hb, B, c, rfl, hc, hI⟩
  have B5 := hid hb
  have HI := hid hI
  have HC := hid hc
  clear hb hI hc
  go_wp2_with fail
  refine (WI.out _).mono ?_
  rintro _ w6 ⟨rfl, hb⟩
  have B6 := hid (bthen B5.out hb)
  have HI6 := hid (HI.out.below hb)
  have sl := fun W => islice_to B l.length c n (by have := HC.out; have := N2.out; omega) W
  clear hb
  go_wp2_with fail
  clear sl
  go_loopw [30, 8] (fun t u wr => ∃ j : Nat, t = .int .i64 (j : Int) ∧ j ≤ n ∧ u = .int .i64 (Sp.sumD l (O.take j)) ∧ Below w6.heap.size w6 wr) (fun t _ _ => n - (intOf t).toNat)
  case atStart => exact ⟨0, rfl, Nat.zero_le _, by simp [Sp.sumD], Below.refl _ _⟩
  case round =>
    obtain ⟨j, rfl, hj, rfl, hB⟩ := hrel
    have HB := hid hB
    clear hB
    by_cases hlt : j < n
    · have jo : j < O.length := by have := N2.out; have := OLL.out; omega
      obtain ⟨b, off, rfl, bl, q⟩ := (HI6.out.below HB.out) (by omega)
      have q0 := q j jo
      have g := OI.out _ (List.getElem_mem jo)
      have e1 := Sp.sumD_succ l O j jo
      obtain ⟨v, hv⟩ : ∃ v, O[j]'jo = v := ⟨_, rfl⟩
      rw [hv] at q0 g e1
      obtain ⟨p, rfl⟩ : ∃ p : Nat, v = (p : Int) := ⟨v.toNat, by omega⟩
      rw [Int.toNat_natCast] at e1
      have pl : p < l.length := by omega
      rw [Sp.dia_at l p pl] at e1
      obtain ⟨b2, off2, rfl, bl2, r0, r1, r2, r3⟩ := HT.out.at_ (bthen BV.out (bthen B6.out HB.out)) pl
      have sn := SB.out (j + 1) hlt
      rw [e1] at sn
      generalize l[p].d = D at r1 e1 sn
      have ws : wrap64 (Sp.sumD l (O.take j) + D) = Sp.sumD l (O.take j) + D := pw64 _ (by have := HL.out; have := N2.out; omega)
      have E1 := hid e1
      generalize Sp.sumD l (O.take j) = U at ws E1 ⊢
      obtain ⟨ej, eq, i0, i1⟩ := rjw j n hlt (by have := HL.out; have := N2.out; omega)
      have p0 : (0 : Int) ≤ (p : Int) := by omega
      have p1 : (p : Int) < (l.length : Int) := by omega
      have EQ := hid eq
      have HJ := hid hlt
      have HM := hid (pmeas n j hlt)
      clear q hv e1 sn g pl eq hlt bl bl2 r0 r2 r3 jo
      go_wp2_with fail
      go_roundw
      case rel => exact ⟨j + 1, i64_eq (by first | exact EQ.out | exact ej.trans EQ.out), HJ.out, by rw [E1.out]; first | rfl | exact i64_eq ws, HB.out⟩
      case measure => first | exact HM.out | (rw [ej]; exact HM.out)
    · obtain rfl : j = n := Nat.le_antisymm hj (Nat.le_of_not_lt hlt)
      have i1 : ¬ (j : Int) < (j : Int) := Int.lt_irrefl _
      obtain ⟨c0, c1, cf, cz⟩ := KC.out _ (bthen B6.out HB.out)
      have BB := hid (bthen BV.out (bthen B6.out HB.out))
      clear hlt hj
      go_wp2_with fail
      refine (NE.out _).mono ?_
      rintro _ w7 ⟨rfl, hb⟩
      have d0 := (hb.cell (p := ⟨w.heap.size, 0, none⟩) cz).trans c0
      have d1 := (hb.cell (p := ⟨w.heap.size, 1, none⟩) cz).trans c1
      have df : ∀ o, w7.frozen? ⟨w.heap.size, o, none⟩ = false := fun o => (hb.frozen (p := ⟨w.heap.size, o, none⟩) cz).trans (cf o)
      have dz := Nat.lt_of_lt_of_le cz hb.size
      have B7 := hid (bthen BB.out hb)
      clear hb c0 c1 cf cz
      go_wp2_with fail
      refine bodyPost_ret (v := .tuple #[.agg #[.int .i64 x, .int .i64 y], .int .i64 e]) (by simp [results, Try.results22, go_sem, d0, d1, df, dz]) rfl ?_
      exact Gives.mk rfl (by have hB := B7.out; repeat' (first | (with_reducible exact Below.refl _ _) | (with_reducible refine Below.alloc ?_ ?_ _) | (with_reducible refine Below.setCell ?_ ?_ _) | (with_reducible refine Below.drew ?_) | (with_reducible refine below_dn ?_ _) | (with_reducible refine Below.trans ?_ (Below.mono (by assumption) ?_)) | (simp; done) | (simp; omega) | omega))
end Go.Proofs.Ytmdaanigkhikfab
