/-
  Layer 16: Shares of package treelist, by contract. Written by tools/gen_lg.py.
-/
import Derived.Test.YtmdaanigkhikfabLf
import Derived.Test.YtmdaanigkhikfabLb
namespace Go.Proofs.Ytmdaanigkhikfab
open Go.RowKit
set_option linter.unusedVariables false
set_option linter.unusedSimpArgs false
namespace Sp
theorem sum_set : ∀ (L : List Int) (m : Nat) (x : Int) (h : m < L.length), (L.set m (L[m] + x)).sum = L.sum + x
  | [], m, x, h => by simp at h
  | a :: L, 0, x, h => by simp; omega
  | a :: L, m + 1, x, h => by
    have := sum_set L m x (by simpa using h)
    simp only [List.set_cons_succ, List.sum_cons, List.getElem_cons_succ]
    omega
theorem wset_le {L : List Int} {p j : Nat} {x D : Int} (h : ∀ v ∈ L, 0 ≤ v ∧ v ≤ 9000000 * (j : Int)) (hx : 0 ≤ x ∧ x ≤ 9000000 * (j : Int)) (hD : 0 ≤ D ∧ D ≤ 9000000) : ∀ v ∈ L.set p (x + D), 0 ≤ v ∧ v ≤ 9000000 * ((j + 1 : Nat) : Int) := by
  intro u hu
  rcases List.mem_or_eq_of_mem_set hu with h1 | rfl
  · have := h u h1; omega
  · omega
/-- The basal areas of the species. -/
def wts : List Int → List Te → List Int
  | L, [] => L
  | L, t :: l => wts (L.set t.s.toNat (L[t.s.toNat]?.getD 0 + t.d * t.d)) l
def wS (n : Nat) (l : List Te) : List Int := wts (List.replicate n 0) l
theorem wts_len : ∀ (l : List Te) (L : List Int), (wts L l).length = L.length
  | [], L => rfl
  | t :: l, L => by unfold wts; rw [wts_len l, List.length_set]
theorem wts_ok : ∀ (l : List Te) (L : List Int) (B : Int), (∀ t ∈ l, 0 ≤ t.s ∧ t.s < L.length) → (∀ t ∈ l, 1 ≤ t.d ∧ t.d ≤ 3000) → (∀ v ∈ L, 0 ≤ v ∧ v ≤ B) → (wts L l).sum = L.sum + sumQ l ∧ ∀ v ∈ wts L l, 0 ≤ v ∧ v ≤ B + 9000000 * l.length
  | [], L, B, _, _, hB => ⟨by simp [wts, sumQ], fun v hv => by have := hB v hv; simp; exact this⟩
  | t :: l, L, B, hs, hd, hB => by
    obtain ⟨s0, s1⟩ := hs t List.mem_cons_self
    obtain ⟨d0, d1⟩ := hd t List.mem_cons_self
    have ml : t.s.toNat < L.length := by omega
    have p := pmul (a := t.d) (b := t.d) (m := 3000) (n := 3000) (by omega) (by omega) (by omega) (by omega) (by omega)
    unfold wts
    rw [getD_at _ ml]
    have vb := hB _ (List.getElem_mem ml)
    obtain ⟨h1, h2⟩ := wts_ok l (L.set t.s.toNat (L[t.s.toNat] + t.d * t.d)) (B + 9000000) (fun u hu => by rw [List.length_set]; exact hs u (List.mem_cons_of_mem _ hu)) (fun u hu => hd u (List.mem_cons_of_mem _ hu)) (fun v hv => by
      rcases List.mem_or_eq_of_mem_set hv with h | rfl
      · have := hB v h; omega
      · omega)
    rw [sum_set L _ _ ml] at h1
    refine ⟨?_, fun v hv => ?_⟩
    · rw [h1]; simp [sumQ]; omega
    · have := h2 v hv
      rw [List.length_cons]
      push_cast
      omega
theorem sum_replicate_zero : ∀ n : Nat, (List.replicate n (0 : Int)).sum = 0
  | 0 => rfl
  | n + 1 => by rw [List.replicate_succ, List.sum_cons, sum_replicate_zero n]; rfl
theorem wS_len (n : Nat) (l : List Te) : (wS n l).length = n := by unfold wS; rw [wts_len, List.length_replicate]
theorem wS_ok {n : Nat} {l : List Te} (hs : ∀ t ∈ l, 0 ≤ t.s ∧ t.s < (n : Int)) (hd : ∀ t ∈ l, 1 ≤ t.d ∧ t.d ≤ 3000) : (wS n l).sum = sumQ l ∧ ∀ v ∈ wS n l, 0 ≤ v ∧ v ≤ 9000000 * l.length := by
  obtain ⟨h1, h2⟩ := wts_ok l (List.replicate n 0) 0 (by simpa using hs) hd (fun v hv => by rw [List.mem_replicate] at hv; omega)
  rw [sum_replicate_zero] at h1
  exact ⟨by unfold wS; omega, fun v hv => by have := h2 v hv; omega⟩
theorem firE_zero {T : List Sc} : ∀ (l : List Te) (j : Nat), (firE T j l).2 = 0 → ∀ t ∈ l, teE T t = 0
  | [], j, h, t, ht => by simp at ht
  | u :: l, j, h, t, ht => by
    unfold firE at h
    by_cases c : teE T u = 0
    · rw [if_neg (fun q => q c)] at h
      rcases List.mem_cons.1 ht with rfl | ht
      · exact c
      · exact firE_zero l _ h t ht
    · rw [if_pos c] at h; exact absurd h c
theorem teE_zero {T : List Sc} {t : Te} (h : teE T t = 0) : 0 ≤ t.s ∧ t.s < T.length := by
  unfold teE at h
  by_cases c : (decide (0 ≤ t.s) && decide (t.s ≤ (T.length : Int) - 1)) = false
  · rw [if_pos c] at h; exact absurd h (by decide)
  · simp at c; omega
theorem chkT_zero {T : List Sc} {l : List Te} (h : (chkT T l).2 = 0) : tabS T = 0 ∧ ∀ t ∈ l, 0 ≤ t.s ∧ t.s < T.length := by
  unfold chkT at h
  by_cases c : tabS T = 0
  · rw [if_neg (fun q => q c)] at h
    by_cases d : 200 < l.length
    · rw [if_pos d] at h; exact absurd h (by decide)
    · rw [if_neg d] at h
      exact ⟨c, fun t ht => teE_zero (firE_zero l 0 h t ht)⟩
  · rw [if_pos c] at h; exact absurd h c
/-- The error of Shares, and what it answers. -/
def shaE (T : List Sc) (l : List Te) : Int := if (sqS l).2 ≠ 0 then (sqS l).2 else if (chkT T l).2 ≠ 0 then (chkT T l).2 else if l.length = 0 then 6 else 0
def shaL (T : List Sc) (l : List Te) : List Int := apS (sumQ l) (wS T.length l)
theorem shaE_zero {T : List Sc} {l : List Te} (h : shaE T l = 0) : (sqS l).2 = 0 ∧ (chkT T l).2 = 0 ∧ 0 < l.length := by
  unfold shaE at h
  by_cases c : (sqS l).2 = 0
  · rw [if_neg (fun q => q c)] at h
    by_cases d : (chkT T l).2 = 0
    · rw [if_neg (fun q => q d)] at h
      by_cases e : l.length = 0
      · rw [if_pos e] at h; exact absurd h (by decide)
      · exact ⟨c, d, by omega⟩
    · rw [if_pos d] at h; exact absurd h d
  · rw [if_pos c] at h; exact absurd h c
end Sp
/-- A list of ints and an error are answered. -/
def IlPost (w : World) (E : Int) (L : List Int) (e : Ending) (w' : World) : Prop :=
  Below w.heap.size w w' ∧ ((E ≠ 0 ∧ e = .returned (.tuple #[.slice none 0 0, .int .i64 E])) ∨ (E = 0 ∧ ∃ A cap, e = .returned (.tuple #[.slice A L.length cap, .int .i64 0]) ∧ Ints w' A L))
set_option maxRecDepth 100000 in
set_option maxHeartbeats 4000000 in
theorem lshares_any (B : Option Addr) (bcap : Nat) (T : List Sp.Sc) (A : Option Addr) (cap : Nat) (l : List Sp.Te) (w : World) (hc : T.length ≤ bcap) (hS : Sized T) (hB : Tab w B T) (hl : l.length ≤ 140737488355328) (hT : Trs w A l) :
    Calls Try.prog 28 #[.slice B T.length bcap, .slice A l.length cap] w (IlPost w (Sp.shaE T l) (Sp.shaL T l)) := by
  obtain ⟨F, hF⟩ : ∃ F, Sp.shaE T l = F := ⟨_, rfl⟩
  have AP := hid (fun (h : F = 0) (W : World) (C : Option Addr) (c : Nat) (hI : Ints W C (Sp.wS T.length l)) => (by
    obtain ⟨h1, h2, h3⟩ := Sp.shaE_zero (hF.trans h)
    obtain ⟨n1, n2, -⟩ := Sp.sqS_ok h1
    obtain ⟨n3, n4⟩ := Sp.chkT_zero h2
    obtain ⟨n5, n6⟩ := Sp.wS_ok n4 n2
    obtain ⟨q1, q2⟩ := Sp.sumQ_in l n2
    have tl := (Sp.tabS_len n3).1
    have H := lapp_any C c (Sp.wS T.length l) (Sp.sumQ l) W (by rw [Sp.wS_len]; omega) (fun p hp => by have := n6 p hp; omega) (by omega) (by omega) n5 hI
    rw [Sp.wS_len] at H
    exact H : Calls Try.prog 45 #[.slice C T.length c, .int .i64 (Sp.sumQ l)] W (fun e w' => Below W.heap.size W w' ∧ ∃ B c, e = .returned (.slice B T.length c) ∧ Ints w' B (Sp.shaL T l))))
  have TL := hid (fun (h : F = 0) => (by
    obtain ⟨h1, h2, h3⟩ := Sp.shaE_zero (hF.trans h)
    obtain ⟨n1, n2, n7⟩ := Sp.sqS_ok h1
    obtain ⟨n3, n4⟩ := Sp.chkT_zero h2
    exact ⟨(Sp.tabS_len n3).1, n1, n2, n4, n7⟩ : T.length ≤ 6 ∧ l.length ≤ 200 ∧ (∀ t ∈ l, 1 ≤ t.d ∧ t.d ≤ 3000) ∧ (∀ t ∈ l, 0 ≤ t.s ∧ t.s < (T.length : Int)) ∧ (Sp.sqS l).1 = Sp.sumQ l))
  have LL : (Sp.shaL T l).length = T.length := by unfold Sp.shaL; rw [Sp.apS_len, Sp.wS_len]
  rw [hF]
  unfold Sp.shaE at hF
  obtain ⟨S, hSS⟩ : ∃ S, (Sp.sqS l).1 = S := ⟨_, rfl⟩
  obtain ⟨E1, hE1⟩ : ∃ E1, (Sp.sqS l).2 = E1 := ⟨_, rfl⟩
  obtain ⟨I2, hI2⟩ : ∃ I2, (Sp.chkT T l).1 = I2 := ⟨_, rfl⟩
  obtain ⟨E2, hE2⟩ : ∃ E2, (Sp.chkT T l).2 = E2 := ⟨_, rfl⟩
  have SQ := hid (lsquares_any A cap l S E1 w hl hT (by rw [← hSS, ← hE1]))
  have CK := hid (fun W (hb : Below w.heap.size w W) => lcheck_any B bcap T A cap l I2 E2 W hc hS (hB.below hb) hl (hT.below hb) (by rw [← hI2, ← hE2]))
  rw [hE1, hE2] at hF
  rw [hSS] at TL
  have HF := hid hF
  have HT := hid hT
  obtain ⟨L, hL⟩ : ∃ L, Sp.shaL T l = L := ⟨_, rfl⟩
  rw [hL] at AP LL ⊢
  have HLL := hid LL
  have HLE := hid (show T.length ≤ 140737488355328 from hS.1)
  clear hF hSS hE1 hI2 hE2 hc hS hB hT hL LL
  go_enter Try.func28, Try.ntmps28
  go_wp2_with fail
  refine SQ.out.mono ?_
  rintro _ w5 ⟨rfl, hb⟩
  have B5 := hid hb
  clear hb
  have hF := HF.out
  by_cases c1 : E1 = 0
  · subst c1
    rw [if_neg (by simp)] at hF
    have HF2 := hid hF
    clear hF HF
    go_wp2_with fail
    refine (CK.out _ B5.out).mono ?_
    rintro _ w6 ⟨rfl, hb⟩
    have B6 := hid (bthen B5.out hb)
    clear hb
    have hF := HF2.out
    by_cases c2 : E2 = 0
    · subst c2
      rw [if_neg (by simp)] at hF
      by_cases cn : l.length = 0
      · rw [if_pos cn] at hF
        subst hF
        have e1 : l = [] := List.eq_nil_of_length_eq_zero cn
        have e0 : ((l.length : Int) == 0) = true := by rw [cn]; rfl
        go_wp2_with fail
        go_ret2
        exact ⟨B6.out, .inl ⟨by decide, rfl⟩⟩
      · rw [if_neg cn] at hF
        subst hF
        have en : ¬ l = [] := fun h => cn (by rw [h]; rfl)
        have e0 : ((l.length : Int) == 0) = false := by simpa using en
        obtain ⟨t1, t2, t3, t4, t5⟩ := TL.out (by first | rfl | trivial)
        subst t5
        have AP1 := hid (AP.out (by first | rfl | trivial))
        have T1 := hid t1
        have T2 := hid t2
        have T3 := hid t3
        have T4 := hid t4
        have mk := run_make_row' (P := Try.prog) 31 3 (.int .i64 0) 8 Try.underlying31 info_int rfl .i64 .i64 T.length (by omega) (by omega) w6
        have W0 := rowI_made w6 T.length
        have hb0 : Below w6.heap.size w6 (w6.alloc (.cells (madeCells #[.int .i64 0] T.length) 3)) := balloc _ _
        generalize hV : w6.alloc (.cells (madeCells #[.int .i64 0] T.length) 3) = V at mk W0 hb0
        have HW0 := hid W0
        have HB0 := hid hb0
        clear hV W0 hb0 t1 t2 t3 t4 hl AP TL HF2
        go_wp2_with fail
        clear mk
        go_loopw [38] (fun t wr => ∃ (j : Nat) (M : List Int), t = .int .i64 (j : Int) ∧ j ≤ l.length ∧ M.length = T.length ∧ Sp.wts M (l.drop j) = Sp.wS T.length l ∧ (∀ v ∈ M, 0 ≤ v ∧ v ≤ 9000000 * (j : Int)) ∧ RowI wr w6.heap.size M ∧ Below w6.heap.size w6 wr) (fun t _ => l.length - (intOf t).toNat)
        case atStart => exact ⟨0, List.replicate T.length 0, rfl, Nat.zero_le _, List.length_replicate, rfl, fun v hv => by rw [List.mem_replicate] at hv; omega, HW0.out, HB0.out⟩
        case round =>
          obtain ⟨j, M, rfl, hj, hM, hw, hv, hR, hB⟩ := hrel
          have HR := hid hR
          have HB := hid hB
          have B7 := hid (bthen B6.out hB)
          clear hR hB
          by_cases hlt : j < l.length
          · obtain ⟨b, off, rfl, bl, q0, q1, q2, q3⟩ := HT.out.at_ B7.out hlt
            rw [List.drop_eq_getElem_cons hlt] at hw
            unfold Sp.wts at hw
            have tm := List.getElem_mem hlt
            have d3 := T3.out _ tm
            have s4 := T4.out _ tm
            obtain ⟨t, ht⟩ : ∃ t, l[j]'hlt = t := ⟨_, rfl⟩
            rw [ht] at q0 q1 q2 q3 hw d3 s4
            obtain ⟨ej, eq, i0, i1⟩ := rjw j l.length hlt (by have := T2.out; omega)
            obtain ⟨ts, td, th, tq⟩ := t
            simp only at q0 q1 q2 q3 hw d3 s4
            obtain ⟨p, rfl⟩ : ∃ p : Nat, ts = (p : Int) := ⟨ts.toNat, by omega⟩
            have pl : p < M.length := by omega
            rw [Int.toNat_natCast, Sp.getD_at p pl] at hw
            have pd := Sp.pmul (a := td) (b := td) (m := 3000) (n := 3000) (by omega) (by omega) (by omega) (by omega) (by omega)
            obtain ⟨D, hD⟩ : ∃ D, td * td = D := ⟨_, rfl⟩
            rw [hD] at hw pd
            have SQ2 := hid (fun W => lsquare_any ⟨(p : Int), td, th, tq⟩ D W hD (by omega))
            have vb := hv _ (List.getElem_mem pl)
            have rc := HR.out.c p pl
            have HX := hid (fun (W : World) (hb : Below wr.heap.size wr W) => (⟨(HR.out.below hb).c p pl, (HR.out.below hb).f p, (HR.out.below hb).lt, hb⟩ : W.cell? ⟨w6.heap.size, p, none⟩ = some (.int .i64 (M[p]'pl)) ∧ W.frozen? ⟨w6.heap.size, p, none⟩ = false ∧ w6.heap.size < W.heap.size ∧ Below wr.heap.size wr W))
            have HSET := hid (fun (W : World) (hb : Below wr.heap.size wr W) (x : Int) => (HR.out.below hb).set p x pl)
            obtain ⟨x, hx⟩ : ∃ x, M[p]'pl = x := ⟨_, rfl⟩
            rw [hx] at hw vb rc
            have HX2 := HX.out
            simp only [hx] at HX2
            have HX3 := hid HX2
            have jb : (j : Int) ≤ 200 := by have := T2.out; omega
            have wx : IntKind.i64.wrap (x + D) = x + D := pi64 _ (by omega)
            have VB := hid (Sp.wset_le (p := p) (D := D) hv vb (by omega))
            obtain ⟨V2, hV⟩ : ∃ V2, wr.alloc (Obj.cells #[.int .i64 (p : Int), .int .i64 td, .int .i64 th, .int .i64 tq] 43) = V2 := ⟨_, rfl⟩
            have kV : Below wr.heap.size wr V2 := by rw [← hV]; exact balloc _ _
            have vz : wr.heap.size < V2.heap.size := by rw [← hV]; simp
            have v0 : V2.cell? ⟨wr.heap.size, 0, none⟩ = some (.int .i64 (p : Int)) := by rw [← hV]; simp [go_sem]
            have v1 : V2.cell? ⟨wr.heap.size, 1, none⟩ = some (.int .i64 td) := by rw [← hV]; simp [go_sem]
            have v2 : V2.cell? ⟨wr.heap.size, 2, none⟩ = some (.int .i64 th) := by rw [← hV]; simp [go_sem]
            have v3 : V2.cell? ⟨wr.heap.size, 3, none⟩ = some (.int .i64 tq) := by rw [← hV]; simp [go_sem]
            obtain ⟨r0, r1, r2, -⟩ := HX3.out _ kV
            have KB := hid kV
            have KX := hid (fun (W : World) (hb : Below V2.heap.size V2 W) => (⟨(hb.cell (p := ⟨wr.heap.size, 0, none⟩) vz).trans v0, HX3.out W (bthen kV hb)⟩ : W.cell? ⟨wr.heap.size, 0, none⟩ = some (.int .i64 (p : Int)) ∧ W.cell? ⟨w6.heap.size, p, none⟩ = some (.int .i64 x) ∧ W.frozen? ⟨w6.heap.size, p, none⟩ = false ∧ w6.heap.size < W.heap.size ∧ Below wr.heap.size wr W))
            have HV2 := hid hV
            have EQ := hid eq
            have HJ := hid hlt
            have HM := hid (pmeas l.length j hlt)
            have HW := hid hw
            have p0 : (0 : Int) ≤ (p : Int) := by omega
            have p1 : (p : Int) < (T.length : Int) := by omega
            have ML := hid (show (M.set p (x + D)).length = T.length by rw [List.length_set]; exact hM)
            clear hV ht eq hlt hw hv d3 s4 pd hD vb hx HX HX2 jb tm hj pl hM kV
            go_upto_region 13 with fail
            rw [HV2.out]
            clear q0 q1 q2 q3 bl rc
            go_region_with (go_at_call 38; (with_reducible refine (SQ2.out _).mono ?_); rintro _ w9 ⟨rfl, hx⟩; have hb9 : Below V2.heap.size V2 w9 := (by first | exact hx | exact (by repeat' (first | (with_reducible exact Below.refl _ _) | (with_reducible refine Below.alloc ?_ ?_ _) | (with_reducible refine Below.setCell ?_ ?_ _) | (with_reducible refine Below.drew ?_) | (with_reducible refine below_dn ?_ _) | (with_reducible refine Below.trans ?_ (Below.mono (by assumption) ?_)) | (simp; done) | (simp; omega) | omega))); clear hx; obtain ⟨y0, y1, y2, y3, y4⟩ := KX.out _ hb9)
            all_goals
              have RS := HSET.out w9 y4 (x + D)
              have BS : Below w6.heap.size w6 (w9.setCell ⟨w6.heap.size, p, none⟩ (.int .i64 (x + D))) := (HB.out.trans (y4.mono HB.out.size)).setCell (p := ⟨w6.heap.size, p, none⟩) (Nat.le_refl _) _
              have RSH := hid RS
              have BSH := hid BS
              clear RS BS y0 y1 y2 y3 y4 hb9
              go_wp2_with fail
              go_roundw
              case rel => exact ⟨j + 1, _, i64_eq (by first | exact EQ.out | exact ej.trans EQ.out), HJ.out, ML.out, HW.out, VB.out, RSH.out, BSH.out⟩
              case measure => first | exact HM.out | (rw [ej]; exact HM.out)
          · have i1 : ¬ (j : Int) < (l.length : Int) := fun k => hlt (Int.ofNat_lt.mp k)
            rw [List.drop_eq_nil_of_le (Nat.le_of_not_lt hlt)] at hw
            have hw2 : M = Sp.wS T.length l := hw
            subst hw2
            have AP2 := hid (AP1.out wr _ T.length HR.out.ints)
            clear hlt hj hv hw
            go_wp2_with fail
            refine AP2.out.mono ?_
            rintro _ w8 ⟨hb, C, c, rfl, hI⟩
            have B8 := hid (bthen B7.out hb)
            have HI := hid hI
            clear hb hI
            go_wp2_with fail
            go_ret2
            exact ⟨B8.out, .inr ⟨rfl, C, c, by rw [HLL.out]; rfl, HI.out⟩⟩
    · have hn : (E2 == 0) = false := by simpa using c2
      rw [if_pos c2] at hF
      subst hF
      go_wp2_with fail
      go_ret2
      exact ⟨B6.out, .inl ⟨c2, rfl⟩⟩
  · have hn : (E1 == 0) = false := by simpa using c1
    rw [if_pos c1] at hF
    subst hF
    go_wp2_with fail
    go_ret2
    exact ⟨B5.out, .inl ⟨c1, rfl⟩⟩
end Go.Proofs.Ytmdaanigkhikfab
