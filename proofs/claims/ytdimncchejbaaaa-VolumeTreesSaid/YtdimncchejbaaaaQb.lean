/-
  Layer 12: the package by contract, the examples (Px, Py, Pq, Pz, Pr as one: tools/merge.py).
-/
import Derived.Test.YtdimncchejbaaaaQa
import Derived.Test.YtdimncchejbaaaaPc
import Derived.Maps.AppendAt
import Derived.Test.YtdimncchejbaaaaPd
import Derived.Test.YtdimncchejbaaaaPb
import Derived.IntWalk
import Derived.Deep.Cut
import Derived.Deep.DeepCutAuto
namespace Go.Proofs.Ytdimncchejbaaaa
open Go.RowKit
set_option linter.unusedVariables false
set_option linter.unusedSimpArgs false

theorem info_fr : (Try.prog.info? 56).map (fun i => (i.zero, i.size, i.bytes)) = some (some (.agg #[.int .i64 0, .int .i64 0]), 2, 16) := by kernel_rfl
def frc : List (Int × Int) → List Value
  | [] => []
  | p :: l => Value.int .i64 p.1 :: Value.int .i64 p.2 :: frc l
theorem frc_len : ∀ l : List (Int × Int), (frc l).length = l.length * 2
  | [] => rfl
  | p :: l => by simp [frc, frc_len l]; omega
theorem frc_append : ∀ (l m : List (Int × Int)), frc (l ++ m) = frc l ++ frc m
  | [], m => rfl
  | p :: l, m => by simp [frc, frc_append l m]
theorem frc_get : ∀ (l : List (Int × Int)) (j : Nat) (h : j < l.length), (frc l)[j * 2]? = some (.int .i64 (l[j]).1) ∧ (frc l)[j * 2 + 1]? = some (.int .i64 (l[j]).2)
  | [], j, h => absurd h (by simp)
  | p :: l, 0, h => ⟨rfl, rfl⟩
  | p :: l, j + 1, h => by
    have := frc_get l j (by simpa using h)
    have e : (j + 1) * 2 = j * 2 + 1 + 1 := by omega
    rw [e]
    exact this
theorem frc_cell (l : List (Int × Int)) : ∀ u ∈ frc l, u.oneCell' = true := by
  induction l with
  | nil => intro u hu; simp [frc] at hu
  | cons p l ih =>
    intro u hu
    simp only [frc, List.mem_cons] at hu
    rcases hu with rfl | rfl | hu
    · rfl
    · rfl
    · exact ih u hu
/-- A row of points that the call owns. -/
def OwnF (w : World) (base : Nat) (v : Value) (l : List (Int × Int)) : Prop := w.ownsRow base 56 2 v l.length (frc l)
theorem OwnF.nil (w : World) (base : Nat) : OwnF w base (.slice none 0 0) [] := w.ownsRow_nil base 56 2
theorem OwnF.form {w : World} {base : Nat} {v : Value} {l : List (Int × Int)} (h : OwnF w base v l) : ∃ A cap, v = .slice A l.length cap ∧ l.length ≤ cap ∧ Frs w A l := by
  rcases h.2 with ⟨rfl, h0⟩ | ⟨g, cap, cur, rfl, hb, hg, hn, hm, hs, ht⟩
  · have e : l = [] := List.eq_nil_of_length_eq_zero h0
    subst e
    exact ⟨none, 0, rfl, Nat.le_refl _, fun h => absurd h (by simp)⟩
  · refine ⟨some ⟨g, 0, none⟩, cap, rfl, hn, fun _ => ⟨g, 0, rfl, (Array.getElem?_eq_some_iff.1 hg).1, fun j hj => ?_⟩⟩
    obtain ⟨g0, g1⟩ := frc_get l j hj
    have c0 := World.ownsRow.cells h (g := g) rfl _ _ g0
    have c1 := World.ownsRow.cells h (g := g) rfl _ _ g1
    have e : ∀ k, (⟨g, 0, none⟩ : Addr).add k = ⟨g, 0 + k, none⟩ := fun k => by by_cases k0 : k = 0 <;> simp [Addr.add, k0]
    rw [e] at c0 c1
    exact ⟨c0, c1⟩
theorem fgrown_of_below {w w' : World} (h : Below w.heap.size w w') (r : Option Nat) : w.grownBy w' r := ⟨h.os, h.tape, h.output, h.size, fun k hk _ => h.block k hk⟩
theorem OwnF.below {w w' : World} {base : Nat} {v : Value} {l : List (Int × Int)} (h : OwnF w base v l) (hb : Below w.heap.size w w') : OwnF w' base v l :=
  World.ownsRow.kept h (fgrown_of_below hb none) (by cases v.ownBlock <;> simp)
theorem appF {ops : Array Oper} {rest : List Oper} {o : Oper} {a : Act} {Q : Exit → Act → World → Prop} {w : World} (hgd : o.guard = none) (s x : Operand)
    (ho : o.op = .call { callee := .builtin .append, args := #[s, x], argTypes := #[57, 57] })
    (base : Nat) (v : Value) (l : List (Int × Int)) (hs : a.eval s = v) (hown : OwnF w base v l) (g : Nat) (hx : a.eval x = .slice (some ⟨g, 0, none⟩) 1 1) (p q : Int)
    (c0 : w.cell? ⟨g, 0, none⟩ = some (.int .i64 p)) (c1 : w.cell? ⟨g, 1, none⟩ = some (.int .i64 q)) (hlen : Hid (l.length ≤ 4000)) (hbase : base ≤ w.heap.size)
    (h : ∀ v' w', OwnF w' base v' (l ++ [(p, q)]) → w.grownBy w' v.ownBlock → wpList Try.prog ops Q rest (a.put o.dst v') w') :
    wpList Try.prog ops Q (o :: rest) a w := by
  obtain ⟨i0, hi, hz0, hz1, hz2⟩ := info_parts info_fr
  have hl := hlen.out
  refine wpList_append_own_at _ hgd s x 57 ho base 56 i0 (.agg #[.int .i64 0, .int .i64 0]) 2 16 Try.underlying57 hi hz0 hz1 hz2 rfl (by decide) v l.length (frc l) hs hown ⟨g, 0, none⟩ 1 1 (frc [(p, q)]) hx (by simp [frc]) ?_ (frc_cell _) (by unfold maxLen; omega) (by omega) hbase ?_
  · intro j u hu
    match j with
    | 0 => simp [frc] at hu; subst hu; simpa [Addr.add] using c0
    | 1 => simp [frc] at hu; subst hu; simpa [Addr.add] using c1
    | j + 2 => simp [frc] at hu
  · intro v' w' h1 h2 _ h4
    refine h v' w' ?_ h2
    unfold OwnF
    rw [frc_append, List.length_append]
    exact h1
theorem ownF_lt {w : World} {base : Nat} {v : Value} {l : List (Int × Int)} (h : OwnF w base v l) {g : Nat} (hg : v.ownBlock = some g) : base ≤ g ∧ g < w.heap.size := World.ownsRow.lt h g hg
/-- What values answers. -/
def ValsPost (w : World) (l : List Sp.Pd) (a b : Int) (e : Ending) (w' : World) : Prop :=
  Below w.heap.size w w' ∧ ((Sp.valsE l a b ≠ 0 ∧ e = .returned (.tuple #[.slice none 0 0, .int .i64 (Sp.valsE l a b)])) ∨
    (Sp.valsE l a b = 0 ∧ ∃ A cap, e = .returned (.tuple #[.slice A (Sp.valsL l a b).length cap, .int .i64 0]) ∧ Frs w' A (Sp.valsL l a b)))
theorem least_is {l : List Sp.Pd} (h0 : 0 < l.length) : Sp.least l = (l[0]).f := by unfold Sp.least; rw [List.getElem?_eq_getElem h0, Option.getD_some]
theorem great_is {l : List Sp.Pd} (h0 : 0 < l.length) : Sp.great l = (l[l.length - 1]'(by omega)).t := by unfold Sp.great; rw [List.getElem?_eq_getElem (by omega), Option.getD_some]
theorem dom_good {l : List Sp.Pd} (h : Sp.pcheck l = 0) : DomIs l (Sp.least l) (Sp.great l) 0 := .inl ⟨h, (Sp.pcheck_good h).1, least_is (Sp.pcheck_good h).1, great_is (Sp.pcheck_good h).1, rfl⟩
theorem dom_bad {l : List Sp.Pd} (h : Sp.pcheck l ≠ 0) : DomIs l 0 0 (Sp.pcheck l) := .inr ⟨h, rfl, rfl, rfl⟩
theorem least_in {l : List Sp.Pd} (h : Sp.pcheck l = 0) : 0 ≤ Sp.least l ∧ Sp.least l < Sp.great l ∧ Sp.great l ≤ 3000 := by
  obtain ⟨h0, -, g, q⟩ := Sp.pcheck_good h
  rw [least_is h0, great_is h0]
  have g0 := g _ (List.getElem_mem h0)
  have g1 := g _ (List.getElem_mem (show l.length - 1 < l.length by omega))
  have h2 := Sp.good_le g q (l.length - 1) 0 (by omega)
  have e : (l[0 + (l.length - 1)]'(by omega)).t = (l[l.length - 1]'(by omega)).t := by congr 2; omega
  rw [e] at h2
  exact ⟨g0.f0, by have := g0.ft; omega, g1.t1⟩
def VsRel (w : World) (l : List Sp.Pd) (a : Int) (n : Nat) (E : Int) (t u : Value) (wr : World) : Prop :=
  ∃ j : Nat, t = .int .i64 (a + j) ∧ j ≤ n ∧ Sp.fstE (Sp.valL l) (n - j) (a + j) = E ∧ OwnF wr w.heap.size u (Sp.lstV (Sp.valL l) j a) ∧ Below w.heap.size w wr
theorem vmeas (n j : Nat) (a : Int) (a0 : 0 ≤ a) (h : j < n) : (a + n - intOf (.int .i64 (a + j + 1))).toNat < (a + n - intOf (.int .i64 (a + j))).toNat := by simp [intOf]; omega
set_option maxRecDepth 100000 in
set_option maxHeartbeats 4000000 in
theorem values_good (A : Option Addr) (cap : Nat) (l : List Sp.Pd) (a b : Int) (w : World) (hz : PcSized l) (hT : Pcs w A l) (hc : Sp.pcheck l = 0) (c1 : ¬ a < Sp.least l) (c2 : ¬ Sp.great l < b) (c3 : ¬ b < a) :
    Calls Try.prog 53 #[.slice A l.length cap, .int .i64 a, .int .i64 b] w (ValsPost w l a b) := by
  have DO := hid (domain_any A cap l _ _ _ w hz hT (dom_good hc))
  have li := least_in hc
  have gd := Sp.pcheck_good hc
  obtain ⟨n, hn⟩ : ∃ n, (b - a + 1).toNat = n := ⟨_, rfl⟩
  have a0 : 0 ≤ a := by omega
  have b1 : b ≤ 3000 := by omega
  have nb : (n : Int) = b - a + 1 := by omega
  have VE : Sp.valsE l a b = Sp.fstE (Sp.valL l) n a := by
    unfold Sp.valsE
    rw [if_neg (fun h => h hc), if_neg (by omega), hn]
  have VL : Sp.valsL l a b = Sp.lstV (Sp.valL l) n a := by unfold Sp.valsL; rw [hn]
  obtain ⟨E, hE⟩ : ∃ E, Sp.fstE (Sp.valL l) n a = E := ⟨_, rfl⟩
  have HP : Hid (∀ e w', (Below w.heap.size w w' ∧ ((E ≠ 0 ∧ e = .returned (.tuple #[.slice none 0 0, .int .i64 E])) ∨ (E = 0 ∧ ∃ A cap, e = .returned (.tuple #[.slice A (Sp.lstV (Sp.valL l) n a).length cap, .int .i64 0]) ∧ Frs w' A (Sp.lstV (Sp.valL l) n a)))) → ValsPost w l a b e w') := hid (by
    intro e w' h
    unfold ValsPost
    rw [VE, VL, hE]
    exact h)
  have HT := hid hT
  have HE := hid hE
  have GD := hid gd
  have HC := hid hc
  have NB := hid nb
  obtain ⟨L, hL⟩ : ∃ L, Sp.least l = L := ⟨_, rfl⟩
  obtain ⟨G, hG⟩ : ∃ G, Sp.great l = G := ⟨_, rfl⟩
  rw [hL, hG] at DO
  rw [hL] at c1 li
  rw [hG] at c2 li
  have LI := hid li
  clear hz hT hc gd hn VE VL hE nb hL hG li
  go_enter Try.func53, Try.ntmps53
  go_wp2_with fail
  refine DO.out.mono ?_
  rintro _ w5 ⟨rfl, hb⟩
  have HB0 := hid hb
  clear hb
  go_wp2_with fail
  go_loopw [12, 11] (fun t u wr => VsRel w l a n E t u wr) (fun t u _ => (a + n - intOf t).toNat)
  case atStart => exact ⟨0, by simp, Nat.zero_le _, by simpa using HE.out, OwnF.nil _ _, HB0.out⟩
  case round =>
    obtain ⟨j, rfl, hj, hd, hO, hB⟩ := hrel
    have HD := hid hd
    have HB := hid hB
    have HO := hid hO
    obtain ⟨A1, k1, e1, -, -⟩ := hO.form
    subst e1
    clear hd hB hO
    by_cases hlt : j < n
    · have hle : a + (j : Int) ≤ b := by have := NB.out; omega
      obtain ⟨m, hm⟩ : ∃ m, n - j = m + 1 := ⟨n - j - 1, by omega⟩
      have hd := HD.out
      rw [hm, Sp.fstE_succ] at hd
      have x0 : 0 ≤ a + (j : Int) := by omega
      have x1 : a + (j : Int) ≤ 3000 := by omega
      obtain ⟨x, hx⟩ : ∃ x, a + (j : Int) = x := ⟨_, rfl⟩
      have sn := Sp.lstV_snoc (Sp.valL l) j a
      rw [hx] at hd x0 x1 hle sn
      have hv : Sp.valL l x = Sp.hornF x (Sp.pieceO l x).c.reverse (0, 1) := rfl
      obtain ⟨pi, pe⟩ := Sp.pieceO_is (l := l) x GD.out.1
      have PA := hid (pat_any A cap l x (Sp.atI l x) (Sp.pieceO l x) wr (by have := GD.out.2.1; omega) GD.out.1 pe (HT.out.below HB.out) (Sp.atI_is x GD.out.2.2.1 GD.out.2.2.2))
      have mem := Sp.pieceO_mem (l := l) x GD.out.1
      have gp := GD.out.2.2.1 _ mem
      have fr := (HT.out.below HB.out).2 _ mem
      generalize Sp.pieceO l x = P at PA hv gp fr
      obtain ⟨f, t, A', k, c⟩ := P
      simp only at hv fr PA
      obtain ⟨⟨lo, hi, y⟩, hr⟩ : ∃ r, Sp.hornF x c.reverse (0, 1) = r := ⟨_, rfl⟩
      have VA := hid (fun (W : World) (h : Below wr.heap.size wr W) => value_any f t A' k c x lo hi y W x0 x1 (by have := gp.n4; simp only at this; omega) (Sp.good_ok gp) (fr.below h) hr)
      rw [hr] at hv
      rw [hv] at hd sn
      simp only at hd sn
      have SN := hid sn
      have ej : wrap64 (x + 1) = x + 1 := pw64 _ (by omega)
      have HX := hid hx
      have HM := hid hm
      have A0 := hid a0
      have ll : Hid ((Sp.lstV (Sp.valL l) j a).length ≤ 4000) := hid (by rw [Sp.lstV_len]; have := NB.out; omega)
      have JN := hid hlt
      clear hv hr gp fr mem pe pi hm hx sn hlt
      rw [HX.out]
      by_cases h : y = 0
      · subst h
        have hd2 : Sp.fstE (Sp.valL l) m (x + 1) = E := by simpa using hd
        have HF := hid hd2
        clear hd hd2
        go_wp2_with (first
          | (go_at_call 72; refine PA.out.mono ?_; rintro _ w6 ⟨rfl, hb⟩; have HB6 := hid hb; clear hb)
          | (go_at_call 71; refine (VA.out _ HB6.out).mono ?_; rintro _ w7 ⟨rfl, hb⟩; have HB7 := hid (HB6.out.trans (hb.mono HB6.out.size)); have gb7 : w.heap.size ≤ ((w7.alloc (Obj.cells #[.int .i64 lo, .int .i64 hi] 56)).alloc (Obj.cells #[.int .i64 lo, .int .i64 hi] 56)).heap.size := (by have h1 := HB.out.size; have h2 := HB7.out.size; simp; omega); clear hb)
          | (at_builtin; refine appF rfl _ _ rfl w.heap.size _ (Sp.lstV (Sp.valL l) j a) rfl ((HO.out.below HB7.out).below (((Below.refl _ _).alloc (Nat.le_refl _) _).alloc (by simp) _)) (w7.heap.size + 1) rfl lo hi (by simp [go_sem]) (by simp [go_sem]) ll gb7 ?_; intro v8 w8 how hgr))
        have HOW := hid how
        have GR := hid hgr
        have OL := hid (fun g h => ownF_lt HO.out (g := g) h)
        clear how hgr
        go_roundw
        case rel =>
          have gr := GR.out
          have ba : Below w7.heap.size w7 ((w7.alloc (Obj.cells #[.int .i64 lo, .int .i64 hi] 56)).alloc (Obj.cells #[.int .i64 lo, .int .i64 hi] 56)) := ((Below.refl _ _).alloc (Nat.le_refl _) _).alloc (by simp) _
          have bal := HB7.out.trans (ba.mono HB7.out.size)
          have keep : ∀ k, k < w.heap.size → w8.heap[k]? = wr.heap[k]? := fun k hk => by
            have h1 := HB.out.size
            have h2 := bal.size
            refine (gr.block k (by omega) (fun c => ?_)).trans (bal.block k (by omega))
            have := OL.out _ c.symm
            omega
          refine ⟨j + 1, i64_eq (by have := HX.out; push_cast; omega), by have := JN.out; omega, ?_, ?_, ?_⟩
          · have h1 := HF.out
            have e1 : n - (j + 1) = m := by have := HM.out; omega
            have e2 : a + ((j + 1 : Nat) : Int) = x + 1 := by have := HX.out; omega
            rw [e1, e2]; exact h1
          · rw [SN.out]; exact HOW.out
          · refine ⟨gr.os.trans (bal.os.trans HB.out.os), gr.tape.trans (bal.tape.trans HB.out.tape), gr.output.trans (bal.output.trans HB.out.output), Nat.le_trans HB.out.size (Nat.le_trans bal.size gr.size), fun k hk => ?_⟩
            exact (keep k hk).trans (HB.out.block k hk)
        case measure =>
          have h1 := vmeas n j a A0.out JN.out
          rw [HX.out] at h1
          first | exact h1 | (rw [ej]; exact h1)
      · have hn : (y == 0) = false := by simpa using h
        rw [if_pos h] at hd
        have HF := hid hd
        clear hd
        go_wp2_with (first
          | (go_at_call 72; refine PA.out.mono ?_; rintro _ w6 ⟨rfl, hb⟩; have HB6 := hid hb; clear hb)
          | (go_at_call 71; refine (VA.out _ HB6.out).mono ?_; rintro _ w7 ⟨rfl, hb⟩; have HB7 := hid (HB6.out.trans (hb.mono HB6.out.size)); clear hb))
        refine bodyPost_ret (v := .tuple #[.slice none 0 0, .int .i64 y]) (by simp [results, Try.results53, go_sem]) rfl ?_
        exact HP.out _ _ ⟨HB.out.trans ((HB7.out.trans (((Below.refl _ _).alloc (Nat.le_refl _) _).mono HB7.out.size)).mono HB.out.size), .inl ⟨by rw [← HF.out]; exact h, by rw [HF.out]⟩⟩
    · have i1 : ¬ a + (j : Int) ≤ b := by have := NB.out; omega
      obtain rfl : j = n := by omega
      have hd := HD.out
      have e0 : j - j = 0 := Nat.sub_self j
      rw [e0] at hd
      have z0 : E = 0 := hd.symm
      obtain ⟨A2, k2, e2, -, F2⟩ := HO.out.form
      have HZ := hid z0
      have HE2 := hid e2
      have HF2 := hid F2
      clear hd z0 e2 F2 e0
      go_wp2_with fail
      refine bodyPost_ret (v := .tuple #[.slice A1 (Sp.lstV (Sp.valL l) j a).length k1, .int .i64 0]) (by simp [results, Try.results53, go_sem]) rfl ?_
      have e3 := HE2.out
      injection e3 with g1 g2 g3
      subst g1 g3
      exact HP.out _ _ ⟨HB.out, .inr ⟨HZ.out, _, _, rfl, HF2.out⟩⟩
theorem values_any (A : Option Addr) (cap : Nat) (l : List Sp.Pd) (a b : Int) (w : World) (hz : PcSized l) (hT : Pcs w A l) :
    Calls Try.prog 53 #[.slice A l.length cap, .int .i64 a, .int .i64 b] w (ValsPost w l a b) := by
  by_cases hc : Sp.pcheck l = 0
  · by_cases g : a < Sp.least l ∨ Sp.great l < b ∨ b < a
    · have DO := hid (domain_any A cap l _ _ _ w hz hT (dom_good hc))
      have VE : Sp.valsE l a b = 2 := by unfold Sp.valsE; rw [if_neg (fun h => h hc), if_pos g]
      have HP : Hid (∀ w', Below w.heap.size w w' → ValsPost w l a b (.returned (.tuple #[.slice none 0 0, .int .i64 2])) w') := hid (fun w' h => ⟨h, .inl ⟨by rw [VE]; omega, by rw [VE]⟩⟩)
      generalize Sp.least l = L at DO g
      generalize Sp.great l = G at DO g
      clear hz hT hc VE
      by_cases c1 : a < L
      · clear g
        go_enter Try.func53, Try.ntmps53
        go_wp2_with fail
        refine DO.out.mono ?_
        rintro _ w5 ⟨rfl, hb⟩
        have HB0 := hid hb
        clear hb
        go_wp2_with fail
        refine bodyPost_ret (v := .tuple #[.slice none 0 0, .int .i64 2]) (by simp [results, Try.results53, go_sem]) rfl ?_
        exact HP.out _ HB0.out
      by_cases c2 : G < b
      · clear g
        go_enter Try.func53, Try.ntmps53
        go_wp2_with fail
        refine DO.out.mono ?_
        rintro _ w5 ⟨rfl, hb⟩
        have HB0 := hid hb
        clear hb
        go_wp2_with fail
        refine bodyPost_ret (v := .tuple #[.slice none 0 0, .int .i64 2]) (by simp [results, Try.results53, go_sem]) rfl ?_
        exact HP.out _ HB0.out
      · have c3 : b < a := by omega
        clear g
        go_enter Try.func53, Try.ntmps53
        go_wp2_with fail
        refine DO.out.mono ?_
        rintro _ w5 ⟨rfl, hb⟩
        have HB0 := hid hb
        clear hb
        go_wp2_with fail
        refine bodyPost_ret (v := .tuple #[.slice none 0 0, .int .i64 2]) (by simp [results, Try.results53, go_sem]) rfl ?_
        exact HP.out _ HB0.out
    · exact values_good A cap l a b w hz hT hc (by omega) (by omega) (by omega)
  · have DO := hid (domain_any A cap l _ _ _ w hz hT (dom_bad hc))
    have VE : Sp.valsE l a b = Sp.pcheck l := by unfold Sp.valsE; rw [if_pos hc]
    have HP : Hid (∀ w', Below w.heap.size w w' → ValsPost w l a b (.returned (.tuple #[.slice none 0 0, .int .i64 (Sp.pcheck l)])) w') := hid (fun w' h => ⟨h, .inl ⟨by rw [VE]; exact hc, by rw [VE]⟩⟩)
    generalize Sp.pcheck l = y at DO HP hc
    have hn : (y == 0) = false := by simpa using hc
    clear hz hT hc VE
    go_enter Try.func53, Try.ntmps53
    go_wp2_with fail
    refine DO.out.mono ?_
    rintro _ w5 ⟨rfl, hb⟩
    have HB0 := hid hb
    clear hb
    go_wp2_with fail
    refine bodyPost_ret (v := .tuple #[.slice none 0 0, .int .i64 y]) (by simp [results, Try.results53, go_sem]) rfl ?_
    exact HP.out _ HB0.out

theorem vals_one (l : List Sp.Pd) (x : Int) : Sp.valsL l x x = [((Sp.valL l x).1, (Sp.valL l x).2.1)] := by
  unfold Sp.valsL
  have e : (x - x + 1).toNat = 1 := by omega
  rw [e]
  rfl
set_option maxRecDepth 100000 in
set_option maxHeartbeats 1000000 in
theorem eval_any (A : Option Addr) (cap : Nat) (l : List Sp.Pd) (x lo hi e : Int) (w : World) (hz : PcSized l) (hT : Pcs w A l) (hv : Sp.evalS l x = (lo, hi, e)) :
    Calls Try.prog 32 #[.slice A l.length cap, .int .i64 x] w (Gives (.tuple #[.agg #[.int .i64 lo, .int .i64 hi], .int .i64 e]) w) := by
  obtain ⟨V, hV⟩ : ∃ V, w.alloc (Obj.cells #[.int .i64 0, .int .i64 0] 56) = V := ⟨_, rfl⟩
  have kV : Below w.heap.size w V := by rw [← hV]; exact (Below.refl _ _).alloc (Nat.le_refl _) _
  have zV : V.heap.size = w.heap.size + 1 := by rw [← hV]; simp
  have v0 : V.cell? ⟨w.heap.size, 0, none⟩ = some (.int .i64 0) := by rw [← hV]; simp [go_sem]
  have v1 : V.cell? ⟨w.heap.size, 1, none⟩ = some (.int .i64 0) := by rw [← hV]; simp [go_sem]
  have vf : ∀ o, V.frozen? ⟨w.heap.size, o, none⟩ = false := by intro o; rw [← hV]; simp [go_sem]
  have VS := hid (values_any A cap l x x V hz (hT.below kV))
  have HK := hid (fun (W : World) (h : Below V.heap.size V W) => (⟨kV.trans (h.mono kV.size), (h.cell (p := ⟨w.heap.size, 0, none⟩) (by simp only; omega)).trans v0, (h.cell (p := ⟨w.heap.size, 1, none⟩) (by simp only; omega)).trans v1, fun o => (h.frozen (p := ⟨w.heap.size, o, none⟩) (by simp only; omega)).trans (vf o), by have := h.size; omega⟩ : Below w.heap.size w W ∧ W.cell? ⟨w.heap.size, 0, none⟩ = some (.int .i64 0) ∧ W.cell? ⟨w.heap.size, 1, none⟩ = some (.int .i64 0) ∧ (∀ o, W.frozen? ⟨w.heap.size, o, none⟩ = false) ∧ w.heap.size < W.heap.size))
  have HV := hid hV
  have HE := hid hv
  clear hV kV zV v0 v1 vf hz hT hv
  go_enter Try.func32, Try.ntmps32
  go_upto_region 1 with fail
  rw [HV.out]
  go_wp2_with fail
  refine VS.out.mono ?_
  rintro _ w5 ⟨hb, ⟨hne, rfl⟩ | ⟨h0, A', cap', rfl, hF⟩⟩
  · obtain ⟨kw, k0, k1, kf, kz⟩ := HK.out _ hb
    have h := HE.out
    unfold Sp.evalS at h
    rw [if_pos hne] at h
    generalize Sp.valsE l x x = y at h hne
    have e3 : 0 = lo ∧ 0 = hi ∧ y = e := by simpa using h
    obtain ⟨rfl, rfl, rfl⟩ := e3
    have hn : (y == 0) = false := by simpa using hne
    have KW := hid kw
    clear hb kw h hne
    go_wp2_with fail
    refine bodyPost_ret (v := .tuple #[.agg #[.int .i64 0, .int .i64 0], .int .i64 y]) (by simp [results, Try.results32, go_sem, k0, k1]) rfl ?_
    exact Gives.mk rfl (by have hB := KW.out; repeat' (first | (with_reducible exact Below.refl _ _) | (with_reducible refine Below.alloc ?_ ?_ _) | (with_reducible refine Below.setCell ?_ ?_ _) | (with_reducible refine Below.drew ?_) | (with_reducible refine Below.trans ?_ (Below.mono (by assumption) ?_)) | (simp; done) | (simp; omega) | omega))
  · obtain ⟨kw, k0, k1, kf, kz⟩ := HK.out _ hb
    have h := HE.out
    unfold Sp.evalS at h
    rw [if_neg (fun z => z h0)] at h
    rw [vals_one] at hF ⊢
    generalize (Sp.valL l x).1 = n at h hF
    generalize (Sp.valL l x).2.1 = d at h hF
    have e3 : n = lo ∧ d = hi ∧ 0 = e := by simpa using h
    obtain ⟨rfl, rfl, rfl⟩ := e3
    obtain ⟨b, off, rfl, bl, q⟩ := hF (by simp)
    obtain ⟨q0, q1⟩ := q 0 (by simp)
    simp only [Nat.zero_mul, Nat.add_zero, List.getElem_cons_zero] at q0 q1
    have KW := hid kw
    simp only [List.length_cons, List.length_nil]
    clear hb kw h h0 q
    go_wp2_with fail
    refine bodyPost_ret (v := .tuple #[.agg #[.int .i64 n, .int .i64 d], .int .i64 0]) (by simp [results, Try.results32, go_sem, k0, k1]) rfl ?_
    exact Gives.mk rfl (by have hB := KW.out; repeat' (first | (with_reducible exact Below.refl _ _) | (with_reducible refine Below.alloc ?_ ?_ _) | (with_reducible refine Below.setCell ?_ ?_ _) | (with_reducible refine Below.drew ?_) | (with_reducible refine Below.trans ?_ (Below.mono (by assumption) ?_)) | (simp; done) | (simp; omega) | omega))

theorem cells_sized (l : List Sp.Pd) (a b : Int) (hc : Sp.pcheck l = 0) (a0 : 0 ≤ a) (b1 : b ≤ 3000) (he : Sp.valsE l a b = 0) : (∀ q ∈ Sp.valsL l a b, Sp.okQ q) ∧ (Sp.valsL l a b).length ≤ 4000 := by
  unfold Sp.valsE at he
  rw [if_neg (fun h => h hc)] at he
  by_cases g : a < Sp.least l ∨ Sp.great l < b ∨ b < a
  · rw [if_pos g] at he; omega
  · rw [if_neg g] at he
    have f := (Sp.fstE_zero _ _ _).mp he
    unfold Sp.valsL
    refine ⟨fun q hq => ?_, by rw [Sp.lstV_len]; omega⟩
    obtain ⟨i, hi, e⟩ := List.getElem_of_mem hq
    rw [Sp.lstV_get] at e
    have hi2 : i < (b - a + 1).toNat := by rw [Sp.lstV_len] at hi; exact hi
    have r := Sp.valL_res (l := l) (x := a + i) hc (by omega) (by omega)
    have f2 := f i hi2
    rcases r with h | h
    · rw [← e]; exact h.2
    · rw [h] at f2; simp at f2
theorem vals_bound (l : List Sp.Pd) (a b : Int) (he : Sp.valsE l a b = 0) : Sp.pcheck l = 0 ∧ Sp.least l ≤ a ∧ a ≤ b ∧ b ≤ Sp.great l ∧ Sp.fstE (Sp.valL l) (b - a + 1).toNat a = 0 := by
  unfold Sp.valsE at he
  by_cases hc : Sp.pcheck l = 0
  · rw [if_neg (fun h => h hc)] at he
    by_cases g : a < Sp.least l ∨ Sp.great l < b ∨ b < a
    · rw [if_pos g] at he; omega
    · rw [if_neg g] at he
      exact ⟨hc, by omega, by omega, by omega, he⟩
  · rw [if_pos hc] at he; exact absurd he hc
theorem fr_sized {l : List (Int × Int)} (h : ∀ q ∈ l, Sp.okQ q) (hl : l.length ≤ 4000) : FrSized l := ⟨by omega, fun q hq => Sp.okQ_bounds (h q hq)⟩
theorem vals_sized (l : List Sp.Pd) (a b : Int) (he : Sp.valsE l a b = 0) : FrSized (Sp.valsL l a b) ∧ 0 < (Sp.valsL l a b).length ∧ (∀ q ∈ Sp.valsL l a b, Sp.okQ q) := by
  obtain ⟨hc, h1, h2, h3, -⟩ := vals_bound l a b he
  have li := least_in hc
  obtain ⟨h4, h5⟩ := cells_sized l a b hc (by omega) (by omega) he
  exact ⟨fr_sized h4 h5, by unfold Sp.valsL; rw [Sp.lstV_len]; omega, h4⟩
/-- What Increasing answers. -/
def IncIs (l : List Sp.Pd) (B : Bool) (E : Int) : Prop := E = Sp.valsE l (Sp.least l) (Sp.great l) ∧ (E ≠ 0 → B = false) ∧ (E = 0 → (B = true ↔ UpFrom (Sp.valsL l (Sp.least l) (Sp.great l)) 0))
theorem foldMin_mem : ∀ (l : List (Int × Int)) (m : Int × Int), foldMin l m = m ∨ foldMin l m ∈ l
  | [], m => .inl rfl
  | x :: r, m => by
    unfold foldMin
    by_cases c : cmpP x m < 0
    · rw [if_pos c]
      rcases foldMin_mem r x with h | h
      · right; rw [h]; simp
      · right; simp [h]
    · rw [if_neg c]
      rcases foldMin_mem r m with h | h
      · left; exact h
      · right; simp [h]
theorem foldMax_mem : ∀ (l : List (Int × Int)) (m : Int × Int), foldMax l m = m ∨ foldMax l m ∈ l
  | [], m => .inl rfl
  | x :: r, m => by
    unfold foldMax
    by_cases c : 0 < cmpP x m
    · rw [if_pos c]
      rcases foldMax_mem r x with h | h
      · right; rw [h]; simp
      · right; simp [h]
    · rw [if_neg c]
      rcases foldMax_mem r m with h | h
      · left; exact h
      · right; simp [h]
def leastV (l : List (Int × Int)) : Int × Int := foldMin (l.drop 1) ((l[0]?).getD (0, 1))
def greatV (l : List (Int × Int)) : Int × Int := foldMax (l.drop 1) ((l[0]?).getD (0, 1))
theorem leastV_mem {l : List (Int × Int)} (h : 0 < l.length) : leastV l ∈ l := by
  unfold leastV
  rw [List.getElem?_eq_getElem h, Option.getD_some]
  rcases foldMin_mem (l.drop 1) (l[0]) with e | e
  · rw [e]; exact List.getElem_mem h
  · exact List.mem_of_mem_drop e
theorem greatV_mem {l : List (Int × Int)} (h : 0 < l.length) : greatV l ∈ l := by
  unfold greatV
  rw [List.getElem?_eq_getElem h, Option.getD_some]
  rcases foldMax_mem (l.drop 1) (l[0]) with e | e
  · rw [e]; exact List.getElem_mem h
  · exact List.mem_of_mem_drop e
/-- What Range answers. -/
def RanIs (l : List Sp.Pd) (a b lo hi E : Int) : Prop := E = Sp.valsE l a b ∧ (E ≠ 0 → lo = 0 ∧ hi = 0) ∧ (E = 0 → lo = (leastV (Sp.valsL l a b)).1 / (leastV (Sp.valsL l a b)).2 ∧ hi = -((-(greatV (Sp.valsL l a b)).1) / (greatV (Sp.valsL l a b)).2))
/-- The function of the examples. -/
def exL (A1 A2 : Option Addr) (c : Int) : List Sp.Pd := [⟨0, 100, A1, 2, [(13, 1), (1, 2)]⟩, ⟨100, 300, A2, 2, [(c, 1), (1, 5)]⟩]
def upB (l : List (Int × Int)) : Bool := match l with
  | a :: b :: r => !decide (cmpP b a < 0) && upB (b :: r)
  | _ => true
theorem upB_from : ∀ (l : List (Int × Int)), upB l = true → UpFrom l 0
  | [], _ => fun k h _ => absurd h (by simp)
  | [a], _ => fun k h _ => absurd h (by simp)
  | a :: b :: r, h => by
    unfold upB at h
    simp only [Bool.and_eq_true, Bool.not_eq_true', decide_eq_false_iff_not] at h
    have ih := upB_from (b :: r) h.2
    intro k hk _
    cases k with
    | zero => exact h.1
    | succ k => exact ih k (by simpa using hk) (Nat.zero_le _)
theorem upB_not : ∀ (l : List (Int × Int)), upB l = false → ¬ UpFrom l 0
  | [], h => by simp [upB] at h
  | [a], h => by simp [upB] at h
  | a :: b :: r, h => by
    unfold upB at h
    intro hu
    by_cases c : cmpP b a < 0
    · exact hu 0 (by simp) (Nat.le_refl _) c
    · have h2 : upB (b :: r) = false := by simpa [c] using h
      exact upB_not (b :: r) h2 (fun k hk _ => hu (k + 1) (by simpa using hk) (Nat.zero_le _))
theorem up_iff (l : List (Int × Int)) : upB l = true ↔ UpFrom l 0 := by
  constructor
  · exact upB_from l
  · intro h
    cases e : upB l
    · exact absurd h (upB_not l e)
    · rfl
theorem inc_is {l : List Sp.Pd} {B : Bool} (h : Sp.valsE l (Sp.least l) (Sp.great l) = 0) (hb : upB (Sp.valsL l (Sp.least l) (Sp.great l)) = B) : IncIs l B 0 :=
  ⟨h.symm, fun k => absurd rfl k, fun _ => by rw [← hb]; exact up_iff _⟩
set_option maxRecDepth 100000
theorem ex_f1 (A1 A2 : Option Addr) : Sp.evalS (exL A1 A2 43) 0 = (13, 1, 0) := by kernel_rfl
theorem ex_f2 (A1 A2 : Option Addr) : Sp.evalS (exL A1 A2 43) 300 = (103, 1, 0) := by kernel_rfl
theorem ex_f3 (A1 A2 : Option Addr) : Sp.contS (exL A1 A2 43) = (true, 0) := by kernel_rfl
theorem ex_f6 (A1 A2 : Option Addr) : Sp.contS (exL A1 A2 44) = (false, 0) := by kernel_rfl
theorem ex_f4a (A1 A2 : Option Addr) : Sp.valsE (exL A1 A2 43) 0 300 = 0 := by kernel_rfl
theorem ex_f4b (A1 A2 : Option Addr) : upB (Sp.valsL (exL A1 A2 43) 0 300) = true := by kernel_rfl
theorem ex_f4 (A1 A2 : Option Addr) : IncIs (exL A1 A2 43) true 0 := inc_is (ex_f4a A1 A2) (ex_f4b A1 A2)
theorem ex_f7a (A1 A2 : Option Addr) : Sp.valsE (exL A1 A2 20) 0 300 = 0 := by kernel_rfl
theorem ex_f7b (A1 A2 : Option Addr) : upB (Sp.valsL (exL A1 A2 20) 0 300) = false := by kernel_rfl
theorem ex_f7 (A1 A2 : Option Addr) : IncIs (exL A1 A2 20) false 0 := inc_is (ex_f7a A1 A2) (ex_f7b A1 A2)
theorem ex_f5a (A1 A2 : Option Addr) : Sp.valsE (exL A1 A2 43) 1 99 = 0 := by kernel_rfl
theorem ex_f5b (A1 A2 : Option Addr) : (leastV (Sp.valsL (exL A1 A2 43) 1 99)).1 / (leastV (Sp.valsL (exL A1 A2 43) 1 99)).2 = 13 := by kernel_rfl
theorem ex_f5c (A1 A2 : Option Addr) : -((-(greatV (Sp.valsL (exL A1 A2 43) 1 99)).1) / (greatV (Sp.valsL (exL A1 A2 43) 1 99)).2) = 63 := by kernel_rfl
theorem ex_f5 (A1 A2 : Option Addr) : RanIs (exL A1 A2 43) 1 99 13 63 0 := ⟨(ex_f5a A1 A2).symm, fun k => absurd rfl k, fun _ => ⟨(ex_f5b A1 A2).symm, (ex_f5c A1 A2).symm⟩⟩

def OrRel (w : World) (e : Int) (t : Value) (wr : World) : Prop := ∃ j : Nat, t = .int .i64 (j : Int) ∧ j ≤ 2 ∧ (0 < j → e = 0) ∧ wr = w
def CtRel (w : World) (l : List Sp.Pd) (R : Bool × Int) (t u : Value) (wr : World) : Prop := ∃ (j : Nat) (B : Bool), t = .int .i64 (j : Int) ∧ u = .bool B ∧ j + 1 ≤ l.length ∧ Sp.contF (l.drop j) B = R ∧ Below w.heap.size w wr
def CuRel (wr : World) (f2 t2 : Int) (A2 : Option Addr) (n2 k2 : Nat) (a1 a2 e1 : Int) (v v' : Value) (wx : World) : Prop :=
  ∃ g : Nat, v = .pointer (some ⟨g, 0, none⟩) ∧ v' = .int .i64 e1 ∧ (wr.heap.size < g ∧ g < wx.heap.size) ∧ (wx.cell? ⟨g, 0, none⟩ = some (.int .i64 a1) ∧ wx.cell? ⟨g, 1, none⟩ = some (.int .i64 a2)) ∧
    (wx.cell? ⟨wr.heap.size, 0, none⟩ = some (.int .i64 f2) ∧ wx.cell? ⟨wr.heap.size, 1, none⟩ = some (.int .i64 t2) ∧ wx.cell? ⟨wr.heap.size, 2, none⟩ = some (.slice A2 n2 k2)) ∧ Below wr.heap.size wr wx
def LinePost (w : World) (f t : Int) (a b : Int × Int) (e : Ending) (w' : World) : Prop :=
  Below w.heap.size w w' ∧ ∃ g : Nat, e = .returned (.agg #[.int .i64 f, .int .i64 t, .slice (some ⟨g, 0, none⟩) 2 2]) ∧ Frs w' (some ⟨g, 0, none⟩) [a, b]
theorem frs_two {w : World} {g : Nat} {a b : Int × Int} (h : g < w.heap.size) (c0 : w.cell? ⟨g, 0, none⟩ = some (.int .i64 a.1)) (c1 : w.cell? ⟨g, 1, none⟩ = some (.int .i64 a.2)) (c2 : w.cell? ⟨g, 2, none⟩ = some (.int .i64 b.1)) (c3 : w.cell? ⟨g, 3, none⟩ = some (.int .i64 b.2)) : Frs w (some ⟨g, 0, none⟩) [a, b] := fun _ =>
  ⟨g, 0, rfl, h, fun j hj => by
    match j, hj with
    | 0, _ => exact ⟨c0, c1⟩
    | 1, _ => exact ⟨c2, c3⟩
    | j + 2, hj => simp at hj; omega⟩
theorem bthen {a b c : World} (h : Below a.heap.size a b) (k : Below b.heap.size b c) : Below a.heap.size a c := h.trans (k.mono h.size)
theorem balloc (w : World) (o : Obj) : Below w.heap.size w (w.alloc o) := (Below.refl _ _).alloc (Nat.le_refl _) _
def ExPost (w : World) (c : Int) (e : Ending) (w' : World) : Prop :=
  Below w.heap.size w w' ∧ ∃ (A1 A2 : Option Addr) (g : Nat), e = .returned (.slice (some ⟨g, 0, none⟩) 2 2) ∧ Pcs w' (some ⟨g, 0, none⟩) (exL A1 A2 c)
theorem ex_sized (A1 A2 : Option Addr) (c : Int) (c0 : -1000 ≤ c) (c1 : c ≤ 1000) : PcSized (exL A1 A2 c) := by
  refine ⟨by simp [exL], fun p hp => ?_⟩
  simp [exL] at hp
  rcases hp with rfl | rfl
  · refine ⟨by simp only; omega, by simp only; omega, by simp, fun q hq => ?_⟩
    simp at hq
    rcases hq with rfl | rfl <;> (simp only; omega)
  · refine ⟨by simp only; omega, by simp only; omega, by simp, fun q hq => ?_⟩
    simp at hq
    rcases hq with rfl | rfl <;> (simp only; omega)
end Go.Proofs.Ytdimncchejbaaaa
