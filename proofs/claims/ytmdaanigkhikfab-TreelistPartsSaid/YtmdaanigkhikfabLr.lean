/-
  Layer 16: the walk of TreelistParts.
-/
import Derived.Test.YtmdaanigkhikfabLq
namespace Go.Proofs.Ytmdaanigkhikfab
open Go.RowKit
set_option linter.unusedVariables false
set_option linter.unusedSimpArgs false
namespace Sp
theorem sqG_zero : ∀ (l : List Te) (s : Int), (∀ t ∈ l, 1 ≤ t.d ∧ t.d ≤ 3000) → (sqG s l).2 = 0
  | [], s, _ => rfl
  | t :: l, s, h => by
    unfold sqG
    have a := h t List.mem_cons_self
    rw [if_neg (by simp; omega)]
    exact sqG_zero l _ (fun u hu => h u (List.mem_cons_of_mem _ hu))
theorem sqS_zero {l : List Te} (hl : l.length ≤ 200) (h : ∀ t ∈ l, 1 ≤ t.d ∧ t.d ≤ 3000) : (sqS l).2 = 0 := by
  unfold sqS
  rw [if_neg (by omega)]
  exact sqG_zero l 0 h
theorem sumQ_append (a b : List Te) : sumQ (a ++ b) = sumQ a + sumQ b := by simp [sumQ, List.sum_append]
/-- The sums of squares of two lists. -/
theorem sqS_both {a b : List Te} (ha : a.length ≤ 40) (hb : b.length ≤ 40) :
    ((sqS a).2 = 0 → (sqS b).2 = 0 → (sqS (a ++ b)).2 = 0 ∧ (sqS (a ++ b)).1 = (sqS a).1 + (sqS b).1 ∧ (0 ≤ (sqS a).1 ∧ (sqS a).1 ≤ 1000000000) ∧ 0 ≤ (sqS b).1 ∧ (sqS b).1 ≤ 1000000000) ∧
    ((sqS (a ++ b)).2 = 0 → (sqS a).2 = 0 ∧ (sqS b).2 = 0) := by
  constructor
  · intro h1 h2
    obtain ⟨-, n1, n2⟩ := sqS_ok h1
    obtain ⟨-, m1, m2⟩ := sqS_ok h2
    have h3 : (sqS (a ++ b)).2 = 0 := sqS_zero (by rw [List.length_append]; omega) (fun t ht => by
      rcases List.mem_append.1 ht with h | h
      · exact n1 t h
      · exact m1 t h)
    obtain ⟨-, -, k2⟩ := sqS_ok h3
    obtain ⟨q1, q2⟩ := sumQ_in a n1
    obtain ⟨q3, q4⟩ := sumQ_in b m1
    rw [k2, n2, m2, sumQ_append]
    exact ⟨h3, rfl, by omega, by omega⟩
  · intro h
    obtain ⟨-, n1, -⟩ := sqS_ok h
    exact ⟨sqS_zero (by omega) (fun t ht => n1 t (List.mem_append_left _ ht)), sqS_zero (by omega) (fun t ht => n1 t (List.mem_append_right _ ht))⟩
end Sp
set_option maxRecDepth 100000 in
set_option maxHeartbeats 4000000 in
theorem lparts_as (A : Option Addr) (ca : Nat) (a : List Sp.Te) (B : Option Addr) (cb : Nat) (b : List Sp.Te) (w : World) (_ : a.length ≤ ca) (hSa : TeSized a) (hTa : Trs w A a) (_ : b.length ≤ cb) (hSb : TeSized b) (hTb : Trs w B b) :
    Calls Try.prog 10 #[.slice A a.length ca, .slice B b.length cb] w (Gives (.bool true) w) := by
  have awk : ∀ W, Below w.heap.size w W → Calls Try.prog 13 #[] W (fun e w' => e = .returned (.bool true) ∧ Below w.heap.size w w') := by
    intro W hb
    refine (lawake_any W).mono ?_
    rintro _ w' ⟨rfl, h⟩
    exact ⟨rfl, bthen hb h⟩
  have AW := hid awk
  clear awk
  by_cases g1 : (40 : Int) < (a.length : Int)
  · have f1 : decide ((40 : Int) < (a.length : Int)) = true := decide_eq_true g1
    clear hSa hTa hSb hTb
    go_enter Try.func10, Try.ntmps10
    go_wp2_with fail
    refine (AW.out _ (Below.refl _ _)).mono ?_
    rintro _ w6 ⟨rfl, hb⟩
    have B6 := hid hb
    clear hb
    go_wp2_with fail
    go_ret
    exact Gives.mk rfl B6.out
  by_cases g2 : (40 : Int) < (b.length : Int)
  · have f1 : decide ((40 : Int) < (a.length : Int)) = false := decide_eq_false g1
    have f2 : decide ((40 : Int) < (b.length : Int)) = true := decide_eq_true g2
    clear hSa hTa hSb hTb
    go_enter Try.func10, Try.ntmps10
    go_wp2_with fail
    refine (AW.out _ (Below.refl _ _)).mono ?_
    rintro _ w6 ⟨rfl, hb⟩
    have B6 := hid hb
    clear hb
    go_wp2_with fail
    go_ret
    exact Gives.mk rfl B6.out
  have f1 : decide ((40 : Int) < (a.length : Int)) = false := decide_eq_false g1
  have f2 : decide ((40 : Int) < (b.length : Int)) = false := decide_eq_false g2
  have la : a.length ≤ 40 := by omega
  have lb : b.length ≤ 40 := by omega
  obtain ⟨N1, N2⟩ := Sp.sqS_both la lb
  have LAB := hid (show a.length + b.length ≤ 1000 by omega)
  have LV := hid (show (Sp.liv a).length + (Sp.liv b).length ≤ 1000 by have := Sp.liv_len a; have := Sp.liv_len b; omega)
  have LW := hid (show (Sp.liv a ++ Sp.liv b).length ≤ 1000 by rw [List.length_append]; have := Sp.liv_len a; have := Sp.liv_len b; omega)
  have CL := hid (tclone_any A ca a w (by omega) hTa)
  have Q1 := hid (fun W (hb : Below w.heap.size w W) => lsquares_any A ca a (Sp.sqS a).1 (Sp.sqS a).2 W hSa.1 (hTa.below hb) rfl)
  have Q2 := hid (fun W (hb : Below w.heap.size w W) => lsquares_any B cb b (Sp.sqS b).1 (Sp.sqS b).2 W hSb.1 (hTb.below hb) rfl)
  have Q3 := hid (fun W C c (h : Trs W C (a ++ b)) => lsquares_any C c (a ++ b) (Sp.sqS (a ++ b)).1 (Sp.sqS (a ++ b)).2 W (by rw [List.length_append]; omega) h rfl)
  have V1 := hid (fun W (hb : Below w.heap.size w W) => llive_any A ca a W hSa.1 (hTa.below hb))
  have V2 := hid (fun W (hb : Below w.heap.size w W) => llive_any B cb b W hSb.1 (hTb.below hb))
  have V3 := hid (fun W C c (h : Trs W C (a ++ b)) => llive_any C c (a ++ b) W (by rw [List.length_append]; omega) h)
  rw [Sp.liv_append] at V3
  have TB := hid (fun W (hb : Below w.heap.size w W) => hTb.below hb)
  obtain ⟨ab, hab⟩ : ∃ ab, a ++ b = ab := ⟨_, rfl⟩
  rw [hab] at Q3 V3 N1 N2
  generalize (Sp.sqS a).1 = S1 at N1 N2 Q1 V1
  generalize (Sp.sqS a).2 = E1 at N1 N2 Q1 V1
  generalize (Sp.sqS b).1 = S2 at N1 N2 Q2 V2
  generalize (Sp.sqS b).2 = E2 at N1 N2 Q2 V2
  generalize (Sp.sqS ab).1 = S3 at N1 N2 Q3 V3
  generalize (Sp.sqS ab).2 = E3 at N1 N2 Q3 V3
  generalize Sp.liv a = L1 at V1 V3 LV LW
  generalize Sp.liv b = L2 at V2 V3 LV LW
  obtain ⟨LL, hLL⟩ : ∃ LL, L1 ++ L2 = LL := ⟨_, rfl⟩
  rw [hLL] at V3 LW
  have HAB := hid hab
  have HLL := hid hLL
  have M1 := hid N1
  have M2 := hid N2
  clear hSa hTa hSb hTb N1 N2 la lb g1 g2 hab hLL
  go_enter Try.func10, Try.ntmps10
  go_wp2_with fail
  refine CL.out.mono ?_
  rintro _ w6 ⟨v6, rfl, hO, hb⟩
  have B6 := hid hb
  have O6 := hid hO
  have TB6 := hid (TB.out _ hb)
  clear hb hO f1 f2
  go_wp2_with (at_builtin; refine appT rfl _ _ rfl w.heap.size _ a rfl O6.out B cb b rfl TB6.out LAB B6.out.size ?_; intro v7 w7 how hgr)
  have B7 := hid (tbelow O6.out (Nat.le_refl _) B6.out hgr)
  rw [HAB.out] at how
  have how2 := how
  obtain ⟨C, cc, rfl, -, t7⟩ := how.form
  have O7 := hid how2
  have T7 := hid (fun W (hb : Below w7.heap.size w7 W) => t7.below hb)
  clear how how2 t7 hgr
  refine (Q1.out _ B7.out).mono ?_
  rintro _ w8 ⟨rfl, hb⟩
  have K8 := hid hb
  have B8 := hid (bthen B7.out hb)
  clear hb
  go_wp2_with fail
  refine (Q2.out _ B8.out).mono ?_
  rintro _ w9 ⟨rfl, hb⟩
  have K9 := hid (bthen K8.out hb)
  have B9 := hid (bthen B8.out hb)
  clear hb
  go_wp2_with fail
  refine (Q3.out _ C cc (T7.out _ K9.out)).mono ?_
  rintro _ w10 ⟨rfl, hb⟩
  have K10 := hid (bthen K9.out hb)
  have B10 := hid (bthen B9.out hb)
  clear hb
  by_cases e1 : E1 = 0
  · by_cases e2 : E2 = 0
    · subst e1
      subst e2
      obtain ⟨m1, m2, m3, m4⟩ := M1.out rfl rfl
      subst m1
      subst m2
      have w1 : wrap64 (S1 + S2) = S1 + S2 := pw64 _ (by omega)
      clear m3 m4 M1 M2
      go_wp2_with fail
      refine (V1.out _ B10.out).mono ?_
      rintro _ w11 ⟨hb, ⟨h0, -⟩ | ⟨-, p, rfl, hp⟩⟩
      · exact absurd rfl h0
      have K11 := hid (bthen K10.out hb)
      have Z10 := hid hb
      have B11 := hid (bthen B10.out hb)
      have P11 := hid hp
      clear hb hp
      go_wp2_with fail
      refine (V2.out _ B11.out).mono ?_
      rintro _ w12 ⟨hb, ⟨h0, -⟩ | ⟨-, q, rfl, hq⟩⟩
      · exact absurd rfl h0
      have K12 := hid (bthen K11.out hb)
      have Z11 := hid hb
      have B12 := hid (bthen B11.out hb)
      have P12 := hid (P11.out.below hb)
      obtain ⟨D, dc, rfl, -, t12⟩ := hq.form
      have T12 := hid (fun W (hb : Below w12.heap.size w12 W) => t12.below hb)
      clear hb hq t12
      go_wp2_with fail
      refine (V3.out _ C cc (T7.out _ K12.out)).mono ?_
      rintro _ w13 ⟨hb, ⟨h0, -⟩ | ⟨-, r, rfl, hr⟩⟩
      · exact absurd rfl h0
      have B13 := hid (bthen B12.out hb)
      have P13 := hid (P12.out.below hb)
      have T13 := hid (T12.out _ hb)
      have zr : w11.heap.size ≤ w12.heap.size := Z11.out.size
      obtain ⟨G, gc, rfl, -, t13⟩ := hr.form
      have KR := hid (fun (w' : World) (hg : w13.grownBy w' p.ownBlock) => hr.kept P11.out zr hg)
      have B13z := hid (show w10.heap.size ≤ w13.heap.size from Nat.le_trans Z10.out.size (Nat.le_trans Z11.out.size hb.size))
      have zb := hid (show w.heap.size ≤ w10.heap.size from B10.out.size)
      clear hb hr t13 zr
      go_wp2_with (at_builtin; refine appT (by rfl) _ _ rfl w10.heap.size p L1 rfl P13.out D dc L2 rfl T13.out LV B13z.out ?_; intro v14 w14 how hgr)
      have B14 := hid (tbelow P13.out zb.out B13.out hgr)
      have R14 := hid (KR.out _ hgr)
      rw [HLL.out] at how
      obtain ⟨H, hc, rfl, -, t14⟩ := how.form
      obtain ⟨G2, gc2, eG, -, s14⟩ := R14.out.form
      have eG2 : G2 = G := by injection eG with e1 e2 e3; exact e1.symm
      subst eG2
      have EQ := hid (teq_any H G2 hc gc LL w14 LW.out t14 s14)
      clear how t14 s14 hgr
      refine EQ.out.mono ?_
      rintro _ w15 ⟨rfl, hb⟩
      have B15 := hid (bthen B14.out hb)
      clear hb
      go_wp2_with fail
      refine (AW.out _ B15.out).mono ?_
      rintro _ w16 ⟨rfl, hb⟩
      have B16 := hid hb
      clear hb
      go_wp2_with fail
      go_ret
      exact Gives.mk rfl B16.out
    · have hn1 : (E1 == 0) = true := by simpa using e1
      have hn2 : (E2 == 0) = false := by simpa using e2
      have e3 : ¬ E3 = 0 := fun h => e2 (M2.out h).2
      have hn3 : (E3 != 0) = true := by simpa using e3
      clear M1 M2
      go_wp2_with fail
      refine (AW.out _ B10.out).mono ?_
      rintro _ w11 ⟨rfl, hb⟩
      have B11 := hid hb
      clear hb
      go_wp2_with fail
      go_ret
      exact Gives.mk (by first | rfl | (show Value.bool true = Value.bool (E3 != 0); rw [hn3])) B11.out
  · have hn1 : (E1 == 0) = false := by simpa using e1
    have e3 : ¬ E3 = 0 := fun h => e1 (M2.out h).1
    have hn3 : (E3 != 0) = true := by simpa using e3
    clear M1 M2
    go_wp2_with fail
    refine (AW.out _ B10.out).mono ?_
    rintro _ w11 ⟨rfl, hb⟩
    have B11 := hid hb
    clear hb
    go_wp2_with fail
    go_ret
    exact Gives.mk (by first | rfl | (show Value.bool true = Value.bool (E3 != 0); rw [hn3])) B11.out
end Go.Proofs.Ytmdaanigkhikfab
