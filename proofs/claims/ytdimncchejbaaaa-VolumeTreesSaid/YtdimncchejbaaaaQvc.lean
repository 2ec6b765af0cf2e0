/-
  Layer 14: the reference, by contract; mathematics of VolumeGrows.
-/
import Derived.Test.YtdimncchejbaaaaQva
import Derived.Test.YtdimncchejbaaaaQc
import Derived.Test.YtdimncchejbaaaaFrnew
import Derived.Test.YtdimncchejbaaaaQvb
namespace Go.Proofs.Ytdimncchejbaaaa
open Go.RowKit
set_option linter.unusedVariables false
set_option linter.unusedSimpArgs false
theorem rnew_zero (n : Int) (w : World) : Calls Try.prog 65 #[.int .i64 n, .int .i64 0] w (Gives (.tuple #[.agg #[.int .i64 0, .int .i64 0], .int .i64 18]) w) := by
  go_enter Try.func65, Try.ntmps65
  go_wp2
  go_returns
  exact Gives.mk rfl (by repeat' (first | (with_reducible exact Below.refl _ _) | (with_reducible refine Below.alloc ?_ ?_ _) | (with_reducible refine Below.setCell ?_ ?_ _) | (with_reducible refine Below.drew ?_) | (with_reducible refine Below.trans ?_ (Below.mono (by assumption) ?_)) | (simp; done) | (simp; omega) | omega))
theorem wrap_up {x : Int} (x0 : 0 ≤ x) (x1 : x ≤ 9223372036854775808) : (x ≤ 9223372036854775807 ∧ wrap64 x = x) ∨ (x = 9223372036854775808 ∧ wrap64 x = -9223372036854775808) := by
  unfold wrap64
  omega
theorem rnew_any (n d : Int) (n0 : -9223372036854775808 ≤ n) (n1 : n ≤ 9223372036854775807) (d0 : -9223372036854775808 ≤ d) (d1 : d ≤ 9223372036854775807) (x y e : Int) (hv : Sp.newS n d = (x, y, e)) (w : World) :
    Calls Try.prog 65 #[.int .i64 n, .int .i64 d] w (Gives (.tuple #[.agg #[.int .i64 x, .int .i64 y], .int .i64 e]) w) := by
  unfold Sp.newS at hv
  by_cases dz : d = 0
  · rw [if_pos dz] at hv
    simp only [Prod.mk.injEq] at hv
    obtain ⟨rfl, rfl, rfl⟩ := hv
    subst dz
    exact rnew_zero n w
  · rw [if_neg dz] at hv
    have gp : 0 < Int.gcd n d := Int.gcd_pos_of_ne_zero_right n dz
    obtain ⟨G, hG⟩ : ∃ G, Int.gcd n d = G := ⟨_, rfl⟩
    have gl : (G : Int) ≤ (d.natAbs : Int) := by
      have h := Nat.le_of_dvd (by omega) (Nat.gcd_dvd_right n.natAbs d.natAbs)
      have h2 : Nat.gcd n.natAbs d.natAbs = G := hG
      omega
    have k1 : Int.gcd (-(n.natAbs : Int)) (-(d.natAbs : Int)) = G := by rw [← hG, Int.neg_gcd, Int.gcd_neg]; simp [Int.gcd]
    rw [hG] at hv gp
    obtain ⟨g, hg⟩ : ∃ g : Int, (G : Int) = g := ⟨_, rfl⟩
    rw [hg] at hv gl
    obtain ⟨N, hN⟩ : ∃ N : Int, (n.natAbs : Int) = N := ⟨_, rfl⟩
    obtain ⟨D, hD⟩ : ∃ D : Int, (d.natAbs : Int) = D := ⟨_, rfl⟩
    rw [hN] at hv k1
    rw [hD] at hv gl k1
    have f1 : (-N).tdiv g = -(N / g) := by rw [Int.neg_tdiv, Int.tdiv_eq_ediv_of_nonneg (by omega)]
    have f2 : (-D).tdiv g = -(D / g) := by rw [Int.neg_tdiv, Int.tdiv_eq_ediv_of_nonneg (by omega)]
    have pb := Sp.div_le_self (n := N) (g := g) (by omega) (by omega)
    have qb := Sp.div_le_self (n := D) (g := g) (by omega) (by omega)
    obtain ⟨p, hp⟩ : ∃ p, N / g = p := ⟨_, rfl⟩
    obtain ⟨q, hq⟩ : ∃ q, D / g = q := ⟨_, rfl⟩
    rw [hp] at hv f1 pb
    rw [hq] at hv f2 qb
    have wp := wrap_up (x := p) (by omega) (by omega)
    have wq := wrap_up (x := q) (by omega) (by omega)
    obtain ⟨p', hp'⟩ : ∃ p', wrap64 p = p' := ⟨_, rfl⟩
    obtain ⟨q', hq'⟩ : ∃ q', wrap64 q = q' := ⟨_, rfl⟩
    rw [hp'] at wp
    rw [hq'] at wq
    have e1 : wrap64 (-(-p)) = p' := by rw [Int.neg_neg]; exact hp'
    have e2 : wrap64 (-(-q)) = q' := by rw [Int.neg_neg]; exact hq'
    have ga : (-g == 0) = false := by simp; omega
    have key : ((p' < 0 ∨ q' < 0 ∨ 1000000000000000 < p' ∨ 1000000000000000 < q') ∧ x = 0 ∧ y = 0 ∧ e = 8) ∨ (0 ≤ p' ∧ 0 ≤ q' ∧ p' ≤ 1000000000000000 ∧ q' ≤ 1000000000000000 ∧ decide (n < 0) = decide (d < 0) ∧ x = p' ∧ y = q' ∧ e = 0) ∨ (0 ≤ p' ∧ 0 ≤ q' ∧ p' ≤ 1000000000000000 ∧ q' ≤ 1000000000000000 ∧ decide (n < 0) = !decide (d < 0) ∧ x = -p' ∧ y = q' ∧ e = 0) := by
      by_cases c : 1000000000000000 < p ∨ 1000000000000000 < q
      · rw [if_pos c] at hv
        simp only [Prod.mk.injEq] at hv
        exact Or.inl ⟨by omega, hv.1.symm, hv.2.1.symm, hv.2.2.symm⟩
      · rw [if_neg c] at hv
        simp only [Prod.mk.injEq] at hv
        obtain ⟨hx, hy, he⟩ := hv
        by_cases s : decide (n < 0) = decide (d < 0)
        · rw [if_pos s] at hx
          exact Or.inr (Or.inl ⟨by omega, by omega, by omega, by omega, s, by omega, by omega, he.symm⟩)
        · rw [if_neg s] at hx
          refine Or.inr (Or.inr ⟨by omega, by omega, by omega, by omega, ?_, by omega, by omega, he.symm⟩)
          revert s
          cases decide (n < 0) <;> cases decide (d < 0) <;> simp
    clear hv wp wq hp' hq' hp hq
    by_cases hn : 0 < n <;> by_cases hdd : 0 < d
    · have h := rnew_walk3 (-N) (-D) g p' q' x y e G w (by omega) (by omega) (by omega) (by omega) (by omega) (by omega) k1 hg (by omega) (by omega) (-p) (-q) f1 f2 e1 e2 ga (by omega) (decide (n < 0)) (by rw [Int.neg_neg, ← hN]; congr 1; simp; omega) (by
        have h0 : decide (d < 0) = false := by simp; omega
        rw [h0] at key; exact key)
      have en : - -N = n := by omega
      have ed : - -D = d := by omega
      rw [en, ed] at h
      exact h
    · have h := rnew_walk2 (-N) (-D) g p' q' x y e G w (by omega) (by omega) (by omega) (by omega) (by omega) k1 hg (by omega) (by omega) (-p) (-q) f1 f2 e1 e2 ga (by omega) (decide (n < 0)) (by rw [Int.neg_neg, ← hN]; congr 1; simp; omega) (by
        have h0 : decide (d < 0) = true := by simp; omega
        rw [h0] at key; exact key)
      have en : - -N = n := by omega
      have ed : -D = d := by omega
      rw [en, ed] at h
      exact h
    · have h := rnew_walk1 (-N) (-D) g p' q' x y e G w (by omega) (by omega) (by omega) (by omega) (by omega) k1 hg (by omega) (by omega) (-p) (-q) f1 f2 e1 e2 ga (by omega) (decide (n < 0)) (by rw [← hN]; congr 1; simp; omega) (by
        have h0 : decide (d < 0) = false := by simp; omega
        rw [h0] at key; exact key)
      have en : -N = n := by omega
      have ed : - -D = d := by omega
      rw [en, ed] at h
      exact h
    · have h := rnew_walk0 (-N) (-D) g p' q' x y e G w (by omega) (by omega) (by omega) (by omega) k1 hg (by omega) (by omega) (-p) (-q) f1 f2 e1 e2 ga (by omega) (decide (n < 0)) (by rw [← hN]; congr 1; simp; omega) (by
        have h0 : decide (d < 0) = true := by simp; omega
        rw [h0] at key; exact key)
      have en : -N = n := by omega
      have ed : -D = d := by omega
      rw [en, ed] at h
      exact h
theorem r14thick_any (x : Int) (w : World) : Calls Try.prog 35 #[.int .i64 x] w (Gives (.bool (decide (1 ≤ x) && decide (x ≤ 3000))) w) := by
  by_cases c1 : 1 ≤ x
  · rw [decide_eq_true c1, Bool.true_and]
    have f1 : decide (1 ≤ x) = true := decide_eq_true c1
    go_enter Try.func35, Try.ntmps35
    go_wp2_with fail
    go_ret
    exact Gives.mk rfl (Below.refl _ _)
  · rw [decide_eq_false c1, Bool.false_and]
    have f1 : decide (1 ≤ x) = false := decide_eq_false c1
    go_enter Try.func35, Try.ntmps35
    go_wp2_with fail
    go_ret
    exact Gives.mk rfl (Below.refl _ _)
theorem r14tall_any (x : Int) (w : World) : Calls Try.prog 38 #[.int .i64 x] w (Gives (.bool (decide (1 ≤ x) && decide (x ≤ 1000))) w) := by
  by_cases c1 : 1 ≤ x
  · rw [decide_eq_true c1, Bool.true_and]
    have f1 : decide (1 ≤ x) = true := decide_eq_true c1
    go_enter Try.func38, Try.ntmps38
    go_wp2_with fail
    go_ret
    exact Gives.mk rfl (Below.refl _ _)
  · rw [decide_eq_false c1, Bool.false_and]
    have f1 : decide (1 ≤ x) = false := decide_eq_false c1
    go_enter Try.func38, Try.ntmps38
    go_wp2_with fail
    go_ret
    exact Gives.mk rfl (Below.refl _ _)
theorem r14check_any (A A' : Option Addr) (cap cap' : Nat) (h t : List Sp.Pd) (f : Int) (w : World) (hz : PcSized h) (tz : PcSized t) (hT : Pcs w A h) (tT : Pcs w A' t) :
    Calls Try.prog 18 #[.agg #[.slice A h.length cap, .int .i64 f, .slice A' t.length cap']] w (Gives (.int .i64 (Sp.curE h f t)) w) := by
  have VB := curAt_new w A A' h.length cap t.length cap' f
  have b0 : Below w.heap.size w (w.alloc (Obj.cells #[.slice A h.length cap, .int .i64 f, .slice A' t.length cap'] 24)) := balloc _ _
  generalize hU : w.alloc (Obj.cells #[.slice A h.length cap, .int .i64 f, .slice A' t.length cap'] 24) = U at VB b0
  have CK := hid (rpcheck_any A cap h U hz (hT.below b0))
  obtain ⟨a, b, e, hd, h1, h2⟩ : ∃ a b e, DomIs t a b e ∧ (Sp.pcheck t = e) ∧ (e = 0 → a = Sp.least t ∧ b = Sp.great t) := by
    by_cases c3 : Sp.pcheck t = 0
    · exact ⟨_, _, _, dom_good c3, c3, fun _ => ⟨rfl, rfl⟩⟩
    · exact ⟨_, _, _, dom_bad c3, rfl, fun h => absurd h c3⟩
  have DO := hid (fun W (hb : Below w.heap.size w W) => rdomain_any A' cap' t a b e W tz (tT.below hb) hd)
  have HR := hid (show Sp.curE h f t = (if Sp.pcheck h ≠ 0 then Sp.pcheck h else if f < 1 ∨ 1000 < f then 2 else if e ≠ 0 then e else if a = 0 ∧ b = 1000 then 0 else 2) by
    unfold Sp.curE
    rw [h1]
    by_cases c3 : e = 0
    · obtain ⟨rfl, rfl⟩ := h2 c3; rfl
    · rw [if_pos c3, if_pos c3])
  rw [HR.out]
  generalize Sp.pcheck h = E at CK ⊢
  obtain ⟨R, hR⟩ : ∃ R, (if E ≠ 0 then E else if f < 1 ∨ 1000 < f then 2 else if e ≠ 0 then e else if a = 0 ∧ b = 1000 then 0 else 2) = R := ⟨_, rfl⟩
  rw [hR]
  have RR := hid hR
  have HU := hid hU
  have HB := hid b0
  have HC := hid VB
  have k0 := VB.c0
  clear hz tz hT tT hU b0 VB hd h1 h2 HR hR
  go_enter Try.func18, Try.ntmps18
  go_upto_region 1 with fail
  rw [HU.out]
  go_wp2_with fail
  refine CK.out.mono ?_
  rintro _ w5 ⟨rfl, hb⟩
  have B5 := hid (bthen HB.out hb)
  have Q5 := hid (HC.out.below hb)
  have q1 := Q5.out.c1
  have q2 := Q5.out.c2
  have ql := Q5.out.lt
  clear hb k0
  by_cases c1 : E = 0
  · subst c1
    by_cases g1 : f < 1
    · have f1 : decide (f < 1) = true := decide_eq_true g1
      go_wp2_with fail
      go_ret
      exact Gives.mk (i64_eq (by rw [← RR.out]; first | (rw [if_neg (fun k => k rfl), if_pos (.inl g1)]; done) | (rw [if_neg (fun k => k rfl), if_pos (.inl g1)]; rfl))) B5.out
    · have f1 : decide (f < 1) = false := decide_eq_false g1
      by_cases g2 : 1000 < f
      · have f2 : decide (1000 < f) = true := decide_eq_true g2
        go_wp2_with fail
        go_ret
        exact Gives.mk (i64_eq (by rw [← RR.out]; first | (rw [if_neg (fun k => k rfl), if_pos (.inr g2)]; done) | (rw [if_neg (fun k => k rfl), if_pos (.inr g2)]; rfl))) B5.out
      · have f2 : decide (1000 < f) = false := decide_eq_false g2
        have G := hid (show ¬ (f < 1 ∨ 1000 < f) by omega)
        clear g1 g2
        go_wp2_with fail
        refine (DO.out _ B5.out).mono ?_
        rintro _ w6 ⟨rfl, hb⟩
        have B6 := hid (bthen B5.out hb)
        clear hb
        by_cases c3 : e = 0
        · subst c3
          by_cases c4 : a = 0
          · subst c4
            by_cases c5 : b = 1000
            · subst c5
              go_wp2_with fail
              go_ret
              exact Gives.mk (i64_eq (by rw [← RR.out]; first | (rw [if_neg (fun k => k rfl), if_neg G.out]; done) | (rw [if_neg (fun k => k rfl), if_neg G.out]; rfl))) B6.out
            · have hn : (b == 1000) = false := by simpa using c5
              go_wp2_with fail
              go_ret
              exact Gives.mk (i64_eq (by rw [← RR.out]; first | (rw [if_neg (fun k => k rfl), if_neg G.out, if_neg (fun k => k rfl), if_neg (fun k => c5 k.2)]; done) | (rw [if_neg (fun k => k rfl), if_neg G.out, if_neg (fun k => k rfl), if_neg (fun k => c5 k.2)]; rfl))) B6.out
          · have hn : (a == 0) = false := by simpa using c4
            go_wp2_with fail
            go_ret
            exact Gives.mk (i64_eq (by rw [← RR.out]; first | (rw [if_neg (fun k => k rfl), if_neg G.out, if_neg (fun k => k rfl), if_neg (fun k => c4 k.1)]; done) | (rw [if_neg (fun k => k rfl), if_neg G.out, if_neg (fun k => k rfl), if_neg (fun k => c4 k.1)]; rfl))) B6.out
        · have hn : (e == 0) = false := by simpa using c3
          go_wp2_with fail
          go_ret
          exact Gives.mk (i64_eq (by rw [← RR.out]; first | (rw [if_neg (fun k => k rfl), if_neg G.out, if_pos c3]; done) | (rw [if_neg (fun k => k rfl), if_neg G.out, if_pos c3]; rfl))) B6.out
  · have hn : (E == 0) = false := by simpa using c1
    go_wp2_with fail
    go_ret
    exact Gives.mk (i64_eq (by rw [← RR.out]; first | (rw [if_pos c1]; done) | (rw [if_pos c1]; rfl))) B5.out
set_option maxRecDepth 100000 in
theorem r14hei_any (A A' : Option Addr) (cap cap' : Nat) (h t : List Sp.Pd) (f : Int) (d r e : Int) (w : World) (hz : PcSized h) (tz : PcSized t) (hT : Pcs w A h) (tT : Pcs w A' t) (hv : Sp.heiS h f t d = (r, e)) :
    Calls Try.prog 14 #[.agg #[.slice A h.length cap, .int .i64 f, .slice A' t.length cap'], .int .i64 d] w (Gives (.tuple #[.int .i64 r, .int .i64 e]) w) := by
  have VB := curAt_new w A A' h.length cap t.length cap' f
  have b0 : Below w.heap.size w (w.alloc (Obj.cells #[.slice A h.length cap, .int .i64 f, .slice A' t.length cap'] 24)) := balloc _ _
  generalize hU : w.alloc (Obj.cells #[.slice A h.length cap, .int .i64 f, .slice A' t.length cap'] 24) = U at VB b0
  have CK := hid (r14check_any A A' cap cap' h t f U hz tz (hT.below b0) (tT.below b0))
  have DI := hid (fun W => r14thick_any d W)
  obtain ⟨⟨lo, hi, y⟩, hy⟩ : ∃ z, Sp.evalS h d = z := ⟨_, rfl⟩
  have EV := hid (fun W (hb : Below w.heap.size w W) => reval_any A cap h d lo hi y W hz (hT.below hb) hy)
  have OK := hid (fun (k : y = 0) => Sp.okQ_bounds (evalS_ok (k ▸ hy)))
  unfold Sp.heiS at hv
  rw [hy] at hv
  simp only at hv
  generalize Sp.curE h f t = E at CK hv
  generalize (decide (1 ≤ d) && decide (d ≤ 3000)) = B1 at DI hv
  have RO := hid (fun (k : y = 0) W => rround_any lo hi (OK.out k).1.1 (OK.out k).1.2 (OK.out k).2.1 (OK.out k).2.2 W)
  generalize Sp.roundF lo hi = R at RO hv
  have HE := hid (fun W => r14tall_any R W)
  generalize (decide (1 ≤ R) && decide (R ≤ 1000)) = B2 at HE hv
  have HV := hid hv
  have HU := hid hU
  have HB := hid b0
  have HC := hid VB
  have k0 := VB.c0
  have k1 := VB.c1
  have k2 := VB.c2
  clear hz tz hT tT hy hv hU b0 VB OK
  go_enter Try.func14, Try.ntmps14
  go_upto_region 1 with fail
  rw [HU.out]
  go_wp2_with fail
  refine CK.out.mono ?_
  rintro _ w5 ⟨rfl, hb⟩
  have Q5 := hid (HC.out.below hb)
  have B5 := hid (bthen HB.out hb)
  clear hb k0 k1 k2
  by_cases c1 : E = 0
  · subst c1
    go_wp2_with fail
    refine (DI.out _).mono ?_
    rintro _ w6 ⟨rfl, hb⟩
    have q0 := (Q5.out.below hb).c0
    have ql := (Q5.out.below hb).lt
    have B6 := hid (bthen B5.out hb)
    clear hb
    cases B1
    · obtain ⟨rfl, rfl⟩ : 0 = r ∧ 2 = e := by simpa using HV.out
      go_wp2_with fail
      refine bodyPost_ret (v := .tuple #[.int .i64 0, .int .i64 2]) (by simp [results, Try.results14, go_sem]) rfl ?_
      exact Gives.mk rfl B6.out
    · go_wp2_with fail
      refine (EV.out _ B6.out).mono ?_
      rintro _ w7 ⟨rfl, hb⟩
      have B7 := hid (bthen B6.out hb)
      clear hb q0 ql
      by_cases c2 : y = 0
      · subst c2
        have RO2 := hid (RO.out rfl)
        go_wp2_with fail
        refine (RO2.out _).mono ?_
        rintro _ w8 ⟨rfl, hb⟩
        have B8 := hid (bthen (bthen B7.out (balloc _ _)) hb)
        clear hb
        go_wp2_with fail
        refine (HE.out _).mono ?_
        rintro _ w9 ⟨rfl, hb⟩
        have B9 := hid (bthen B8.out hb)
        clear hb
        cases B2
        · obtain ⟨rfl, rfl⟩ : 0 = r ∧ 2 = e := by simpa using HV.out
          go_wp2_with fail
          refine bodyPost_ret (v := .tuple #[.int .i64 0, .int .i64 2]) (by simp [results, Try.results14, go_sem]) rfl ?_
          exact Gives.mk rfl B9.out
        · obtain ⟨rfl, rfl⟩ : R = r ∧ 0 = e := by simpa using HV.out
          go_wp2_with fail
          refine bodyPost_ret (v := .tuple #[.int .i64 R, .int .i64 0]) (by simp [results, Try.results14, go_sem]) rfl ?_
          exact Gives.mk rfl B9.out
      · obtain ⟨rfl, rfl⟩ : 0 = r ∧ y = e := by simpa [c2] using HV.out
        have hn : (y == 0) = false := by simpa using c2
        clear RO EV DI HV
        go_wp2_with fail
        refine bodyPost_ret (v := .tuple #[.int .i64 0, .int .i64 y]) (by simp [results, Try.results14, go_sem]) rfl ?_
        exact Gives.mk rfl (bthen B7.out (balloc _ _))
  · obtain ⟨rfl, rfl⟩ : 0 = r ∧ E = e := by simpa [c1] using HV.out
    have hn : (E == 0) = false := by simpa using c1
    go_wp2_with fail
    refine bodyPost_ret (v := .tuple #[.int .i64 0, .int .i64 E]) (by simp [results, Try.results14, go_sem]) rfl ?_
    exact Gives.mk rfl B5.out
set_option maxRecDepth 100000 in
theorem r14enc_any (l h u : Int) (l0 : 0 ≤ l) (l1 : l ≤ 9000000000000) (h0 : 0 ≤ h) (h1 : h ≤ 9000000000000) (u0 : 1 ≤ u) (u1 : u ≤ 10000000000000) (w : World) :
    Calls Try.prog 41 #[.int .i64 l, .int .i64 h, .int .i64 u] w (Gives (.agg #[.int .i64 ((785398 * l).tdiv u), .int .i64 ((785399 * h + u - 1).tdiv u)]) w) := by
  obtain ⟨p, hp⟩ : ∃ p, 785398 * l = p := ⟨_, rfl⟩
  obtain ⟨q, hq⟩ : ∃ q, 785399 * h = q := ⟨_, rfl⟩
  have p0 : 0 ≤ p := by omega
  have p1 : p ≤ 7068582000000000000 := by omega
  have q0 : 0 ≤ q := by omega
  have q1 : q ≤ 7068591000000000000 := by omega
  rw [hp, hq]
  obtain ⟨a, ha⟩ : ∃ a, p.tdiv u = a := ⟨_, rfl⟩
  obtain ⟨b, hb⟩ : ∃ b, (q + u - 1).tdiv u = b := ⟨_, rfl⟩
  have a0 : 0 ≤ a := by rw [← ha]; exact Int.tdiv_nonneg p0 (by omega)
  have a1 : a ≤ p := by rw [← ha, Int.tdiv_eq_ediv_of_nonneg p0]; exact Int.ediv_le_self _ p0
  have b0 : 0 ≤ b := by rw [← hb]; exact Int.tdiv_nonneg (by omega) (by omega)
  have b1 : b ≤ q + u - 1 := by rw [← hb, Int.tdiv_eq_ediv_of_nonneg (by omega)]; exact Int.ediv_le_self _ (by omega)
  have w1 : wrap64 p = p := pw64 _ (by omega)
  have w2 : wrap64 q = q := pw64 _ (by omega)
  have w3 : wrap64 (q + u) = q + u := pw64 _ (by omega)
  have w4 : wrap64 (q + u - 1) = q + u - 1 := pw64 _ (by omega)
  have w5 : wrap64 a = a := pw64 _ (by omega)
  have w6 : wrap64 b = b := pw64 _ (by omega)
  have uz : (u == 0) = false := by simp; omega
  rw [ha, hb]
  go_enter Try.func41, Try.ntmps41
  have x1 : IntKind.i64.wrap p = p := by rw [IntKind.wrap_i64]; omega
  have x2 : IntKind.i64.wrap q = q := by rw [IntKind.wrap_i64]; omega
  have x3 : IntKind.i64.wrap (q + u) = q + u := by rw [IntKind.wrap_i64]; omega
  have x4 : IntKind.i64.wrap (q + u - 1) = q + u - 1 := by rw [IntKind.wrap_i64]; omega
  have x5 : IntKind.i64.wrap a = a := by rw [IntKind.wrap_i64]; omega
  have x6 : IntKind.i64.wrap b = b := by rw [IntKind.wrap_i64]; omega
  go_wp2_with fail
  have un : ¬ u = 0 := by omega
  obtain ⟨U, hU⟩ : ∃ U, w.alloc (.cells #[.int .i64 0, .int .i64 0] 32) = U := ⟨_, rfl⟩
  have BU := hid (show Below w.heap.size w U by rw [← hU]; exact balloc _ _)
  have z0 : U.cell? ⟨w.heap.size, 0, none⟩ = some (.int .i64 0) := by rw [← hU]; simp [go_sem]
  have z1 : U.cell? ⟨w.heap.size, 1, none⟩ = some (.int .i64 0) := by rw [← hU]; simp [go_sem]
  have zf : ∀ o, U.frozen? ⟨w.heap.size, o, none⟩ = false := by intro o; rw [← hU]; simp [go_sem]
  have zz : w.heap.size < U.heap.size := by rw [← hU]; simp
  simp only [hU]
  clear hU
  go_still_tail 12, (by rfl)
  go_wp2_with fail
  refine bodyPost_ret (v := .agg #[.int .i64 a, .int .i64 b]) (by simp [results, Try.results41, go_sem, z0, z1, zf, zz]) rfl ?_
  exact Gives.mk rfl (by have hB := BU.out; repeat' (first | (with_reducible exact Below.refl _ _) | (with_reducible refine Below.alloc ?_ ?_ _) | (with_reducible refine Below.setCell ?_ ?_ _) | (with_reducible refine Below.drew ?_) | (with_reducible refine below_dn ?_ _) | (with_reducible refine Below.trans ?_ (Below.mono (by assumption) ?_)) | (simp; done) | (simp; omega) | omega))
set_option maxRecDepth 100000 in
set_option maxHeartbeats 1000000 in
theorem r14stem_any (A A' : Option Addr) (cap cap' : Nat) (h t : List Sp.Pd) (f : Int) (d x a r e : Int) (w : World) (tz : PcSized t) (tT : Pcs w A' t) (d0 : 1 ≤ d) (d1 : d ≤ 3000) (x0 : 1 ≤ x) (x1 : x ≤ 1000) (a0 : 0 ≤ a) (a1 : a ≤ 1000) (hv : Sp.diaS t d x a = (r, e)) :
    Calls Try.prog 48 #[.agg #[.slice A h.length cap, .int .i64 f, .slice A' t.length cap'], .int .i64 d, .int .i64 x, .int .i64 a] w (Gives (.tuple #[.int .i64 r, .int .i64 e]) w) := by
  have b0 : Below w.heap.size w (w.alloc (Obj.cells #[.slice A h.length cap, .int .i64 f, .slice A' t.length cap'] 24)) := balloc _ _
  have VB := curAt_new w A A' h.length cap t.length cap' f
  have zU : (w.alloc (Obj.cells #[.slice A h.length cap, .int .i64 f, .slice A' t.length cap'] 24)).heap.size = w.heap.size + 1 := by simp
  generalize hU : w.alloc (Obj.cells #[.slice A h.length cap, .int .i64 f, .slice A' t.length cap'] 24) = U at VB b0 zU
  obtain ⟨P, hP⟩ : ∃ P, 1000 * a = P := ⟨_, rfl⟩
  obtain ⟨Q, hQ⟩ : ∃ Q, P.tdiv x = Q := ⟨_, rfl⟩
  have p0 : 0 ≤ P := by omega
  have p1 : P ≤ 1000000 := by omega
  have Q0 : 0 ≤ Q := by rw [← hQ]; exact Int.tdiv_nonneg p0 (by omega)
  have Q1 : Q ≤ P := by rw [← hQ, Int.tdiv_eq_ediv_of_nonneg p0]; exact Int.ediv_le_self _ p0
  obtain ⟨⟨lo, hi, y⟩, hy⟩ : ∃ z, Sp.evalS t Q = z := ⟨_, rfl⟩
  obtain ⟨n2, n3⟩ := newS_pos d0 (by omega : d ≤ 1000000000000000) (by omega : (1 : Int) ≤ 1000) (by omega)
  obtain ⟨⟨u1, u2, ue⟩, hu⟩ : ∃ z, Sp.newS d 1000 = z := ⟨_, rfl⟩
  obtain ⟨⟨z1, z2, ze⟩, hz⟩ : ∃ z, Sp.mulF lo hi u1 u2 = z := ⟨_, rfl⟩
  unfold Sp.diaS at hv
  rw [hP, hQ, hy, hu] at hv
  unfold Sp.diaQ at hv
  simp only [hz] at hv
  rw [hu] at n2 n3
  simp only at n2 n3
  have EV := hid (fun W (hb : Below w.heap.size w W) => reval_any A' cap' t Q lo hi y W tz (tT.below hb) hy)
  have NE := hid (fun W => rnew_any d 1000 (by omega) (by omega) (by omega) (by omega) u1 u2 ue hu W)
  have MU := hid (fun (k : y = 0) W => rmul_any lo hi u1 u2 z1 z2 ze (Sp.okQ_bounds (evalS_ok (k ▸ hy))).1.1 (Sp.okQ_bounds (evalS_ok (k ▸ hy))).1.2 (Sp.okQ_bounds (evalS_ok (k ▸ hy))).2.1 (Sp.okQ_bounds (evalS_ok (k ▸ hy))).2.2 (Sp.okQ_bounds n3).1.1 (Sp.okQ_bounds n3).1.2 (Sp.okQ_bounds n3).2.1 (Sp.okQ_bounds n3).2.2 hz W)
  have FL := hid (fun (k : y = 0) (k2 : ze = 0) (W : World) => by
    have hc : Sp.fchk z1 z2 = 0 := by
      rcases Sp.mul_res (evalS_ok (k ▸ hy)) n3 with h | h
      · rw [hz] at h; exact h.2
      · rw [hz] at h
        obtain ⟨-, h2⟩ := Prod.mk.inj h
        obtain ⟨-, h3⟩ := Prod.mk.inj h2
        omega
    have bz := Sp.okQ_bounds (q := (z1, z2)) hc
    have r := rfloor_any z1 z2 bz.1.1 bz.1.2 bz.2.1 bz.2.2 W
    unfold Sp.floorF at r
    rw [if_neg (fun k => k hc)] at r
    exact r)
  have HV := hid hv
  have HU := hid hU
  have KU := hid b0
  have c2 := VB.c2
  have zz : w.heap.size ≤ U.heap.size := by omega
  have zw : w.heap.size < U.heap.size := by omega
  have zn : ¬ w.heap.size = U.heap.size := by omega
  have xz : (x == 0) = false := by simp; omega
  have xn : ¬ x = 0 := by omega
  have wP : IntKind.i64.wrap P = P := by rw [IntKind.wrap_i64]; omega
  have wQ : IntKind.i64.wrap Q = Q := by rw [IntKind.wrap_i64]; omega
  have vP : wrap64 P = P := pw64 _ (by omega)
  have vQ : wrap64 Q = Q := pw64 _ (by omega)
  clear zU tz tT hv hU b0 VB hy hu hz n2 n3 x0 x1 a0 a1 p0 p1 Q0 Q1 d0 d1
  go_enter Try.func48, Try.ntmps48
  go_upto_region 1 with fail
  rw [HU.out]
  go_cut [10, 11] (fun v v' wx => PaRel w lo hi y v v' wx)
  case first =>
    go_region_with (go_at_call 36; refine (EV.out _ (by have hk := KU.out; repeat' (first | (with_reducible exact Below.refl _ _) | (with_reducible refine Below.alloc ?_ ?_ _) | (with_reducible refine Below.setCell ?_ ?_ _) | (with_reducible refine Below.drew ?_) | (with_reducible refine Below.trans ?_ (Below.mono (by assumption) ?_)) | (simp; done) | (simp; omega) | omega))).mono ?_; rintro _ w6 ⟨rfl, hb⟩; have hb6 : Below U.heap.size U w6 := (by repeat' (first | (with_reducible exact Below.refl _ _) | (with_reducible refine Below.alloc ?_ ?_ _) | (with_reducible refine Below.setCell ?_ ?_ _) | (with_reducible refine Below.drew ?_) | (with_reducible refine below_dn ?_ _) | (with_reducible refine Below.trans ?_ (Below.mono (by assumption) ?_)) | (simp; done) | (simp; omega) | omega)); have sz6 : U.heap.size ≤ w6.heap.size := hb6.size; (first | (have g0 : w6.cell? ⟨U.heap.size, 0, none⟩ = some (.int .i64 0) := (hb.cell (p := ⟨U.heap.size, 0, none⟩) (by simp)).trans (by simp [go_sem]); have g1 : w6.cell? ⟨U.heap.size, 1, none⟩ = some (.int .i64 0) := (hb.cell (p := ⟨U.heap.size, 1, none⟩) (by simp)).trans (by simp [go_sem]); have gf : ∀ o, w6.frozen? ⟨U.heap.size, o, none⟩ = false := fun o => (hb.frozen (p := ⟨U.heap.size, o, none⟩) (by simp)).trans (by simp [go_sem]); have gz : U.heap.size < w6.heap.size := (by have := hb.size; simp at this; omega)) | skip); clear hb)
    all_goals
      go_wp2_with fail
      go_meet
      have k6 : Below w.heap.size w w6 := bthen KU.out hb6
      first
        | (exact ⟨w6.heap.size, rfl, rfl, ⟨by omega, by simp⟩, ⟨by simp [go_sem], by simp [go_sem]⟩, by repeat' (first | (with_reducible exact Below.refl _ _) | (with_reducible refine Below.alloc ?_ ?_ _) | (with_reducible refine Below.setCell ?_ ?_ _) | (with_reducible refine Below.drew ?_) | (with_reducible refine below_dn ?_ _) | (with_reducible refine Below.trans ?_ (Below.mono (by assumption) ?_)) | (simp; done) | (simp; omega) | omega)⟩)
        | (exact ⟨U.heap.size, rfl, rfl, ⟨zz, by simpa using gz⟩, ⟨by simp [go_sem, g0, g1], by simp [go_sem, g0, g1]⟩, by repeat' (first | (with_reducible exact Below.refl _ _) | (with_reducible refine Below.alloc ?_ ?_ _) | (with_reducible refine Below.setCell ?_ ?_ _) | (with_reducible refine Below.drew ?_) | (with_reducible refine below_dn ?_ _) | (with_reducible refine Below.trans ?_ (Below.mono (by assumption) ?_)) | (simp; done) | (simp; omega) | omega)⟩)
  case rest =>
    obtain ⟨g, rfl, rfl, ⟨hg0, hg1⟩, ⟨q0, q1⟩, hk⟩ := hcut
    have HK := hid hk
    clear hk c2 zn
    by_cases c1 : y = 0
    · subst c1
      have MU2 := hid (MU.out rfl)
      have FL2 := hid (FL.out rfl)
      clear MU FL
      go_wp2_with fail
      refine (NE.out _).mono ?_
      rintro _ w7 ⟨rfl, hb⟩
      have r0 := (hb.cell (p := ⟨g, 0, none⟩) hg1).trans q0
      have r1 := (hb.cell (p := ⟨g, 1, none⟩) hg1).trans q1
      have g7 : g < w7.heap.size := Nat.lt_of_lt_of_le hg1 hb.size
      have n7 : ¬ g = w7.heap.size := by omega
      have m7 : ¬ w7.heap.size = g := by omega
      have B7 := hid (bthen HK.out hb)
      clear hb q0 q1 hg1
      go_wp2_with fail
      refine (MU2.out _).mono ?_
      rintro _ w8 ⟨rfl, hb⟩
      have B8 := hid (bthen (bthen B7.out (balloc _ _)) hb)
      clear hb r0 r1
      by_cases c2 : ze = 0
      · subst c2
        have FL3 := hid (FL2.out rfl)
        go_wp2_with fail
        refine (FL3.out _).mono ?_
        rintro _ w9 ⟨rfl, hb⟩
        have B9 := hid (bthen (bthen B8.out (balloc _ _)) hb)
        clear hb
        have hv := HV.out
        rw [if_neg (fun k => k rfl)] at hv
        unfold Sp.diaM at hv
        rw [if_neg (fun k => k rfl)] at hv
        obtain ⟨rfl, rfl⟩ := Prod.mk.inj hv
        clear hv HV
        go_wp2_with fail
        refine bodyPost_ret (v := .tuple #[.int .i64 (min (max (z1 / z2) 0) 3000), .int .i64 0]) (by simp [results, Try.results48, go_sem]) rfl ?_
        exact Gives.mk rfl B9.out
      · have hv := HV.out
        rw [if_neg (fun k => k rfl)] at hv
        unfold Sp.diaM at hv
        rw [if_pos c2] at hv
        obtain ⟨rfl, rfl⟩ := Prod.mk.inj hv
        have hn : (ze == 0) = false := by simpa using c2
        clear hv HV
        go_wp2_with fail
        refine bodyPost_ret (v := .tuple #[.int .i64 0, .int .i64 ze]) (by simp [results, Try.results48, go_sem]) rfl ?_
        exact Gives.mk rfl (bthen B8.out (balloc _ _))
    · have hv := HV.out
      rw [if_pos c1] at hv
      obtain ⟨rfl, rfl⟩ := Prod.mk.inj hv
      have hn : (y == 0) = false := by simpa using c1
      clear hv HV MU FL
      go_wp2_with fail
      refine bodyPost_ret (v := .tuple #[.int .i64 0, .int .i64 y]) (by simp [results, Try.results48, go_sem]) rfl ?_
      exact Gives.mk rfl HK.out
theorem r14few_any (A A' : Option Addr) (cap cap' : Nat) (h t : List Sp.Pd) (f : Int) (w : World) (hz : PcSized h) (tz : PcSized t) (hT : Pcs w A h) (tT : Pcs w A' t) : Calls Try.prog 11 #[.agg #[.slice A h.length cap, .int .i64 f, .slice A' t.length cap']] w (Gives (.bool (fewS h 3000 && fewS t 3000)) w) := by
  have VB := curAt_new w A A' h.length cap t.length cap' f
  have b0 : Below w.heap.size w (w.alloc (Obj.cells #[.slice A h.length cap, .int .i64 f, .slice A' t.length cap'] 24)) := balloc _ _
  generalize hU : w.alloc (Obj.cells #[.slice A h.length cap, .int .i64 f, .slice A' t.length cap'] 24) = U at VB b0
  have F1 := hid (rfew_any A cap h 3000 U (by omega) (by omega) hz (hT.below b0))
  have F2 := hid (fun W (hb : Below w.heap.size w W) => rfew_any A' cap' t 3000 W (by omega) (by omega) tz (tT.below hb))
  generalize fewS h 3000 = B1 at F1 ⊢
  generalize fewS t 3000 = B2 at F2 ⊢
  have HU := hid hU
  have HB := hid b0
  have HC := hid VB
  have k0 := VB.c0
  clear hz tz hT tT hU b0 VB
  go_enter Try.func11, Try.ntmps11
  go_upto_region 1 with fail
  rw [HU.out]
  go_wp2_with fail
  refine F1.out.mono ?_
  rintro _ w5 ⟨rfl, hb⟩
  have B5 := hid (bthen HB.out hb)
  have q2 := (HC.out.below hb).c2
  have ql := (HC.out.below hb).lt
  clear hb k0
  cases B1
  · go_wp2_with fail
    go_ret
    exact Gives.mk rfl B5.out
  · go_wp2_with fail
    refine (F2.out _ B5.out).mono ?_
    rintro _ w6 ⟨rfl, hb⟩
    have B6 := hid (bthen B5.out hb)
    clear hb
    go_wp2_with fail
    go_ret
    exact Gives.mk (by cases B2 <;> rfl) B6.out
/-- A stem's box. -/
structure StemAt (w : World) (g : Nat) (d x : Int) : Prop where
  lt : g < w.heap.size
  c0 : w.cell? ⟨g, 0, none⟩ = some (.int .i64 d)
  c1 : w.cell? ⟨g, 1, none⟩ = some (.int .i64 x)
theorem StemAt.below {w w' : World} {g : Nat} {d x : Int} (h : StemAt w g d x) (hb : Below w.heap.size w w') : StemAt w' g d x :=
  ⟨Nat.lt_of_lt_of_le h.lt hb.size, (hb.cell (p := ⟨g, 0, none⟩) h.lt).trans h.c0, (hb.cell (p := ⟨g, 1, none⟩) h.lt).trans h.c1⟩
theorem stemAt_new (w : World) (d x : Int) : StemAt (w.alloc (.cells #[.int .i64 d, .int .i64 x] 26)) w.heap.size d x := ⟨by simp, by simp [go_sem], by simp [go_sem]⟩
namespace Sp
theorem prod_mono {f d x f' d' x' : Int} (f0 : 1 ≤ f) (d0 : 1 ≤ d) (x0 : 1 ≤ x) (hf : f ≤ f') (hd : d ≤ d') (hx : x ≤ x') : f * d * d * x ≤ f' * d' * d' * x' := by
  have a1 : f * d ≤ f' * d' := Int.mul_le_mul hf hd (by omega) (by omega)
  have z1 : 0 ≤ f * d := Int.mul_nonneg (by omega) (by omega)
  have z1' : 0 ≤ f' * d' := Int.mul_nonneg (by omega) (by omega)
  have a2 : f * d * d ≤ f' * d' * d' := Int.mul_le_mul a1 hd (by omega) z1'
  have z2' : 0 ≤ f' * d' * d' := Int.mul_nonneg z1' (by omega)
  exact Int.mul_le_mul a2 hx (by omega) z2'
theorem volS_grow {f d x f' d' x' : Int} (f0 : 1 ≤ f) (d0 : 1 ≤ d) (x0 : 1 ≤ x) (hf : f ≤ f') (hd : d ≤ d') (hx : x ≤ x') : (volS f d x).1 ≤ (volS f' d' x').1 ∧ (volS f d x).2 ≤ (volS f' d' x').2 := by
  have m := prod_mono f0 d0 x0 hf hd hx
  have z : 0 ≤ f * d * d * x := Int.mul_nonneg (Int.mul_nonneg (Int.mul_nonneg (by omega) (by omega)) (by omega)) (by omega)
  unfold volS
  generalize f * d * d * x = n at m z
  generalize f' * d' * d' * x' = n' at m
  simp only
  rw [Int.tdiv_eq_ediv_of_nonneg (by omega), Int.tdiv_eq_ediv_of_nonneg (by omega), Int.tdiv_eq_ediv_of_nonneg (by omega), Int.tdiv_eq_ediv_of_nonneg (by omega)]
  omega
theorem volS_in {f d x : Int} (f0 : 1 ≤ f) (f1 : f ≤ 1000) (d0 : 1 ≤ d) (d1 : d ≤ 3000) (x0 : 1 ≤ x) (x1 : x ≤ 1000) :
    0 ≤ (volS f d x).1 ∧ (volS f d x).1 ≤ (volS f d x).2 ∧ (volS f d x).2 ≤ 1000000 ∧ (volS f d x).2 - (volS f d x).1 ≤ 2 := by
  obtain ⟨-, -, z, b⟩ := vol_prod f0 f1 d0 d1 x0 x1
  unfold volS
  generalize f * d * d * x = n at z b
  simp only
  rw [Int.tdiv_eq_ediv_of_nonneg (by omega), Int.tdiv_eq_ediv_of_nonneg (by omega)]
  omega
theorem volE_cases {h : List Pd} {f : Int} {t : List Pd} {d x : Int} : ((volE h f t d x).2.2 = 0 ∧ curE h f t = 0 ∧ (1 ≤ f ∧ f ≤ 1000) ∧ (1 ≤ d ∧ d ≤ 3000) ∧ (1 ≤ x ∧ x ≤ 1000) ∧ volE h f t d x = ((volS f d x).1, (volS f d x).2, 0)) ∨ ((volE h f t d x).2.2 ≠ 0 ∧ volE h f t d x = (0, 0, stemE h f t d x)) := by
  unfold volE
  by_cases c : stemE h f t d x = 0
  · left
    rw [if_neg (fun k => k c)]
    obtain ⟨k0, k1, k2, k3, k4⟩ := stemE_zero c
    obtain ⟨y0, y1, y2, -⟩ := curE_zero k0
    exact ⟨rfl, k0, ⟨y1, y2⟩, ⟨k1, k2⟩, ⟨k3, k4⟩, rfl⟩
  · right
    rw [if_pos c]
    exact ⟨c, rfl⟩
theorem stemE_form {h : List Pd} {f g : Int} {t : List Pd} {d x : Int} (h0 : curE h f t = 0) (hg : stemE h g t d x ≠ 0) : stemE h g t d x = 2 := by
  obtain ⟨k0, k1, k2, k3, k4, k5⟩ := curE_zero h0
  have hc : curE h g t = 0 ∨ curE h g t = 2 := by
    unfold curE
    rw [if_neg (fun k => k k0)]
    by_cases c : g < 1 ∨ 1000 < g
    · rw [if_pos c]; exact .inr rfl
    · rw [if_neg c, if_neg (fun k => k k3), if_pos ⟨k4, k5⟩]; exact .inl rfl
  unfold stemE at hg ⊢
  rcases hc with e | e
  · rw [e] at hg ⊢
    simp only [ne_eq, not_true_eq_false, if_false] at hg ⊢
    by_cases c1 : (decide (1 ≤ d) && decide (d ≤ 3000)) = false
    · rw [if_pos c1]
    · rw [if_neg c1] at hg ⊢
      by_cases c2 : (decide (1 ≤ x) && decide (x ≤ 1000)) = false
      · rw [if_pos c2]
      · rw [if_neg c2] at hg; exact absurd rfl hg
  · rw [e]; rfl
end Sp
end Go.Proofs.Ytdimncchejbaaaa
