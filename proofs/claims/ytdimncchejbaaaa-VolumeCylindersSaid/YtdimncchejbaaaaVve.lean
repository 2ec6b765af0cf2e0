/-
  Layer 14: Height and diameterAt of package volume, by contract.
-/
import Derived.Test.YtdimncchejbaaaaVvd
import Derived.Test.YtdimncchejbaaaaFops2
namespace Go.Proofs.Ytdimncchejbaaaa
open Go.RowKit
set_option linter.unusedVariables false
set_option linter.unusedSimpArgs false
theorem evalS_ok {l : List Sp.Pd} {x lo hi : Int} (h : Sp.evalS l x = (lo, hi, 0)) : Sp.okQ (lo, hi) := by
  unfold Sp.evalS at h
  by_cases c : Sp.valsE l x x = 0
  · rw [if_neg (fun k => k c)] at h
    obtain ⟨-, -, k⟩ := vals_sized l x x c
    rw [vals_one] at k
    have k1 := k _ (List.mem_singleton.mpr rfl)
    obtain ⟨h1, h2⟩ := Prod.mk.inj h
    obtain ⟨h2, -⟩ := Prod.mk.inj h2
    rw [h1, h2] at k1
    exact k1
  · rw [if_pos c] at h
    obtain ⟨-, h2⟩ := Prod.mk.inj h
    obtain ⟨-, h3⟩ := Prod.mk.inj h2
    exact absurd h3 c
namespace Sp
theorem newS_small {n d : Int} (n0 : 1 ≤ n) (n1 : n ≤ 1000000000000000) (d0 : 1 ≤ d) (d1 : d ≤ 1000000000000000) :
    ∃ g x y : Int, newS n d = (x, y, 0) ∧ 1 ≤ g ∧ n = x * g ∧ d = y * g ∧ 1 ≤ x ∧ x ≤ n ∧ 1 ≤ y ∧ y ≤ d ∧ Int.gcd x y ≤ 1 := by
  obtain ⟨m, rfl⟩ : ∃ m : Nat, n = (m : Int) := ⟨n.toNat, by omega⟩
  obtain ⟨k, rfl⟩ : ∃ k : Nat, d = (k : Int) := ⟨d.toNat, by omega⟩
  have hg : Int.gcd (m : Int) (k : Int) = Nat.gcd m k := by simp
  have g0 : 0 < Nat.gcd m k := Nat.gcd_pos_of_pos_left _ (by omega)
  obtain ⟨x, hx⟩ := Nat.gcd_dvd_left m k
  obtain ⟨y, hy⟩ := Nat.gcd_dvd_right m k
  have hxd : m / Nat.gcd m k = x := by
    have h2 : Nat.gcd m k * x / Nat.gcd m k = x := Nat.mul_div_cancel_left _ g0
    rw [← hx] at h2
    exact h2
  have hyd : k / Nat.gcd m k = y := by
    have h2 : Nat.gcd m k * y / Nat.gcd m k = y := Nat.mul_div_cancel_left _ g0
    rw [← hy] at h2
    exact h2
  have hcop : Nat.gcd x y = 1 := by
    have h := Nat.gcd_mul_left (Nat.gcd m k) x y
    rw [← hx, ← hy] at h
    exact Nat.eq_of_mul_eq_mul_left g0 (by rw [Nat.mul_one]; exact h.symm)
  have x1 : 1 ≤ x := by
    rcases Nat.eq_zero_or_pos x with h | h
    · rw [h, Nat.mul_zero] at hx; omega
    · exact h
  have y1 : 1 ≤ y := by
    rcases Nat.eq_zero_or_pos y with h | h
    · rw [h, Nat.mul_zero] at hy; omega
    · exact h
  have xm : x ≤ m := by rw [← hxd]; exact Nat.div_le_self _ _
  have yk : y ≤ k := by rw [← hyd]; exact Nat.div_le_self _ _
  refine ⟨(Nat.gcd m k : Nat), (x : Nat), (y : Nat), ?_, by omega, by rw [← Int.natCast_mul]; congr 1; rw [Nat.mul_comm]; exact hx, by rw [← Int.natCast_mul]; congr 1; rw [Nat.mul_comm]; exact hy, by omega, by omega, by omega, by omega, by simp [hcop]⟩
  unfold newS
  have e1 : ((m : Int).natAbs : Int) / (Int.gcd (m : Int) (k : Int) : Int) = (x : Int) := by
    rw [hg, Int.natAbs_natCast, ← Int.natCast_ediv, hxd]
  have e2 : ((k : Int).natAbs : Int) / (Int.gcd (m : Int) (k : Int) : Int) = (y : Int) := by
    rw [hg, Int.natAbs_natCast, ← Int.natCast_ediv, hyd]
  rw [e1, e2, if_neg (by omega), if_neg (by omega), if_pos (by rw [decide_eq_decide]; omega)]
end Sp
theorem newS_pos {n d : Int} (n0 : 1 ≤ n) (n1 : n ≤ 1000000000000000) (d0 : 1 ≤ d) (d1 : d ≤ 1000000000000000) : (Sp.newS n d).2.2 = 0 ∧ Sp.okQ ((Sp.newS n d).1, (Sp.newS n d).2.1) := by
  obtain ⟨g, x, y, e, g1, hn, hd, x1, xn, y1, yd, hg⟩ := Sp.newS_small n0 n1 d0 d1
  rw [e]
  have gp : 0 < Int.gcd x y := Int.gcd_pos_of_ne_zero_left _ (by omega)
  have cop : Int.gcd x y = 1 := by omega
  have k : Sp.okQ (x, y) := Sp.valid_mk (by omega) cop (by omega) (by omega)
  exact ⟨rfl, k⟩
/-- What Height answers. -/
def Sp.heiS (h : List Sp.Pd) (f : Int) (t : List Sp.Pd) (d : Int) : Int × Int :=
  if Sp.curE h f t ≠ 0 then (0, Sp.curE h f t)
  else if (decide (1 ≤ d) && decide (d ≤ 3000)) = false then (0, 2)
  else if (Sp.evalS h d).2.2 ≠ 0 then (0, (Sp.evalS h d).2.2)
  else if (decide (1 ≤ Sp.roundF (Sp.evalS h d).1 (Sp.evalS h d).2.1) && decide (Sp.roundF (Sp.evalS h d).1 (Sp.evalS h d).2.1 ≤ 1000)) = false then (0, 2)
  else (Sp.roundF (Sp.evalS h d).1 (Sp.evalS h d).2.1, 0)
set_option maxRecDepth 100000 in
theorem vhei_any (A A' : Option Addr) (cap cap' : Nat) (h t : List Sp.Pd) (f : Int) (d r e : Int) (w : World) (hz : PcSized h) (tz : PcSized t) (hT : Pcs w A h) (tT : Pcs w A' t) (hv : Sp.heiS h f t d = (r, e)) :
    Calls Try.prog 13 #[.agg #[.slice A h.length cap, .int .i64 f, .slice A' t.length cap'], .int .i64 d] w (Gives (.tuple #[.int .i64 r, .int .i64 e]) w) := by
  have VB := curAt_new w A A' h.length cap t.length cap' f
  have b0 : Below w.heap.size w (w.alloc (Obj.cells #[.slice A h.length cap, .int .i64 f, .slice A' t.length cap'] 24)) := balloc _ _
  generalize hU : w.alloc (Obj.cells #[.slice A h.length cap, .int .i64 f, .slice A' t.length cap'] 24) = U at VB b0
  have CK := hid (vcheck_any A A' cap cap' h t f U hz tz (hT.below b0) (tT.below b0))
  have DI := hid (fun W => vdiam_any d W)
  obtain ⟨⟨lo, hi, y⟩, hy⟩ : ∃ z, Sp.evalS h d = z := ⟨_, rfl⟩
  have EV := hid (fun W (hb : Below w.heap.size w W) => eval_any A cap h d lo hi y W hz (hT.below hb) hy)
  have OK := hid (fun (k : y = 0) => Sp.okQ_bounds (evalS_ok (k ▸ hy)))
  unfold Sp.heiS at hv
  rw [hy] at hv
  simp only at hv
  generalize Sp.curE h f t = E at CK hv
  generalize (decide (1 ≤ d) && decide (d ≤ 3000)) = B1 at DI hv
  have RO := hid (fun (k : y = 0) W => fround_any lo hi (OK.out k).1.1 (OK.out k).1.2 (OK.out k).2.1 (OK.out k).2.2 W)
  generalize Sp.roundF lo hi = R at RO hv
  have HE := hid (fun W => vheigh_any R W)
  generalize (decide (1 ≤ R) && decide (R ≤ 1000)) = B2 at HE hv
  have HV := hid hv
  have HU := hid hU
  have HB := hid b0
  have HC := hid VB
  have k0 := VB.c0
  have k1 := VB.c1
  have k2 := VB.c2
  clear hz tz hT tT hy hv hU b0 VB OK
  go_enter Try.func13, Try.ntmps13
  go_upto_region 1 with fail
  rw [HU.out]
  go_wp2_with fail
  refine CK.out.mono ?_
  rintro _ w5 ⟨rfl, hb⟩
  have Q5 := hid (HC.out.below hb)
  have B5 := hid (bthen HB.out hb)
  clear hb k0 k1 k2
  by_cases c1 : E = 0
  · subst c1
    go_wp2_with fail
    refine (DI.out _).mono ?_
    rintro _ w6 ⟨rfl, hb⟩
    have q0 := (Q5.out.below hb).c0
    have ql := (Q5.out.below hb).lt
    have B6 := hid (bthen B5.out hb)
    clear hb
    cases B1
    · obtain ⟨rfl, rfl⟩ : 0 = r ∧ 2 = e := by simpa using HV.out
      go_wp2_with fail
      refine bodyPost_ret (v := .tuple #[.int .i64 0, .int .i64 2]) (by simp [results, Try.results13, go_sem]) rfl ?_
      exact Gives.mk rfl B6.out
    · go_wp2_with fail
      refine (EV.out _ B6.out).mono ?_
      rintro _ w7 ⟨rfl, hb⟩
      have B7 := hid (bthen B6.out hb)
      clear hb q0 ql
      by_cases c2 : y = 0
      · subst c2
        have RO2 := hid (RO.out rfl)
        go_wp2_with fail
        refine (RO2.out _).mono ?_
        rintro _ w8 ⟨rfl, hb⟩
        have B8 := hid (bthen (bthen B7.out (balloc _ _)) hb)
        clear hb
        go_wp2_with fail
        refine (HE.out _).mono ?_
        rintro _ w9 ⟨rfl, hb⟩
        have B9 := hid (bthen B8.out hb)
        clear hb
        cases B2
        · obtain ⟨rfl, rfl⟩ : 0 = r ∧ 2 = e := by simpa using HV.out
          go_wp2_with fail
          refine bodyPost_ret (v := .tuple #[.int .i64 0, .int .i64 2]) (by simp [results, Try.results13, go_sem]) rfl ?_
          exact Gives.mk rfl B9.out
        · obtain ⟨rfl, rfl⟩ : R = r ∧ 0 = e := by simpa using HV.out
          go_wp2_with fail
          refine bodyPost_ret (v := .tuple #[.int .i64 R, .int .i64 0]) (by simp [results, Try.results13, go_sem]) rfl ?_
          exact Gives.mk rfl B9.out
      · obtain ⟨rfl, rfl⟩ : 0 = r ∧ y = e := by simpa [c2] using HV.out
        have hn : (y == 0) = false := by simpa using c2
        clear RO EV DI HV
        go_wp2_with fail
        refine bodyPost_ret (v := .tuple #[.int .i64 0, .int .i64 y]) (by simp [results, Try.results13, go_sem]) rfl ?_
        exact Gives.mk rfl (bthen B7.out (balloc _ _))
  · obtain ⟨rfl, rfl⟩ : 0 = r ∧ E = e := by simpa [c1] using HV.out
    have hn : (E == 0) = false := by simpa using c1
    go_wp2_with fail
    refine bodyPost_ret (v := .tuple #[.int .i64 0, .int .i64 E]) (by simp [results, Try.results13, go_sem]) rfl ?_
    exact Gives.mk rfl B5.out
end Go.Proofs.Ytdimncchejbaaaa
