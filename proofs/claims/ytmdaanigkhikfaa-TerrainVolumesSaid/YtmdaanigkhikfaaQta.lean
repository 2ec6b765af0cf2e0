/-
  Layer 15: terrains in memory; Check, corners, slope, Slope, heightAt, prisms, checkPoints, Height, ascends of package terrain.
-/
import Derived.Test.YtmdaanigkhikfaaFnew
import Derived.IntWalk
import Derived.StillTailTactics
import Derived.StillTactics
namespace Go.Proofs.Ytmdaanigkhikfaa
open Go.RowKit
set_option linter.unusedVariables false
set_option linter.unusedSimpArgs false
theorem bthen {a b c : World} (h : Below a.heap.size a b) (k : Below b.heap.size b c) : Below a.heap.size a c := h.trans (k.mono h.size)
theorem balloc (w : World) (o : Obj) : Below w.heap.size w (w.alloc o) := (Below.refl _ _).alloc (Nat.le_refl _) _
theorem pw64 (n : Int) (h : -9223372036854775808 ≤ n ∧ n ≤ 9223372036854775807) : wrap64 n = n := by unfold wrap64; omega
theorem pi64 (n : Int) (h : -9223372036854775808 ≤ n ∧ n ≤ 9223372036854775807) : IntKind.i64.wrap n = n := by rw [IntKind.wrap_i64]; omega
theorem pmeas (n j : Nat) (h : j < n) : n - (intOf (.int .i64 ((j : Int) + 1))).toNat < n - (intOf (.int .i64 (j : Int))).toNat := by simp [intOf]; omega
/-- A list of ints that lies in memory. -/
def Ints (w : World) (A : Option Addr) (l : List Int) : Prop := 0 < l.length → ∃ b off, A = some ⟨b, off, none⟩ ∧ b < w.heap.size ∧ ∀ j, (hj : j < l.length) → w.cell? ⟨b, off + j, none⟩ = some (.int .i64 (l[j]))
theorem Ints.below {w w' : World} {A : Option Addr} {l : List Int} (h : Ints w A l) (hb : Below w.heap.size w w') : Ints w' A l := fun h0 => by
  obtain ⟨b, off, e, bl, q⟩ := h h0
  exact ⟨b, off, e, Nat.lt_of_lt_of_le bl hb.size, fun j hj => (hb.cell (p := ⟨b, off + j, none⟩) bl).trans (q j hj)⟩
/-- A terrain's box. -/
structure TrAt (w : World) (g : Nat) (c r k : Int) (A : Option Addr) (n cap : Nat) : Prop where
  lt : g < w.heap.size
  c0 : w.cell? ⟨g, 0, none⟩ = some (.int .i64 c)
  c1 : w.cell? ⟨g, 1, none⟩ = some (.int .i64 r)
  c2 : w.cell? ⟨g, 2, none⟩ = some (.int .i64 k)
  c3 : w.cell? ⟨g, 3, none⟩ = some (.slice A n cap)
theorem TrAt.below {w w' : World} {g : Nat} {c r k : Int} {A : Option Addr} {n cap : Nat} (h : TrAt w g c r k A n cap) (hb : Below w.heap.size w w') : TrAt w' g c r k A n cap :=
  ⟨Nat.lt_of_lt_of_le h.lt hb.size, (hb.cell (p := ⟨g, 0, none⟩) h.lt).trans h.c0, (hb.cell (p := ⟨g, 1, none⟩) h.lt).trans h.c1, (hb.cell (p := ⟨g, 2, none⟩) h.lt).trans h.c2, (hb.cell (p := ⟨g, 3, none⟩) h.lt).trans h.c3⟩
theorem trAt_new (w : World) (c r k : Int) (A : Option Addr) (n cap : Nat) : TrAt (w.alloc (.cells #[.int .i64 c, .int .i64 r, .int .i64 k, .slice A n cap] 24)) w.heap.size c r k A n cap :=
  ⟨by simp, by simp [go_sem], by simp [go_sem], by simp [go_sem], by simp [go_sem]⟩
/-- The error of heights. -/
def Sp.zE : List Int → Int
  | [] => 0
  | v :: l => if (decide (0 ≤ v) && decide (v ≤ 50000)) = false then 2 else Sp.zE l
/-- The error of a terrain. -/
def Sp.terE (c r k : Int) (z : List Int) : Int :=
  if (decide (2 ≤ c) && decide (c ≤ 16)) = false then 2 else if (decide (2 ≤ r) && decide (r ≤ 16)) = false then 2 else if (decide (1 ≤ k) && decide (k ≤ 1000)) = false then 2
  else if (z.length : Int) ≠ c * r then 3 else Sp.zE z
theorem Sp.zE_zero : ∀ {l : List Int}, Sp.zE l = 0 → ∀ v ∈ l, 0 ≤ v ∧ v ≤ 50000
  | [], _, _, hv => by simp at hv
  | v :: l, h, x, hx => by
    unfold Sp.zE at h
    by_cases c : (decide (0 ≤ v) && decide (v ≤ 50000)) = false
    · rw [if_pos c] at h; exact absurd h (by decide)
    · rw [if_neg c] at h
      rcases List.mem_cons.1 hx with rfl | hx
      · simp at c; exact c
      · exact Sp.zE_zero h x hx
theorem Sp.terE_zero {c r k : Int} {z : List Int} (h : Sp.terE c r k z = 0) : (2 ≤ c ∧ c ≤ 16) ∧ (2 ≤ r ∧ r ≤ 16) ∧ (1 ≤ k ∧ k ≤ 1000) ∧ (z.length : Int) = c * r ∧ ∀ v ∈ z, 0 ≤ v ∧ v ≤ 50000 := by
  unfold Sp.terE at h
  by_cases c1 : (decide (2 ≤ c) && decide (c ≤ 16)) = false
  · rw [if_pos c1] at h; exact absurd h (by decide)
  · rw [if_neg c1] at h
    by_cases c2 : (decide (2 ≤ r) && decide (r ≤ 16)) = false
    · rw [if_pos c2] at h; exact absurd h (by decide)
    · rw [if_neg c2] at h
      by_cases c3 : (decide (1 ≤ k) && decide (k ≤ 1000)) = false
      · rw [if_pos c3] at h; exact absurd h (by decide)
      · rw [if_neg c3] at h
        by_cases c4 : (z.length : Int) = c * r
        · rw [if_neg (fun q => q c4)] at h
          simp at c1 c2 c3
          exact ⟨c1, c2, c3, c4, Sp.zE_zero h⟩
        · rw [if_pos c4] at h; exact absurd h (by decide)
theorem twithin_any (x a b : Int) (w : World) : Calls Try.prog 45 #[.int .i64 x, .int .i64 a, .int .i64 b] w (Gives (.bool (decide (a ≤ x) && decide (x ≤ b))) w) := by
  by_cases c1 : a ≤ x
  · rw [decide_eq_true c1, Bool.true_and]
    have f1 : decide (a ≤ x) = true := decide_eq_true c1
    go_enter Try.func45, Try.ntmps45
    go_wp2_with fail
    go_ret
    exact Gives.mk rfl (Below.refl _ _)
  · rw [decide_eq_false c1, Bool.false_and]
    have f1 : decide (a ≤ x) = false := decide_eq_false c1
    go_enter Try.func45, Try.ntmps45
    go_wp2_with fail
    go_ret
    exact Gives.mk rfl (Below.refl _ _)
theorem tisheight_any (x : Int) (w : World) : Calls Try.prog 46 #[.int .i64 x] w (Gives (.bool (decide (0 ≤ x) && decide (x ≤ 50000))) w) := by
  have W := hid (twithin_any x 0 50000 w)
  generalize (decide (0 ≤ x) && decide (x ≤ 50000)) = B at W ⊢
  go_enter Try.func46, Try.ntmps46
  go_wp2_with (go_at_call 45; refine W.out.mono ?_; rintro _ w5 ⟨rfl, hb⟩; have B5 := hid hb; clear hb)
  go_ret
  exact Gives.mk rfl B5.out
set_option maxRecDepth 100000 in
set_option maxHeartbeats 1000000 in
theorem tcheck_any (A : Option Addr) (cap : Nat) (c r k : Int) (z : List Int) (w : World) (hl : z.length ≤ 140737488355328) (hT : Ints w A z) : Calls Try.prog 15 #[.agg #[.int .i64 c, .int .i64 r, .int .i64 k, .slice A z.length cap]] w (Gives (.int .i64 (Sp.terE c r k z)) w) := by
  have VB := trAt_new w c r k A z.length cap
  have b0 : Below w.heap.size w (w.alloc (Obj.cells #[.int .i64 c, .int .i64 r, .int .i64 k, .slice A z.length cap] 24)) := balloc _ _
  generalize hU : w.alloc (Obj.cells #[.int .i64 c, .int .i64 r, .int .i64 k, .slice A z.length cap] 24) = U at VB b0
  obtain ⟨R, hR⟩ : ∃ R, Sp.terE c r k z = R := ⟨_, rfl⟩
  rw [hR]
  unfold Sp.terE at hR
  have W1 := hid (fun W => twithin_any c 2 16 W)
  have W2 := hid (fun W => twithin_any r 2 16 W)
  have W3 := hid (fun W => twithin_any k 1 1000 W)
  obtain ⟨B1, hB1⟩ : ∃ B, (decide (2 ≤ c) && decide (c ≤ 16)) = B := ⟨_, rfl⟩
  obtain ⟨B2, hB2⟩ : ∃ B, (decide (2 ≤ r) && decide (r ≤ 16)) = B := ⟨_, rfl⟩
  obtain ⟨B3, hB3⟩ : ∃ B, (decide (1 ≤ k) && decide (k ≤ 1000)) = B := ⟨_, rfl⟩
  rw [hB1] at W1 hR
  rw [hB2] at W2 hR
  rw [hB3] at W3 hR
  have J1 := hid hB1
  have J2 := hid hB2
  have RR := hid hR
  have HU := hid hU
  have HB := hid b0
  have HC := hid VB
  have HT := hid hT
  have LE := hid hl
  have k0 := VB.c0
  have kl := VB.lt
  clear hT hU b0 VB hR hB1 hB2 hB3 hl
  go_enter Try.func15, Try.ntmps15
  go_upto_region 1 with fail
  rw [HU.out]
  go_wp2_with fail
  refine (W1.out _).mono ?_
  rintro _ w5 ⟨rfl, hb⟩
  have B5 := hid (bthen HB.out hb)
  have Q5 := hid (HC.out.below hb)
  clear hb k0 kl
  cases B1
  · go_wp2_with fail
    go_ret
    exact Gives.mk (i64_eq (by have := RR.out; simpa using this.symm)) B5.out
  · have q1 := Q5.out.c1
    have ql := Q5.out.lt
    go_wp2_with fail
    refine (W2.out _).mono ?_
    rintro _ w6 ⟨rfl, hb⟩
    have B6 := hid (bthen B5.out hb)
    have Q6 := hid (Q5.out.below hb)
    clear hb q1 ql
    cases B2
    · go_wp2_with fail
      go_ret
      exact Gives.mk (i64_eq (by have := RR.out; simpa using this.symm)) B6.out
    · have q2 := Q6.out.c2
      have ql := Q6.out.lt
      go_wp2_with fail
      refine (W3.out _).mono ?_
      rintro _ w7 ⟨rfl, hb⟩
      have B7 := hid (bthen B6.out hb)
      have Q7 := hid (Q6.out.below hb)
      clear hb q2 ql
      cases B3
      · go_wp2_with fail
        go_ret
        exact Gives.mk (i64_eq (by have := RR.out; simpa using this.symm)) B7.out
      · have j1 := J1.out
        have j2 := J2.out
        simp at j1 j2
        obtain ⟨P, hP⟩ : ∃ P, c * r = P := ⟨_, rfl⟩
        have p1 : 0 ≤ P := by rw [← hP]; exact Int.mul_nonneg (by omega) (by omega)
        have p2 : P ≤ 16 * 16 := by rw [← hP]; exact Int.mul_le_mul j1.2 j2.2 (by omega) (by omega)
        have wP : wrap64 P = P := pw64 _ (by omega)
        have rr := RR.out
        rw [hP] at rr
        have R2 := hid rr
        have q0 := Q7.out.c0
        have q1 := Q7.out.c1
        have q3 := Q7.out.c3
        have ql := Q7.out.lt
        clear j1 j2 rr RR p1 p2
        by_cases cz : (z.length : Int) = P
        · have hn : ((z.length : Int) == P) = true := by simpa using cz
          have HZ := hid (show Sp.zE z = R by have := R2.out; simpa [cz] using this)
          clear R2 cz
          go_wp2_with fail
          have hm : ((z.length : Int) != P) = false := by rw [bne, hn]; rfl
          simp only [wP, hm]
          clear hm
          go_loopw [33] (fun t wr => ∃ j : Nat, t = .int .i64 (j : Int) ∧ j ≤ z.length ∧ Sp.zE (z.drop j) = R ∧ Below w.heap.size w wr) (fun t _ => z.length - (intOf t).toNat)
          case atStart => exact ⟨0, rfl, Nat.zero_le _, HZ.out, B7.out⟩
          case round =>
            obtain ⟨j, rfl, hj, hd, hB⟩ := hrel
            have HD := hid hd
            have HBB := hid hB
            clear hd hB
            by_cases hlt : j < z.length
            · obtain ⟨b, off, rfl, bl, q⟩ := (HT.out.below HBB.out) (by omega)
              have q0 := q j hlt
              have hd := HD.out
              rw [List.drop_eq_getElem_cons hlt] at hd
              unfold Sp.zE at hd
              obtain ⟨v, hv⟩ : ∃ v, z[j]'hlt = v := ⟨_, rfl⟩
              rw [hv] at q0 hd
              have i0 : (0 : Int) ≤ (j : Int) := by omega
              have i1 : (j : Int) < (z.length : Int) := by omega
              have IH := hid (tisheight_any v wr)
              have HJ := hid hlt
              have ej : wrap64 ((j : Int) + 1) = (j : Int) + 1 := pw64 _ (by have := LE.out; have := HJ.out; omega)
              generalize (decide (0 ≤ v) && decide (v ≤ 50000)) = B at IH hd
              clear q hv
              cases B
              · have HF := hid hd
                clear hd
                go_wp2_with fail
                refine IH.out.mono ?_
                rintro _ w8 ⟨rfl, hb⟩
                have B8 := hid hb
                clear hb
                go_wp2_with fail
                go_ret
                exact Gives.mk (i64_eq (by have := HF.out; simpa using this.symm)) (bthen HBB.out B8.out)
              · have HF := hid hd
                clear hd
                go_wp2_with fail
                refine IH.out.mono ?_
                rintro _ w8 ⟨rfl, hb⟩
                have B8 := hid hb
                clear hb
                go_wp2_with fail
                go_roundw
                case rel => exact ⟨j + 1, by go_num, by have := HJ.out; omega, by have := HF.out; simpa using this, bthen HBB.out B8.out⟩
                case measure => first | exact pmeas _ _ HJ.out | (rw [ej]; exact pmeas _ _ HJ.out)
            · have i1 : ¬ (j : Int) < (z.length : Int) := by omega
              have hd := HD.out
              rw [List.drop_eq_nil_of_le (by omega)] at hd
              have HF := hid (show (0 : Int) = R from hd)
              clear hd
              go_wp2_with fail
              go_ret
              exact Gives.mk (i64_eq HF.out.symm) HBB.out
        · have hn : ((z.length : Int) == P) = false := by simpa using cz
          have HZ := hid (show 3 = R by have := R2.out; simpa [cz] using this)
          clear R2 cz
          go_wp2_with fail
          go_ret
          exact Gives.mk (i64_eq HZ.out.symm) B7.out
theorem pwk {K : Int} (h0 : 0 ≤ K) (h1 : K ≤ 5000) : wrap64 K = K := pw64 _ (by omega)
theorem pwi {K : Int} (h0 : 0 ≤ K) (h1 : K ≤ 5000) : IntKind.i64.wrap K = K := pi64 _ (by omega)
set_option maxRecDepth 100000 in
theorem tcorners_walk (A : Option Addr) (cap : Nat) (c r k : Int) (z : List Int) (col row M : Int) (l u : Nat) (v0 v1 v2 v3 : Int) (w : World) (h1 : row * c = M) (h2 : M + col = (l : Int)) (h3 : (l : Int) + c = (u : Int)) (M0 : 0 ≤ M) (M1 : M ≤ 256) (lu : l < u) (hu : u + 1 < z.length) (u1 : z.length ≤ 256)
    (e0 : z[l]? = some v0) (e1 : z[l + 1]? = some v1) (e2 : z[u + 1]? = some v2) (e3 : z[u]? = some v3) (hT : Ints w A z) :
    Calls Try.prog 56 #[.agg #[.int .i64 c, .int .i64 r, .int .i64 k, .slice A z.length cap], .int .i64 col, .int .i64 row] w (Gives (.agg #[.int .i64 v0, .int .i64 v1, .int .i64 v2, .int .i64 v3]) w) := by
  have VB : TrAt ((w.alloc (Obj.cells #[.int .i64 c, .int .i64 r, .int .i64 k, .slice A z.length cap] 24)).alloc (.cells #[.int .i64 0, .int .i64 0, .int .i64 0, .int .i64 0] 76)) w.heap.size c r k A z.length cap := (trAt_new w c r k A z.length cap).below (balloc _ _)
  have b0 : Below w.heap.size w ((w.alloc (Obj.cells #[.int .i64 c, .int .i64 r, .int .i64 k, .slice A z.length cap] 24)).alloc (.cells #[.int .i64 0, .int .i64 0, .int .i64 0, .int .i64 0] 76)) := bthen (balloc _ _) (balloc _ _)
  have z0 : ((w.alloc (Obj.cells #[.int .i64 c, .int .i64 r, .int .i64 k, .slice A z.length cap] 24)).alloc (.cells #[.int .i64 0, .int .i64 0, .int .i64 0, .int .i64 0] 76)).cell? ⟨w.heap.size + 1, 0, none⟩ = some (.int .i64 0) := by simp [go_sem]
  have z1 : ((w.alloc (Obj.cells #[.int .i64 c, .int .i64 r, .int .i64 k, .slice A z.length cap] 24)).alloc (.cells #[.int .i64 0, .int .i64 0, .int .i64 0, .int .i64 0] 76)).cell? ⟨w.heap.size + 1, 1, none⟩ = some (.int .i64 0) := by simp [go_sem]
  have z2 : ((w.alloc (Obj.cells #[.int .i64 c, .int .i64 r, .int .i64 k, .slice A z.length cap] 24)).alloc (.cells #[.int .i64 0, .int .i64 0, .int .i64 0, .int .i64 0] 76)).cell? ⟨w.heap.size + 1, 2, none⟩ = some (.int .i64 0) := by simp [go_sem]
  have z3 : ((w.alloc (Obj.cells #[.int .i64 c, .int .i64 r, .int .i64 k, .slice A z.length cap] 24)).alloc (.cells #[.int .i64 0, .int .i64 0, .int .i64 0, .int .i64 0] 76)).cell? ⟨w.heap.size + 1, 3, none⟩ = some (.int .i64 0) := by simp [go_sem]
  have zf : ∀ o, ((w.alloc (Obj.cells #[.int .i64 c, .int .i64 r, .int .i64 k, .slice A z.length cap] 24)).alloc (.cells #[.int .i64 0, .int .i64 0, .int .i64 0, .int .i64 0] 76)).frozen? ⟨w.heap.size + 1, o, none⟩ = false := fun o => by simp [go_sem]
  have zz : w.heap.size + 1 < ((w.alloc (Obj.cells #[.int .i64 c, .int .i64 r, .int .i64 k, .slice A z.length cap] 24)).alloc (.cells #[.int .i64 0, .int .i64 0, .int .i64 0, .int .i64 0] 76)).heap.size := by simp
  generalize hU : (w.alloc (Obj.cells #[.int .i64 c, .int .i64 r, .int .i64 k, .slice A z.length cap] 24)).alloc (.cells #[.int .i64 0, .int .i64 0, .int .i64 0, .int .i64 0] 76) = U at VB b0 z0 z1 z2 z3 zf zz
  obtain ⟨b, off, rfl, bl, q⟩ := (hT.below b0) (by omega)
  have g0 : (z[l]'(by omega)) = v0 := by rw [List.getElem?_eq_getElem (by omega)] at e0; simpa using e0
  have g1 : (z[l + 1]'(by omega)) = v1 := by rw [List.getElem?_eq_getElem (by omega)] at e1; simpa using e1
  have g2 : (z[u + 1]'(by omega)) = v2 := by rw [List.getElem?_eq_getElem (by omega)] at e2; simpa using e2
  have g3 : (z[u]'(by omega)) = v3 := by rw [List.getElem?_eq_getElem (by omega)] at e3; simpa using e3
  have q0 := q l (by omega)
  have q1 := q (l + 1) (by omega)
  have q2 := q (u + 1) (by omega)
  have q3 := q u (by omega)
  rw [g0] at q0
  rw [g1] at q1
  rw [g2] at q2
  rw [g3] at q3
  have i0 : (0 : Int) ≤ (l : Int) := by omega
  have i1 : (l : Int) < (z.length : Int) := by omega
  have i2 : (0 : Int) ≤ (l : Int) + 1 := by omega
  have i3 : (l : Int) + 1 < (z.length : Int) := by omega
  have i4 : (0 : Int) ≤ (u : Int) := by omega
  have i5 : (u : Int) < (z.length : Int) := by omega
  have i6 : (0 : Int) ≤ (u : Int) + 1 := by omega
  have i7 : (u : Int) + 1 < (z.length : Int) := by omega
  have c0 := VB.c0
  have c3 := VB.c3
  have cl := VB.lt
  have HU := hid hU
  have HB := hid b0
  have k1 : M ≤ 5000 := by omega
  have k2 : (l : Int) ≤ 5000 := by omega
  have k3 : (u : Int) ≤ 5000 := by omega
  have k4 : (l : Int) + 1 ≤ 5000 := by omega
  have k5 : (u : Int) + 1 ≤ 5000 := by omega
  have w1 : wrap64 M = M := pwk M0 k1
  have w2 : wrap64 (l : Int) = (l : Int) := pwk i0 k2
  have w3 : wrap64 (u : Int) = (u : Int) := pwk i4 k3
  have x1 : IntKind.i64.wrap ((l : Int) + 1) = (l : Int) + 1 := pwi i2 k4
  have x2 : IntKind.i64.wrap ((u : Int) + 1) = (u : Int) + 1 := pwi i6 k5
  clear k1 k2 k3 k4 k5
  clear hU VB b0 hT q g0 g1 g2 g3 e0 e1 e2 e3 bl M0 M1 lu hu u1
  go_enter Try.func56, Try.ntmps56
  go_upto_region 1 with fail
  rw [HU.out]
  go_wp2_with fail
  go_still_tail 23, (by rfl)
  go_wp2_with fail
  refine bodyPost_ret (v := .agg #[.int .i64 v0, .int .i64 v1, .int .i64 v2, .int .i64 v3]) (by simp [results, Try.results56, go_sem, z0, z1, z2, z3, zf, zz]) rfl ?_
  exact Gives.mk rfl (by have hB := HB.out; repeat' (first | (with_reducible exact Below.refl _ _) | (with_reducible refine Below.alloc ?_ ?_ _) | (with_reducible refine Below.setCell ?_ ?_ _) | (with_reducible refine Below.drew ?_) | (with_reducible refine below_dn ?_ _) | (with_reducible refine Below.trans ?_ (Below.mono (by assumption) ?_)) | (simp; done) | (simp; omega) | omega))
/-- The height of a node. -/
def Sp.hz (z : List Int) (i : Int) : Int := z[i.toNat]?.getD 0
/-- The heights around a cell. -/
theorem tcorners_any (A : Option Addr) (cap : Nat) (c r k : Int) (z : List Int) (col row : Int) (w : World) (hc : 2 ≤ c ∧ c ≤ 16) (hr : 2 ≤ r ∧ r ≤ 16) (hl : (z.length : Int) = c * r) (h0 : 0 ≤ col) (h1 : col ≤ c - 2) (h2 : 0 ≤ row) (h3 : row ≤ r - 2) (hT : Ints w A z) :
    Calls Try.prog 56 #[.agg #[.int .i64 c, .int .i64 r, .int .i64 k, .slice A z.length cap], .int .i64 col, .int .i64 row] w (Gives (.agg #[.int .i64 (Sp.hz z (row * c + col)), .int .i64 (Sp.hz z (row * c + col + 1)), .int .i64 (Sp.hz z (row * c + col + c + 1)), .int .i64 (Sp.hz z (row * c + col + c))]) w) := by
  obtain ⟨M, hM⟩ : ∃ M, row * c = M := ⟨_, rfl⟩
  have M0 : 0 ≤ M := by rw [← hM]; exact Int.mul_nonneg h2 (by omega)
  have M2 : M + 2 * c ≤ c * r := by
    have : (row + 2) * c ≤ r * c := Int.mul_le_mul_of_nonneg_right (by omega) (by omega)
    rw [Int.add_mul, hM, Int.mul_comm r c] at this
    exact this
  have P : c * r ≤ 16 * 16 := Int.mul_le_mul hc.2 hr.2 (by omega) (by omega)
  rw [hM]
  obtain ⟨l, hl2⟩ : ∃ l : Nat, M + col = (l : Int) := ⟨(M + col).toNat, by omega⟩
  obtain ⟨u, hu⟩ : ∃ u : Nat, (l : Int) + c = (u : Int) := ⟨((l : Int) + c).toNat, by omega⟩
  rw [hl2, hu]
  have zb : u + 1 < z.length := by omega
  have lu : l < u := by omega
  have g : ∀ j : Nat, j < z.length → z[j]? = some (Sp.hz z (j : Int)) := fun j hj => by
    unfold Sp.hz
    rw [Int.toNat_natCast, List.getElem?_eq_getElem hj]; rfl
  have e1 : ((l : Int) + 1) = ((l + 1 : Nat) : Int) := by push_cast; rfl
  have e2 : ((u : Int) + 1) = ((u + 1 : Nat) : Int) := by push_cast; rfl
  have s1 := g (l + 1) (by omega)
  have s2 := g (u + 1) (by omega)
  rw [← e1] at s1
  rw [← e2] at s2
  exact tcorners_walk A cap c r k z col row M l u _ _ _ _ w hM hl2 hu M0 (by omega) lu zb (by omega) (g l (by omega)) s1 s2 (g u (by omega)) hT
namespace Sp
theorem hz_in {z : List Int} (h : ∀ v ∈ z, 0 ≤ v ∧ v ≤ 50000) (i : Int) : 0 ≤ hz z i ∧ hz z i ≤ 50000 := by
  unfold hz
  by_cases c : i.toNat < z.length
  · rw [List.getElem?_eq_getElem c]; exact h _ (List.getElem_mem c)
  · rw [List.getElem?_eq_none (by omega)]; simp
/-- The greatest rise around a cell. -/
def ri (v0 v1 v2 v3 : Int) : Int := max (max (max (max (max (max (max (max 0 (v0 - v3)) (v3 - v0)) (v1 - v0)) (v0 - v1)) (v2 - v1)) (v1 - v2)) (v3 - v2)) (v2 - v3)
/-- The slope of a cell. -/
def sloS (z : List Int) (c k col row : Int) : Int := (1000 * ri (hz z (row * c + col)) (hz z (row * c + col + 1)) (hz z (row * c + col + c + 1)) (hz z (row * c + col + c)) + k - 1).tdiv k
end Sp
theorem max2_run (a b : Int) (W : World) : Sem.run Try.prog (Builtin.max2 (.int .i64 a) (.int .i64 b)) W = .ok (.int .i64 (max a b)) W := by
  by_cases h : a < b
  · have e : max a b = b := by omega
    rw [e]; simp [Builtin.max2, go_sem, h]
  · have e : max a b = a := by omega
    rw [e]; simp [Builtin.max2, go_sem, h]
theorem max3_run (a b c : Int) (W : World) : Sem.run Try.prog (Builtin.max_ #[3, 3, 3] 3 #[.int .i64 a, .int .i64 b, .int .i64 c]) W = .ok (.int .i64 (max (max a b) c)) W := by
  have e : Sem.run Try.prog (Builtin.max_ #[3, 3, 3] 3 #[.int .i64 a, .int .i64 b, .int .i64 c]) W = ((Sem.run Try.prog (Builtin.max2 (.int .i64 a) (.int .i64 b)) W).andThen fun x w' => Sem.run Try.prog (Builtin.max2 x (.int .i64 c)) w') := by
    simp [Builtin.max_, go_sem]
  rw [e, max2_run]
  exact max2_run _ _ _
set_option maxRecDepth 100000 in
set_option maxHeartbeats 1000000 in
theorem tslope_walk (A : Option Addr) (cap : Nat) (c r k : Int) (z : List Int) (col row v0 v1 v2 v3 r1 r2 r3 r4 X S : Int) (w : World) (h1 : max (max 0 (v0 - v3)) (v3 - v0) = r1) (h2 : max (max r1 (v1 - v0)) (v0 - v1) = r2) (h3 : max (max r2 (v2 - v1)) (v1 - v2) = r3) (h4 : max (max r3 (v3 - v2)) (v2 - v3) = r4)
    (b0 : 0 ≤ v0 ∧ v0 ≤ 50000) (b1 : 0 ≤ v1 ∧ v1 ≤ 50000) (b2 : 0 ≤ v2 ∧ v2 ≤ 50000) (b3 : 0 ≤ v3 ∧ v3 ≤ 50000) (hk : 1 ≤ k ∧ k ≤ 1000) (hX : 1000 * r4 = X) (hS : (X + k - 1).tdiv k = S)
    (co : ∀ W, Below w.heap.size w W → Calls Try.prog 56 #[.agg #[.int .i64 c, .int .i64 r, .int .i64 k, .slice A z.length cap], .int .i64 col, .int .i64 row] W (Gives (.agg #[.int .i64 v0, .int .i64 v1, .int .i64 v2, .int .i64 v3]) W)) :
    Calls Try.prog 48 #[.agg #[.int .i64 c, .int .i64 r, .int .i64 k, .slice A z.length cap], .int .i64 col, .int .i64 row] w (Gives (.int .i64 S) w) := by
  have VB := trAt_new w c r k A z.length cap
  have bU : Below w.heap.size w (w.alloc (Obj.cells #[.int .i64 c, .int .i64 r, .int .i64 k, .slice A z.length cap] 24)) := balloc _ _
  generalize hU : w.alloc (Obj.cells #[.int .i64 c, .int .i64 r, .int .i64 k, .slice A z.length cap] 24) = U at VB bU
  have CO := hid (co U bU)
  have HU := hid hU
  have HB := hid bU
  have HC := hid VB
  have t1 : r1 ≤ 50000 ∧ 0 ≤ r1 := by omega
  have t2 : r2 ≤ 50000 ∧ 0 ≤ r2 := by omega
  have t3 : r3 ≤ 50000 ∧ 0 ≤ r3 := by omega
  have t4 : r4 ≤ 50000 ∧ 0 ≤ r4 := by omega
  have X0 : 0 ≤ X ∧ X ≤ 50000000 := by omega
  have kz : ¬ k = 0 := by omega
  have ky : (k == 0) = false := by simp; omega
  have S0 : 0 ≤ S := by rw [← hS]; exact Int.tdiv_nonneg (by omega) (by omega)
  have S1 : S ≤ X + k - 1 := by rw [← hS, Int.tdiv_eq_ediv_of_nonneg (by omega)]; exact Int.ediv_le_self _ (by omega)
  have y1 : wrap64 (v0 - v3) = v0 - v3 := pw64 _ (by omega)
  have y2 : wrap64 (v3 - v0) = v3 - v0 := pw64 _ (by omega)
  have y3 : wrap64 (v1 - v0) = v1 - v0 := pw64 _ (by omega)
  have y4 : wrap64 (v0 - v1) = v0 - v1 := pw64 _ (by omega)
  have y5 : wrap64 (v2 - v1) = v2 - v1 := pw64 _ (by omega)
  have y6 : wrap64 (v1 - v2) = v1 - v2 := pw64 _ (by omega)
  have y7 : wrap64 (v3 - v2) = v3 - v2 := pw64 _ (by omega)
  have y8 : wrap64 (v2 - v3) = v2 - v3 := pw64 _ (by omega)
  have x1 : wrap64 X = X := pw64 _ (by omega)
  have x2 : wrap64 (X + k) = X + k := pw64 _ (by omega)
  have x3 : wrap64 (X + k - 1) = X + k - 1 := pw64 _ (by omega)
  have x4 : wrap64 S = S := pw64 _ (by omega)
  have M0 := fun W => max3_run 0 (v0 - v3) (v3 - v0) W
  simp only [h1] at M0
  have M1 := fun W => max3_run r1 (v1 - v0) (v0 - v1) W
  simp only [h2] at M1
  have M2 := fun W => max3_run r2 (v2 - v1) (v1 - v2) W
  simp only [h3] at M2
  have M3 := fun W => max3_run r3 (v3 - v2) (v2 - v3) W
  simp only [h4] at M3
  have i0 : ∀ W, (Instr.index 76 (.agg #[.int .i64 v0, .int .i64 v1, .int .i64 v2, .int .i64 v3]) (.int .i64 0)).run Try.prog W = .ok (.int .i64 v0) W := fun _ => by kernel_rfl
  have i1 : ∀ W, (Instr.index 76 (.agg #[.int .i64 v0, .int .i64 v1, .int .i64 v2, .int .i64 v3]) (.int .i64 1)).run Try.prog W = .ok (.int .i64 v1) W := fun _ => by kernel_rfl
  have i2 : ∀ W, (Instr.index 76 (.agg #[.int .i64 v0, .int .i64 v1, .int .i64 v2, .int .i64 v3]) (.int .i64 2)).run Try.prog W = .ok (.int .i64 v2) W := fun _ => by kernel_rfl
  have i3 : ∀ W, (Instr.index 76 (.agg #[.int .i64 v0, .int .i64 v1, .int .i64 v2, .int .i64 v3]) (.int .i64 3)).run Try.prog W = .ok (.int .i64 v3) W := fun _ => by kernel_rfl
  clear h1 h2 h3 h4 hU VB bU co b0 b1 b2 b3 hk t1 t2 t3 t4 X0 S0 S1
  go_enter Try.func48, Try.ntmps48
  go_upto_region 1 with fail
  rw [HU.out]
  have c0 := HC.out.c0
  have c1 := HC.out.c1
  have c2 := HC.out.c2
  have c3 := HC.out.c3
  have cl := HC.out.lt
  go_wp2_with fail
  refine CO.out.mono ?_
  rintro _ w5 ⟨rfl, hb⟩
  have B5 := hid (bthen HB.out hb)
  have Q5 := hid (HC.out.below hb)
  clear hb c0 c1 c2 c3 cl
  go_wp2_with fail
  go_loopw [19, 8, 9] (fun t a b wr => ((t = .int .i64 0 ∧ a = .int .i64 0 ∧ b = .int .i64 v3) ∨ (t = .int .i64 1 ∧ a = .int .i64 r1 ∧ b = .int .i64 v0) ∨ (t = .int .i64 2 ∧ a = .int .i64 r2 ∧ b = .int .i64 v1) ∨ (t = .int .i64 3 ∧ a = .int .i64 r3 ∧ b = .int .i64 v2) ∨ (t = .int .i64 4 ∧ a = .int .i64 r4 ∧ b = .int .i64 v3)) ∧ TrAt wr w.heap.size c r k A z.length cap ∧ Below w.heap.size w wr) (fun t a b _ => 4 - (intOf t).toNat)
  case atStart => exact ⟨.inl ⟨rfl, rfl, rfl⟩, Q5.out.below (balloc _ _), bthen B5.out (balloc _ _)⟩
  case round =>
    obtain ⟨hs, hQ, hB⟩ := hrel
    have HQ := hid hQ
    have HBB := hid hB
    clear hQ hB
    rcases hs with ⟨rfl, rfl, rfl⟩ | ⟨rfl, rfl, rfl⟩ | ⟨rfl, rfl, rfl⟩ | ⟨rfl, rfl, rfl⟩ | ⟨rfl, rfl, rfl⟩
    · go_wp2_with fail
      go_roundw
      case rel => exact ⟨.inr (.inl ⟨by simp, rfl, rfl⟩), HQ.out, HBB.out⟩
      case measure => decide
    · go_wp2_with fail
      go_roundw
      case rel => exact ⟨.inr (.inr (.inl ⟨by simp, rfl, rfl⟩)), HQ.out, HBB.out⟩
      case measure => decide
    · go_wp2_with fail
      go_roundw
      case rel => exact ⟨.inr (.inr (.inr (.inl ⟨by simp, rfl, rfl⟩))), HQ.out, HBB.out⟩
      case measure => decide
    · go_wp2_with fail
      go_roundw
      case rel => exact ⟨.inr (.inr (.inr (.inr ⟨by simp, rfl, rfl⟩))), HQ.out, HBB.out⟩
      case measure => decide
    · have q2 := HQ.out.c2
      have ql := HQ.out.lt
      go_wp2_with fail
      go_ret
      exact Gives.mk (by first | rfl | exact i64_eq x4.symm | simp [x4]) HBB.out
theorem tslope_any (A : Option Addr) (cap : Nat) (c r k : Int) (z : List Int) (col row : Int) (w : World) (hc : 2 ≤ c ∧ c ≤ 16) (hr : 2 ≤ r ∧ r ≤ 16) (hk : 1 ≤ k ∧ k ≤ 1000) (hl : (z.length : Int) = c * r) (hz : ∀ v ∈ z, 0 ≤ v ∧ v ≤ 50000) (h0 : 0 ≤ col) (h1 : col ≤ c - 2) (h2 : 0 ≤ row) (h3 : row ≤ r - 2) (hT : Ints w A z) :
    Calls Try.prog 48 #[.agg #[.int .i64 c, .int .i64 r, .int .i64 k, .slice A z.length cap], .int .i64 col, .int .i64 row] w (Gives (.int .i64 (Sp.sloS z c k col row)) w) :=
  tslope_walk A cap c r k z col row _ _ _ _ _ _ _ _ _ _ w rfl rfl rfl rfl (Sp.hz_in hz _) (Sp.hz_in hz _) (Sp.hz_in hz _) (Sp.hz_in hz _) hk rfl rfl (fun W hb => tcorners_any A cap c r k z col row W hc hr hl h0 h1 h2 h3 (hT.below hb))
/-- What Slope answers. -/
def Sp.slopeS (c r k : Int) (z : List Int) (col row : Int) : Int × Int :=
  if Sp.terE c r k z ≠ 0 then (0, Sp.terE c r k z) else if (decide (0 ≤ col) && decide (col ≤ c - 2)) = false then (0, 2) else if (decide (0 ≤ row) && decide (row ≤ r - 2)) = false then (0, 2) else (Sp.sloS z c k col row, 0)
set_option maxRecDepth 100000 in
theorem tSlope_any (A : Option Addr) (cap : Nat) (c r k : Int) (z : List Int) (col row s e : Int) (w : World) (hl : z.length ≤ 140737488355328) (hT : Ints w A z) (hv : Sp.slopeS c r k z col row = (s, e)) :
    Calls Try.prog 20 #[.agg #[.int .i64 c, .int .i64 r, .int .i64 k, .slice A z.length cap], .int .i64 col, .int .i64 row] w (Gives (.tuple #[.int .i64 s, .int .i64 e]) w) := by
  have VB := trAt_new w c r k A z.length cap
  have b0 : Below w.heap.size w (w.alloc (Obj.cells #[.int .i64 c, .int .i64 r, .int .i64 k, .slice A z.length cap] 24)) := balloc _ _
  generalize hU : w.alloc (Obj.cells #[.int .i64 c, .int .i64 r, .int .i64 k, .slice A z.length cap] 24) = U at VB b0
  have CK := hid (tcheck_any A cap c r k z U hl (hT.below b0))
  have W1 := hid (fun W => twithin_any col 0 (c - 2) W)
  have W2 := hid (fun W => twithin_any row 0 (r - 2) W)
  have GD := hid (fun (q : Sp.terE c r k z = 0) => Sp.terE_zero q)
  have SL := hid (fun (q : Sp.terE c r k z = 0) (q1 : 0 ≤ col ∧ col ≤ c - 2) (q2 : 0 ≤ row ∧ row ≤ r - 2) W (hb : Below w.heap.size w W) => by
    obtain ⟨h1, h2, h3, h4, h5⟩ := Sp.terE_zero q
    exact tslope_any A cap c r k z col row W h1 h2 h3 h4 h5 q1.1 q1.2 q2.1 q2.2 (hT.below hb))
  unfold Sp.slopeS at hv
  generalize Sp.terE c r k z = E at CK hv GD SL
  generalize Sp.sloS z c k col row = S at hv SL
  obtain ⟨B1, hB1⟩ : ∃ B, (decide (0 ≤ col) && decide (col ≤ c - 2)) = B := ⟨_, rfl⟩
  obtain ⟨B2, hB2⟩ : ∃ B, (decide (0 ≤ row) && decide (row ≤ r - 2)) = B := ⟨_, rfl⟩
  rw [hB1] at W1 hv
  rw [hB2] at W2 hv
  have J1 := hid hB1
  have J2 := hid hB2
  have HU := hid hU
  have HB := hid b0
  have HC := hid VB
  have HV := hid hv
  have k0 := VB.c0
  have k1 := VB.c1
  have k2 := VB.c2
  have k3 := VB.c3
  have kl := VB.lt
  clear hT hU b0 VB hv hB1 hB2 hl
  go_enter Try.func20, Try.ntmps20
  go_upto_region 1 with fail
  rw [HU.out]
  go_wp2_with fail
  refine CK.out.mono ?_
  rintro _ w5 ⟨rfl, hb⟩
  have B5 := hid (bthen HB.out hb)
  have Q5 := hid (HC.out.below hb)
  clear hb k0 k1 k2 k3 kl
  by_cases cE : E = 0
  · subst cE
    obtain ⟨g1, g2, g3, -, -⟩ := GD.out rfl
    have wc : wrap64 (c - 2) = c - 2 := pw64 _ (by omega)
    have wr2 : wrap64 (r - 2) = r - 2 := pw64 _ (by omega)
    have q0 := Q5.out.c0
    have ql := Q5.out.lt
    clear g1 g2 g3 GD
    go_wp2_with fail
    refine (W1.out _).mono ?_
    rintro _ w6 ⟨rfl, hb⟩
    have B6 := hid (bthen B5.out hb)
    have Q6 := hid (Q5.out.below hb)
    clear hb q0 ql
    cases B1
    · obtain ⟨rfl, rfl⟩ : 0 = s ∧ 2 = e := by simpa using HV.out
      go_wp2_with fail
      refine bodyPost_ret (v := .tuple #[.int .i64 0, .int .i64 2]) (by simp [results, Try.results20, go_sem]) rfl ?_
      exact Gives.mk rfl B6.out
    · have q1 := Q6.out.c1
      have ql := Q6.out.lt
      go_wp2_with fail
      refine (W2.out _).mono ?_
      rintro _ w7 ⟨rfl, hb⟩
      have B7 := hid (bthen B6.out hb)
      have Q7 := hid (Q6.out.below hb)
      clear hb q1 ql
      cases B2
      · obtain ⟨rfl, rfl⟩ : 0 = s ∧ 2 = e := by simpa using HV.out
        go_wp2_with fail
        refine bodyPost_ret (v := .tuple #[.int .i64 0, .int .i64 2]) (by simp [results, Try.results20, go_sem]) rfl ?_
        exact Gives.mk rfl B7.out
      · obtain ⟨rfl, rfl⟩ : S = s ∧ 0 = e := by simpa using HV.out
        have j1 := J1.out
        have j2 := J2.out
        simp at j1 j2
        have S1 := hid (SL.out (by first | rfl | trivial) j1 j2 w7 B7.out)
        have k0 := Q7.out.c0
        have k1 := Q7.out.c1
        have k2 := Q7.out.c2
        have k3 := Q7.out.c3
        have kl := Q7.out.lt
        clear j1 j2 SL wc wr2
        go_wp2_with fail
        refine S1.out.mono ?_
        rintro _ w8 ⟨rfl, hb⟩
        have B8 := hid (bthen B7.out hb)
        clear hb
        go_wp2_with fail
        refine bodyPost_ret (v := .tuple #[.int .i64 S, .int .i64 0]) (by simp [results, Try.results20, go_sem]) rfl ?_
        exact Gives.mk rfl B8.out
  · obtain ⟨rfl, rfl⟩ : 0 = s ∧ E = e := by simpa [cE] using HV.out
    have hn : (E == 0) = false := by simpa using cE
    clear SL GD
    go_wp2_with fail
    refine bodyPost_ret (v := .tuple #[.int .i64 0, .int .i64 E]) (by simp [results, Try.results20, go_sem]) rfl ?_
    exact Gives.mk rfl B5.out
set_option maxRecDepth 100000 in
set_option maxHeartbeats 1000000 in
theorem theight_walk (A : Option Addr) (cap : Nat) (c r k : Int) (z : List Int) (px py q1 q2 col row m1 m2 u v v0 v1 v2 v3 s1 s2 s3 s4 lo up t1 t2 N D n d e : Int) (w : World)
    (h1 : px.tdiv k = q1) (h2 : min q1 (c - 2) = col) (h3 : py.tdiv k = q2) (h4 : min q2 (r - 2) = row) (h5 : col * k = m1) (h6 : px - m1 = u) (h7 : row * k = m2) (h8 : py - m2 = v)
    (g1 : v0 * (k - u) = s1) (g2 : v1 * u = s2) (g3 : s1 + s2 = lo) (g4 : v3 * (k - u) = s3) (g5 : v2 * u = s4) (g6 : s3 + s4 = up) (g7 : lo * (k - v) = t1) (g8 : up * v = t2) (g9 : t1 + t2 = N) (g10 : k * k = D)
    (bc : 2 ≤ c ∧ c ≤ 16) (br : 2 ≤ r ∧ r ≤ 16) (bk : 1 ≤ k ∧ k ≤ 1000) (bq1 : 0 ≤ q1 ∧ q1 ≤ 20000) (bq2 : 0 ≤ q2 ∧ q2 ≤ 20000) (bm1 : 0 ≤ m1 ∧ m1 ≤ 20000) (bm2 : 0 ≤ m2 ∧ m2 ≤ 20000) (bu : 0 ≤ u ∧ u ≤ k) (bv : 0 ≤ v ∧ v ≤ k)
    (a1 : 0 ≤ s1 ∧ s1 ≤ 100000000) (a2 : 0 ≤ s2 ∧ s2 ≤ 100000000) (a3 : 0 ≤ s3 ∧ s3 ≤ 100000000) (a4 : 0 ≤ s4 ∧ s4 ≤ 100000000) (a5 : 0 ≤ t1 ∧ t1 ≤ 1000000000000) (a6 : 0 ≤ t2 ∧ t2 ≤ 1000000000000) (a7 : 0 ≤ D ∧ D ≤ 1000000)
    (co : ∀ W, Below w.heap.size w W → Calls Try.prog 56 #[.agg #[.int .i64 c, .int .i64 r, .int .i64 k, .slice A z.length cap], .int .i64 col, .int .i64 row] W (Gives (.agg #[.int .i64 v0, .int .i64 v1, .int .i64 v2, .int .i64 v3]) W))
    (ne : ∀ W, Calls Try.prog 34 #[.int .i64 N, .int .i64 D] W (Gives (.tuple #[.agg #[.int .i64 n, .int .i64 d], .int .i64 e]) W)) :
    Calls Try.prog 42 #[.agg #[.int .i64 c, .int .i64 r, .int .i64 k, .slice A z.length cap], .agg #[.int .i64 px, .int .i64 py]] w (Gives (.agg #[.int .i64 n, .int .i64 d]) w) := by
  have VB : TrAt (((w.alloc (Obj.cells #[.int .i64 c, .int .i64 r, .int .i64 k, .slice A z.length cap] 24)).alloc (.cells #[.int .i64 px, .int .i64 py] 26)).alloc (Obj.cells #[.int .i64 0, .int .i64 0] 30)) w.heap.size c r k A z.length cap := (trAt_new w c r k A z.length cap).below (bthen (balloc _ _) (balloc _ _))
  have bU : Below w.heap.size w (((w.alloc (Obj.cells #[.int .i64 c, .int .i64 r, .int .i64 k, .slice A z.length cap] 24)).alloc (.cells #[.int .i64 px, .int .i64 py] 26)).alloc (Obj.cells #[.int .i64 0, .int .i64 0] 30)) := bthen (balloc _ _) (bthen (balloc _ _) (balloc _ _))
  have p0 : (((w.alloc (Obj.cells #[.int .i64 c, .int .i64 r, .int .i64 k, .slice A z.length cap] 24)).alloc (.cells #[.int .i64 px, .int .i64 py] 26)).alloc (Obj.cells #[.int .i64 0, .int .i64 0] 30)).cell? ⟨w.heap.size + 1, 0, none⟩ = some (.int .i64 px) := by simp [go_sem]
  have p1 : (((w.alloc (Obj.cells #[.int .i64 c, .int .i64 r, .int .i64 k, .slice A z.length cap] 24)).alloc (.cells #[.int .i64 px, .int .i64 py] 26)).alloc (Obj.cells #[.int .i64 0, .int .i64 0] 30)).cell? ⟨w.heap.size + 1, 1, none⟩ = some (.int .i64 py) := by simp [go_sem]
  have r0 : (((w.alloc (Obj.cells #[.int .i64 c, .int .i64 r, .int .i64 k, .slice A z.length cap] 24)).alloc (.cells #[.int .i64 px, .int .i64 py] 26)).alloc (Obj.cells #[.int .i64 0, .int .i64 0] 30)).cell? ⟨w.heap.size + 1 + 1, 0, none⟩ = some (.int .i64 0) := by simp [go_sem]
  have r1 : (((w.alloc (Obj.cells #[.int .i64 c, .int .i64 r, .int .i64 k, .slice A z.length cap] 24)).alloc (.cells #[.int .i64 px, .int .i64 py] 26)).alloc (Obj.cells #[.int .i64 0, .int .i64 0] 30)).cell? ⟨w.heap.size + 1 + 1, 1, none⟩ = some (.int .i64 0) := by simp [go_sem]
  have rf : ∀ o, (((w.alloc (Obj.cells #[.int .i64 c, .int .i64 r, .int .i64 k, .slice A z.length cap] 24)).alloc (.cells #[.int .i64 px, .int .i64 py] 26)).alloc (Obj.cells #[.int .i64 0, .int .i64 0] 30)).frozen? ⟨w.heap.size + 1 + 1, o, none⟩ = false := fun o => by simp [go_sem]
  have rz : w.heap.size + 1 + 1 < (((w.alloc (Obj.cells #[.int .i64 c, .int .i64 r, .int .i64 k, .slice A z.length cap] 24)).alloc (.cells #[.int .i64 px, .int .i64 py] 26)).alloc (Obj.cells #[.int .i64 0, .int .i64 0] 30)).heap.size := by simp
  generalize hU : ((w.alloc (Obj.cells #[.int .i64 c, .int .i64 r, .int .i64 k, .slice A z.length cap] 24)).alloc (.cells #[.int .i64 px, .int .i64 py] 26)).alloc (Obj.cells #[.int .i64 0, .int .i64 0] 30) = U at VB bU p0 p1 r0 r1 rf rz
  have KK := hid (fun (W : World) (hb : Below U.heap.size U W) => (⟨bthen bU hb, VB.below hb, (hb.cell (p := ⟨w.heap.size + 1 + 1, 0, none⟩) rz).trans r0, (hb.cell (p := ⟨w.heap.size + 1 + 1, 1, none⟩) rz).trans r1, fun o => (hb.frozen (p := ⟨w.heap.size + 1 + 1, o, none⟩) rz).trans (rf o), Nat.lt_of_lt_of_le rz hb.size⟩ : Below w.heap.size w W ∧ TrAt W w.heap.size c r k A z.length cap ∧ W.cell? ⟨w.heap.size + 1 + 1, 0, none⟩ = some (.int .i64 0) ∧ W.cell? ⟨w.heap.size + 1 + 1, 1, none⟩ = some (.int .i64 0) ∧ (∀ o, W.frozen? ⟨w.heap.size + 1 + 1, o, none⟩ = false) ∧ w.heap.size + 1 + 1 < W.heap.size))
  have PP := hid (fun (W : World) (hb : Below U.heap.size U W) => (⟨(hb.cell (p := ⟨w.heap.size + 1, 0, none⟩) (by simp only; omega)).trans p0, (hb.cell (p := ⟨w.heap.size + 1, 1, none⟩) (by simp only; omega)).trans p1⟩ : W.cell? ⟨w.heap.size + 1, 0, none⟩ = some (.int .i64 px) ∧ W.cell? ⟨w.heap.size + 1, 1, none⟩ = some (.int .i64 py)))
  have CO := hid co
  have NE := hid ne
  have HU := hid hU
  have BU := hid bU
  have c0 := VB.c0
  have c1 := VB.c1
  have c2 := VB.c2
  have c3 := VB.c3
  have cl := VB.lt
  have kz : ¬ k = 0 := by omega
  have ky : (k == 0) = false := by simp; omega
  have x1 : IntKind.i64.wrap q1 = q1 := pi64 _ (by omega)
  have x2 : IntKind.i64.wrap q2 = q2 := pi64 _ (by omega)
  have x3 : IntKind.i64.wrap (c - 2) = c - 2 := pi64 _ (by omega)
  have x4 : IntKind.i64.wrap (r - 2) = r - 2 := pi64 _ (by omega)
  have x5 : IntKind.i64.wrap m1 = m1 := pi64 _ (by omega)
  have x6 : IntKind.i64.wrap m2 = m2 := pi64 _ (by omega)
  have x7 : IntKind.i64.wrap u = u := pi64 _ (by omega)
  have x8 : IntKind.i64.wrap v = v := pi64 _ (by omega)
  have y1 : wrap64 (k - u) = k - u := pw64 _ (by omega)
  have y2 : wrap64 (k - v) = k - v := pw64 _ (by omega)
  have y3 : wrap64 s1 = s1 := pw64 _ (by omega)
  have y4 : wrap64 s2 = s2 := pw64 _ (by omega)
  have y5 : wrap64 s3 = s3 := pw64 _ (by omega)
  have y6 : wrap64 s4 = s4 := pw64 _ (by omega)
  have y7 : wrap64 lo = lo := pw64 _ (by omega)
  have y8 : wrap64 up = up := pw64 _ (by omega)
  have y9 : wrap64 t1 = t1 := pw64 _ (by omega)
  have y10 : wrap64 t2 = t2 := pw64 _ (by omega)
  have y11 : wrap64 N = N := pw64 _ (by omega)
  have y12 : wrap64 D = D := pw64 _ (by omega)
  clear hU VB bU co ne bc br bk bq1 bq2 bm1 bm2 bu bv a1 a2 a3 a4 a5 a6 a7
  go_enter Try.func42, Try.ntmps42
  go_upto_region 1 with fail
  rw [HU.out]
  go_still (by rfl)
  refine (show ∀ (K : Act → World → Prop) a, K a U.drew → K a { U with drawn := U.drawn + 1 } from fun K a h => h) _ _ ?_
  have hD : Below U.heap.size U U.drew := (Below.refl _ _).drew
  obtain ⟨kb, kt, kr0, kr1, krf, krz⟩ := KK.out _ hD
  obtain ⟨kp0, kp1⟩ := PP.out _ hD
  have BV := hid hD
  clear c0 c1 c2 c3 cl p0 p1 r0 r1 rf rz hD
  generalize U.drew = V at BV kb kt kr0 kr1 krf krz kp0 kp1 ⊢
  have c0 := kt.c0
  have c1 := kt.c1
  have c2 := kt.c2
  have c3 := kt.c3
  have cl := kt.lt
  clear kt kb kr0 kr1 krf krz
  go_wp2_with fail
  go_still (by rfl)
  refine (show ∀ (K : Act → World → Prop) a, K a V.drew → K a { V with drawn := V.drawn + 1 } from fun K a h => h) _ _ ?_
  have hD : Below U.heap.size U V.drew := BV.out.drew
  obtain ⟨kb, kt, kr0, kr1, krf, krz⟩ := KK.out _ hD
  have BW := hid hD
  clear c0 c1 c2 c3 cl kp0 kp1 hD BV
  generalize V.drew = Y at BW kb kt kr0 kr1 krf krz ⊢
  have c0 := kt.c0
  have c1 := kt.c1
  have c2 := kt.c2
  have c3 := kt.c3
  have cl := kt.lt
  have KB := hid kb
  clear kt kb kr0 kr1 krf krz
  go_wp2_with fail
  refine (CO.out _ KB.out).mono ?_
  rintro _ w5 ⟨rfl, hb⟩
  have B5 := hid (bthen BW.out hb)
  have S5 := hid hb.size
  clear hb c0 c1 c2 c3 cl
  obtain ⟨-, kt, -, -, -, krz⟩ := KK.out _ B5.out
  have c2 := kt.c2
  have cl := kt.lt
  have cn : ¬ w.heap.size = w5.heap.size := by omega
  clear kt krz
  go_wp2_with fail
  refine (NE.out _).mono ?_
  rintro _ w6 ⟨rfl, hb⟩
  have B6 := hid (bthen B5.out (bthen (balloc _ _) hb))
  clear hb c2 cl cn
  obtain ⟨kb, -, r0, r1, rf, rz⟩ := KK.out _ B6.out
  have KB6 := hid kb
  have rn : ¬ w.heap.size + 1 + 1 = w6.heap.size := by omega
  clear kb
  go_wp2_with fail
  refine bodyPost_ret (v := .agg #[.int .i64 n, .int .i64 d]) (by simp [results, Try.results42, go_sem, r0, r1, rf, rz, rn]) rfl ?_
  exact Gives.mk rfl (by have hB := KB6.out; repeat' (first | (with_reducible exact Below.refl _ _) | (with_reducible refine Below.alloc ?_ ?_ _) | (with_reducible refine Below.setCell ?_ ?_ _) | (with_reducible refine Below.drew ?_) | (with_reducible refine Below.trans ?_ (Below.mono (by assumption) ?_)) | (simp; done) | (simp; omega) | omega))
namespace Sp
/-- The height at a point of the grid. -/
def hgt (z : List Int) (c r k px py : Int) : Int × Int × Int :=
  newS ((hz z (min (py.tdiv k) (r - 2) * c + min (px.tdiv k) (c - 2)) * (k - (px - min (px.tdiv k) (c - 2) * k)) + hz z (min (py.tdiv k) (r - 2) * c + min (px.tdiv k) (c - 2) + 1) * (px - min (px.tdiv k) (c - 2) * k)) * (k - (py - min (py.tdiv k) (r - 2) * k)) +
    (hz z (min (py.tdiv k) (r - 2) * c + min (px.tdiv k) (c - 2) + c) * (k - (px - min (px.tdiv k) (c - 2) * k)) + hz z (min (py.tdiv k) (r - 2) * c + min (px.tdiv k) (c - 2) + c + 1) * (px - min (px.tdiv k) (c - 2) * k)) * (py - min (py.tdiv k) (r - 2) * k)) (k * k)
theorem cell1 {p k c : Int} (k0 : 1 ≤ k) (k1 : k ≤ 1000) (c0 : 2 ≤ c) (c1 : c ≤ 16) (p0 : 0 ≤ p) (p1 : p ≤ (c - 1) * k) :
    (0 ≤ p.tdiv k ∧ p.tdiv k ≤ 20000) ∧ 0 ≤ min (p.tdiv k) (c - 2) ∧ min (p.tdiv k) (c - 2) ≤ c - 2 ∧ (0 ≤ min (p.tdiv k) (c - 2) * k ∧ min (p.tdiv k) (c - 2) * k ≤ 20000) ∧ (0 ≤ p - min (p.tdiv k) (c - 2) * k ∧ p - min (p.tdiv k) (c - 2) * k ≤ k) := by
  have pb : (c - 1) * k ≤ 15 * 1000 := Int.mul_le_mul (by omega) k1 (by omega) (by omega)
  rw [Int.tdiv_eq_ediv_of_nonneg p0]
  have h1 : p / k * k ≤ p := Int.ediv_mul_le p (by omega)
  have h2 : p < (p / k + 1) * k := Int.lt_ediv_add_one_mul_self p (by omega)
  have h3 : 0 ≤ p / k := Int.ediv_nonneg p0 (by omega)
  have h4 : p / k ≤ p := Int.ediv_le_self _ p0
  generalize p / k = q at h1 h2 h3 h4
  rw [Int.add_mul, Int.one_mul] at h2
  have e1 : (c - 1) * k = (c - 2) * k + k := by
    have : c - 1 = (c - 2) + 1 := by omega
    rw [this, Int.add_mul, Int.one_mul]
  by_cases g : q ≤ c - 2
  · have m : min q (c - 2) = q := by omega
    rw [m]
    have z0 : 0 ≤ q * k := Int.mul_nonneg h3 (by omega)
    refine ⟨⟨h3, by omega⟩, h3, g, ⟨z0, by omega⟩, by omega, by omega⟩
  · have m : min q (c - 2) = c - 2 := by omega
    rw [m]
    have z0 : 0 ≤ (c - 2) * k := Int.mul_nonneg (by omega) (by omega)
    have z1 : (c - 1) * k ≤ q * k := Int.mul_le_mul_of_nonneg_right (by omega) (by omega)
    refine ⟨⟨h3, by omega⟩, by omega, Int.le_refl _, ⟨z0, by omega⟩, by omega, by omega⟩
theorem pmul {a b m n : Int} (a0 : 0 ≤ a) (a1 : a ≤ m) (b0 : 0 ≤ b) (b1 : b ≤ n) (m0 : 0 ≤ m) : 0 ≤ a * b ∧ a * b ≤ m * n := ⟨Int.mul_nonneg a0 b0, Int.mul_le_mul a1 b1 b0 m0⟩
end Sp
theorem theight_any (A : Option Addr) (cap : Nat) (c r k : Int) (z : List Int) (px py n d e : Int) (w : World) (bc : 2 ≤ c ∧ c ≤ 16) (br : 2 ≤ r ∧ r ≤ 16) (bk : 1 ≤ k ∧ k ≤ 1000) (hl : (z.length : Int) = c * r) (hz : ∀ v ∈ z, 0 ≤ v ∧ v ≤ 50000) (x0 : 0 ≤ px) (x1 : px ≤ (c - 1) * k) (y0 : 0 ≤ py) (y1 : py ≤ (r - 1) * k) (hT : Ints w A z)
    (hv : Sp.hgt z c r k px py = (n, d, e)) : Calls Try.prog 42 #[.agg #[.int .i64 c, .int .i64 r, .int .i64 k, .slice A z.length cap], .agg #[.int .i64 px, .int .i64 py]] w (Gives (.agg #[.int .i64 n, .int .i64 d]) w) := by
  obtain ⟨a1, a2, a3, a4, a5⟩ := Sp.cell1 bk.1 bk.2 bc.1 bc.2 x0 x1
  obtain ⟨b1, b2, b3, b4, b5⟩ := Sp.cell1 bk.1 bk.2 br.1 br.2 y0 y1
  have CO := fun W (hb : Below w.heap.size w W) => tcorners_any A cap c r k z (min (px.tdiv k) (c - 2)) (min (py.tdiv k) (r - 2)) W bc br hl a2 a3 b2 b3 (hT.below hb)
  unfold Sp.hgt at hv
  have z0 := Sp.hz_in hz (min (py.tdiv k) (r - 2) * c + min (px.tdiv k) (c - 2))
  have z1 := Sp.hz_in hz (min (py.tdiv k) (r - 2) * c + min (px.tdiv k) (c - 2) + 1)
  have z2 := Sp.hz_in hz (min (py.tdiv k) (r - 2) * c + min (px.tdiv k) (c - 2) + c + 1)
  have z3 := Sp.hz_in hz (min (py.tdiv k) (r - 2) * c + min (px.tdiv k) (c - 2) + c)
  generalize Sp.hz z (min (py.tdiv k) (r - 2) * c + min (px.tdiv k) (c - 2)) = v0 at z0 CO hv
  generalize Sp.hz z (min (py.tdiv k) (r - 2) * c + min (px.tdiv k) (c - 2) + 1) = v1 at z1 CO hv
  generalize Sp.hz z (min (py.tdiv k) (r - 2) * c + min (px.tdiv k) (c - 2) + c + 1) = v2 at z2 CO hv
  generalize Sp.hz z (min (py.tdiv k) (r - 2) * c + min (px.tdiv k) (c - 2) + c) = v3 at z3 CO hv
  obtain ⟨u, hu⟩ : ∃ u, px - min (px.tdiv k) (c - 2) * k = u := ⟨_, rfl⟩
  obtain ⟨v, hv2⟩ : ∃ v, py - min (py.tdiv k) (r - 2) * k = v := ⟨_, rfl⟩
  rw [hu] at a5 hv
  rw [hv2] at b5 hv
  have s1 := Sp.pmul (a := v0) (b := k - u) (m := 50000) (n := 1000) z0.1 z0.2 (by omega) (by omega) (by omega)
  have s2 := Sp.pmul (a := v1) (b := u) (m := 50000) (n := 1000) z1.1 z1.2 (by omega) (by omega) (by omega)
  have s3 := Sp.pmul (a := v3) (b := k - u) (m := 50000) (n := 1000) z3.1 z3.2 (by omega) (by omega) (by omega)
  have s4 := Sp.pmul (a := v2) (b := u) (m := 50000) (n := 1000) z2.1 z2.2 (by omega) (by omega) (by omega)
  have t1 := Sp.pmul (a := v0 * (k - u) + v1 * u) (b := k - v) (m := 100000000) (n := 1000) (by omega) (by omega) (by omega) (by omega) (by omega)
  have t2 := Sp.pmul (a := v3 * (k - u) + v2 * u) (b := v) (m := 100000000) (n := 1000) (by omega) (by omega) (by omega) (by omega) (by omega)
  have dd := Sp.pmul (a := k) (b := k) (m := 1000) (n := 1000) (by omega) (by omega) (by omega) (by omega) (by omega)
  exact theight_walk A cap c r k z px py _ _ _ _ _ _ u v v0 v1 v2 v3 _ _ _ _ _ _ _ _ _ _ n d e w rfl rfl rfl rfl rfl hu rfl hv2 rfl rfl rfl rfl rfl rfl rfl rfl rfl rfl bc br bk a1 b1 a4 b4 a5 b5
    ⟨s1.1, by omega⟩ ⟨s2.1, by omega⟩ ⟨s3.1, by omega⟩ ⟨s4.1, by omega⟩ ⟨t1.1, by omega⟩ ⟨t2.1, by omega⟩ ⟨dd.1, by omega⟩ CO
    (fun W => fnew_any _ _ (by omega) (by omega) (by omega) (by omega) n d e hv W)
set_option maxRecDepth 100000 in
theorem tprisms_any (A : Option Addr) (cap : Nat) (c r k : Int) (z : List Int) (lo hi : Int) (w : World) (bk : 1 ≤ k ∧ k ≤ 1000) (l0 : 0 ≤ lo ∧ lo ≤ 100000000) (h0 : 0 ≤ hi ∧ hi ≤ 100000000) :
    Calls Try.prog 59 #[.agg #[.int .i64 c, .int .i64 r, .int .i64 k, .slice A z.length cap], .int .i64 lo, .int .i64 hi] w (Gives (.agg #[.int .i64 ((lo * (k * k)).tdiv 4), .int .i64 ((hi * (k * k) + 3).tdiv 4)]) w) := by
  have VB : TrAt ((w.alloc (Obj.cells #[.int .i64 c, .int .i64 r, .int .i64 k, .slice A z.length cap] 24)).alloc (Obj.cells #[.int .i64 0, .int .i64 0] 50)) w.heap.size c r k A z.length cap := (trAt_new w c r k A z.length cap).below (balloc _ _)
  have bU : Below w.heap.size w ((w.alloc (Obj.cells #[.int .i64 c, .int .i64 r, .int .i64 k, .slice A z.length cap] 24)).alloc (Obj.cells #[.int .i64 0, .int .i64 0] 50)) := bthen (balloc _ _) (balloc _ _)
  have r0 : ((w.alloc (Obj.cells #[.int .i64 c, .int .i64 r, .int .i64 k, .slice A z.length cap] 24)).alloc (Obj.cells #[.int .i64 0, .int .i64 0] 50)).cell? ⟨w.heap.size + 1, 0, none⟩ = some (.int .i64 0) := by simp [go_sem]
  have r1 : ((w.alloc (Obj.cells #[.int .i64 c, .int .i64 r, .int .i64 k, .slice A z.length cap] 24)).alloc (Obj.cells #[.int .i64 0, .int .i64 0] 50)).cell? ⟨w.heap.size + 1, 1, none⟩ = some (.int .i64 0) := by simp [go_sem]
  have rf : ∀ o, ((w.alloc (Obj.cells #[.int .i64 c, .int .i64 r, .int .i64 k, .slice A z.length cap] 24)).alloc (Obj.cells #[.int .i64 0, .int .i64 0] 50)).frozen? ⟨w.heap.size + 1, o, none⟩ = false := fun o => by simp [go_sem]
  have rz : w.heap.size + 1 < ((w.alloc (Obj.cells #[.int .i64 c, .int .i64 r, .int .i64 k, .slice A z.length cap] 24)).alloc (Obj.cells #[.int .i64 0, .int .i64 0] 50)).heap.size := by simp
  generalize hU : (w.alloc (Obj.cells #[.int .i64 c, .int .i64 r, .int .i64 k, .slice A z.length cap] 24)).alloc (Obj.cells #[.int .i64 0, .int .i64 0] 50) = U at VB bU r0 r1 rf rz
  have dd := Sp.pmul (a := k) (b := k) (m := 1000) (n := 1000) (by omega) (by omega) (by omega) (by omega) (by omega)
  obtain ⟨D, hD⟩ : ∃ D, k * k = D := ⟨_, rfl⟩
  rw [hD] at dd ⊢
  have p1 := Sp.pmul (a := lo) (b := D) (m := 100000000) (n := 1000000) l0.1 l0.2 dd.1 (by omega) (by omega)
  have p2 := Sp.pmul (a := hi) (b := D) (m := 100000000) (n := 1000000) h0.1 h0.2 dd.1 (by omega) (by omega)
  obtain ⟨P, hP⟩ : ∃ P, lo * D = P := ⟨_, rfl⟩
  obtain ⟨Q, hQ⟩ : ∃ Q, hi * D = Q := ⟨_, rfl⟩
  rw [hP] at p1 ⊢
  rw [hQ] at p2 ⊢
  obtain ⟨X, hX⟩ : ∃ X, P.tdiv 4 = X := ⟨_, rfl⟩
  obtain ⟨Y, hY⟩ : ∃ Y, (Q + 3).tdiv 4 = Y := ⟨_, rfl⟩
  rw [hX, hY]
  have x0 : 0 ≤ X ∧ X ≤ P := by rw [← hX, Int.tdiv_eq_ediv_of_nonneg p1.1]; exact ⟨by omega, by omega⟩
  have y0 : 0 ≤ Y ∧ Y ≤ Q + 3 := by rw [← hY, Int.tdiv_eq_ediv_of_nonneg (by omega)]; exact ⟨by omega, by omega⟩
  have HU := hid hU
  have BU := hid bU
  have c2 := VB.c2
  have cl := VB.lt
  have w1 : wrap64 D = D := pw64 _ (by omega)
  have w2 : wrap64 P = P := pw64 _ (by omega)
  have w3 : wrap64 Q = Q := pw64 _ (by omega)
  have w4 : wrap64 (Q + 3) = Q + 3 := pw64 _ (by omega)
  have w5 : wrap64 X = X := pw64 _ (by omega)
  have w6 : wrap64 Y = Y := pw64 _ (by omega)
  clear hU VB bU dd p1 p2 x0 y0 l0 h0 bk
  go_enter Try.func59, Try.ntmps59
  go_upto_region 1 with fail
  rw [HU.out]
  go_wp2_with fail
  refine bodyPost_ret (v := .agg #[.int .i64 X, .int .i64 Y]) (by simp [results, Try.results59, go_sem, r0, r1, rf, rz]) rfl ?_
  exact Gives.mk rfl (by have hB := BU.out; repeat' (first | (with_reducible exact Below.refl _ _) | (with_reducible refine Below.alloc ?_ ?_ _) | (with_reducible refine Below.setCell ?_ ?_ _) | (with_reducible refine Below.drew ?_) | (with_reducible refine Below.trans ?_ (Below.mono (by assumption) ?_)) | (simp; done) | (simp; omega) | omega))
/-- A list of points that lies in memory. -/
def Pts (w : World) (A : Option Addr) (l : List (Int × Int)) : Prop := 0 < l.length → ∃ b off, A = some ⟨b, off, none⟩ ∧ b < w.heap.size ∧ ∀ j, (hj : j < l.length) → w.cell? ⟨b, off + j * 2, none⟩ = some (.int .i64 (l[j]).1) ∧ w.cell? ⟨b, off + j * 2 + 1, none⟩ = some (.int .i64 (l[j]).2)
theorem Pts.below {w w' : World} {A : Option Addr} {l : List (Int × Int)} (h : Pts w A l) (hb : Below w.heap.size w w') : Pts w' A l := fun h0 => by
  obtain ⟨b, off, e, bl, q⟩ := h h0
  exact ⟨b, off, e, Nat.lt_of_lt_of_le bl hb.size, fun j hj => ⟨(hb.cell (p := ⟨b, off + j * 2, none⟩) bl).trans (q j hj).1, (hb.cell (p := ⟨b, off + j * 2 + 1, none⟩) bl).trans (q j hj).2⟩⟩
/-- The error of points on a grid of the width X and the height Y. -/
def Sp.onE (X Y : Int) : List (Int × Int) → Int
  | [] => 0
  | p :: l => if (decide (0 ≤ p.1) && decide (p.1 ≤ X)) = false then 2 else if (decide (0 ≤ p.2) && decide (p.2 ≤ Y)) = false then 2 else Sp.onE X Y l
/-- The error of a terrain and of points on it. -/
def Sp.ptsE (c r k : Int) (z : List Int) (l : List (Int × Int)) : Int := if Sp.terE c r k z ≠ 0 then Sp.terE c r k z else Sp.onE ((c - 1) * k) ((r - 1) * k) l
theorem jwrap {K : Int} (h0 : 0 ≤ K) (h1 : K ≤ 1000) : wrap64 (K + 1) = K + 1 := pw64 _ (by omega)
theorem pwb {K : Int} (h : 0 ≤ K ∧ K ≤ 100000) : wrap64 K = K := pw64 _ (by omega)
set_option maxRecDepth 100000 in
set_option maxHeartbeats 1000000 in
theorem tcheckpts_any (A : Option Addr) (cap : Nat) (c r k : Int) (z : List Int) (P : Option Addr) (cp : Nat) (l : List (Int × Int)) (w : World) (hl : z.length ≤ 140737488355328) (ll : l.length ≤ 1000) (hT : Ints w A z) (hP : Pts w P l) :
    Calls Try.prog 41 #[.agg #[.int .i64 c, .int .i64 r, .int .i64 k, .slice A z.length cap], .slice P l.length cp] w (Gives (.int .i64 (Sp.ptsE c r k z l)) w) := by
  have VB := trAt_new w c r k A z.length cap
  have b0 : Below w.heap.size w (w.alloc (Obj.cells #[.int .i64 c, .int .i64 r, .int .i64 k, .slice A z.length cap] 24)) := balloc _ _
  generalize hU : w.alloc (Obj.cells #[.int .i64 c, .int .i64 r, .int .i64 k, .slice A z.length cap] 24) = U at VB b0
  have CK := hid (tcheck_any A cap c r k z U hl (hT.below b0))
  have GD := hid (fun (q : Sp.terE c r k z = 0) => Sp.terE_zero q)
  obtain ⟨R, hR⟩ : ∃ R, Sp.ptsE c r k z l = R := ⟨_, rfl⟩
  rw [hR]
  unfold Sp.ptsE at hR
  generalize Sp.terE c r k z = E at CK hR GD
  have RR := hid hR
  have HU := hid hU
  have HB := hid b0
  have HC := hid VB
  have HP := hid hP
  have LL := hid ll
  have k0 := VB.c0
  have k1 := VB.c1
  have k2 := VB.c2
  have k3 := VB.c3
  have kl := VB.lt
  clear hT hU b0 VB hR hl hP ll
  go_enter Try.func41, Try.ntmps41
  go_upto_region 1 with fail
  rw [HU.out]
  go_wp2_with fail
  refine CK.out.mono ?_
  rintro _ w5 ⟨rfl, hb⟩
  have B5 := hid (bthen HB.out hb)
  have Q5 := hid (HC.out.below hb)
  clear hb k0 k1 k2 k3 kl
  by_cases cE : E = 0
  · subst cE
    obtain ⟨g1, g2, g3, -, -⟩ := GD.out rfl
    obtain ⟨X, hX⟩ : ∃ X, (c - 1) * k = X := ⟨_, rfl⟩
    obtain ⟨Y, hY⟩ : ∃ Y, (r - 1) * k = Y := ⟨_, rfl⟩
    have x1 := Sp.pmul (a := c - 1) (b := k) (m := 15) (n := 1000) (by omega) (by omega) (by omega) (by omega) (by omega)
    have y1 := Sp.pmul (a := r - 1) (b := k) (m := 15) (n := 1000) (by omega) (by omega) (by omega) (by omega) (by omega)
    rw [hX] at x1
    rw [hY] at y1
    have RO := hid (show Sp.onE X Y l = R by have := RR.out; rw [hX, hY] at this; simpa using this)
    have v1 : 0 ≤ c - 1 ∧ c - 1 ≤ 100000 := by omega
    have v2 : 0 ≤ r - 1 ∧ r - 1 ≤ 100000 := by omega
    have v3 : 0 ≤ X ∧ X ≤ 100000 := by omega
    have v4 : 0 ≤ Y ∧ Y ≤ 100000 := by omega
    have wc : wrap64 (c - 1) = c - 1 := pwb v1
    have wr2 : wrap64 (r - 1) = r - 1 := pwb v2
    have wX : wrap64 X = X := pwb v3
    have wY : wrap64 Y = Y := pwb v4
    clear v1 v2 v3 v4
    clear g1 g2 g3 GD RR x1 y1
    go_wp2_with fail
    go_loopw [15] (fun t wr => ∃ j : Nat, t = .int .i64 (j : Int) ∧ j ≤ l.length ∧ Sp.onE X Y (l.drop j) = R ∧ TrAt wr w.heap.size c r k A z.length cap ∧ Below w.heap.size w wr) (fun t _ => l.length - (intOf t).toNat)
    case atStart => exact ⟨0, rfl, Nat.zero_le _, RO.out, Q5.out, B5.out⟩
    case round =>
      obtain ⟨j, rfl, hj, hd, hQ, hB⟩ := hrel
      have HD := hid hd
      have HQ := hid hQ
      have HBB := hid hB
      clear hd hQ hB
      by_cases hlt : j < l.length
      · obtain ⟨b, off, eP, bl, q⟩ := (HP.out.below HBB.out) (Nat.lt_of_le_of_lt (Nat.zero_le _) hlt)
        obtain ⟨q0, q1⟩ := q j hlt
        have hd := HD.out
        rw [List.drop_eq_getElem_cons hlt] at hd
        unfold Sp.onE at hd
        obtain ⟨⟨u, v⟩, hv⟩ : ∃ v, l[j]'hlt = v := ⟨_, rfl⟩
        rw [hv] at q0 q1 hd
        simp only at q0 q1 hd
        have i0 : (0 : Int) ≤ (j : Int) := Int.natCast_nonneg j
        have i1 : (j : Int) < (l.length : Int) := Int.ofNat_lt.mpr hlt
        have W1 := hid (fun W => twithin_any u 0 X W)
        have W2 := hid (fun W => twithin_any v 0 Y W)
        have HJ := hid hlt
        have EP := hid eP
        have jb : (j : Int) ≤ 1000 := Int.ofNat_le.mpr (Nat.le_trans (Nat.le_of_lt hlt) LL.out)
        have ej : wrap64 ((j : Int) + 1) = (j : Int) + 1 := jwrap i0 jb
        have EQ := hid (show (j : Int) + 1 = ((j + 1 : Nat) : Int) by rw [Int.natCast_add]; rfl)
        generalize (decide (0 ≤ u) && decide (u ≤ X)) = B1 at W1 hd
        generalize (decide (0 ≤ v) && decide (v ≤ Y)) = B2 at W2 hd
        have HF := hid hd
        have t0 := HQ.out.c0
        have t1 := HQ.out.c1
        have t2 := HQ.out.c2
        have tl := HQ.out.lt
        have tn : ¬ w.heap.size = wr.heap.size := Nat.ne_of_lt tl
        clear q hv hd eP jb
        rw [EP.out]
        go_wp2_with fail
        refine (W1.out _).mono ?_
        rintro _ w8 ⟨rfl, hb⟩
        have B8 := hid (bthen (balloc wr (Obj.cells #[.int .i64 (u), .int .i64 (v)] 26)) hb)
        have Q8 := hid (HQ.out.below B8.out)
        have p1 : w8.cell? ⟨wr.heap.size, 1, none⟩ = some (.int .i64 v) := (hb.cell (p := ⟨wr.heap.size, 1, none⟩) (by simp)).trans (by simp [go_sem])
        have pl : wr.heap.size < w8.heap.size := by have := hb.size; simp at this; exact this
        clear hb t0 t1 t2 tl tn q0 q1
        cases B1
        · go_wp2_with fail
          go_ret
          exact Gives.mk (i64_eq (by have := HF.out; simpa using this.symm)) (bthen HBB.out B8.out)
        · have t1 := Q8.out.c1
          have t2 := Q8.out.c2
          have tl := Q8.out.lt
          go_wp2_with fail
          refine (W2.out _).mono ?_
          rintro _ w9 ⟨rfl, hb⟩
          have B9 := hid (bthen B8.out hb)
          have Q9 := hid (Q8.out.below hb)
          clear hb t1 t2 tl p1 pl
          cases B2
          · go_wp2_with fail
            go_ret
            exact Gives.mk (i64_eq (by have := HF.out; simpa using this.symm)) (bthen HBB.out B9.out)
          · go_wp2_with fail
            go_roundw
            case rel => exact ⟨j + 1, i64_eq (by first | exact EQ.out | exact ej.trans EQ.out), HJ.out, by have := HF.out; simpa using this, Q9.out, bthen HBB.out B9.out⟩
            case measure => first | exact pmeas _ _ HJ.out | (rw [ej]; exact pmeas _ _ HJ.out)
      · have i1 : ¬ (j : Int) < (l.length : Int) := fun k => hlt (Int.ofNat_lt.mp k)
        have hd := HD.out
        rw [List.drop_eq_nil_of_le (Nat.le_of_not_lt hlt)] at hd
        have HF := hid (show (0 : Int) = R from hd)
        clear hd
        go_wp2_with fail
        go_ret
        exact Gives.mk (i64_eq HF.out.symm) HBB.out
  · have HF := hid (show E = R by have := RR.out; simpa [cE] using this)
    have hn : (E == 0) = false := by simpa using cE
    clear GD RR
    go_wp2_with fail
    go_ret
    exact Gives.mk (i64_eq HF.out.symm) B5.out
/-- What Height answers. -/
def Sp.heightS (c r k : Int) (z : List Int) (px py : Int) : Int × Int × Int :=
  if Sp.ptsE c r k z [(px, py)] ≠ 0 then (0, 0, Sp.ptsE c r k z [(px, py)]) else ((Sp.hgt z c r k px py).1, (Sp.hgt z c r k px py).2.1, 0)
theorem Sp.ptsE_one {c r k : Int} {z : List Int} {px py : Int} (h : Sp.ptsE c r k z [(px, py)] = 0) : Sp.terE c r k z = 0 ∧ (0 ≤ px ∧ px ≤ (c - 1) * k) ∧ (0 ≤ py ∧ py ≤ (r - 1) * k) := by
  unfold Sp.ptsE at h
  by_cases c0 : Sp.terE c r k z = 0
  · rw [if_neg (fun q => q c0)] at h
    unfold Sp.onE at h
    by_cases c1 : (decide (0 ≤ px) && decide (px ≤ (c - 1) * k)) = false
    · rw [if_pos c1] at h; exact absurd h (by decide)
    · rw [if_neg c1] at h
      by_cases c2 : (decide (0 ≤ py) && decide (py ≤ (r - 1) * k)) = false
      · rw [if_pos c2] at h; exact absurd h (by decide)
      · simp at c1 c2
        exact ⟨c0, c1, c2⟩
  · rw [if_pos c0] at h; exact absurd h c0
set_option maxRecDepth 100000 in
theorem tHeight_any (A : Option Addr) (cap : Nat) (c r k : Int) (z : List Int) (px py n d e : Int) (w : World) (hl : z.length ≤ 140737488355328) (hT : Ints w A z) (hv : Sp.heightS c r k z px py = (n, d, e)) :
    Calls Try.prog 13 #[.agg #[.int .i64 c, .int .i64 r, .int .i64 k, .slice A z.length cap], .agg #[.int .i64 px, .int .i64 py]] w (Gives (.tuple #[.agg #[.int .i64 n, .int .i64 d], .int .i64 e]) w) := by
  obtain ⟨U0, hU0⟩ : ∃ U0, ((w.alloc (Obj.cells #[.int .i64 c, .int .i64 r, .int .i64 k, .slice A z.length cap] 24)).alloc (.cells #[.int .i64 px, .int .i64 py] 26)).alloc (Obj.cells #[.int .i64 0, .int .i64 0] 30) = U0 := ⟨_, rfl⟩
  have T0 : TrAt U0 w.heap.size c r k A z.length cap := by rw [← hU0]; exact (trAt_new w c r k A z.length cap).below (bthen (balloc _ _) (balloc _ _))
  have b0 : Below w.heap.size w U0 := by rw [← hU0]; exact bthen (balloc _ _) (bthen (balloc _ _) (balloc _ _))
  have p0 : U0.cell? ⟨w.heap.size + 1, 0, none⟩ = some (.int .i64 px) := by rw [← hU0]; simp [go_sem]
  have p1 : U0.cell? ⟨w.heap.size + 1, 1, none⟩ = some (.int .i64 py) := by rw [← hU0]; simp [go_sem]
  have r0 : U0.cell? ⟨w.heap.size + 1 + 1, 0, none⟩ = some (.int .i64 0) := by rw [← hU0]; simp [go_sem]
  have r1 : U0.cell? ⟨w.heap.size + 1 + 1, 1, none⟩ = some (.int .i64 0) := by rw [← hU0]; simp [go_sem]
  have rf : ∀ o, U0.frozen? ⟨w.heap.size + 1 + 1, o, none⟩ = false := fun o => by rw [← hU0]; simp [go_sem]
  have rz : w.heap.size + 1 + 1 < U0.heap.size := by rw [← hU0]; simp
  have pz : w.heap.size + 1 < U0.heap.size := Nat.lt_of_succ_lt rz
  have bV : Below U0.heap.size U0 (U0.alloc (.cells #[.int .i64 px, .int .i64 py] 26)) := balloc _ _
  have hP : Pts (U0.alloc (.cells #[.int .i64 px, .int .i64 py] 26)) (some ⟨U0.heap.size, 0, none⟩) [(px, py)] := fun _ => ⟨U0.heap.size, 0, rfl, by simp, fun j hj => by
    have : j = 0 := by simpa using hj
    subst this
    exact ⟨by simp [go_sem], by simp [go_sem]⟩⟩
  have KK := hid (fun (W : World) (hb : Below U0.heap.size U0 W) => (⟨bthen b0 hb, T0.below hb, (hb.cell (p := ⟨w.heap.size + 1, 0, none⟩) pz).trans p0, (hb.cell (p := ⟨w.heap.size + 1, 1, none⟩) pz).trans p1, (hb.cell (p := ⟨w.heap.size + 1 + 1, 0, none⟩) rz).trans r0, (hb.cell (p := ⟨w.heap.size + 1 + 1, 1, none⟩) rz).trans r1, fun o => (hb.frozen (p := ⟨w.heap.size + 1 + 1, o, none⟩) rz).trans (rf o), Nat.lt_of_lt_of_le rz hb.size⟩ : Below w.heap.size w W ∧ TrAt W w.heap.size c r k A z.length cap ∧ W.cell? ⟨w.heap.size + 1, 0, none⟩ = some (.int .i64 px) ∧ W.cell? ⟨w.heap.size + 1, 1, none⟩ = some (.int .i64 py) ∧ W.cell? ⟨w.heap.size + 1 + 1, 0, none⟩ = some (.int .i64 0) ∧ W.cell? ⟨w.heap.size + 1 + 1, 1, none⟩ = some (.int .i64 0) ∧ (∀ o, W.frozen? ⟨w.heap.size + 1 + 1, o, none⟩ = false) ∧ w.heap.size + 1 + 1 < W.heap.size))
  have CK := hid (tcheckpts_any A cap c r k z (some ⟨U0.heap.size, 0, none⟩) 1 [(px, py)] (U0.alloc (.cells #[.int .i64 px, .int .i64 py] 26)) hl (by simp) (hT.below (bthen b0 bV)) hP)
  simp only [List.length_cons, List.length_nil, Nat.zero_add] at CK
  have HG := hid (fun (q : Sp.ptsE c r k z [(px, py)] = 0) (n d : Int) (hn : (Sp.hgt z c r k px py).1 = n) (hd : (Sp.hgt z c r k px py).2.1 = d) W (hb : Below w.heap.size w W) => by
    obtain ⟨k0, ⟨x0, x1⟩, y0, y1⟩ := Sp.ptsE_one q
    obtain ⟨g1, g2, g3, g4, g5⟩ := Sp.terE_zero k0
    exact theight_any A cap c r k z px py n d (Sp.hgt z c r k px py).2.2 W g1 g2 g3 g4 g5 x0 x1 y0 y1 (hT.below hb) (by rw [← hn, ← hd]))
  unfold Sp.heightS at hv
  generalize Sp.ptsE c r k z [(px, py)] = E at CK HG hv
  have HU := hid hU0
  have HV := hid hv
  have BV := hid bV
  have c0 := T0.c0
  have c1 := T0.c1
  have c2 := T0.c2
  have c3 := T0.c3
  have cl := T0.lt
  clear hl hT hU0 T0 b0 r0 r1 rf rz bV hP hv
  go_enter Try.func13, Try.ntmps13
  go_upto_region 1 with fail
  rw [HU.out]
  go_wp2_with fail
  refine CK.out.mono ?_
  rintro _ w5 ⟨rfl, hb⟩
  have B5 := hid (bthen BV.out hb)
  clear hb c0 c1 c2 c3 cl p0 p1 pz
  obtain ⟨kb, kt, p0, p1, r0, r1, rf, rz⟩ := KK.out _ B5.out
  have KB := hid kb
  by_cases cE : E = 0
  · subst cE
    have hv := HV.out
    simp only [ne_eq, not_true_eq_false, if_false] at hv
    obtain ⟨hn, hv2⟩ := Prod.mk.inj hv
    obtain ⟨hd, hv3⟩ := Prod.mk.inj hv2
    subst hv3
    have H1 := hid (HG.out (by first | rfl | trivial) n d hn hd w5 kb)
    have c0 := kt.c0
    have c1 := kt.c1
    have c2 := kt.c2
    have c3 := kt.c3
    have cl := kt.lt
    have pz : w.heap.size + 1 < w5.heap.size := Nat.lt_of_succ_lt rz
    clear hv hv2 HV HG kb kt r0 r1 rf hn hd
    go_wp2_with fail
    refine H1.out.mono ?_
    rintro _ w6 ⟨rfl, hb⟩
    have B6 := hid (bthen B5.out hb)
    clear hb c0 c1 c2 c3 cl p0 p1 pz rz
    obtain ⟨kb, -, -, -, r0, r1, rf, rz⟩ := KK.out _ B6.out
    have KB6 := hid kb
    clear kb
    go_wp2_with fail
    refine bodyPost_ret (v := .tuple #[.agg #[.int .i64 n, .int .i64 d], .int .i64 0]) (by simp [results, Try.results13, go_sem, r0, r1, rf, rz]) rfl ?_
    exact Gives.mk rfl (by have hB := KB6.out; repeat' (first | (with_reducible exact Below.refl _ _) | (with_reducible refine Below.alloc ?_ ?_ _) | (with_reducible refine Below.setCell ?_ ?_ _) | (with_reducible refine Below.drew ?_) | (with_reducible refine Below.trans ?_ (Below.mono (by assumption) ?_)) | (simp; done) | (simp; omega) | omega))
  · have hv := HV.out
    rw [if_pos cE] at hv
    obtain ⟨rfl, hv2⟩ := Prod.mk.inj hv
    obtain ⟨rfl, rfl⟩ := Prod.mk.inj hv2
    have hn : (E == 0) = false := by simpa using cE
    clear hv hv2 HV HG kb kt p0 p1
    go_wp2_with fail
    refine bodyPost_ret (v := .tuple #[.agg #[.int .i64 0, .int .i64 0], .int .i64 E]) (by simp [results, Try.results13, go_sem, r0, r1, rf, rz]) rfl ?_
    exact Gives.mk rfl (by have hB := KB.out; repeat' (first | (with_reducible exact Below.refl _ _) | (with_reducible refine Below.alloc ?_ ?_ _) | (with_reducible refine Below.setCell ?_ ?_ _) | (with_reducible refine Below.drew ?_) | (with_reducible refine Below.trans ?_ (Below.mono (by assumption) ?_)) | (simp; done) | (simp; omega) | omega))
/-- The numbers ascend from the place k on. -/
def ascP (l : List Int) (k : Nat) : Prop := ∀ i, k ≤ i → (h : i + 1 < l.length) → l[i] < l[i + 1]
theorem ascP_step {l : List Int} {k : Nat} (h : k + 1 < l.length) : ascP l k ↔ l[k] < l[k + 1] ∧ ascP l (k + 1) := by
  constructor
  · intro p
    exact ⟨p k (Nat.le_refl _) h, fun i hi hl => p i (by omega) hl⟩
  · rintro ⟨p, q⟩ i hi hl
    by_cases e : i = k
    · subst e; exact p
    · exact q i (by omega) hl
theorem ascP_end {l : List Int} {k : Nat} (h : ¬ k + 1 < l.length) : ascP l k := fun i hi hl => absurd hl (by omega)
theorem aslf (k n : Nat) (h : k + 1 < n) (hn : n ≤ 1000000) : (0 : Int) ≤ (k : Int) ∧ (k : Int) + 1 < (n : Int) ∧ (k : Int) < (n : Int) ∧ (0 : Int) ≤ (k : Int) + 1 ∧ IntKind.i64.wrap (k : Int) = (k : Int) ∧ wrap64 ((k : Int) + 1 + 1) = (k : Int) + 1 + 1 ∧ (k : Int) + 1 + 1 = ((k + 1 : Nat) : Int) + 1 ∧ ((n : Int) - intOf (.int .i64 ((k : Int) + 1 + 1))).toNat < ((n : Int) - intOf (.int .i64 ((k : Int) + 1))).toNat :=
  ⟨by omega, by omega, by omega, by omega, pi64 _ (by omega), pw64 _ (by omega), by omega, by simp [intOf]; omega⟩
set_option maxRecDepth 100000 in
theorem tasc_any (A : Option Addr) (cap : Nat) (l : List Int) (R : Bool) (w : World) (hl : l.length ≤ 1000000) (hT : Ints w A l) (hR : R = true ↔ ascP l 0) :
    Calls Try.prog 50 #[.slice A l.length cap] w (Gives (.bool R) w) := by
  have HT := hid hT
  have LE := hid hl
  have RR := hid hR
  clear hT hl hR
  go_enter Try.func50, Try.ntmps50
  go_wp2_with fail
  go_loopw [3] (fun t wr => ∃ k : Nat, t = .int .i64 ((k : Int) + 1) ∧ (R = true ↔ ascP l k) ∧ Below w.heap.size w wr) (fun t _ => ((l.length : Int) - intOf t).toNat)
  case atStart => exact ⟨0, rfl, RR.out, Below.refl _ _⟩
  case round =>
    obtain ⟨k, rfl, hd, hB⟩ := hrel
    have HD := hid hd
    have HB := hid hB
    clear hd hB
    by_cases hlt : k + 1 < l.length
    · obtain ⟨b, off, rfl, bl, q⟩ := (HT.out.below HB.out) (Nat.lt_of_le_of_lt (Nat.zero_le _) hlt)
      have q0 := q k (Nat.lt_of_succ_lt hlt)
      have q1 := q (k + 1) hlt
      have st := ascP_step hlt
      obtain ⟨u, hu⟩ : ∃ u, l[k]'(Nat.lt_of_succ_lt hlt) = u := ⟨_, rfl⟩
      obtain ⟨v, hv⟩ : ∃ v, l[k + 1]'hlt = v := ⟨_, rfl⟩
      rw [hu] at q0 st
      rw [hv] at q1 st
      have ST := hid st
      obtain ⟨i0, i1, i2, i3, wk, e2, eq, hm⟩ := aslf k l.length hlt LE.out
      have EQ := hid eq
      have HM := hid hm
      have hD := HB.out.drew
      clear q hu hv st eq hm
      by_cases g : v ≤ u
      · have f1 : decide (v ≤ u) = true := decide_eq_true g
        have HR := hid (show R = false from Bool.eq_false_iff.mpr (fun e => by
          have := (ST.out.1 (HD.out.1 e)).1
          omega))
        clear g
        go_wp2_with fail
        go_still (by rfl)
        refine (show ∀ (K : Act → World → Prop) a, K a wr.drew → K a { wr with drawn := wr.drawn + 1 } from fun K a h => h) _ _ ?_
        go_wp2_with fail
        go_ret
        exact Gives.mk (by rw [HR.out]; rfl) hD
      · have f1 : decide (v ≤ u) = false := decide_eq_false g
        have HR := hid (show R = true ↔ ascP l (k + 1) from ⟨fun e => (ST.out.1 (HD.out.1 e)).2, fun e => HD.out.2 (ST.out.2 ⟨Int.not_le.mp g, e⟩)⟩)
        clear g
        go_wp2_with fail
        go_still (by rfl)
        refine (show ∀ (K : Act → World → Prop) a, K a wr.drew → K a { wr with drawn := wr.drawn + 1 } from fun K a h => h) _ _ ?_
        go_wp2_with fail
        go_roundw
        case rel => exact ⟨k + 1, i64_eq (by first | exact EQ.out | exact e2.trans EQ.out), HR.out, hD⟩
        case measure => first | exact HM.out | (rw [e2]; exact HM.out)
    · have i1 : ¬ (k : Int) + 1 < (l.length : Int) := by omega
      have HR := hid (show R = true from HD.out.2 (ascP_end hlt))
      go_wp2_with fail
      go_ret
      exact Gives.mk (by first | (rw [HR.out]; done) | (rw [HR.out]; rfl)) HB.out
end Go.Proofs.Ytmdaanigkhikfaa
