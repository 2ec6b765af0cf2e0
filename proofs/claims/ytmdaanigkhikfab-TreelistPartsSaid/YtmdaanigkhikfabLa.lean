/-
  Layer 16: lists of trees in memory; within, square, Squares of both, by contract.
-/
import Derived.Test.YtmdaanigkhikfabIcode
import Derived.WideShapes
import Derived.Laws.AppendOwn
import Derived.Deep.RegionHeld3
import Derived.StillTailTactics
import Derived.StillTactics
import Derived.IntWalk
import Derived.Maps.AppendAt
import Derived.Deep.AppendLies
import Derived.Deep.DeepCutAuto
import Derived.Deep.OwnRows
namespace Go.Proofs.Ytmdaanigkhikfab
open Go.RowKit
set_option linter.unusedVariables false
set_option linter.unusedSimpArgs false
theorem bthen {a b c : World} (h : Below a.heap.size a b) (k : Below b.heap.size b c) : Below a.heap.size a c := h.trans (k.mono h.size)
theorem balloc (w : World) (o : Obj) : Below w.heap.size w (w.alloc o) := (Below.refl _ _).alloc (Nat.le_refl _) _
theorem pw64 (n : Int) (h : -9223372036854775808 ≤ n ∧ n ≤ 9223372036854775807) : wrap64 n = n := by unfold wrap64; omega
theorem pi64 (n : Int) (h : -9223372036854775808 ≤ n ∧ n ≤ 9223372036854775807) : IntKind.i64.wrap n = n := by rw [IntKind.wrap_i64]; omega
theorem pmeas (n j : Nat) (h : j < n) : n - (intOf (.int .i64 ((j : Int) + 1))).toNat < n - (intOf (.int .i64 (j : Int))).toNat := by simp [intOf]; omega
theorem rjw (j n : Nat) (h : j < n) (hn : n ≤ 1000000) : wrap64 ((j : Int) + 1) = (j : Int) + 1 ∧ (j : Int) + 1 = ((j + 1 : Nat) : Int) ∧ (0 : Int) ≤ (j : Int) ∧ (j : Int) < (n : Int) := ⟨pw64 _ (by omega), by rw [Int.natCast_add]; rfl, by omega, by omega⟩
namespace Sp
/-- A tree: species, diameter, height, quality. -/
structure Te where
  s : Int
  d : Int
  h : Int
  q : Int
deriving DecidableEq
theorem pmul {a b m n : Int} (a0 : 0 ≤ a) (a1 : a ≤ m) (b0 : 0 ≤ b) (b1 : b ≤ n) (m0 : 0 ≤ m) : 0 ≤ a * b ∧ a * b ≤ m * n := ⟨Int.mul_nonneg a0 b0, Int.mul_le_mul a1 b1 b0 m0⟩
/-- The sum of squares from a sum on, with the error. -/
def sqG : Int → List Te → Int × Int
  | s, [] => (s, 0)
  | s, t :: l => if (decide (1 ≤ t.d) && decide (t.d ≤ 3000)) = false then (0, 2) else sqG (s + t.d * t.d) l
def sqS (l : List Te) : Int × Int := if 200 < l.length then (0, 8) else sqG 0 l
def sumQ (l : List Te) : Int := (l.map (fun t => t.d * t.d)).sum
theorem sqG_ok : ∀ (l : List Te) (s : Int), (sqG s l).2 = 0 → (∀ t ∈ l, 1 ≤ t.d ∧ t.d ≤ 3000) ∧ (sqG s l).1 = s + sumQ l
  | [], s, h => ⟨fun t ht => by simp at ht, by simp [sqG, sumQ]⟩
  | t :: l, s, h => by
    unfold sqG at h ⊢
    by_cases c : (decide (1 ≤ t.d) && decide (t.d ≤ 3000)) = false
    · rw [if_pos c] at h; exact absurd h (by decide)
    · rw [if_neg c] at h ⊢
      obtain ⟨h1, h2⟩ := sqG_ok l _ h
      simp at c
      refine ⟨fun u hu => ?_, ?_⟩
      · rcases List.mem_cons.1 hu with rfl | hu
        · exact c
        · exact h1 u hu
      · rw [h2]; simp [sumQ]; omega
theorem sqS_ok {l : List Te} (h : (sqS l).2 = 0) : l.length ≤ 200 ∧ (∀ t ∈ l, 1 ≤ t.d ∧ t.d ≤ 3000) ∧ (sqS l).1 = sumQ l := by
  unfold sqS at h ⊢
  by_cases c : 200 < l.length
  · rw [if_pos c] at h; exact absurd h (by decide)
  · rw [if_neg c] at h ⊢
    obtain ⟨h1, h2⟩ := sqG_ok l 0 h
    exact ⟨by omega, h1, by omega⟩
theorem sumQ_in : ∀ l : List Te, (∀ t ∈ l, 1 ≤ t.d ∧ t.d ≤ 3000) → (l.length : Int) ≤ sumQ l ∧ sumQ l ≤ 9000000 * l.length
  | [], _ => by simp [sumQ]
  | t :: l, h => by
    have h1 := sumQ_in l (fun u hu => h u (List.mem_cons_of_mem _ hu))
    obtain ⟨a, b⟩ := h t List.mem_cons_self
    have p : t.d * t.d ≤ 3000 * 3000 := Int.mul_le_mul b b (by omega) (by omega)
    have q : 1 * 1 ≤ t.d * t.d := Int.mul_le_mul a a (by omega) (by omega)
    have e : sumQ (t :: l) = t.d * t.d + sumQ l := by simp [sumQ]
    rw [e, List.length_cons]
    push_cast
    omega
end Sp
/-- A list of trees that lies in memory. -/
def Trs (w : World) (A : Option Addr) (l : List Sp.Te) : Prop :=
  0 < l.length → ∃ b off, A = some ⟨b, off, none⟩ ∧ b < w.heap.size ∧ ∀ j, (hj : j < l.length) →
    w.cell? ⟨b, off + j * 4, none⟩ = some (.int .i64 (l[j]).s) ∧ w.cell? ⟨b, off + j * 4 + 1, none⟩ = some (.int .i64 (l[j]).d) ∧ w.cell? ⟨b, off + j * 4 + 2, none⟩ = some (.int .i64 (l[j]).h) ∧ w.cell? ⟨b, off + j * 4 + 3, none⟩ = some (.int .i64 (l[j]).q)
theorem Trs.below {w w' : World} {A : Option Addr} {l : List Sp.Te} (h : Trs w A l) (hb : Below w.heap.size w w') : Trs w' A l := fun h0 => by
  obtain ⟨b, off, hA, hl, hc⟩ := h h0
  refine ⟨b, off, hA, Nat.lt_of_lt_of_le hl hb.size, fun j hj => ?_⟩
  obtain ⟨c0, c1, c2, c3⟩ := hc j hj
  exact ⟨(hb.cell (p := ⟨b, off + j * 4, none⟩) hl).trans c0, (hb.cell (p := ⟨b, off + j * 4 + 1, none⟩) hl).trans c1, (hb.cell (p := ⟨b, off + j * 4 + 2, none⟩) hl).trans c2, (hb.cell (p := ⟨b, off + j * 4 + 3, none⟩) hl).trans c3⟩
/-- A tree of a list, in whatever world comes later. -/
theorem Trs.at_ {w w' : World} {A : Option Addr} {l : List Sp.Te} (h : Trs w A l) (hb : Below w.heap.size w w') {j : Nat} (hj : j < l.length) :
    ∃ b off, A = some ⟨b, off, none⟩ ∧ b < w'.heap.size ∧ w'.cell? ⟨b, off + j * 4, none⟩ = some (.int .i64 (l[j]).s) ∧ w'.cell? ⟨b, off + j * 4 + 1, none⟩ = some (.int .i64 (l[j]).d) ∧ w'.cell? ⟨b, off + j * 4 + 2, none⟩ = some (.int .i64 (l[j]).h) ∧ w'.cell? ⟨b, off + j * 4 + 3, none⟩ = some (.int .i64 (l[j]).q) := by
  obtain ⟨b, off, hA, hl, hc⟩ := (h.below hb) (by omega)
  obtain ⟨c0, c1, c2, c3⟩ := hc j hj
  exact ⟨b, off, hA, hl, c0, c1, c2, c3⟩
theorem lwithin_any (x a b : Int) (w : World) : Calls Try.prog 37 #[.int .i64 x, .int .i64 a, .int .i64 b] w (Gives (.bool (decide (a ≤ x) && decide (x ≤ b))) w) := by
  by_cases c1 : a ≤ x
  · rw [decide_eq_true c1, Bool.true_and]
    have f1 : decide (a ≤ x) = true := decide_eq_true c1
    go_enter Try.func37, Try.ntmps37
    go_wp2_with fail
    go_ret
    exact Gives.mk rfl (Below.refl _ _)
  · rw [decide_eq_false c1, Bool.false_and]
    have f1 : decide (a ≤ x) = false := decide_eq_false c1
    go_enter Try.func37, Try.ntmps37
    go_wp2_with fail
    go_ret
    exact Gives.mk rfl (Below.refl _ _)
theorem lsquare_any (t : Sp.Te) (D : Int) (w : World) (hD : t.d * t.d = D) (b : 0 ≤ D ∧ D ≤ 9000000) : Calls Try.prog 38 #[.agg #[.int .i64 (t).s, .int .i64 (t).d, .int .i64 (t).h, .int .i64 (t).q]] w (Gives (.int .i64 D) w) := by
  obtain ⟨s, d, h, q⟩ := t
  simp only at hD
  have w1 : wrap64 D = D := pw64 _ (by omega)
  clear b
  go_enter Try.func38, Try.ntmps38
  go_wp2_with fail
  go_ret
  exact Gives.mk (by first | rfl | exact i64_eq w1.symm) (balloc _ _)
set_option maxRecDepth 100000 in
set_option maxHeartbeats 1000000 in
theorem lsquares_any (A : Option Addr) (cap : Nat) (l : List Sp.Te) (S E : Int) (w : World) (hl : l.length ≤ 140737488355328) (hT : Trs w A l) (hv : Sp.sqS l = (S, E)) :
    Calls Try.prog 16 #[.slice A l.length cap] w (Gives (.tuple #[.int .i64 S, .int .i64 E]) w) := by
  have HT := hid hT
  by_cases cl : 200 < l.length
  · have f1 : decide ((200 : Int) < (l.length : Int)) = true := decide_eq_true (by omega)
    unfold Sp.sqS at hv
    rw [if_pos cl] at hv
    obtain ⟨rfl, rfl⟩ := Prod.mk.inj hv
    clear hl hT hv cl
    go_enter Try.func16, Try.ntmps16
    go_wp2_with fail
    go_ret2
    exact Gives.mk rfl (Below.refl _ _)
  · have f1 : decide ((200 : Int) < (l.length : Int)) = false := decide_eq_false (by omega)
    unfold Sp.sqS at hv
    rw [if_neg cl] at hv
    have LE := hid (show l.length ≤ 200 by omega)
    have HV := hid hv
    clear hl hT hv cl
    go_enter Try.func16, Try.ntmps16
    go_wp2_with fail
    go_loopw [12, 4] (fun t u wr => ∃ (j : Nat) (s : Int), t = .int .i64 (j : Int) ∧ j ≤ l.length ∧ u = .int .i64 s ∧ 0 ≤ s ∧ s ≤ 9000000 * (j : Int) ∧ Sp.sqG s (l.drop j) = (S, E) ∧ Below w.heap.size w wr) (fun t _ _ => l.length - (intOf t).toNat)
    case atStart => exact ⟨0, 0, rfl, Nat.zero_le _, rfl, Int.le_refl _, by omega, HV.out, Below.refl _ _⟩
    case round =>
      obtain ⟨j, s, rfl, hj, rfl, s0, s1, hd, hB⟩ := hrel
      have HB := hid hB
      clear hB
      by_cases hlt : j < l.length
      · obtain ⟨b, off, rfl, bl, q0, q1, q2, q3⟩ := HT.out.at_ HB.out hlt
        rw [List.drop_eq_getElem_cons hlt] at hd
        unfold Sp.sqG at hd
        obtain ⟨t, ht⟩ : ∃ t, l[j]'hlt = t := ⟨_, rfl⟩
        rw [ht] at q0 q1 q2 q3 hd
        obtain ⟨ej, eq, i0, i1⟩ := rjw j l.length hlt (by have := LE.out; omega)
        obtain ⟨ts, td, th, tq⟩ := t
        simp only at q0 q1 q2 q3 hd
        obtain ⟨V, hV⟩ : ∃ V, wr.alloc (Obj.cells #[.int .i64 ts, .int .i64 td, .int .i64 th, .int .i64 tq] 43) = V := ⟨_, rfl⟩
        have v0 : V.cell? ⟨wr.heap.size, 0, none⟩ = some (.int .i64 ts) := by rw [← hV]; simp [go_sem]
        have v1 : V.cell? ⟨wr.heap.size, 1, none⟩ = some (.int .i64 td) := by rw [← hV]; simp [go_sem]
        have v2 : V.cell? ⟨wr.heap.size, 2, none⟩ = some (.int .i64 th) := by rw [← hV]; simp [go_sem]
        have v3 : V.cell? ⟨wr.heap.size, 3, none⟩ = some (.int .i64 tq) := by rw [← hV]; simp [go_sem]
        have vz : wr.heap.size < V.heap.size := by rw [← hV]; simp
        have BV := hid (bthen HB.out (show Below wr.heap.size wr V by rw [← hV]; exact balloc _ _))
        have HV2 := hid hV
        have EQ := hid eq
        have HJ := hid hlt
        have HM := hid (pmeas l.length j hlt)
        have LEJ := hid (show (j : Int) ≤ 200 by have := LE.out; omega)
        clear hV ht eq hlt
        go_upto_region 7 with fail
        rw [HV2.out]
        clear q0 q1 q2 q3 bl
        by_cases c : (decide (1 ≤ td) && decide (td ≤ 3000)) = false
        · rw [if_pos c] at hd
          obtain ⟨rfl, rfl⟩ := Prod.mk.inj hd
          have WI := hid (fun W => lwithin_any td 1 3000 W)
          have WJ := WI.out
          simp only [c] at WJ
          have WK := hid WJ
          clear hd c WJ WI
          go_wp2_with fail
          refine (WK.out _).mono ?_
          rintro _ w5 ⟨rfl, hb⟩
          have B5 := hid (bthen BV.out hb)
          clear hb
          go_wp2_with fail
          go_ret2
          exact Gives.mk rfl B5.out
        · rw [if_neg c] at hd
          have c2 : (decide (1 ≤ td) && decide (td ≤ 3000)) = true := by cases h : (decide (1 ≤ td) && decide (td ≤ 3000)) <;> simp_all
          have WI := hid (fun W => lwithin_any td 1 3000 W)
          have WJ := WI.out
          simp only [c2] at WJ
          have WK := hid WJ
          simp at c2
          have p := Sp.pmul (a := td) (b := td) (m := 3000) (n := 3000) (by omega) (by omega) (by omega) (by omega) (by omega)
          obtain ⟨D, hD⟩ : ∃ D, td * td = D := ⟨_, rfl⟩
          rw [hD] at hd p
          have SQ := hid (fun W => lsquare_any ⟨ts, td, th, tq⟩ D W hD (by omega))
          have wS : wrap64 (s + D) = s + D := pw64 _ (by have := LEJ.out; omega)
          have PB := hid (show 0 ≤ s + D ∧ s + D ≤ 9000000 * ((j + 1 : Nat) : Int) by push_cast; omega)
          have HD := hid hd
          clear hd c c2 WJ WI p hD s0 s1
          go_wp2_with fail
          refine (WK.out _).mono ?_
          rintro _ w5 ⟨rfl, hb⟩
          have B5 := hid (bthen BV.out hb)
          have x0 := (hb.cell (p := ⟨wr.heap.size, 0, none⟩) vz).trans v0
          have x1 := (hb.cell (p := ⟨wr.heap.size, 1, none⟩) vz).trans v1
          have x2 := (hb.cell (p := ⟨wr.heap.size, 2, none⟩) vz).trans v2
          have x3 := (hb.cell (p := ⟨wr.heap.size, 3, none⟩) vz).trans v3
          clear hb v0 v1 v2 v3 vz
          go_wp2_with fail
          refine (SQ.out _).mono ?_
          rintro _ w6 ⟨rfl, hb⟩
          have B6 := hid (bthen B5.out hb)
          clear hb x0 x1 x2 x3
          go_wp2_with fail
          go_roundw
          case rel => exact ⟨j + 1, s + D, i64_eq (by first | exact EQ.out | exact ej.trans EQ.out), HJ.out, (by first | rfl | exact i64_eq wS), PB.out.1, PB.out.2, HD.out, B6.out⟩
          case measure => first | exact HM.out | (rw [ej]; exact HM.out)
      · have i1 : ¬ (j : Int) < (l.length : Int) := fun k => hlt (Int.ofNat_lt.mp k)
        rw [List.drop_eq_nil_of_le (Nat.le_of_not_lt hlt)] at hd
        obtain ⟨rfl, rfl⟩ := Prod.mk.inj (show (s, (0 : Int)) = (S, E) from hd)
        clear hd s0 s1 hlt hj
        go_wp2_with fail
        go_ret2
        exact Gives.mk rfl HB.out
set_option maxRecDepth 100000 in
set_option maxHeartbeats 1000000 in
theorem rlsquares_any (A : Option Addr) (cap : Nat) (l : List Sp.Te) (S E : Int) (w : World) (hl : l.length ≤ 140737488355328) (hT : Trs w A l) (hv : Sp.sqS l = (S, E)) :
    Calls Try.prog 17 #[.slice A l.length cap] w (Gives (.tuple #[.int .i64 S, .int .i64 E]) w) := by
  have HT := hid hT
  by_cases cl : 200 < l.length
  · have f1 : decide ((200 : Int) < (l.length : Int)) = true := decide_eq_true (by omega)
    unfold Sp.sqS at hv
    rw [if_pos cl] at hv
    obtain ⟨rfl, rfl⟩ := Prod.mk.inj hv
    clear hl hT hv cl
    go_enter Try.func17, Try.ntmps17
    go_wp2_with fail
    go_ret2
    exact Gives.mk rfl (Below.refl _ _)
  · have f1 : decide ((200 : Int) < (l.length : Int)) = false := decide_eq_false (by omega)
    unfold Sp.sqS at hv
    rw [if_neg cl] at hv
    have LE := hid (show l.length ≤ 200 by omega)
    have HV := hid hv
    clear hl hT hv cl
    go_enter Try.func17, Try.ntmps17
    go_wp2_with fail
    go_loopw [12, 4] (fun t u wr => ∃ (j : Nat) (s : Int), t = .int .i64 (j : Int) ∧ j ≤ l.length ∧ u = .int .i64 s ∧ 0 ≤ s ∧ s ≤ 9000000 * (j : Int) ∧ Sp.sqG s (l.drop j) = (S, E) ∧ Below w.heap.size w wr) (fun t _ _ => l.length - (intOf t).toNat)
    case atStart => exact ⟨0, 0, rfl, Nat.zero_le _, rfl, Int.le_refl _, by omega, HV.out, Below.refl _ _⟩
    case round =>
      obtain ⟨j, s, rfl, hj, rfl, s0, s1, hd, hB⟩ := hrel
      have HB := hid hB
      clear hB
      by_cases hlt : j < l.length
      · obtain ⟨b, off, rfl, bl, q0, q1, q2, q3⟩ := HT.out.at_ HB.out hlt
        rw [List.drop_eq_getElem_cons hlt] at hd
        unfold Sp.sqG at hd
        obtain ⟨t, ht⟩ : ∃ t, l[j]'hlt = t := ⟨_, rfl⟩
        rw [ht] at q0 q1 q2 q3 hd
        obtain ⟨ej, eq, i0, i1⟩ := rjw j l.length hlt (by have := LE.out; omega)
        obtain ⟨ts, td, th, tq⟩ := t
        simp only at q0 q1 q2 q3 hd
        obtain ⟨V, hV⟩ : ∃ V, wr.alloc (Obj.cells #[.int .i64 ts, .int .i64 td, .int .i64 th, .int .i64 tq] 43) = V := ⟨_, rfl⟩
        have v0 : V.cell? ⟨wr.heap.size, 0, none⟩ = some (.int .i64 ts) := by rw [← hV]; simp [go_sem]
        have v1 : V.cell? ⟨wr.heap.size, 1, none⟩ = some (.int .i64 td) := by rw [← hV]; simp [go_sem]
        have v2 : V.cell? ⟨wr.heap.size, 2, none⟩ = some (.int .i64 th) := by rw [← hV]; simp [go_sem]
        have v3 : V.cell? ⟨wr.heap.size, 3, none⟩ = some (.int .i64 tq) := by rw [← hV]; simp [go_sem]
        have vz : wr.heap.size < V.heap.size := by rw [← hV]; simp
        have BV := hid (bthen HB.out (show Below wr.heap.size wr V by rw [← hV]; exact balloc _ _))
        have HV2 := hid hV
        have EQ := hid eq
        have HJ := hid hlt
        have HM := hid (pmeas l.length j hlt)
        have LEJ := hid (show (j : Int) ≤ 200 by have := LE.out; omega)
        clear hV ht eq hlt
        go_upto_region 7 with fail
        rw [HV2.out]
        clear q0 q1 q2 q3 bl
        by_cases c1 : td < 1
        · have g1 : decide (td < 1) = true := decide_eq_true c1
          rw [if_pos (by simp; omega)] at hd
          obtain ⟨rfl, rfl⟩ := Prod.mk.inj hd
          clear hd c1
          go_wp2_with fail
          go_ret2
          exact Gives.mk rfl BV.out
        · have g1 : decide (td < 1) = false := decide_eq_false c1
          by_cases c2 : 3000 < td
          · have g2 : decide (3000 < td) = true := decide_eq_true c2
            rw [if_pos (by simp; omega)] at hd
            obtain ⟨rfl, rfl⟩ := Prod.mk.inj hd
            clear hd c1 c2
            go_wp2_with fail
            go_ret2
            exact Gives.mk rfl BV.out
          · have g2 : decide (3000 < td) = false := decide_eq_false c2
            rw [if_neg (by simp; omega)] at hd
            have p := Sp.pmul (a := td) (b := td) (m := 3000) (n := 3000) (by omega) (by omega) (by omega) (by omega) (by omega)
            obtain ⟨D, hD⟩ : ∃ D, td * td = D := ⟨_, rfl⟩
            rw [hD] at hd p
            have wD : wrap64 D = D := pw64 _ (by omega)
            have wS : wrap64 (s + D) = s + D := pw64 _ (by have := LEJ.out; omega)
            have PB := hid (show 0 ≤ s + D ∧ s + D ≤ 9000000 * ((j + 1 : Nat) : Int) by push_cast; omega)
            have HD := hid hd
            clear hd c1 c2 p s0 s1
            go_wp2_with fail
            go_roundw
            case rel => exact ⟨j + 1, s + D, i64_eq (by first | exact EQ.out | exact ej.trans EQ.out), HJ.out, (by first | rfl | exact i64_eq wS), PB.out.1, PB.out.2, HD.out, BV.out⟩
            case measure => first | exact HM.out | (rw [ej]; exact HM.out)
      · have i1 : ¬ (j : Int) < (l.length : Int) := fun k => hlt (Int.ofNat_lt.mp k)
        rw [List.drop_eq_nil_of_le (Nat.le_of_not_lt hlt)] at hd
        obtain ⟨rfl, rfl⟩ := Prod.mk.inj (show (s, (0 : Int)) = (S, E) from hd)
        clear hd s0 s1 hlt hj
        go_wp2_with fail
        go_ret2
        exact Gives.mk rfl HB.out
set_option maxRecDepth 100000 in
theorem lfew_any (A : Option Addr) (cap : Nat) (n : Nat) (w : World) (hl : n ≤ 140737488355328) :
    Calls Try.prog 12 #[.slice A n cap] w (Gives (.bool (decide (n ≤ 30) || (decide (200 < n) && decide (n < 210)))) w) := by
  by_cases c1 : n ≤ 30
  · have f1 : decide ((n : Int) ≤ 30) = true := decide_eq_true (by omega)
    rw [decide_eq_true c1]
    simp only [Bool.true_or]
    go_enter Try.func12, Try.ntmps12
    go_wp2_with fail
    go_ret
    exact Gives.mk rfl (Below.refl _ _)
  · have f1 : decide ((n : Int) ≤ 30) = false := decide_eq_false (by omega)
    by_cases c2 : 200 < n
    · have f2 : decide ((200 : Int) < (n : Int)) = true := decide_eq_true (by omega)
      by_cases c3 : n < 210
      · have f3 : decide ((n : Int) < 210) = true := decide_eq_true (by omega)
        rw [show (decide (n ≤ 30) || (decide (200 < n) && decide (n < 210))) = true by simp [c2, c3]]
        clear hl c1 c2 c3
        go_enter Try.func12, Try.ntmps12
        go_wp2_with fail
        go_ret
        exact Gives.mk rfl (Below.refl _ _)
      · have f3 : decide ((n : Int) < 210) = false := decide_eq_false (by omega)
        rw [show (decide (n ≤ 30) || (decide (200 < n) && decide (n < 210))) = false by simp [c1, c3]]
        clear hl c1 c2 c3
        go_enter Try.func12, Try.ntmps12
        go_wp2_with fail
        go_ret
        exact Gives.mk rfl (Below.refl _ _)
    · have f2 : decide ((200 : Int) < (n : Int)) = false := decide_eq_false (by omega)
      rw [show (decide (n ≤ 30) || (decide (200 < n) && decide (n < 210))) = false by simp [c1, c2]]
      clear hl c1 c2
      go_enter Try.func12, Try.ntmps12
      go_wp2_with fail
      go_ret
      exact Gives.mk rfl (Below.refl _ _)
end Go.Proofs.Ytmdaanigkhikfab
