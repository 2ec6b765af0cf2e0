/-
  Layer 7: slices.insertionSortCmpFunc over the method value of compare, by contract; slices.SortFunc of at most 12 numbers.
-/
import Derived.Test.YtfdnmlggemonhaaGi
import Derived.Deep.RegionHeld3
import Derived.Test.YtfdnmlggemonhaaShelf
namespace Go.Proofs.Ytfdnmlggemonhaa
open Go.RowKit
set_option linter.unusedVariables false
set_option linter.unusedSimpArgs false

namespace Sp
/-- Two places of a row exchanged. -/
def swF (d : Nat → Nat) (j : Nat) : Nat → Nat := fun k => if k = j + 1 then d j else if k = j then d (j + 1) else d k
/-- The number at place j moved down while it is before its neighbour. -/
def bubF (cf : Nat → Nat → Int) : Nat → (Nat → Nat) → (Nat → Nat)
  | 0, d => d
  | j + 1, d => if cf (d (j + 1)) (d j) < 0 then bubF cf j (swF d j) else d
/-- From place i on, m numbers inserted. -/
def insF (cf : Nat → Nat → Int) : Nat → Nat → (Nat → Nat) → (Nat → Nat)
  | 0, _, d => d
  | m + 1, i, d => insF cf m (i + 1) (bubF cf i d)
theorem bub_lt {cf : Nat → Nat → Int} {N : Nat} : ∀ (j : Nat) (d : Nat → Nat), (∀ k, d k < N) → ∀ k, bubF cf j d k < N
  | 0, d, h, k => h k
  | j + 1, d, h, k => by
    unfold bubF
    split
    · exact bub_lt j _ (fun k => by unfold swF; split; exact h _; split; exact h _; exact h _) k
    · exact h k
end Sp
/-- A row of n numbers that the call may write. -/
structure Row (w : World) (b n : Nat) (d : Nat → Nat) : Prop where
  lt : b < w.heap.size
  c : ∀ k, k < n → w.cell? ⟨b, k, none⟩ = some (.int .i64 ((d k : Nat) : Int))
  f : ∀ o, w.frozen? ⟨b, o, none⟩ = false
theorem Row.below {w w' : World} {b n : Nat} {d : Nat → Nat} (h : Row w b n d) (hb : Below w.heap.size w w') : Row w' b n d :=
  ⟨Nat.lt_of_lt_of_le h.lt hb.size, fun k hk => (hb.cell (p := ⟨b, k, none⟩) h.lt).trans (h.c k hk), fun o => (hb.frozen (p := ⟨b, o, none⟩) h.lt).trans (h.f o)⟩
theorem Row.sw {w : World} {b n : Nat} {d : Nat → Nat} (h : Row w b n d) {j : Nat} (hj : j + 1 < n) :
    Row ((w.setCell ⟨b, j + 1, none⟩ (.int .i64 ((d j : Nat) : Int))).setCell ⟨b, j, none⟩ (.int .i64 ((d (j + 1) : Nat) : Int))) b n (Sp.swF d j) := by
  refine ⟨by simpa using h.lt, fun k hk => ?_, fun o => by simp [h.f o]⟩
  unfold Sp.swF
  by_cases c1 : k = j + 1
  · subst c1
    rw [if_pos rfl, World.cell?_setCell_other (h := fun e => by have := (Addr.mk.inj e).2.1; omega)]
    exact World.cell?_setCell_same _ _ _ (h.c _ hk)
  · rw [if_neg c1]
    by_cases c2 : k = j
    · subst c2
      rw [if_pos rfl]
      exact World.cell?_setCell_same _ _ _ (by
        rw [World.cell?_setCell_other (h := fun e => by have := (Addr.mk.inj e).2.1; omega)]
        exact h.c _ hk)
    · rw [if_neg c2, World.cell?_setCell_other (h := fun e => c2 (by have := (Addr.mk.inj e).2.1; omega)), World.cell?_setCell_other (h := fun e => c1 (by have := (Addr.mk.inj e).2.1; omega))]
      exact h.c k hk
/-- What compare answers in each world that comes later. -/
def CmpOk (v : Value) (N : Nat) (cf : Nat → Nat → Int) (w : World) : Prop := ∀ W, Below w.heap.size w W → ∀ i j : Nat, i < N → j < N → Calls Try.prog 59 #[v, .int .i64 (i : Int), .int .i64 (j : Int)] W (GivesD (.int .i64 (cf i j)) W)
/-- The worlds of the sort: what lay below stays, but for the row. -/
structure SortW (w : World) (b n : Nat) (d : Nat → Nat) (wr : World) : Prop where
  row : Row wr b n d
  bw : Below b w wr
theorem SortW.drew {w : World} {b n : Nat} {d : Nat → Nat} {wr : World} (h : SortW w b n d wr) : SortW w b n d wr.drew :=
  ⟨⟨h.row.lt, fun k hk => by simpa using h.row.c k hk, fun o => by simpa using h.row.f o⟩, h.bw.drew⟩
theorem SortW.below {w : World} {b n : Nat} {d : Nat → Nat} {wr w' : World} (h : SortW w b n d wr) (hb : Below wr.heap.size wr w') : SortW w b n d w' :=
  ⟨h.row.below hb, h.bw.trans (hb.mono (Nat.le_of_lt h.row.lt))⟩
theorem SortW.sw {w : World} {b n : Nat} {d : Nat → Nat} {wr : World} (h : SortW w b n d wr) {j : Nat} (hj : j + 1 < n) :
    SortW w b n (Sp.swF d j) ((wr.setCell ⟨b, j + 1, none⟩ (.int .i64 ((d j : Nat) : Int))).setCell ⟨b, j, none⟩ (.int .i64 ((d (j + 1) : Nat) : Int))) :=
  ⟨h.row.sw hj, Below.setCell (Below.setCell h.bw (Nat.le_refl _) _) (Nat.le_refl _) _⟩
def InRel (cf : Nat → Nat → Int) (N : Nat) (w : World) (b n : Nat) (D : Nat → Nat) (t : Value) (wr : World) : Prop :=
  ∃ (j : Nat) (d : Nat → Nat), t = .int .i64 (j : Int) ∧ j < n ∧ (∀ k, d k < N) ∧ Sp.bubF cf j d = D ∧ SortW w b n d wr
def OutRel (cf : Nat → Nat → Int) (N : Nat) (w : World) (b n : Nat) (D : Nat → Nat) (t : Value) (wr : World) : Prop :=
  ∃ (i : Nat) (d : Nat → Nat), t = .int .i64 (i : Int) ∧ 1 ≤ i ∧ i ≤ n ∧ (∀ k, d k < N) ∧ Sp.insF cf (n - i) i d = D ∧ SortW w b n d wr
set_option maxRecDepth 100000 in
set_option maxHeartbeats 4000000 in
theorem ins_any (v : Value) (cf : Nat → Nat → Int) (N : Nat) (b n c : Nat) (d : Nat → Nat) (hd : ∀ k, d k < N) (hn : 1 ≤ n) (hn2 : n ≤ 64) (hN : N ≤ 64) (w0 w : World) (h0 : Below w0.heap.size w0 w) (hz0 : w0.heap.size ≤ b) (hC : ∀ W, Below w0.heap.size w0 W → ∀ i j : Nat, i < N → j < N → Calls Try.prog 59 #[v, .int .i64 (i : Int), .int .i64 (j : Int)] W (GivesD (.int .i64 (cf i j)) W)) (hR : Row w b n d) :
    Calls Try.prog 77 #[.slice (some ⟨b, 0, none⟩) n c, .int .i64 0, .int .i64 (n : Int), .func (.func 59) #[v] #[]] w fun e w' => e = .returned (.tuple #[]) ∧ SortW w b n (Sp.insF cf (n - 1) 1 d) w' := by
  obtain ⟨D, hD⟩ : ∃ D, Sp.insF cf (n - 1) 1 d = D := ⟨_, rfl⟩
  rw [hD]
  have HD := hid hD
  have HC := hid hC
  have HR := hid hR
  have n1 : (1 : Int) ≤ (n : Int) := by omega
  have n2 : (n : Int) ≤ 64 := by omega
  have H0 := hid h0
  have HLT := hid hd
  clear hD hC hR h0 hd
  go_enter Try.func77, Try.ntmps77
  go_wp2_with fail
  go_loopw [8] (fun t wr => OutRel cf N w b n D t wr) (fun t _ => n - (intOf t).toNat)
  case atStart => exact ⟨1, d, rfl, Nat.le_refl _, hn, HLT.out, HD.out, HR.out, Below.refl _ _⟩
  case round =>
    obtain ⟨i, e, rfl, hi1, hi2, he, hf, hS⟩ := hrel
    have HF := hid hf
    have HS := hid hS
    have HE := hid he
    clear hf hS he
    have i0 : (1 : Int) ≤ (i : Int) := by omega
    by_cases hlt : i < n
    · have i1 : (i : Int) < (n : Int) := by omega
      obtain ⟨E, hE⟩ : ∃ E, Sp.bubF cf i e = E := ⟨_, rfl⟩
      have HEE := hid hE
      have HL := hid hlt
      clear hE
      go_wp2_with fail
      go_loopw [9] (fun t wr => InRel cf N w b n E t wr) (fun t _ => (intOf t).toNat)
      case atStart => exact ⟨i, e, rfl, HL.out, HE.out, HEE.out, HS.out⟩
      case round =>
        obtain ⟨j, f, rfl, hj, hf, hb, hS⟩ := hrel
        have HB := hid hb
        have HS2 := hid hS
        have HFL := hid hf
        clear hb hS hf
        by_cases hj0 : j = 0
        · subst hj0
          go_wp2_with fail
          go_region
          all_goals
            simp only [Exit.then]
            go_at_K
            go_wp2_with fail
            go_roundw
            case rel =>
              refine ⟨i + 1, E, by go_num, by omega, by have := HL.out; omega, by rw [← HEE.out]; exact Sp.bub_lt _ _ HE.out, ?_, (by have h1 := HB.out; unfold Sp.bubF at h1; rw [← h1]; exact HS2.out.drew)⟩
              have h := HF.out
              have h2 : n - i = (n - (i + 1)) + 1 := by have := HL.out; omega
              rw [h2] at h
              unfold Sp.insF at h
              rw [HEE.out] at h
              exact h
            case measure => exact smeas _ _ HL.out
        · obtain ⟨k, hk⟩ : ∃ k, j = k + 1 := ⟨j - 1, by omega⟩
          have r1 := HS2.out.row.c j hj
          have r0 := HS2.out.row.c k (by omega)
          have lt := HS2.out.row.lt
          have bb := HB.out
          rw [hk] at bb
          unfold Sp.bubF at bb
          rw [← hk] at bb
          have ck := fun (W : World) (h : Below wr.heap.size wr W) => HC.out W (H0.out.trans ((HS2.out.bw.mono hz0).trans (h.mono (by have := H0.out.size; have := HS2.out.bw.size; omega)))) (f j) (f k) (HFL.out _) (HFL.out _)
          obtain ⟨x, hx⟩ : ∃ x, f j = x := ⟨_, rfl⟩
          obtain ⟨y, hy⟩ : ∃ y, f k = y := ⟨_, rfl⟩
          rw [hx] at r1 bb ck
          rw [hy] at r0 bb ck
          have HX := hid hx
          have HY := hid hy
          generalize cf x y = r at bb ck
          clear hx hy
          have k0 : (0 : Int) ≤ (k : Int) := by omega
          obtain ⟨J, hJ⟩ : ∃ J : Int, (j : Int) = J := ⟨_, rfl⟩
          have k1 : (0 : Int) < J := by omega
          have k2 : (k : Int) < (n : Int) := by omega
          have k3 : J < (n : Int) := by omega
          have k4 : (0 : Int) ≤ J := by omega
          have k5 : J.toNat = j := by omega
          have e1 : IntKind.i64.wrap (J - 1) = (k : Int) := by rw [← hJ, hk]; rw [show (((k + 1 : Nat)) : Int) - 1 = (k : Int) by omega]; exact IntWalk.i64_in _ (by omega)
          have HJ2 := hid hJ
          rw [hJ]
          clear hJ
          have HK := hid hk
          have HJ := hid hj
          clear hk hj
          have BBH := hid bb
          clear bb
          have K2 : Hid (∀ W' : World, Below wr.heap.size wr W' → (Below wr.heap.size wr W' ∧ W'.cell? ⟨b, j, none⟩ = some (.int .i64 (x : Int)) ∧ W'.cell? ⟨b, k, none⟩ = some (.int .i64 (y : Int)))) := hid fun W' B => ⟨B, (B.cell (p := ⟨b, j, none⟩) lt).trans r1, (B.cell (p := ⟨b, k, none⟩) lt).trans r0⟩
          go_upto_region 4 with fail
          go_region_held3 (fun W' => Below wr.heap.size wr W' ∧ W'.cell? ⟨b, j, none⟩ = some (.int .i64 (x : Int)) ∧ W'.cell? ⟨b, k, none⟩ = some (.int .i64 (y : Int))) ((exact K2.out _ (by repeat' (first | (with_reducible exact Below.refl _ _) | (with_reducible refine Below.alloc ?_ ?_ _) | (with_reducible refine Below.setCell ?_ ?_ _) | (with_reducible refine Below.drew ?_) | (with_reducible refine below_dn ?_ _) | (with_reducible refine Below.trans ?_ (Below.mono (by assumption) ?_)) | (simp; done) | (simp; omega) | omega))))
            (first | (go_at_call 59; refine (ck _ (by repeat' (first | (with_reducible exact Below.refl _ _) | (with_reducible refine Below.alloc ?_ ?_ _) | (with_reducible refine Below.setCell ?_ ?_ _) | (with_reducible refine Below.drew ?_) | (with_reducible refine below_dn ?_ _) | (with_reducible refine Below.trans ?_ (Below.mono (by assumption) ?_)) | (simp; done) | (simp; omega) | omega))).mono ?_; rintro _ w5 ⟨rfl, hb, hd⟩; have hb5 : Below wr.heap.size wr w5 := (by repeat' (first | (with_reducible exact Below.refl _ _) | (with_reducible refine Below.alloc ?_ ?_ _) | (with_reducible refine Below.setCell ?_ ?_ _) | (with_reducible refine Below.drew ?_) | (with_reducible refine below_dn ?_ _) | (with_reducible refine Below.trans ?_ (Below.mono (by assumption) ?_)) | (simp; done) | (simp; omega) | omega)); have hz5 : wr.heap.size ≤ w5.heap.size := hb5.size; clear hb hd))
          all_goals
            have B5 := hid hb5
            clear hb5
            simp only [Exit.then]
            by_cases c0 : r < 0
            · have bb := BBH.out
              rw [if_pos c0] at bb
              have BB2 := hid bb
              clear bb
              have x5 := (B5.out.cell (p := ⟨b, j, none⟩) lt).trans r1
              have y5 := (B5.out.cell (p := ⟨b, k, none⟩) lt).trans r0
              have fj : w5.frozen? ⟨b, j, none⟩ = false := (HS2.out.row.below B5.out).f j
              have fk : w5.frozen? ⟨b, k, none⟩ = false := (HS2.out.row.below B5.out).f k
              have njk : ¬ j = k := by have := HK.out; omega
              have nkj : ¬ k = j := by have := HK.out; omega
              go_at_K
              go_wp2_with fail
              go_region
              all_goals
                simp only [Exit.inBlock, Exit.then]
                go_at_K
                go_wp2_with fail
                go_roundw
                case rel =>
                  have h1 := HK.out
                  have h2 := HJ2.out
                  have h3 := HJ.out
                  refine ⟨k, Sp.swF f k, i64_eq (by omega), by omega, fun q => by unfold Sp.swF; split; exact HFL.out _; split; exact HFL.out _; exact HFL.out _, BB2.out, ?_⟩
                  have S := ((HS2.out.below B5.out).sw (j := k) (by omega)).drew
                  rw [← h1, HX.out, HY.out] at S
                  exact S
                case measure => have h1 := HK.out; have h2 := HJ2.out; simp [intOf]; omega
            · have bb := BBH.out
              rw [if_neg c0] at bb
              have BB2 := hid bb
              clear bb
              go_at_K
              go_wp2_with fail
              go_roundw
              case rel =>
                refine ⟨i + 1, E, by go_num, by omega, by have := HL.out; omega, by rw [← HEE.out]; exact Sp.bub_lt _ _ HE.out, ?_, (by rw [← BB2.out]; exact HS2.out.below B5.out)⟩
                have h := HF.out
                have h2 : n - i = (n - (i + 1)) + 1 := by have := HL.out; omega
                rw [h2] at h
                unfold Sp.insF at h
                rw [HEE.out] at h
                exact h
              case measure => exact smeas _ _ HL.out
    · have i1 : ¬ (i : Int) < (n : Int) := by omega
      have e1 : i = n := by omega
      subst e1
      have hf := HF.out
      rw [Nat.sub_self] at hf
      unfold Sp.insF at hf
      subst hf
      go_wp2_with fail
      go_end0
      exact ⟨rfl, HS.out⟩
end Go.Proofs.Ytfdnmlggemonhaa
