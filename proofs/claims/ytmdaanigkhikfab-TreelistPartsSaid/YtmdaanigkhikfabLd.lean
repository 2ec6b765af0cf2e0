/-
  Layer 16: slices.insertionSortCmpFunc over the closure of descending, slices.SortStableFunc of at most 19 numbers, descending, by contract. Written by tools/gen_ld.py.
-/
import Derived.Test.YtmdaanigkhikfabLa
import Derived.BigRegion
import Derived.Deep.QuietTactic
import Derived.BigQuiet
import Derived.Deep.RegionHeld3
import Derived.Test.YtmdaanigkhikfabShelf
namespace Go.Proofs.Ytmdaanigkhikfab
open Go.RowKit
set_option linter.unusedVariables false
set_option linter.unusedSimpArgs false

theorem fgrown_of_below {w w' : World} (h : Below w.heap.size w w') (r : Option Nat) : w.grownBy w' r := ⟨h.os, h.tape, h.output, h.size, fun k hk _ => h.block k hk⟩
/-- A list of ints that lies in memory. -/
def Ints (w : World) (A : Option Addr) (l : List Int) : Prop := 0 < l.length → ∃ b off, A = some ⟨b, off, none⟩ ∧ b < w.heap.size ∧ ∀ j, (hj : j < l.length) → w.cell? ⟨b, off + j, none⟩ = some (.int .i64 (l[j]))
theorem Ints.below {w w' : World} {A : Option Addr} {l : List Int} (h : Ints w A l) (hb : Below w.heap.size w w') : Ints w' A l := fun h0 => by
  obtain ⟨b, off, e, bl, q⟩ := h h0
  exact ⟨b, off, e, Nat.lt_of_lt_of_le bl hb.size, fun j hj => (hb.cell (p := ⟨b, off + j, none⟩) bl).trans (q j hj)⟩
/-! ### Lists of ints that grow -/
theorem info_int : (Try.prog.info? 3).map (fun i => (i.zero, i.size, i.bytes)) = some (some (.int .i64 0), 1, 8) := by kernel_rfl
def intc (l : List Int) : List Value := l.map (fun x => Value.int .i64 x)
/-- A row of ints that the call owns. -/
def OwnI (w : World) (base : Nat) (v : Value) (l : List Int) : Prop := w.ownsRow base 3 1 v l.length (intc l)
theorem OwnI.nil (w : World) (base : Nat) : OwnI w base (.slice none 0 0) [] := w.ownsRow_nil base 3 1
theorem OwnI.form {w : World} {base : Nat} {v : Value} {l : List Int} (h : OwnI w base v l) : ∃ A cap, v = .slice A l.length cap ∧ l.length ≤ cap ∧ Ints w A l ∧ (∀ b off, A = some ⟨b, off, none⟩ → base ≤ b ∧ b < w.heap.size) := by
  rcases h.2 with ⟨rfl, h0⟩ | ⟨g, cap, cur, rfl, hb, hg, hn, hm, hs, ht⟩
  · have e : l = [] := List.eq_nil_of_length_eq_zero h0
    subst e
    exact ⟨none, 0, rfl, Nat.le_refl _, fun h => absurd h (by simp), fun b off h => by cases h⟩
  · have gl : g < w.heap.size := (Array.getElem?_eq_some_iff.1 hg).1
    refine ⟨some ⟨g, 0, none⟩, cap, rfl, hn, fun _ => ⟨g, 0, rfl, gl, fun j hj => ?_⟩, fun b off e => by
      simp only [Option.some.injEq, Addr.mk.injEq] at e
      obtain ⟨rfl, -⟩ := e
      exact ⟨hb, gl⟩⟩
    have g0 : (intc l)[j]? = some (.int .i64 (l[j])) := by simp [intc, hj]
    have c0 := World.ownsRow.cells h (g := g) rfl _ _ g0
    have e : ∀ k, (⟨g, 0, none⟩ : Addr).add k = ⟨g, 0 + k, none⟩ := fun k => by by_cases k0 : k = 0 <;> simp [Addr.add, k0]
    rw [e] at c0
    exact c0
theorem OwnI.below {w w' : World} {base : Nat} {v : Value} {l : List Int} (h : OwnI w base v l) (hb : Below w.heap.size w w') : OwnI w' base v l :=
  World.ownsRow.kept h (fgrown_of_below hb none) (by cases v.ownBlock <;> simp)
theorem appI {ops : Array Oper} {rest : List Oper} {o : Oper} {a : Act} {Q : Exit → Act → World → Prop} {w : World} (hgd : o.guard = none) (s x : Operand)
    (ho : o.op = .call { callee := .builtin .append, args := #[s, x], argTypes := #[31, 31] })
    (base : Nat) (v : Value) (l : List Int) (hs : a.eval s = v) (hown : OwnI w base v l) (g : Nat) (hx : a.eval x = .slice (some ⟨g, 0, none⟩) 1 1) (p : Int)
    (c0 : w.cell? ⟨g, 0, none⟩ = some (.int .i64 p)) (hlen : Hid (l.length ≤ 4000)) (hbase : base ≤ w.heap.size)
    (h : ∀ v' w', OwnI w' base v' (l ++ [p]) → w.grownBy w' v.ownBlock → wpList Try.prog ops Q rest (a.put o.dst v') w') :
    wpList Try.prog ops Q (o :: rest) a w := by
  obtain ⟨i0, hi, hz0, hz1, hz2⟩ := info_parts info_int
  have hl := hlen.out
  refine wpList_append_own_at _ hgd s x 31 ho base 3 i0 (.int .i64 0) 1 8 Try.underlying31 hi hz0 hz1 hz2 rfl (by decide) v l.length (intc l) hs hown ⟨g, 0, none⟩ 1 1 (intc [p]) hx (by simp [intc]) ?_ (fun u hu => by simp [intc] at hu; subst hu; rfl) (by unfold maxLen; omega) (by omega) hbase ?_
  · intro j u hu
    match j with
    | 0 => simp [intc] at hu; subst hu; simpa [Addr.add] using c0
    | j + 1 => simp [intc] at hu
  · intro v' w' h1 h2 _ _
    refine h v' w' ?_ h2
    unfold OwnI
    have e : intc (l ++ [p]) = intc l ++ intc [p] := by simp [intc]
    rw [e, List.length_append]
    exact h1
theorem ownI_lt {w : World} {base : Nat} {v : Value} {l : List Int} (h : OwnI w base v l) {g : Nat} (hg : v.ownBlock = some g) : base ≤ g ∧ g < w.heap.size := World.ownsRow.lt h g hg
namespace Sp
/-- Two places of a row exchanged. -/
def swF (d : Nat → Nat) (j : Nat) : Nat → Nat := fun k => if k = j + 1 then d j else if k = j then d (j + 1) else d k
/-- The number at place j moved down while it is before its neighbour. -/
def bubF (cf : Nat → Nat → Int) : Nat → (Nat → Nat) → (Nat → Nat)
  | 0, d => d
  | j + 1, d => if cf (d (j + 1)) (d j) < 0 then bubF cf j (swF d j) else d
/-- From place i on, m numbers inserted. -/
def insF (cf : Nat → Nat → Int) : Nat → Nat → (Nat → Nat) → (Nat → Nat)
  | 0, _, d => d
  | m + 1, i, d => insF cf m (i + 1) (bubF cf i d)
theorem bub_lt {cf : Nat → Nat → Int} {N : Nat} : ∀ (j : Nat) (d : Nat → Nat), (∀ k, d k < N) → ∀ k, bubF cf j d k < N
  | 0, d, h, k => h k
  | j + 1, d, h, k => by
    unfold bubF
    split
    · exact bub_lt j _ (fun k => by unfold swF; split; exact h _; split; exact h _; exact h _) k
    · exact h k
end Sp
/-- A row of n numbers that the call may write. -/
structure Row (w : World) (b n : Nat) (d : Nat → Nat) : Prop where
  lt : b < w.heap.size
  c : ∀ k, k < n → w.cell? ⟨b, k, none⟩ = some (.int .i64 ((d k : Nat) : Int))
  f : ∀ o, w.frozen? ⟨b, o, none⟩ = false
theorem Row.below {w w' : World} {b n : Nat} {d : Nat → Nat} (h : Row w b n d) (hb : Below w.heap.size w w') : Row w' b n d :=
  ⟨Nat.lt_of_lt_of_le h.lt hb.size, fun k hk => (hb.cell (p := ⟨b, k, none⟩) h.lt).trans (h.c k hk), fun o => (hb.frozen (p := ⟨b, o, none⟩) h.lt).trans (h.f o)⟩
theorem Row.sw {w : World} {b n : Nat} {d : Nat → Nat} (h : Row w b n d) {j : Nat} (hj : j + 1 < n) :
    Row ((w.setCell ⟨b, j + 1, none⟩ (.int .i64 ((d j : Nat) : Int))).setCell ⟨b, j, none⟩ (.int .i64 ((d (j + 1) : Nat) : Int))) b n (Sp.swF d j) := by
  refine ⟨by simpa using h.lt, fun k hk => ?_, fun o => by simp [h.f o]⟩
  unfold Sp.swF
  by_cases c1 : k = j + 1
  · subst c1
    rw [if_pos rfl, World.cell?_setCell_other (h := fun e => by have := (Addr.mk.inj e).2.1; omega)]
    exact World.cell?_setCell_same _ _ _ (h.c _ hk)
  · rw [if_neg c1]
    by_cases c2 : k = j
    · subst c2
      rw [if_pos rfl]
      exact World.cell?_setCell_same _ _ _ (by
        rw [World.cell?_setCell_other (h := fun e => by have := (Addr.mk.inj e).2.1; omega)]
        exact h.c _ hk)
    · rw [if_neg c2, World.cell?_setCell_other (h := fun e => c2 (by have := (Addr.mk.inj e).2.1; omega)), World.cell?_setCell_other (h := fun e => c1 (by have := (Addr.mk.inj e).2.1; omega))]
      exact h.c k hk
/-- The worlds of the sort: what lay below stays, but for the row. -/
structure SortW (w : World) (b n : Nat) (d : Nat → Nat) (wr : World) : Prop where
  row : Row wr b n d
  bw : Below b w wr
theorem SortW.drew {w : World} {b n : Nat} {d : Nat → Nat} {wr : World} (h : SortW w b n d wr) : SortW w b n d wr.drew :=
  ⟨⟨h.row.lt, fun k hk => by simpa using h.row.c k hk, fun o => by simpa using h.row.f o⟩, h.bw.drew⟩
theorem SortW.below {w : World} {b n : Nat} {d : Nat → Nat} {wr w' : World} (h : SortW w b n d wr) (hb : Below wr.heap.size wr w') : SortW w b n d w' :=
  ⟨h.row.below hb, h.bw.trans (hb.mono (Nat.le_of_lt h.row.lt))⟩
theorem SortW.sw {w : World} {b n : Nat} {d : Nat → Nat} {wr : World} (h : SortW w b n d wr) {j : Nat} (hj : j + 1 < n) :
    SortW w b n (Sp.swF d j) ((wr.setCell ⟨b, j + 1, none⟩ (.int .i64 ((d j : Nat) : Int))).setCell ⟨b, j, none⟩ (.int .i64 ((d (j + 1) : Nat) : Int))) :=
  ⟨h.row.sw hj, Below.setCell (Below.setCell h.bw (Nat.le_refl _) _) (Nat.le_refl _) _⟩
def SoIn (cf : Nat → Nat → Int) (N : Nat) (w : World) (b n : Nat) (D : Nat → Nat) (t : Value) (wr : World) : Prop :=
  ∃ (j : Nat) (d : Nat → Nat), t = .int .i64 (j : Int) ∧ j < n ∧ (∀ k, d k < N) ∧ Sp.bubF cf j d = D ∧ SortW w b n d wr
def SoOut (cf : Nat → Nat → Int) (N : Nat) (w : World) (b n : Nat) (D : Nat → Nat) (t : Value) (wr : World) : Prop :=
  ∃ (i : Nat) (d : Nat → Nat), t = .int .i64 (i : Int) ∧ 1 ≤ i ∧ i ≤ n ∧ (∀ k, d k < N) ∧ Sp.insF cf (n - i) i d = D ∧ SortW w b n d wr
set_option maxRecDepth 100000 in
set_option maxHeartbeats 4000000 in
theorem ins_any (v : Value) (cf : Nat → Nat → Int) (N : Nat) (b n c : Nat) (d : Nat → Nat) (hd : ∀ k, d k < N) (hn : 1 ≤ n) (hn2 : n ≤ 64) (hN : N ≤ 64) (w0 w : World) (h0 : Below w0.heap.size w0 w) (hz0 : w0.heap.size ≤ b) (hC : ∀ W, Below w0.heap.size w0 W → ∀ i j : Nat, i < N → j < N → Calls Try.prog 57 #[.int .i64 (i : Int), .int .i64 (j : Int), v] W (Gives (.int .i64 (cf i j)) W)) (hR : Row w b n d) :
    Calls Try.prog 72 #[.slice (some ⟨b, 0, none⟩) n c, .int .i64 0, .int .i64 (n : Int), .func (.func 57) #[] #[v]] w fun e w' => e = .returned (.tuple #[]) ∧ SortW w b n (Sp.insF cf (n - 1) 1 d) w' := by
  obtain ⟨D, hD⟩ : ∃ D, Sp.insF cf (n - 1) 1 d = D := ⟨_, rfl⟩
  rw [hD]
  have HD := hid hD
  have HC := hid hC
  have HR := hid hR
  have n1 : (1 : Int) ≤ (n : Int) := by omega
  have n2 : (n : Int) ≤ 64 := by omega
  have H0 := hid h0
  have HLT := hid hd
  clear hD hC hR h0 hd
  go_enter Try.func72, Try.ntmps72
  go_wp2_with fail
  go_loopw [8] (fun t wr => SoOut cf N w b n D t wr) (fun t _ => n - (intOf t).toNat)
  case atStart => exact ⟨1, d, rfl, Nat.le_refl _, hn, HLT.out, HD.out, HR.out, Below.refl _ _⟩
  case round =>
    obtain ⟨i, e, rfl, hi1, hi2, he, hf, hS⟩ := hrel
    have HF := hid hf
    have HS := hid hS
    have HE := hid he
    clear hf hS he
    have i0 : (1 : Int) ≤ (i : Int) := by omega
    by_cases hlt : i < n
    · have i1 : (i : Int) < (n : Int) := by omega
      obtain ⟨E, hE⟩ : ∃ E, Sp.bubF cf i e = E := ⟨_, rfl⟩
      have HEE := hid hE
      have HL := hid hlt
      clear hE
      go_wp2_with fail
      go_loopw [9] (fun t wr => SoIn cf N w b n E t wr) (fun t _ => (intOf t).toNat)
      case atStart => exact ⟨i, e, rfl, HL.out, HE.out, HEE.out, HS.out⟩
      case round =>
        obtain ⟨j, f, rfl, hj, hf, hb, hS⟩ := hrel
        have HB := hid hb
        have HS2 := hid hS
        have HFL := hid hf
        clear hb hS hf
        by_cases hj0 : j = 0
        · subst hj0
          go_wp2_with fail
          go_region
          all_goals
            simp only [Exit.then]
            go_at_K
            go_wp2_with fail
            go_roundw
            case rel =>
              refine ⟨i + 1, E, by go_num, by omega, by have := HL.out; omega, by rw [← HEE.out]; exact Sp.bub_lt _ _ HE.out, ?_, (by have h1 := HB.out; unfold Sp.bubF at h1; rw [← h1]; exact HS2.out.drew)⟩
              have h := HF.out
              have h2 : n - i = (n - (i + 1)) + 1 := by have := HL.out; omega
              rw [h2] at h
              unfold Sp.insF at h
              rw [HEE.out] at h
              exact h
            case measure => exact pmeas _ _ HL.out
        · obtain ⟨k, hk⟩ : ∃ k, j = k + 1 := ⟨j - 1, by omega⟩
          have r1 := HS2.out.row.c j hj
          have r0 := HS2.out.row.c k (by omega)
          have lt := HS2.out.row.lt
          have bb := HB.out
          rw [hk] at bb
          unfold Sp.bubF at bb
          rw [← hk] at bb
          have ck := fun (W : World) (h : Below wr.heap.size wr W) => HC.out W (H0.out.trans ((HS2.out.bw.mono hz0).trans (h.mono (by have := H0.out.size; have := HS2.out.bw.size; omega)))) (f j) (f k) (HFL.out _) (HFL.out _)
          obtain ⟨x, hx⟩ : ∃ x, f j = x := ⟨_, rfl⟩
          obtain ⟨y, hy⟩ : ∃ y, f k = y := ⟨_, rfl⟩
          rw [hx] at r1 bb ck
          rw [hy] at r0 bb ck
          have HX := hid hx
          have HY := hid hy
          generalize cf x y = r at bb ck
          clear hx hy
          have k0 : (0 : Int) ≤ (k : Int) := by omega
          obtain ⟨J, hJ⟩ : ∃ J : Int, (j : Int) = J := ⟨_, rfl⟩
          have k1 : (0 : Int) < J := by omega
          have k2 : (k : Int) < (n : Int) := by omega
          have k3 : J < (n : Int) := by omega
          have k4 : (0 : Int) ≤ J := by omega
          have k5 : J.toNat = j := by omega
          have e1 : IntKind.i64.wrap (J - 1) = (k : Int) := by rw [← hJ, hk]; rw [show (((k + 1 : Nat)) : Int) - 1 = (k : Int) by omega]; exact IntWalk.i64_in _ (by omega)
          have HJ2 := hid hJ
          rw [hJ]
          clear hJ
          have HK := hid hk
          have HJ := hid hj
          clear hk hj
          have BBH := hid bb
          clear bb
          have K2 : Hid (∀ W' : World, Below wr.heap.size wr W' → (Below wr.heap.size wr W' ∧ W'.cell? ⟨b, j, none⟩ = some (.int .i64 (x : Int)) ∧ W'.cell? ⟨b, k, none⟩ = some (.int .i64 (y : Int)))) := hid fun W' B => ⟨B, (B.cell (p := ⟨b, j, none⟩) lt).trans r1, (B.cell (p := ⟨b, k, none⟩) lt).trans r0⟩
          go_upto_region 4 with fail
          go_region_held3 (fun W' => Below wr.heap.size wr W' ∧ W'.cell? ⟨b, j, none⟩ = some (.int .i64 (x : Int)) ∧ W'.cell? ⟨b, k, none⟩ = some (.int .i64 (y : Int))) ((exact K2.out _ (by repeat' (first | (with_reducible exact Below.refl _ _) | (with_reducible refine Below.alloc ?_ ?_ _) | (with_reducible refine Below.setCell ?_ ?_ _) | (with_reducible refine Below.drew ?_) | (with_reducible refine below_dn ?_ _) | (with_reducible refine Below.trans ?_ (Below.mono (by assumption) ?_)) | (simp; done) | (simp; omega) | omega))))
            (first | (go_at_call 57; refine (ck _ (by repeat' (first | (with_reducible exact Below.refl _ _) | (with_reducible refine Below.alloc ?_ ?_ _) | (with_reducible refine Below.setCell ?_ ?_ _) | (with_reducible refine Below.drew ?_) | (with_reducible refine below_dn ?_ _) | (with_reducible refine Below.trans ?_ (Below.mono (by assumption) ?_)) | (simp; done) | (simp; omega) | omega))).mono ?_; rintro _ w5 ⟨rfl, hb⟩; have hb5 : Below wr.heap.size wr w5 := (by repeat' (first | (with_reducible exact Below.refl _ _) | (with_reducible refine Below.alloc ?_ ?_ _) | (with_reducible refine Below.setCell ?_ ?_ _) | (with_reducible refine Below.drew ?_) | (with_reducible refine below_dn ?_ _) | (with_reducible refine Below.trans ?_ (Below.mono (by assumption) ?_)) | (simp; done) | (simp; omega) | omega)); have hz5 : wr.heap.size ≤ w5.heap.size := hb5.size; clear hb))
          all_goals
            have B5 := hid hb5
            clear hb5
            simp only [Exit.then]
            by_cases c0 : r < 0
            · have bb := BBH.out
              rw [if_pos c0] at bb
              have BB2 := hid bb
              clear bb
              have x5 := (B5.out.cell (p := ⟨b, j, none⟩) lt).trans r1
              have y5 := (B5.out.cell (p := ⟨b, k, none⟩) lt).trans r0
              have fj : w5.frozen? ⟨b, j, none⟩ = false := (HS2.out.row.below B5.out).f j
              have fk : w5.frozen? ⟨b, k, none⟩ = false := (HS2.out.row.below B5.out).f k
              have njk : ¬ j = k := by have := HK.out; omega
              have nkj : ¬ k = j := by have := HK.out; omega
              go_at_K
              go_wp2_with fail
              go_region
              all_goals
                simp only [Exit.inBlock, Exit.then]
                go_at_K
                go_wp2_with fail
                go_roundw
                case rel =>
                  have h1 := HK.out
                  have h2 := HJ2.out
                  have h3 := HJ.out
                  refine ⟨k, Sp.swF f k, i64_eq (by omega), by omega, fun q => by unfold Sp.swF; split; exact HFL.out _; split; exact HFL.out _; exact HFL.out _, BB2.out, ?_⟩
                  have S := ((HS2.out.below B5.out).sw (j := k) (by omega)).drew
                  rw [← h1, HX.out, HY.out] at S
                  exact S
                case measure => have h1 := HK.out; have h2 := HJ2.out; simp [intOf]; omega
            · have bb := BBH.out
              rw [if_neg c0] at bb
              have BB2 := hid bb
              clear bb
              go_at_K
              go_wp2_with fail
              go_roundw
              case rel =>
                refine ⟨i + 1, E, by go_num, by omega, by have := HL.out; omega, by rw [← HEE.out]; exact Sp.bub_lt _ _ HE.out, ?_, (by rw [← BB2.out]; exact HS2.out.below B5.out)⟩
                have h := HF.out
                have h2 : n - i = (n - (i + 1)) + 1 := by have := HL.out; omega
                rw [h2] at h
                unfold Sp.insF at h
                rw [HEE.out] at h
                exact h
              case measure => exact pmeas _ _ HL.out
    · have i1 : ¬ (i : Int) < (n : Int) := by omega
      have e1 : i = n := by omega
      subst e1
      have hf := HF.out
      rw [Nat.sub_self] at hf
      unfold Sp.insF at hf
      subst hf
      go_wp2_with fail
      go_end0
      exact ⟨rfl, HS.out⟩
theorem ins_nil (a : Option Addr) (c : Nat) (v : Value) (w : World) :
    Calls Try.prog 72 #[.slice a 0 c, .int .i64 0, .int .i64 0, .func (.func 57) #[] #[v]] w fun e w' => e = .returned (.tuple #[]) ∧ w' = w := by
  go_enter Try.func72, Try.ntmps72
  go_wp2_with fail
  refine wp_loop_rounds 1 ?_
  rw [rounds_succ]
  go_wp2_with fail
  go_end0
  exact ⟨rfl, rfl⟩
set_option maxRecDepth 100000 in
set_option maxHeartbeats 4000000 in
theorem stab_small (A : Option Addr) (v : Value) (n c : Nat) (w : World) (post : World → Prop) (n2 : n ≤ 19)
    (hI : Calls Try.prog 72 #[.slice A n c, .int .i64 0, .int .i64 (n : Int), .func (.func 57) #[] #[v]] w fun e w' => e = .returned (.tuple #[]) ∧ post w') :
    Calls Try.prog 69 #[.slice A n c, .int .i64 (n : Int), .func (.func 57) #[] #[v]] w fun e w' => e = .returned (.tuple #[]) ∧ post w' := by
  have i2 : (n : Int) ≤ 19 := by omega
  have f1 : decide ((20 : Int) ≤ (n : Int)) = false := decide_eq_false (by omega)
  have f2 : decide ((20 : Int) < (n : Int)) = false := decide_eq_false (by omega)
  clear n2
  go_enter Try.func69, Try.ntmps69
  go_wp2_with fail
  refine wp_loop_rounds 1 ?_
  rw [rounds_succ]
  go_wp2_with fail
  refine hI.mono ?_
  rintro _ u1 ⟨rfl, hp⟩
  have HP := hid hp
  clear hp hI
  go_wp2_with fail
  refine wp_loop_rounds 1 ?_
  rw [rounds_succ]
  go_wp2_with fail
  go_end0
  exact ⟨rfl, HP.out⟩
set_option maxRecDepth 100000 in
theorem sorts_small (A : Option Addr) (v : Value) (n c : Nat) (w : World) (post : World → Prop) (n2 : n ≤ 19)
    (hI : Calls Try.prog 72 #[.slice A n c, .int .i64 0, .int .i64 (n : Int), .func (.func 57) #[] #[v]] w fun e w' => e = .returned (.tuple #[]) ∧ post w') :
    Calls Try.prog 56 #[.slice A n c, .func (.func 57) #[] #[v]] w fun e w' => e = .returned (.tuple #[]) ∧ post w' := by
  have st := stab_small A v n c w post n2 hI
  clear hI n2
  go_enter Try.func56, Try.ntmps56
  go_wp2_with fail
  refine st.mono ?_
  rintro _ u1 ⟨rfl, hp⟩
  have HP := hid hp
  clear hp st
  go_wp2_with fail
  go_end0
  exact ⟨rfl, HP.out⟩
/-- The first numbers. -/
def Sp.upL (n : Nat) : List Int := (List.range n).map (fun k : Nat => (k : Int))
theorem Sp.upL_len (n : Nat) : (Sp.upL n).length = n := by simp [Sp.upL]
theorem Sp.upL_snoc (n : Nat) : Sp.upL (n + 1) = Sp.upL n ++ [(n : Int)] := by simp [Sp.upL, List.range_succ]
/-- The numbers in their order. -/
def Sp.ordL (cf : Nat → Nat → Int) (n : Nat) : List Int := (List.range n).map (fun k : Nat => ((Sp.insF cf (n - 1) 1 (fun i => if i < n then i else 0) k : Nat) : Int))
theorem Sp.ordL_len (cf : Nat → Nat → Int) (n : Nat) : (Sp.ordL cf n).length = n := by simp [Sp.ordL]
theorem OwnI.row {w : World} {base n : Nat} {v : Value} (h : OwnI w base v (Sp.upL n)) (hn : 0 < n) : ∃ b cap, v = .slice (some ⟨b, 0, none⟩) n cap ∧ base ≤ b ∧ Row w b n (fun i => if i < n then i else 0) := by
  obtain ⟨A, cap, e, hc, F, -⟩ := h.form
  rw [Sp.upL_len] at e
  rcases h.2 with ⟨-, h0⟩ | ⟨g, cap', cur, rfl, hb, hg, -, -, -, -⟩
  · rw [Sp.upL_len] at h0; omega
  · rw [Sp.upL_len] at e ⊢
    injection e with e1 e2 e3
    subst e1 e3
    obtain ⟨b, off, e4, bl, q⟩ := F (by rw [Sp.upL_len]; exact hn)
    obtain ⟨rfl, rfl⟩ : g = b ∧ 0 = off := by simp at e4; exact e4
    refine ⟨g, cap', rfl, hb, bl, fun k hk => ?_, fun o => by simp [World.frozen?, hg]⟩
    have := q k (by rw [Sp.upL_len]; exact hk)
    rw [Nat.zero_add] at this
    rw [this]
    simp [Sp.upL, hk]
theorem Row.ints {w : World} {b n : Nat} {d : Nat → Nat} (h : Row w b n d) : Ints w (some ⟨b, 0, none⟩) ((List.range n).map (fun k : Nat => ((d k : Nat) : Int))) := fun _ =>
  ⟨b, 0, rfl, h.lt, fun j hj => by
    rw [Nat.zero_add, h.c j (by simpa using hj)]
    simp⟩
set_option maxRecDepth 100000 in
set_option maxHeartbeats 4000000 in
theorem ldesc_any (gg : Nat) (cb : Array Value) (cf : Nat → Nat → Int) (n : Nat) (w : World) (hn : n ≤ 19)
    (hC : ∀ (W : World) (g : Nat), Below w.heap.size w W → W.cell? ⟨g, 0, none⟩ = some (.func (.func gg) #[] cb) → ∀ i j : Nat, i < n → j < n → Calls Try.prog 57 #[.int .i64 (i : Int), .int .i64 (j : Int), .pointer (some ⟨g, 0, none⟩)] W (Gives (.int .i64 (cf i j)) W)) :
    Calls Try.prog 41 #[.int .i64 (n : Int), .func (.func gg) #[] cb] w (fun e w' => Below w.heap.size w w' ∧ ∃ A cap, e = .returned (.slice A n cap) ∧ n ≤ cap ∧ Ints w' A (Sp.ordL cf n) ∧ ∀ b off, A = some ⟨b, off, none⟩ → w.heap.size ≤ b) := by
  obtain ⟨V, hV⟩ : ∃ V, w.alloc (.cells #[.func (.func gg) #[] cb] 60) = V := ⟨_, rfl⟩
  have bV : Below w.heap.size w V := by rw [← hV]; exact balloc _ _
  have vz : w.heap.size < V.heap.size := by rw [← hV]; simp
  have v0 : V.cell? ⟨w.heap.size, 0, none⟩ = some (.func (.func gg) #[] cb) := by rw [← hV]; simp [go_sem]
  have HC := hid (fun (W : World) (hb : Below V.heap.size V W) (i j : Nat) (hi : i < n) (hj : j < n) => hC W w.heap.size (bthen bV hb) ((hb.cell (p := ⟨w.heap.size, 0, none⟩) vz).trans v0) i j hi hj)
  have HV := hid hV
  have BV := hid bV
  have VZ := hid vz
  have HN := hid hn
  clear hV bV vz v0 hC hn
  go_enter Try.func41, Try.ntmps41
  go_upto_region 1 with fail
  rw [HV.out]
  go_wp2_with fail
  go_loopw [8, 5] (fun t u wr => ∃ j : Nat, t = .int .i64 (j : Int) ∧ j ≤ n ∧ OwnI wr V.heap.size u (Sp.upL j) ∧ Below V.heap.size V wr) (fun t _ _ => n - (intOf t).toNat)
  case atStart => exact ⟨0, rfl, Nat.zero_le _, OwnI.nil _ _, Below.refl _ _⟩
  case round =>
    obtain ⟨j, rfl, hj, hO, hB⟩ := hrel
    have HO := hid hO
    have HB := hid hB
    obtain ⟨A1, q1, e1, hq, -, hgb⟩ := hO.form
    rw [Sp.upL_len] at e1 hq
    subst e1
    have HQ := hid hq
    have HG := hid hgb
    clear hO hB hq hgb
    by_cases hlt : j < n
    · obtain ⟨ej, eq, i0, i1⟩ := rjw j n hlt (by have := HN.out; omega)
      have EQ := hid eq
      have HJ := hid hlt
      have HM := hid (pmeas n j hlt)
      have ll : Hid ((Sp.upL j).length ≤ 4000) := hid (by rw [Sp.upL_len]; have := HN.out; omega)
      have gb : V.heap.size ≤ (wr.alloc (.cells #[.int .i64 (j : Int)] 3)).heap.size := Nat.le_trans HB.out.size (balloc wr _).size
      have OL := hid (fun g h => ownI_lt HO.out (g := g) h)
      clear eq hlt
      go_wp2_with (at_builtin; refine appI rfl _ _ rfl V.heap.size _ (Sp.upL j) (by first | rfl | (rw [Sp.upL_len])) (HO.out.below (balloc _ _)) wr.heap.size rfl (j : Int) (by simp [go_sem]) ll gb ?_; intro v8 w8 how hgr)
      have HOW := hid how
      have GR := hid hgr
      clear how hgr
      go_roundw
      case rel =>
        refine ⟨j + 1, i64_eq (by first | exact EQ.out | exact ej.trans EQ.out), HJ.out, by rw [Sp.upL_snoc]; exact HOW.out, ?_⟩
        exact (bthen HB.out (balloc _ _)).grown GR.out gb (fun b e => (OL.out b e).1)
      case measure => first | exact HM.out | (rw [ej]; exact HM.out)
    · obtain rfl : j = n := Nat.le_antisymm hj (Nat.le_of_not_lt hlt)
      have i1 : ¬ (j : Int) < (j : Int) := Int.lt_irrefl _
      clear hlt hj
      by_cases h0 : 0 < j
      · obtain ⟨b, cap, e2, hbb, R⟩ := HO.out.row h0
        injection e2 with e3 e4 e5
        subst e3 e5
        clear e4
        have SO := hid (sorts_small (some ⟨b, 0, none⟩) (.pointer (some ⟨w.heap.size, 0, none⟩)) j q1 wr _ HN.out
          (ins_any (.pointer (some ⟨w.heap.size, 0, none⟩)) cf j b j q1 _ (fun k => by split <;> omega) h0 (by have := HN.out; omega) (by have := HN.out; omega) V wr HB.out hbb (fun W hb i k hi hk => HC.out W hb i k hi hk) R))
        have VL := hid (Nat.le_trans (Nat.le_of_lt VZ.out) hbb)
        clear R h0 hbb
        go_wp2_with fail
        refine SO.out.mono ?_
        rintro _ w6 ⟨rfl, hs⟩
        have HS := hid hs
        clear hs
        go_wp2_with fail
        go_ret
        exact ⟨(bthen BV.out HB.out).trans (HS.out.bw.mono VL.out), _, _, rfl, HQ.out, HS.out.row.ints, fun b' off' e => by cases e; exact VL.out⟩
      · obtain rfl : j = 0 := by omega
        have SO := hid (sorts_small A1 (.pointer (some ⟨w.heap.size, 0, none⟩)) 0 q1 wr (fun w' => w' = wr) (by omega) (ins_nil A1 q1 _ wr))
        clear h0
        go_wp2_with fail
        refine SO.out.mono ?_
        rintro _ w6 ⟨rfl, rfl⟩
        go_wp2_with fail
        go_ret
        exact ⟨bthen BV.out HB.out, _, _, rfl, HQ.out, fun h => absurd h (by simp [Sp.ordL]), fun b' off' e => Nat.le_trans (Nat.le_of_lt VZ.out) (HG.out b' off' e).1⟩
end Go.Proofs.Ytmdaanigkhikfab
