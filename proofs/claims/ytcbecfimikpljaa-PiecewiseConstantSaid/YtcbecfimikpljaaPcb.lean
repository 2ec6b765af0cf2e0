/-
  Layer 12: a list of pieces that grows; the walk of PiecewiseConstant.
-/
import Derived.Test.YtcbecfimikpljaaPca
import Derived.Maps.AppendAt
import Derived.Deep.QuietTactic
import Derived.BigQuiet
import Derived.StillTailTactics
import Derived.RangeFuncRecord
namespace Go.Proofs.Ytcbecfimikpljaa
open Go.RowKit
set_option linter.unusedVariables false
set_option linter.unusedSimpArgs false

theorem info_pc : (Try.prog.info? 49).map (fun i => (i.zero, i.size, i.bytes)) = some (some (.agg #[.int .i64 0, .int .i64 0, .slice none 0 0]), 3, 40) := by kernel_rfl
def pcc : List Sp.Pd → List Value
  | [] => []
  | p :: l => Value.int .i64 p.f :: Value.int .i64 p.t :: Value.slice p.A p.c.length p.k :: pcc l
theorem pcc_len : ∀ l : List Sp.Pd, (pcc l).length = l.length * 3
  | [] => rfl
  | p :: l => by simp [pcc, pcc_len l]; omega
theorem pcc_append : ∀ (l m : List Sp.Pd), pcc (l ++ m) = pcc l ++ pcc m
  | [], m => rfl
  | p :: l, m => by simp [pcc, pcc_append l m]
theorem pcc_get : ∀ (l : List Sp.Pd) (j : Nat) (h : j < l.length), (pcc l)[j * 3]? = some (.int .i64 (l[j]).f) ∧ (pcc l)[j * 3 + 1]? = some (.int .i64 (l[j]).t) ∧ (pcc l)[j * 3 + 2]? = some (.slice (l[j]).A (l[j]).c.length (l[j]).k)
  | [], j, h => absurd h (by simp)
  | p :: l, 0, h => ⟨rfl, rfl, rfl⟩
  | p :: l, j + 1, h => by
    have := pcc_get l j (by simpa using h)
    have e : (j + 1) * 3 = j * 3 + 1 + 1 + 1 := by omega
    rw [e]
    exact this
theorem pcc_cell (l : List Sp.Pd) : ∀ u ∈ pcc l, u.oneCell' = true := by
  induction l with
  | nil => intro u hu; simp [pcc] at hu
  | cons p l ih =>
    intro u hu
    simp only [pcc, List.mem_cons] at hu
    rcases hu with rfl | rfl | rfl | hu
    · rfl
    · rfl
    · rfl
    · exact ih u hu
/-- A row of pieces that the call owns. -/
def OwnC (w : World) (base : Nat) (v : Value) (l : List Sp.Pd) : Prop := w.ownsRow base 49 3 v l.length (pcc l)
theorem OwnC.nil (w : World) (base : Nat) : OwnC w base (.slice none 0 0) [] := w.ownsRow_nil base 49 3
/-- The coefficient of each piece lies in a block of its own. -/
def Coefs (w : World) (l : List Sp.Pd) : Prop := ∀ p ∈ l, ∃ (b : Nat) (x : Int), p.A = some ⟨b, 0, none⟩ ∧ p.c = [(x, 1)] ∧ w.heap[b]? = some (.cells #[.int .i64 x, .int .i64 1] 26)
theorem OwnC.form {w : World} {base : Nat} {v : Value} {l : List Sp.Pd} (h : OwnC w base v l) (hc : Coefs w l) : ∃ A cap, v = .slice A l.length cap ∧ l.length ≤ cap ∧ Pcs w A l := by
  have hF : ∀ p ∈ l, Frs w p.A p.c := fun p hp _ => by
    obtain ⟨b, x, e1, e2, e3⟩ := hc p hp
    rw [e1, e2]
    refine ⟨b, 0, rfl, (Array.getElem?_eq_some_iff.1 e3).1, fun j hj => ?_⟩
    simp at hj
    subst hj
    simp [World.cell?, e3]
  rcases h.2 with ⟨rfl, h0⟩ | ⟨g, cap, cur, rfl, hb, hg, hn, hm, hs, ht⟩
  · have e : l = [] := List.eq_nil_of_length_eq_zero h0
    subst e
    exact ⟨none, 0, rfl, Nat.le_refl _, fun h => absurd h (by simp), hF⟩
  · refine ⟨some ⟨g, 0, none⟩, cap, rfl, hn, fun _ => ⟨g, 0, rfl, (Array.getElem?_eq_some_iff.1 hg).1, fun j hj => ?_⟩, hF⟩
    obtain ⟨g0, g1, g2⟩ := pcc_get l j hj
    have c0 := World.ownsRow.cells h (g := g) rfl _ _ g0
    have c1 := World.ownsRow.cells h (g := g) rfl _ _ g1
    have c2 := World.ownsRow.cells h (g := g) rfl _ _ g2
    have e : ∀ k, (⟨g, 0, none⟩ : Addr).add k = ⟨g, 0 + k, none⟩ := fun k => by by_cases k0 : k = 0 <;> simp [Addr.add, k0]
    rw [e] at c0 c1 c2
    exact ⟨c0, c1, c2⟩
theorem OwnC.below {w w' : World} {base : Nat} {v : Value} {l : List Sp.Pd} (h : OwnC w base v l) (hb : Below w.heap.size w w') : OwnC w' base v l :=
  World.ownsRow.kept h (fgrown_of_below hb none) (by cases v.ownBlock <;> simp)
theorem ownC_lt {w : World} {base : Nat} {v : Value} {l : List Sp.Pd} (h : OwnC w base v l) {g : Nat} (hg : v.ownBlock = some g) : base ≤ g ∧ g < w.heap.size := World.ownsRow.lt h g hg
theorem OwnC.not_coef {w : World} {base : Nat} {v : Value} {l : List Sp.Pd} (h : OwnC w base v l) {b : Nat} {cs : Array Value} (hb : w.heap[b]? = some (.cells cs 26)) : some b ≠ v.ownBlock := by
  rcases h.2 with ⟨rfl, _⟩ | ⟨g, cap, cur, rfl, _, hgb, _⟩
  · simp [Value.ownBlock]
  · intro e'
    obtain rfl : b = g := by simpa [Value.ownBlock] using e'
    have := hb.symm.trans hgb
    simp at this
theorem appC {ops : Array Oper} {rest : List Oper} {o : Oper} {a : Act} {Q : Exit → Act → World → Prop} {w : World} (hgd : o.guard = none) (s x : Operand)
    (ho : o.op = .call { callee := .builtin .append, args := #[s, x], argTypes := #[22, 22] })
    (base : Nat) (v : Value) (l : List Sp.Pd) (hs : a.eval s = v) (hown : OwnC w base v l) (g : Nat) (hx : a.eval x = .slice (some ⟨g, 0, none⟩) 1 1) (p : Sp.Pd)
    (c0 : w.cell? ⟨g, 0, none⟩ = some (.int .i64 p.f)) (c1 : w.cell? ⟨g, 1, none⟩ = some (.int .i64 p.t)) (c2 : w.cell? ⟨g, 2, none⟩ = some (.slice p.A p.c.length p.k)) (hlen : Hid (l.length ≤ 1000)) (hbase : base ≤ w.heap.size)
    (h : ∀ v' w', OwnC w' base v' (l ++ [p]) → w.grownBy w' v.ownBlock → wpList Try.prog ops Q rest (a.put o.dst v') w') :
    wpList Try.prog ops Q (o :: rest) a w := by
  obtain ⟨i0, hi, hz0, hz1, hz2⟩ := info_parts info_pc
  have hl := hlen.out
  refine wpList_append_own_at _ hgd s x 22 ho base 49 i0 (.agg #[.int .i64 0, .int .i64 0, .slice none 0 0]) 3 40 Try.underlying22 hi hz0 hz1 hz2 rfl (by decide) v l.length (pcc l) hs hown ⟨g, 0, none⟩ 1 1 (pcc [p]) hx (by simp [pcc]) ?_ (pcc_cell _) (by unfold maxLen; omega) (by omega) hbase ?_
  · intro j u hu
    match j with
    | 0 => simp [pcc] at hu; subst hu; simpa [Addr.add] using c0
    | 1 => simp [pcc] at hu; subst hu; simpa [Addr.add] using c1
    | 2 => simp [pcc] at hu; subst hu; simpa [Addr.add] using c2
    | j + 3 => simp [pcc] at hu
  · intro v' w' h1 h2 _ h4
    refine h v' w' ?_ h2
    unfold OwnC
    rw [pcc_append, List.length_append]
    exact h1
/-- int16s in memory. -/
def I16s (w : World) (A : Option Addr) (c : List Int) : Prop := 0 < c.length → ∃ b off, A = some ⟨b, off, none⟩ ∧ b < w.heap.size ∧ ∀ j, (hj : j < c.length) → w.cell? ⟨b, off + j, none⟩ = some (.int .i16 (c[j]))
theorem asc_small (c : List Int) {n : Nat} (h : n ≤ 1) : ascC c n := fun j _ hn => by omega
theorem asc_succ (c : List Int) (j : Nat) (h : j + 1 < c.length) : ascC c (j + 2) ↔ ascC c (j + 1) ∧ c[j] ≤ c[j + 1] := by
  constructor
  · intro k
    exact ⟨fun i hi hn => k i hi (by omega), k j h (by omega)⟩
  · rintro ⟨k1, k2⟩ i hi hn
    by_cases e : i = j
    · subst e; exact k2
    · exact k1 i hi (by omega)
/-- What the loop keeps. -/
structure CcR (w : World) (c : List Int) (t u v : Value) (wr : World) : Prop where
  ex : ∃ (j : Nat) (l : List Sp.Pd) (B : Bool), t = .int .i64 (j : Int) ∧ v = .bool B ∧ j ≤ c.length ∧ l.length = j ∧ IsC 0 l (c.take j) ∧ OwnC wr w.heap.size u l ∧ Coefs wr l ∧ (∀ p ∈ l, p.k = 1) ∧ (B = true ↔ ascC c j)
  bw : Below w.heap.size w wr
/-- The world after the two blocks of a piece. -/
def cW (wr : World) (j : Nat) (y : Int) : World := (wr.alloc (.cells #[.int .i64 y, .int .i64 1] 26)).alloc (.cells #[.int .i64 (10 * (j : Int)), .int .i64 (10 * (j : Int) + 10), .slice (some ⟨wr.heap.size, 0, none⟩) 1 1] 49)
def cP (wr : World) (j : Nat) (y : Int) : Sp.Pd := ⟨10 * (j : Int), 10 * (j : Int) + 10, some ⟨wr.heap.size, 0, none⟩, 1, [(y, 1)]⟩
theorem cW_below (wr : World) (j : Nat) (y : Int) : Below wr.heap.size wr (cW wr j y) := ((Below.refl _ _).alloc (Nat.le_refl _) _).alloc (by simp) _
theorem cW_below' {w wr w8 : World} {j : Nat} {y : Int} {l : List Sp.Pd} {v : Value} (hO : OwnC wr w.heap.size v l) (hb : Below w.heap.size w wr) (hgr : (cW wr j y).grownBy w8 v.ownBlock) : Below w.heap.size w w8 := by
  have ba := cW_below wr j y
  have bal := hb.trans (ba.mono hb.size)
  refine ⟨hgr.os.trans bal.os, hgr.tape.trans bal.tape, hgr.output.trans bal.output, Nat.le_trans bal.size hgr.size, fun k hk => ?_⟩
  have h2 := bal.size
  refine (hgr.block k (by omega) (fun c => ?_)).trans (bal.block k (by omega))
  have := ownC_lt hO (g := k) c.symm
  omega
theorem vmeas2 (n j : Nat) (h : j < n) : n - (intOf (.int .i64 ((j : Int) + 1))).toNat < n - (intOf (.int .i64 (j : Int))).toNat := by simp [intOf]; omega
theorem ccR_next {w wr w8 : World} {c : List Int} {j : Nat} {l : List Sp.Pd} {y : Int} {v v8 : Value} (hj : j < c.length) (hy : c[j]'hj = y) (hl : l.length = j) (hC : IsC 0 l (c.take j)) (hO : OwnC wr w.heap.size v l) (hF : Coefs wr l) (hk : ∀ p ∈ l, p.k = 1) (hb : Below w.heap.size w wr)
    (how : OwnC w8 w.heap.size v8 (l ++ [cP wr j y])) (hgr : (cW wr j y).grownBy w8 v.ownBlock) {B : Bool} (hB : B = true ↔ ascC c (j + 1)) : CcR w c (.int .i64 ((j : Int) + 1)) v8 (.bool B) w8 := by
  have ba := cW_below wr j y
  have zs := ba.size
  refine ⟨⟨j + 1, l ++ [cP wr j y], B, i64_eq (by push_cast; rfl), rfl, hj, by simp [hl], ?_, how, ?_, ?_, hB⟩, cW_below' hO hb hgr⟩
  · rw [← List.take_append_getElem hj, hy]
    exact hC.snoc (by rw [hl]; rfl) (by rw [hl]; rfl) rfl
  · intro p hp
    simp only [List.mem_append, List.mem_singleton] at hp
    rcases hp with hp | rfl
    · obtain ⟨b, x, e1, e2, e3⟩ := hF p hp
      have hlt := (Array.getElem?_eq_some_iff.1 e3).1
      refine ⟨b, x, e1, e2, ?_⟩
      exact (hgr.block b (by omega) (hO.not_coef e3)).trans ((ba.block b hlt).trans e3)
    · refine ⟨wr.heap.size, y, rfl, rfl, ?_⟩
      refine (hgr.block wr.heap.size (by simp [cW]; omega) (fun c => ?_)).trans (by unfold cW; rw [((Below.refl _ (wr.alloc _)).alloc (Nat.le_refl _) _).block _ (by simp)]; exact World.alloc_heap_new _ _)
      have := ownC_lt hO (g := wr.heap.size) c.symm
      omega
  · intro p hp
    simp only [List.mem_append, List.mem_singleton] at hp
    rcases hp with hp | rfl
    · exact hk p hp
    · rfl
theorem isC_sized {l : List Sp.Pd} {c : List Int} (h : IsC 0 l c) (h8 : l.length ≤ 8) (hc : ∀ x ∈ c, -32768 ≤ x ∧ x ≤ 32767) : PcSized l := by
  refine ⟨by omega, fun p hp => ?_⟩
  obtain ⟨j, hj, rfl⟩ := List.getElem_of_mem hp
  have hjc : j < c.length := by rw [← h.len]; exact hj
  obtain ⟨a, b, d⟩ := h.at_ j hj hjc
  have xb := hc _ (List.getElem_mem hjc)
  refine ⟨by omega, by omega, ?_⟩
  rw [d]
  refine ⟨by simp, fun q hq => ?_⟩
  simp at hq
  subst hq
  simp only
  omega
set_option maxRecDepth 100000 in
set_option maxHeartbeats 8000000 in
theorem const_as (A : Option Addr) (cap : Nat) (c : List Int) (x : Int) (w : World) (hcb : ∀ y ∈ c, -32768 ≤ y ∧ y ≤ 32767) (hcl : c.length ≤ 140737488355328) (x0 : -9223372036854775808 ≤ x) (x1 : x ≤ 9223372036854775807) (hT : I16s w A c) :
    Calls Try.prog 8 #[.slice A c.length cap, .int .i64 x] w (Gives (.bool true) w) := by
  by_cases n0 : c.length = 0
  · have i1 : ((c.length : Nat) : Int) < 1 := by omega
    obtain ⟨n, hn⟩ : ∃ n : Nat, c.length = n := ⟨_, rfl⟩
    rw [hn] at i1 ⊢
    clear hcb hcl hT n0 hn
    go_enter Try.func8, Try.ntmps8
    go_wp2_with (go_at_call 11; refine (pawake_any _).mono ?_; rintro _ w9 ⟨rfl, hb⟩; have B9 := hid hb; clear hb)
    go_ret
    exact Gives.mk rfl B9.out
  by_cases n8 : 8 < c.length
  · have i1 : ¬ ((c.length : Nat) : Int) < 1 := by omega
    have i8 : (8 : Int) < ((c.length : Nat) : Int) := by omega
    obtain ⟨n, hn⟩ : ∃ n : Nat, c.length = n := ⟨_, rfl⟩
    rw [hn] at i1 i8 ⊢
    clear hcb hcl hT n0 n8 hn
    go_enter Try.func8, Try.ntmps8
    go_wp2_with (go_at_call 11; refine (pawake_any _).mono ?_; rintro _ w9 ⟨rfl, hb⟩; have B9 := hid hb; clear hb)
    go_ret
    exact Gives.mk rfl B9.out
  have i1 : ¬ ((c.length : Nat) : Int) < 1 := by omega
  have i8 : ¬ (8 : Int) < ((c.length : Nat) : Int) := by omega
  obtain ⟨b, off, rfl, bl, q⟩ := hT (by omega)
  obtain ⟨n, hn⟩ : ∃ n : Nat, c.length = n := ⟨_, rfl⟩
  have N0 := hid (show 0 < n by omega)
  have N8 := hid (show n ≤ 8 by omega)
  have LE := hid hn
  have CB := hid hcb
  have Q := hid q
  rw [hn] at i1 i8 ⊢
  clear hcb hcl hT n0 n8 hn q
  go_enter Try.func8, Try.ntmps8
  go_wp2_with fail
  go_loopw [24, 5, 6] (fun t u v wr => CcR w c t u v wr) (fun t _ _ _ => n - (intOf t).toNat)
  case atStart => exact ⟨⟨0, [], true, rfl, rfl, Nat.zero_le _, rfl, by simpa using isC_nil 0, OwnC.nil _ _, (fun p hp => by cases hp), (fun p hp => by cases hp), by simp [asc_small c (Nat.zero_le 1)]⟩, Below.refl _ _⟩
  case round =>
    obtain ⟨⟨j, l, B, rfl, rfl, hj, hl, hC, hO, hF, hk, hB⟩, hb⟩ := hrel
    have HC := hid hC
    have HO := hid hO
    have HF := hid hF
    have HK := hid hk
    have HB := hid hB
    have BW := hid hb
    have HL := hid hl
    obtain ⟨A1, k1, e1, hk1, hP⟩ := hO.form hF
    subst e1
    have HP := hid hP
    clear hC hO hF hk hB hb i1 i8
    by_cases hlt : j < c.length
    · have jn : (j : Int) < (n : Int) := Int.ofNat_lt.mpr (by rw [← LE.out]; exact hlt)
      have j0 : (0 : Int) ≤ (j : Int) := Int.natCast_nonneg j
      have j8 : (j : Int) < 8 := by have := N8.out; have := LE.out; omega
      have cj := (BW.out.cell (p := ⟨b, off + j, none⟩) bl).trans (Q.out j hlt)
      have xb := CB.out _ (List.getElem_mem hlt)
      obtain ⟨y, hy⟩ : ∃ y, c[j]'hlt = y := ⟨_, rfl⟩
      rw [hy] at cj xb
      have y0 := xb.1
      have y1 := xb.2
      have bw := Nat.lt_of_lt_of_le bl BW.out.size
      have HY := hid hy
      have JL := hid hlt
      have w10 : wrap64 (10 * (j : Int)) = 10 * (j : Int) := pw64 _ (by omega)
      have w11 : wrap64 (10 * (j : Int) + 10) = 10 * (j : Int) + 10 := pw64 _ (by omega)
      have ll : Hid (l.length ≤ 1000) := hid (by rw [hl]; have := N8.out; have := LE.out; omega)
      have OC := hid (fun W (h : Below wr.heap.size wr W) => HO.out.below h)
      have NX := hid (fun v8 w8 how hgr B => ccR_next (v8 := v8) (w8 := w8) (B := B) hlt hy hl HC.out HO.out HF.out HK.out BW.out how hgr)
      have NB := hid (fun w8 hgr => cW_below' (w8 := w8) (j := j) (y := y) HO.out BW.out hgr)
      have LD := hid (fun w8 (h : Below w.heap.size w w8) (m : Nat) (z : Int) (hm : m < c.length) (hz : c[m]'hm = z) => ((h.cell (p := ⟨b, off + m, none⟩) bl).trans (Q.out m hm)).trans (by rw [hz]))
      have NM := hid (show j < n by rw [← LE.out]; exact hlt)
      simp only [hl] at OC NX NB
      rw [hl]
      cases B
      · have hA : ¬ ascC c j := fun h => absurd (HB.out.2 h) (by simp)
        have hA2 := hid (show (false = true) ↔ ascC c (j + 1) from ⟨fun h => absurd h (by simp), fun h => absurd (fun i h1 h2 => h i h1 (by omega)) hA⟩)
        clear hy xb hl hA
        go_wp2_with (at_builtin; refine appC rfl _ _ rfl w.heap.size _ l rfl (OC.out _ (cW_below wr j y)) (wr.heap.size + 1) rfl (cP wr j y) (by simp [go_sem, cP]) (by simp [go_sem, cP]) (by simp [go_sem, cP]) ll (by have := BW.out.size; have := (cW_below wr j y).size; unfold cW at this; omega) ?_; intro v8 w8 how hgr; have HOW := hid how; have GR := hid hgr; have B8 := hid (NB.out _ hgr); clear how hgr)
        go_roundw
        case rel => exact NX.out _ _ HOW.out GR.out _ hA2.out
        case measure => exact vmeas2 n j NM.out
      · have hA : ascC c j := HB.out.1 rfl
        by_cases j0' : j = 0
        · have jb : ((j : Int) == 0) = true := by simp [j0']
          have hA2 := hid (show (true = true) ↔ ascC c (j + 1) from ⟨fun _ => asc_small c (by omega), fun _ => rfl⟩)
          clear hy xb hl hA j0'
          go_wp2_with (at_builtin; refine appC rfl _ _ rfl w.heap.size _ l rfl (OC.out _ (cW_below wr j y)) (wr.heap.size + 1) rfl (cP wr j y) (by simp [go_sem, cP]) (by simp [go_sem, cP]) (by simp [go_sem, cP]) ll (by have := BW.out.size; have := (cW_below wr j y).size; unfold cW at this; omega) ?_; intro v8 w8 how hgr; have HOW := hid how; have GR := hid hgr; have B8 := hid (NB.out _ hgr); clear how hgr)
          go_roundw
          case rel => exact NX.out _ _ HOW.out GR.out _ hA2.out
          case measure => exact vmeas2 n j NM.out
        · have mc : j - 1 < c.length := by omega
          obtain ⟨z, hz⟩ : ∃ z, c[j - 1]'mc = z := ⟨_, rfl⟩
          have hA3 : ascC c (j + 1) ↔ z ≤ y := by
            obtain ⟨m, hm⟩ : ∃ m, j = m + 1 := ⟨j - 1, by omega⟩
            subst hm
            have hz2 : c[m] = z := hz
            rw [asc_succ c m hlt, hz2, hy]
            exact ⟨fun h => h.2, fun h => ⟨hA, h⟩⟩
          have zb := CB.out _ (List.getElem_mem mc)
          rw [hz] at zb
          have z0 := zb.1
          have z1 := zb.2
          have HA3 := hid hA3
          have wm : wrap64 ((j : Int) - 1) = (j : Int) - 1 := pw64 _ (by omega)
          have jz : ¬ (j : Int) = 0 := by omega
          have m0 : (0 : Int) ≤ (j : Int) - 1 := by omega
          have mn : (j : Int) - 1 < (n : Int) := by omega
          have LD2 := hid (fun w8 h => LD.out w8 h (j - 1) z mc hz)
          clear hy xb hl hA hz hA3 zb
          by_cases zy : z ≤ y
          · have hA4 := hid (show (true = true) ↔ ascC c (j + 1) from ⟨fun _ => HA3.out.2 zy, fun _ => rfl⟩)
            go_wp2_with (at_builtin; refine appC rfl _ _ rfl w.heap.size _ l rfl (OC.out _ (cW_below wr j y)) (wr.heap.size + 1) rfl (cP wr j y) (by simp [go_sem, cP]) (by simp [go_sem, cP]) (by simp [go_sem, cP]) ll (by have := BW.out.size; have := (cW_below wr j y).size; unfold cW at this; omega) ?_; intro v8 w8 how hgr; have HOW := hid how; have GR := hid hgr; have B8 := hid (NB.out _ hgr); have l8 := LD2.out _ B8.out; have l9 := Nat.lt_of_lt_of_le bl B8.out.size; clear how hgr)
            go_roundw
            case rel => exact NX.out _ _ HOW.out GR.out _ hA4.out
            case measure => exact vmeas2 n j NM.out
          · have hA4 := hid (show (((j : Int) == 0) = true) ↔ ascC c (j + 1) from ⟨fun h => absurd (by simpa using h) jz, fun h => absurd (HA3.out.1 h) zy⟩)
            go_wp2_with (at_builtin; refine appC rfl _ _ rfl w.heap.size _ l rfl (OC.out _ (cW_below wr j y)) (wr.heap.size + 1) rfl (cP wr j y) (by simp [go_sem, cP]) (by simp [go_sem, cP]) (by simp [go_sem, cP]) ll (by have := BW.out.size; have := (cW_below wr j y).size; unfold cW at this; omega) ?_; intro v8 w8 how hgr; have HOW := hid how; have GR := hid hgr; have B8 := hid (NB.out _ hgr); have l8 := LD2.out _ B8.out; have l9 := Nat.lt_of_lt_of_le bl B8.out.size; clear how hgr)
            go_roundw
            case rel => exact NX.out _ _ HOW.out GR.out _ hA4.out
            case measure => exact vmeas2 n j NM.out
    · have jn : j = n := by have := LE.out; omega
      subst jn
      have h0 : 0 < l.length := by rw [hl]; exact N0.out
      have h8 : l.length ≤ 8 := by rw [hl]; exact N8.out
      have IC : IsC 0 l c := by
        have := HC.out
        rwa [List.take_of_length_le (by omega)] at this
      have SZ := isC_sized IC h8 CB.out
      have hB := HB.out
      rw [← LE.out] at hB
      have I1 := hid (inc_any A1 k1 l B 0 wr SZ HP.out (isC_inc IC h0 h8 CB.out hB))
      obtain ⟨I, hI⟩ : ∃ I, cI l.length x = I := ⟨_, rfl⟩
      have mI : I < c.length := by rw [← hI, ← IC.len]; exact cI_lt h0 x
      obtain ⟨z, hz⟩ : ∃ z, c[I]'mI = z := ⟨_, rfl⟩
      have ev : 0 ≤ x → x ≤ 10 * (l.length : Int) → Sp.evalS l x = (z, 1, 0) := fun x0 x1 => by
        subst hI
        rw [isC_eval IC h0 h8 CB.out x0 x1, hz]
      have zb := CB.out _ (List.getElem_mem mI)
      rw [hz] at zb
      have z0 := zb.1
      have z1 := zb.2
      have EV := hid (fun x0 x1 w6 (h : Below wr.heap.size wr w6) => eval_any A1 k1 l x _ _ _ w6 SZ (HP.out.below h) (ev x0 x1))
      unfold cI at hI
      rw [hl] at hI
      have HI := hid hI
      simp only [hl] at I1 EV
      have LD := hid (fun w8 (h : Below w.heap.size w w8) => ((h.cell (p := ⟨b, off + I, none⟩) bl).trans (Q.out I mI)).trans (by rw [hz]))
      have j0 : (0 : Int) ≤ (j : Int) := Int.natCast_nonneg j
      have j8 : (j : Int) ≤ 8 := by have := N8.out; omega
      have wj : wrap64 (10 * (j : Int)) = 10 * (j : Int) := pw64 _ (by omega)
      rw [hl]
      have mJ : I < j := by rw [← LE.out]; exact mI
      clear IC SZ hB hlt hj hl h0 h8 hI ev hz zb mI
      go_wp2_with fail
      refine I1.out.mono ?_
      rintro _ w6 ⟨rfl, hb6⟩
      have B6 := hid hb6
      clear hb6
      by_cases xn : x < 0
      · go_wp2_with (go_at_call 11; refine (pawake_any _).mono ?_; rintro _ w9 ⟨rfl, hb⟩; have B9 := hid hb; clear hb)
        go_ret
        exact Gives.mk rfl (bthen BW.out (bthen B6.out B9.out))
      · by_cases xg : 10 * (j : Int) < x
        · go_wp2_with (go_at_call 11; refine (pawake_any _).mono ?_; rintro _ w9 ⟨rfl, hb⟩; have B9 := hid hb; clear hb)
          go_ret
          exact Gives.mk rfl (bthen BW.out (bthen B6.out B9.out))
        · have E1 := hid (EV.out (by omega) (by omega) w6 B6.out)
          go_wp2_with fail
          refine E1.out.mono ?_
          rintro _ w7 ⟨rfl, hb7⟩
          have B7 := hid hb7
          clear hb7
          go_wp2_with fail
          obtain ⟨U, hU⟩ : ∃ U, w7.alloc (Obj.cells #[.int .i64 z, .int .i64 1] 26) = U := ⟨_, rfl⟩
          have u0 : U.cell? ⟨w7.heap.size, 0, none⟩ = some (.int .i64 z) := by rw [← hU]; simp [go_sem]
          have u1 : U.cell? ⟨w7.heap.size, 1, none⟩ = some (.int .i64 1) := by rw [← hU]; simp [go_sem]
          have uz : w7.heap.size < U.heap.size := by rw [← hU]; simp
          have B8 := hid (show Below w.heap.size w U by rw [← hU]; exact bthen BW.out (bthen B6.out (bthen B7.out (balloc w7 _))))
          have ub := LD.out U B8.out
          have ul := Nat.lt_of_lt_of_le bl B8.out.size
          have xq : Int.tdiv x 10 = x / 10 := Int.tdiv_eq_ediv_of_nonneg (by omega)
          have wq : wrap64 (x / 10) = x / 10 := pw64 _ (by omega)
          have wm : wrap64 ((j : Int) - 1) = (j : Int) - 1 := pw64 _ (by omega)
          have I0 : (0 : Int) ≤ (I : Int) := Int.natCast_nonneg I
          have IJ : (I : Int) < (j : Int) := Int.ofNat_lt.mpr mJ
          have mi : min (x / 10) ((j : Int) - 1) = (I : Int) := by have := HI.out; omega
          simp only [hU]
          clear hU
          generalize w7.heap.size = g at u0 u1 uz ⊢
          clear EV I1 E1 hP xg xn LD
          have mi2 : min (IntKind.i64.wrap (x / 10)) (IntKind.i64.wrap ((j : Int) - 1)) = (I : Int) := by
            have e1 : IntKind.i64.wrap (x / 10) = x / 10 := by rw [IntKind.wrap_i64]; omega
            have e2 : IntKind.i64.wrap ((j : Int) - 1) = (j : Int) - 1 := by rw [IntKind.wrap_i64]; omega
            rw [e1, e2, mi]
          have wz : IntKind.i64.wrap z = z := by rw [IntKind.wrap_i64]; omega
          go_still_tail 18, (by rfl)
          go_wp2_with (go_at_call 11; refine (pawake_any _).mono ?_; rintro _ w9 ⟨rfl, hb⟩; have B9 := hid hb; clear hb)
          go_ret
          exact Gives.mk rfl (bthen B8.out (by have hb := B9.out; exact ⟨hb.os, hb.tape, hb.output, hb.size, hb.block⟩))
end Go.Proofs.Ytcbecfimikpljaa
