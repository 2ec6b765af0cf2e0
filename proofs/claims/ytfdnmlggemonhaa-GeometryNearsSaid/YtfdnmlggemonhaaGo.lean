/-
  Layer 7: Relation of the reference, by contract: a list of points that grows. Written by tools/gen_go.py.
-/
import Derived.Test.YtfdnmlggemonhaaGe
import Derived.Maps.AppendAt
import Derived.BigRegion
import Derived.Deep.Cut
import Derived.Deep.DeepCutAuto
import Derived.Test.YtfdnmlggemonhaaGreg
namespace Go.Proofs.Ytfdnmlggemonhaa
open Go.RowKit
set_option linter.unusedVariables false
set_option linter.unusedSimpArgs false

theorem info_pt : (Try.prog.info? 23).map (fun i => (i.zero, i.size, i.bytes)) = some (some (.agg #[.int .i64 0, .int .i64 0]), 2, 16) := by kernel_rfl
def ptc : List Sp.Pt → List Value
  | [] => []
  | p :: l => Value.int .i64 p.1 :: Value.int .i64 p.2 :: ptc l
theorem ptc_len : ∀ l : List Sp.Pt, (ptc l).length = l.length * 2
  | [] => rfl
  | p :: l => by simp [ptc, ptc_len l]; omega
theorem ptc_append : ∀ (l m : List Sp.Pt), ptc (l ++ m) = ptc l ++ ptc m
  | [], m => rfl
  | p :: l, m => by simp [ptc, ptc_append l m]
theorem ptc_get : ∀ (l : List Sp.Pt) (j : Nat) (h : j < l.length), (ptc l)[j * 2]? = some (.int .i64 (l[j]).1) ∧ (ptc l)[j * 2 + 1]? = some (.int .i64 (l[j]).2)
  | [], j, h => absurd h (by simp)
  | p :: l, 0, h => ⟨rfl, rfl⟩
  | p :: l, j + 1, h => by
    have := ptc_get l j (by simpa using h)
    have e : (j + 1) * 2 = j * 2 + 1 + 1 := by omega
    rw [e]
    exact this
theorem ptc_cell (l : List Sp.Pt) : ∀ u ∈ ptc l, u.oneCell' = true := by
  induction l with
  | nil => intro u hu; simp [ptc] at hu
  | cons p l ih =>
    intro u hu
    simp only [ptc, List.mem_cons] at hu
    rcases hu with rfl | rfl | hu
    · rfl
    · rfl
    · exact ih u hu
/-- A row of points that the call owns. -/
def OwnP (w : World) (base : Nat) (v : Value) (l : List Sp.Pt) : Prop := w.ownsRow base 23 2 v l.length (ptc l)
theorem OwnP.nil (w : World) (base : Nat) : OwnP w base (.slice none 0 0) [] := w.ownsRow_nil base 23 2
theorem OwnP.form {w : World} {base : Nat} {v : Value} {l : List Sp.Pt} (h : OwnP w base v l) : ∃ A cap, v = .slice A l.length cap ∧ l.length ≤ cap ∧ Pts w A l := by
  rcases h.2 with ⟨rfl, h0⟩ | ⟨g, cap, cur, rfl, hb, hg, hn, hm, hs, ht⟩
  · have e : l = [] := List.eq_nil_of_length_eq_zero h0
    subst e
    exact ⟨none, 0, rfl, Nat.le_refl _, fun h => absurd h (by simp)⟩
  · refine ⟨some ⟨g, 0, none⟩, cap, rfl, hn, fun _ => ⟨g, 0, rfl, (Array.getElem?_eq_some_iff.1 hg).1, fun j hj => ?_⟩⟩
    obtain ⟨g0, g1⟩ := ptc_get l j hj
    have c0 := World.ownsRow.cells h (g := g) rfl _ _ g0
    have c1 := World.ownsRow.cells h (g := g) rfl _ _ g1
    have e : ∀ k, (⟨g, 0, none⟩ : Addr).add k = ⟨g, 0 + k, none⟩ := fun k => by by_cases k0 : k = 0 <;> simp [Addr.add, k0]
    rw [e] at c0 c1
    exact ⟨c0, c1⟩
theorem pgrown_of_below {w w' : World} (h : Below w.heap.size w w') (r : Option Nat) : w.grownBy w' r := ⟨h.os, h.tape, h.output, h.size, fun k hk _ => h.block k hk⟩
theorem OwnP.below {w w' : World} {base : Nat} {v : Value} {l : List Sp.Pt} (h : OwnP w base v l) (hb : Below w.heap.size w w') : OwnP w' base v l :=
  World.ownsRow.kept h (pgrown_of_below hb none) (by cases v.ownBlock <;> simp)
theorem appP {ops : Array Oper} {rest : List Oper} {o : Oper} {a : Act} {Q : Exit → Act → World → Prop} {w : World} (hgd : o.guard = none) (s x : Operand)
    (ho : o.op = .call { callee := .builtin .append, args := #[s, x], argTypes := #[43, 43] })
    (base : Nat) (v : Value) (l : List Sp.Pt) (hs : a.eval s = v) (hown : OwnP w base v l) (g : Nat) (hx : a.eval x = .slice (some ⟨g, 0, none⟩) 1 1) (p q : Int)
    (c0 : w.cell? ⟨g, 0, none⟩ = some (.int .i64 p)) (c1 : w.cell? ⟨g, 1, none⟩ = some (.int .i64 q)) (hlen : Hid (l.length ≤ 1000)) (hbase : base ≤ w.heap.size)
    (h : ∀ v' w', OwnP w' base v' (l ++ [(p, q)]) → w.grownBy w' v.ownBlock → wpList Try.prog ops Q rest (a.put o.dst v') w') :
    wpList Try.prog ops Q (o :: rest) a w := by
  obtain ⟨i0, hi, hz0, hz1, hz2⟩ := info_parts info_pt
  have hl := hlen.out
  refine wpList_append_own_at _ hgd s x 43 ho base 23 i0 (.agg #[.int .i64 0, .int .i64 0]) 2 16 Try.underlying43 hi hz0 hz1 hz2 rfl (by decide) v l.length (ptc l) hs hown ⟨g, 0, none⟩ 1 1 (ptc [(p, q)]) hx (by simp [ptc]) ?_ (ptc_cell _) (by unfold maxLen; omega) (by omega) hbase ?_
  · intro j u hu
    match j with
    | 0 => simp [ptc] at hu; subst hu; simpa [Addr.add] using c0
    | 1 => simp [ptc] at hu; subst hu; simpa [Addr.add] using c1
    | j + 2 => simp [ptc] at hu
  · intro v' w' h1 h2 _ h4
    refine h v' w' ?_ h2
    unfold OwnP
    rw [ptc_append, List.length_append]
    exact h1
theorem own_lt {w : World} {base : Nat} {v : Value} {l : List Sp.Pt} (h : OwnP w base v l) {g : Nat} (hg : v.ownBlock = some g) : base ≤ g ∧ g < w.heap.size := World.ownsRow.lt h g hg
structure RrelR (V : World) (g base : Nat) (l : List Sp.Pt) (f : Sp.Pt → Bool) (t u : Value) (wr : World) : Prop where
  ex : ∃ j : Nat, u = .int .i64 (j : Int) ∧ j ≤ l.length ∧ OwnP wr base t ((l.take j).filter f)
  pt : Pts wr (some ⟨g, 0, none⟩) l
  bw : Below V.heap.size V wr
  gb : base ≤ wr.heap.size
/-- What the second loop of Relation keeps: all so far are the first. -/
def AllRel (w : World) (L : List Sp.Pt) (p : Sp.Pt) (t : Value) (wr : World) : Prop := ∃ j : Nat, t = .int .i64 (j : Int) ∧ 1 ≤ j ∧ j ≤ L.length ∧ (L.take j).all (fun q => decide (q = p)) = true ∧ Below w.heap.size w wr

set_option maxRecDepth 100000 in
set_option maxHeartbeats 16000000 in
theorem rrel_any (a b c d : Sp.Pt) (ha : Sp.okP a = true) (hb : Sp.okP b = true) (hc : Sp.okP c = true) (hd : Sp.okP d = true) (w : World) :
    Calls Try.prog 52 #[.agg #[.int .i64 a.1, .int .i64 a.2], .agg #[.int .i64 b.1, .int .i64 b.2], .agg #[.int .i64 c.1, .int .i64 c.2], .agg #[.int .i64 d.1, .int .i64 d.2]] w (Gives (.int .i64 (Sp.relS a b c d)) w) := by
  rw [Sp.rel_ref]
  obtain ⟨f, hf⟩ : ∃ f : Sp.Pt → Bool, (fun p => Sp.onS p a b && Sp.onS p c d) = f := ⟨_, rfl⟩
  obtain ⟨l, hl⟩ : ∃ l : List Sp.Pt, [a, b, c, d] = l := ⟨_, rfl⟩
  have l4 : l.length = 4 := by rw [← hl]; rfl
  have ok : ∀ p ∈ l, Sp.okP p = true := by rw [← hl]; intro p hp; simp at hp; rcases hp with rfl | rfl | rfl | rfl <;> assumption
  have o1 := fun (p : Sp.Pt) (hp : Sp.okP p = true) => ron_any p a b hp ha hb
  have o2 := fun (p : Sp.Pt) (hp : Sp.okP p = true) => ron_any p c d hp hc hd
  have hff : ∀ p, f p = (Sp.onS p a b && Sp.onS p c d) := fun p => by rw [← hf]
  have t1 := rturn_any a b c ha hb hc
  have s1 := rsign_any (Sp.crs a b c)
  have q1 := Sp.sg_cases (Sp.crs a b c)
  have t2 := rturn_any a b d ha hb hd
  have s2 := rsign_any (Sp.crs a b d)
  have q2 := Sp.sg_cases (Sp.crs a b d)
  have t3 := rturn_any c d a hc hd ha
  have s3 := rsign_any (Sp.crs c d a)
  have q3 := Sp.sg_cases (Sp.crs c d a)
  have t4 := rturn_any c d b hc hd hb
  have s4 := rsign_any (Sp.crs c d b)
  have q4 := Sp.sg_cases (Sp.crs c d b)
  have K8 := fun (W : World) (gg : Nat) => Pts.mk4 (g := gg) (w := W) (a := a) (b := b) (c := c) (d := d)
  obtain ⟨R, hR⟩ : ∃ R, (if Sp.crossing a b c d = true then 2 else Sp.pk 0 1 3 (Sp.shd a b c d)) = R := ⟨_, rfl⟩
  rw [hR]
  have hR2 : (if Sp.crossing a b c d = true then 2 else Sp.pk 0 1 3 (l.filter f)) = R := by rw [← hR, ← hl, ← hf]; rfl
  unfold Sp.crossing at hR2
  rw [hl] at K8
  generalize Sp.sg (Sp.crs a b c) = n1 at hR2 q1 s1
  generalize Sp.crs a b c = m1 at q1 s1 t1
  generalize Sp.sg (Sp.crs a b d) = n2 at hR2 q2 s2
  generalize Sp.crs a b d = m2 at q2 s2 t2
  generalize Sp.sg (Sp.crs c d a) = n3 at hR2 q3 s3
  generalize Sp.crs c d a = m3 at q3 s3 t3
  generalize Sp.sg (Sp.crs c d b) = n4 at hR2 q4 s4
  generalize Sp.crs c d b = m4 at q4 s4 t4
  have z1 : n1 = -1 ∨ n1 = 0 ∨ n1 = 1 := by rcases q1 with h | h | h <;> omega
  have z2 : n2 = -1 ∨ n2 = 0 ∨ n2 = 1 := by rcases q2 with h | h | h <;> omega
  have z3 : n3 = -1 ∨ n3 = 0 ∨ n3 = 1 := by rcases q3 with h | h | h <;> omega
  have z4 : n4 = -1 ∨ n4 = 0 ∨ n4 = 1 := by rcases q4 with h | h | h <;> omega
  obtain ⟨r1, hr1⟩ : ∃ r, n1 * n2 = r := ⟨_, rfl⟩
  obtain ⟨r2, hr2⟩ : ∃ r, n3 * n4 = r := ⟨_, rfl⟩
  have w1 : wrap64 (n1 * n2) = r1 := by rw [hr1]; refine w64 _ ?_; rcases z1 with rfl | rfl | rfl <;> rcases z2 with rfl | rfl | rfl <;> omega
  have w2 : wrap64 (n3 * n4) = r2 := by rw [hr2]; refine w64 _ ?_; rcases z3 with rfl | rfl | rfl <;> rcases z4 with rfl | rfl | rfl <;> omega
  rw [hr1, hr2] at hR2
  have HR := hid hR2
  have OK := hid ok
  have HF := hid hff
  have KK := hid K8
  have O1 := hid o1
  have O2 := hid o2
  clear hR hR2 ok hff K8 o1 o2 q1 q2 q3 q4 z1 z2 z3 z4 hl hf ha hb hc hd hr1 hr2
  obtain ⟨a1, a2⟩ := a
  obtain ⟨b1, b2⟩ := b
  obtain ⟨c1, c2⟩ := c
  obtain ⟨d1, d2⟩ := d
  dsimp only at *
  obtain ⟨V, hV⟩ : ∃ V : World, ((((w.alloc (Obj.cells #[.int .i64 (a1), .int .i64 (a2)] 23)).alloc (Obj.cells #[.int .i64 (b1), .int .i64 (b2)] 23)).alloc (Obj.cells #[.int .i64 (c1), .int .i64 (c2)] 23)).alloc (Obj.cells #[.int .i64 (d1), .int .i64 (d2)] 23)) = V := ⟨_, rfl⟩
  have bV : Below w.heap.size w V := by rw [← hV]; (repeat' (first | (with_reducible exact Below.refl _ _) | (with_reducible refine Below.alloc ?_ ?_ _) | (with_reducible refine Below.setCell ?_ ?_ _) | (with_reducible refine Below.drew ?_) | (with_reducible refine Below.trans ?_ (Below.mono (by assumption) ?_)) | (simp; done) | (simp; omega) | omega))
  have zV : V.heap.size = w.heap.size + 1 + 1 + 1 + 1 := by rw [← hV]; simp
  have dV : V.drawn = w.drawn := by rw [← hV]; rfl
  have K : Hid (∀ W' : World, Below V.heap.size V W' → (W'.cell? ⟨w.heap.size, 0, none⟩ = some (.int .i64 a1) ∧ W'.cell? ⟨w.heap.size, 1, none⟩ = some (.int .i64 a2) ∧ W'.cell? ⟨w.heap.size + 1, 0, none⟩ = some (.int .i64 b1) ∧ W'.cell? ⟨w.heap.size + 1, 1, none⟩ = some (.int .i64 b2) ∧ W'.cell? ⟨w.heap.size + 1 + 1, 0, none⟩ = some (.int .i64 c1) ∧ W'.cell? ⟨w.heap.size + 1 + 1, 1, none⟩ = some (.int .i64 c2) ∧ W'.cell? ⟨w.heap.size + 1 + 1 + 1, 0, none⟩ = some (.int .i64 d1) ∧ W'.cell? ⟨w.heap.size + 1 + 1 + 1, 1, none⟩ = some (.int .i64 d2))) := hid fun W' B => ⟨(B.cell (p := ⟨w.heap.size, 0, none⟩) (by simp only; omega)).trans (by rw [← hV]; simp [go_sem]), (B.cell (p := ⟨w.heap.size, 1, none⟩) (by simp only; omega)).trans (by rw [← hV]; simp [go_sem]), (B.cell (p := ⟨w.heap.size + 1, 0, none⟩) (by simp only; omega)).trans (by rw [← hV]; simp [go_sem]), (B.cell (p := ⟨w.heap.size + 1, 1, none⟩) (by simp only; omega)).trans (by rw [← hV]; simp [go_sem]), (B.cell (p := ⟨w.heap.size + 1 + 1, 0, none⟩) (by simp only; omega)).trans (by rw [← hV]; simp [go_sem]), (B.cell (p := ⟨w.heap.size + 1 + 1, 1, none⟩) (by simp only; omega)).trans (by rw [← hV]; simp [go_sem]), (B.cell (p := ⟨w.heap.size + 1 + 1 + 1, 0, none⟩) (by simp only; omega)).trans (by rw [← hV]; simp [go_sem]), (B.cell (p := ⟨w.heap.size + 1 + 1 + 1, 1, none⟩) (by simp only; omega)).trans (by rw [← hV]; simp [go_sem])⟩
  have HV := hid hV
  have BV := hid bV
  have ZV := hid zV
  have DV := hid dV
  clear hV bV zV dV
  go_enter Try.func52, Try.ntmps52
  go_upto_region 1 with fail
  rw [HV.out]
  obtain ⟨ac0, ac1, bc0, bc1, cc0, cc1, dc0, dc1⟩ := K.out _ (Below.refl _ _ : Below V.heap.size V V)
  have zl : w.heap.size + 1 + 1 + 1 < V.heap.size := by have h1 := ZV.out; have h2 := ((Below.refl _ _ : Below V.heap.size V V)).size; omega
  have K2 : Hid (∀ W' : World, Below V.heap.size V W' → (Below V.heap.size V W' ∧ W'.cell? ⟨w.heap.size, 0, none⟩ = some (.int .i64 a1) ∧ W'.cell? ⟨w.heap.size, 1, none⟩ = some (.int .i64 a2) ∧ W'.cell? ⟨w.heap.size + 1, 0, none⟩ = some (.int .i64 b1) ∧ W'.cell? ⟨w.heap.size + 1, 1, none⟩ = some (.int .i64 b2) ∧ W'.cell? ⟨w.heap.size + 1 + 1, 0, none⟩ = some (.int .i64 c1) ∧ W'.cell? ⟨w.heap.size + 1 + 1, 1, none⟩ = some (.int .i64 c2) ∧ W'.cell? ⟨w.heap.size + 1 + 1 + 1, 0, none⟩ = some (.int .i64 d1) ∧ W'.cell? ⟨w.heap.size + 1 + 1 + 1, 1, none⟩ = some (.int .i64 d2))) := hid fun W' B => ⟨B, K.out _ B⟩
  go_region_held3 (fun W' => Below V.heap.size V W' ∧ W'.cell? ⟨w.heap.size, 0, none⟩ = some (.int .i64 a1) ∧ W'.cell? ⟨w.heap.size, 1, none⟩ = some (.int .i64 a2) ∧ W'.cell? ⟨w.heap.size + 1, 0, none⟩ = some (.int .i64 b1) ∧ W'.cell? ⟨w.heap.size + 1, 1, none⟩ = some (.int .i64 b2) ∧ W'.cell? ⟨w.heap.size + 1 + 1, 0, none⟩ = some (.int .i64 c1) ∧ W'.cell? ⟨w.heap.size + 1 + 1, 1, none⟩ = some (.int .i64 c2) ∧ W'.cell? ⟨w.heap.size + 1 + 1 + 1, 0, none⟩ = some (.int .i64 d1) ∧ W'.cell? ⟨w.heap.size + 1 + 1 + 1, 1, none⟩ = some (.int .i64 d2)) ((exact K2.out _ (by repeat' (first | (with_reducible exact Below.refl _ _) | (with_reducible refine Below.alloc ?_ ?_ _) | (with_reducible refine Below.setCell ?_ ?_ _) | (with_reducible refine Below.drew ?_) | (with_reducible refine below_dn ?_ _) | (with_reducible refine Below.trans ?_ (Below.mono (by assumption) ?_)) | (simp; done) | (simp; omega) | omega))))
    (first | (go_at_call 39; (with_reducible refine (t1 _).mono ?_); rintro _ w5 ⟨rfl, hb, hd⟩; have hb5 : Below V.heap.size V w5 := (by repeat' (first | (with_reducible exact Below.refl _ _) | (with_reducible refine Below.alloc ?_ ?_ _) | (with_reducible refine Below.setCell ?_ ?_ _) | (with_reducible refine Below.drew ?_) | (with_reducible refine below_dn ?_ _) | (with_reducible refine Below.trans ?_ (Below.mono (by assumption) ?_)) | (simp; done) | (simp; omega) | omega)); have hz5 : V.heap.size ≤ w5.heap.size := hb5.size; clear hb hd) | (go_at_call 39; (with_reducible refine (t2 _).mono ?_); rintro _ w5 ⟨rfl, hb, hd⟩; have hb5 : Below V.heap.size V w5 := (by repeat' (first | (with_reducible exact Below.refl _ _) | (with_reducible refine Below.alloc ?_ ?_ _) | (with_reducible refine Below.setCell ?_ ?_ _) | (with_reducible refine Below.drew ?_) | (with_reducible refine below_dn ?_ _) | (with_reducible refine Below.trans ?_ (Below.mono (by assumption) ?_)) | (simp; done) | (simp; omega) | omega)); have hz5 : V.heap.size ≤ w5.heap.size := hb5.size; clear hb hd) | (go_at_call 39; (with_reducible refine (t3 _).mono ?_); rintro _ w5 ⟨rfl, hb, hd⟩; have hb5 : Below V.heap.size V w5 := (by repeat' (first | (with_reducible exact Below.refl _ _) | (with_reducible refine Below.alloc ?_ ?_ _) | (with_reducible refine Below.setCell ?_ ?_ _) | (with_reducible refine Below.drew ?_) | (with_reducible refine below_dn ?_ _) | (with_reducible refine Below.trans ?_ (Below.mono (by assumption) ?_)) | (simp; done) | (simp; omega) | omega)); have hz5 : V.heap.size ≤ w5.heap.size := hb5.size; clear hb hd) | (go_at_call 39; (with_reducible refine (t4 _).mono ?_); rintro _ w5 ⟨rfl, hb, hd⟩; have hb5 : Below V.heap.size V w5 := (by repeat' (first | (with_reducible exact Below.refl _ _) | (with_reducible refine Below.alloc ?_ ?_ _) | (with_reducible refine Below.setCell ?_ ?_ _) | (with_reducible refine Below.drew ?_) | (with_reducible refine below_dn ?_ _) | (with_reducible refine Below.trans ?_ (Below.mono (by assumption) ?_)) | (simp; done) | (simp; omega) | omega)); have hz5 : V.heap.size ≤ w5.heap.size := hb5.size; clear hb hd) | (go_at_call 41; (with_reducible refine (s1 _).mono ?_); rintro _ wq ⟨rfl, rfl⟩) | (go_at_call 41; (with_reducible refine (s2 _).mono ?_); rintro _ wq ⟨rfl, rfl⟩) | (go_at_call 41; (with_reducible refine (s3 _).mono ?_); rintro _ wq ⟨rfl, rfl⟩) | (go_at_call 41; (with_reducible refine (s4 _).mono ?_); rintro _ wq ⟨rfl, rfl⟩))
  all_goals
    have B0 := hid hb5
    try clear zl
    try clear ac0 ac1 bc0 bc1 cc0 cc1 dc0 dc1
    clear hb5 hz5 K2 t1 t2 t3 t4 s1 s2 s3 s4
    obtain ⟨ac0, ac1, bc0, bc1, cc0, cc1, dc0, dc1⟩ := K.out _ B0.out
    have zl : w.heap.size + 1 + 1 + 1 < w5.heap.size := by have h1 := ZV.out; have h2 := (B0.out).size; omega
    by_cases yy : r1 < 0 ∧ r2 < 0
    · have hR := HR.out
      obtain ⟨y1, y2⟩ := yy
      simp [y1, y2] at hR
      subst hR
      go_wp2_with fail
      go_ret
      have hB := B0.out
      have hz := hB.size
      have hV := BV.out.trans (hB.mono BV.out.size)
      exact Gives.mk (rfl) (by first | exact hV | (repeat' (first | (with_reducible exact Below.refl _ _) | (with_reducible refine Below.alloc ?_ ?_ _) | (with_reducible refine Below.setCell ?_ ?_ _) | (with_reducible refine Below.drew ?_) | (with_reducible refine Below.trans ?_ (Below.mono (by assumption) ?_)) | (simp; done) | (simp; omega) | omega)))
    · have PK : Hid (Sp.pk 0 1 3 (l.filter f) = R) := by
        have h := HR.out
        show _ = _
        rw [if_neg (by simpa using yy)] at h
        exact h
      go_upto_region 2 with fail
      have WH := hid (Eq.refl w5)
      go_cut [46] (fun v8 wx => v8 = .bool false ∧ w5 = wx)
      case first =>
        by_cases y1 : r1 < 0
        · have y2 : ¬ r2 < 0 := fun h => yy ⟨y1, h⟩
          go_wp2_with fail
          go_meet
          exact ⟨rfl, rfl⟩
        · go_wp2_with fail
          go_meet
          exact ⟨rfl, rfl⟩
      case rest =>
        obtain ⟨rfl, rfl⟩ := hcut
        go_wp2_with fail
        go_loopw [13, 15] (fun t u wr => RrelR V w5.heap.size (w5.heap.size + 1) l f t u wr) (fun _ u _ => l.length - (intOf u).toNat)
        case atStart =>
          refine ⟨⟨0, rfl, Nat.zero_le _, OwnP.nil _ _⟩, ?_, B0.out.trans (((Below.refl _ _).alloc (Nat.le_refl _) _).mono B0.out.size), by simp⟩
          exact KK.out _ _ (by simp) (by simp [go_sem]) (by simp [go_sem]) (by simp [go_sem]) (by simp [go_sem]) (by simp [go_sem]) (by simp [go_sem]) (by simp [go_sem]) (by simp [go_sem])
        case round =>
          obtain ⟨⟨j, rfl, hj, hown⟩, hpt, hB, hgb⟩ := hrel
          clear ac0 ac1 bc0 bc1 cc0 cc1 dc0 dc1
          have ZL := hid zl
          clear zl
          have HB := hid hB
          have HO := hid hown
          have HP := hid hpt
          have HG := hid hgb
          clear hB hown hpt hgb
          obtain ⟨A1, cp, rfl, hcp, PT1⟩ := HO.out.form
          have PTH := hid PT1
          clear PT1
          by_cases hlt : j < l.length
          · have tf := take_filter (f := f) hlt
            have okE := OK.out _ (List.getElem_mem hlt)
            obtain ⟨b, off, hA, hl0, hc⟩ := HP.out (by omega)
            injection hA with hA
            injection hA with h1 h2 h3
            subst h1 h2
            obtain ⟨x0, x1⟩ := hc j hlt
            have k1 := O1.out _ okE
            have k2 := O2.out _ okE
            have hf := HF.out (l[j]'hlt)
            clear hc
            obtain ⟨e, he⟩ : ∃ e, l[j]'hlt = e := ⟨_, rfl⟩
            rw [he] at tf x0 x1 k1 k2 hf
            generalize Sp.onS e (a1, a2) (b1, b2) = f1 at k1 hf
            generalize Sp.onS e (c1, c2) (d1, d2) = f2 at k2 hf
            obtain ⟨e1, e2⟩ := e
            dsimp only at *
            rw [Nat.zero_add] at x0 x1
            have i0 : (0 : Int) ≤ (j : Int) := by omega
            have i1 : (j : Int) < 4 := by omega
            have TF := hid tf
            have HFE := hid hf
            have HL := hid hlt
            have K3 : Hid (∀ W' : World, Below wr.heap.size wr W' → (W'.cell? ⟨w.heap.size, 0, none⟩ = some (.int .i64 a1) ∧ W'.cell? ⟨w.heap.size, 1, none⟩ = some (.int .i64 a2) ∧ W'.cell? ⟨w.heap.size + 1, 0, none⟩ = some (.int .i64 b1) ∧ W'.cell? ⟨w.heap.size + 1, 1, none⟩ = some (.int .i64 b2) ∧ W'.cell? ⟨w.heap.size + 1 + 1, 0, none⟩ = some (.int .i64 c1) ∧ W'.cell? ⟨w.heap.size + 1 + 1, 1, none⟩ = some (.int .i64 c2) ∧ W'.cell? ⟨w.heap.size + 1 + 1 + 1, 0, none⟩ = some (.int .i64 d1) ∧ W'.cell? ⟨w.heap.size + 1 + 1 + 1, 1, none⟩ = some (.int .i64 d2) ∧ W'.cell? ⟨w5.heap.size, j * 2, none⟩ = some (.int .i64 e1) ∧ W'.cell? ⟨w5.heap.size, j * 2 + 1, none⟩ = some (.int .i64 e2))) := hid fun W' B => by
              obtain ⟨ac0, ac1, bc0, bc1, cc0, cc1, dc0, dc1⟩ := K.out _ (HB.out.trans (B.mono HB.out.size))
              exact ⟨ac0, ac1, bc0, bc1, cc0, cc1, dc0, dc1, (B.cell (p := ⟨w5.heap.size, j * 2, none⟩) hl0).trans x0, (B.cell (p := ⟨w5.heap.size, j * 2 + 1, none⟩) hl0).trans x1⟩
            have K4 : Hid (∀ W' : World, Below wr.heap.size wr W' → (Below wr.heap.size wr W' ∧ W'.cell? ⟨w.heap.size, 0, none⟩ = some (.int .i64 a1) ∧ W'.cell? ⟨w.heap.size, 1, none⟩ = some (.int .i64 a2) ∧ W'.cell? ⟨w.heap.size + 1, 0, none⟩ = some (.int .i64 b1) ∧ W'.cell? ⟨w.heap.size + 1, 1, none⟩ = some (.int .i64 b2) ∧ W'.cell? ⟨w.heap.size + 1 + 1, 0, none⟩ = some (.int .i64 c1) ∧ W'.cell? ⟨w.heap.size + 1 + 1, 1, none⟩ = some (.int .i64 c2) ∧ W'.cell? ⟨w.heap.size + 1 + 1 + 1, 0, none⟩ = some (.int .i64 d1) ∧ W'.cell? ⟨w.heap.size + 1 + 1 + 1, 1, none⟩ = some (.int .i64 d2) ∧ W'.cell? ⟨w5.heap.size, j * 2, none⟩ = some (.int .i64 e1) ∧ W'.cell? ⟨w5.heap.size, j * 2 + 1, none⟩ = some (.int .i64 e2))) := hid fun W' B => ⟨B, K3.out _ B⟩
            clear tf hf he okE x0 x1
            go_upto_region 9 with fail
            cases f1
            · refine region_inv (by kernel_rfl) [SP.eq (.slice (some ⟨w5.heap.size, 0, none⟩) 4 4), SP.eq (.int .i64 (j : Int)), SP.eq (.pointer (some ⟨w5.heap.size, j * 2, none⟩)), SP.eq (.agg #[.int .i64 e1, .int .i64 e2]), SP.eq (.agg #[.int .i64 a1, .int .i64 a2]), SP.eq (.agg #[.int .i64 b1, .int .i64 b2]), SP.eq (.bool false), SP.eq (.bool false), SP.eq undef, SP.eq undef, SP.eq undef, SP.eq undef, SP.eq undef, SP.eq undef, SP.eq undef, SP.eq (.bool false)] (by kernel_rfl) ?_ ?_
              · intro i hi a w2 FR DP BW DW
                have hc : i = 0 ∨ i = 1 ∨ i = 2 ∨ i = 3 ∨ i = 4 ∨ i = 5 ∨ i = 6 ∨ i = 7 ∨ i = 8 ∨ i = 9 ∨ i = 10 ∨ i = 11 ∨ i = 12 ∨ i = 13 ∨ i = 14 ∨ i = 15 := by
                  have hi2 : i < 16 := hi
                  omega
                clear hi
                rcases hc with rfl | rfl | rfl | rfl | rfl | rfl | rfl | rfl | rfl | rfl | rfl | rfl | rfl | rfl | rfl | rfl
                · -- 0: Op.move (Operand.tmp 14)
                  have g14 : a.tmps[14]? = some _ := (FR 14 (by kernel_rfl)).trans rfl
                  refine wpOp_run rfl (wanted_none rfl) fun K2 hK => ?_
                  clear FR DP
                  go_simp
                  exact hK _ _ ⟨_, 56, rfl, rfl, KR.refl _ _, rfl⟩
                · -- 1: Op.move (Operand.tmp 15)
                  have g15 : a.tmps[15]? = some _ := (FR 15 (by kernel_rfl)).trans rfl
                  refine wpOp_run rfl (wanted_none rfl) fun K2 hK => ?_
                  clear FR DP
                  go_simp
                  exact hK _ _ ⟨_, 57, rfl, rfl, KR.refl _ _, rfl⟩
                · -- 2: Op.indexAddr 43 (Operand.tmp 56) (Operand.tmp 57)
                  obtain ⟨_, g56, rfl⟩ := DP 0 56 (by kernel_rfl) (by kernel_rfl)
                  obtain ⟨_, g57, rfl⟩ := DP 1 57 (by kernel_rfl) (by kernel_rfl)
                  refine wpOp_run rfl (wanted_none rfl) fun K2 hK => ?_
                  clear FR DP
                  go_simp
                  exact hK _ _ ⟨_, 58, rfl, rfl, KR.refl _ _, rfl⟩
                · -- 3: Op.load 23 (Operand.tmp 58)
                  obtain ⟨_, g58, rfl⟩ := DP 2 58 (by kernel_rfl) (by kernel_rfl)
                  obtain ⟨ac0, ac1, bc0, bc1, cc0, cc1, dc0, dc1, x0, x1⟩ := K3.out _ BW
                  refine wpOp_run rfl (wanted_none rfl) fun K2 hK => ?_
                  clear FR DP
                  go_simp
                  exact hK _ _ ⟨_, 59, rfl, rfl, KR.refl _ _, rfl⟩
                · -- 4: Op.load 23 (Operand.tmp 4)
                  have g4 : a.tmps[4]? = some _ := (FR 4 (by kernel_rfl)).trans rfl
                  obtain ⟨ac0, ac1, bc0, bc1, cc0, cc1, dc0, dc1, x0, x1⟩ := K3.out _ BW
                  refine wpOp_run rfl (wanted_none rfl) fun K2 hK => ?_
                  clear FR DP
                  go_simp
                  exact hK _ _ ⟨_, 60, rfl, rfl, KR.refl _ _, rfl⟩
                · -- 5: Op.load 23 (Operand.tmp 5)
                  have g5 : a.tmps[5]? = some _ := (FR 5 (by kernel_rfl)).trans rfl
                  obtain ⟨ac0, ac1, bc0, bc1, cc0, cc1, dc0, dc1, x0, x1⟩ := K3.out _ BW
                  refine wpOp_run rfl (wanted_none rfl) fun K2 hK => ?_
                  clear FR DP
                  go_simp
                  exact hK _ _ ⟨_, 61, rfl, rfl, KR.refl _ _, rfl⟩
                · -- 6: Op.call { callee := Callee.value (Operand.func 49), args := #[Operand.
                  obtain ⟨_, g59, rfl⟩ := DP 3 59 (by kernel_rfl) (by kernel_rfl)
                  obtain ⟨_, g60, rfl⟩ := DP 4 60 (by kernel_rfl) (by kernel_rfl)
                  obtain ⟨_, g61, rfl⟩ := DP 5 61 (by kernel_rfl) (by kernel_rfl)
                  refine wpOp_run rfl (wanted_none rfl) fun K2 hK => ?_
                  clear FR DP
                  go_simp
                  refine (k1 w2).mono ?_
                  rintro _ w3 ⟨rfl, hb, hd⟩
                  exact hK _ _ ⟨_, 62, rfl, rfl, KR.of BW.size hb hd, rfl⟩
                · -- 7: Op.move (Operand.tmp 62)
                  obtain ⟨_, g62, rfl⟩ := DP 6 62 (by kernel_rfl) (by kernel_rfl)
                  refine wpOp_run rfl (wanted_none rfl) fun K2 hK => ?_
                  clear FR DP
                  go_simp
                  exact hK _ _ ⟨_, 63, rfl, rfl, KR.refl _ _, rfl⟩
                · -- 8: Op.move (Operand.tmp 14)
                  obtain ⟨_, g63, rfl⟩ := DP 7 63 (by kernel_rfl) (by kernel_rfl)
                  refine wpOp_skip rfl (wanted_false rfl (by kernel_rfl) g63) fun K2 hK => ?_
                  exact hK _ _ ⟨_, 64, rfl, rfl, KR.refl _ _, rfl⟩
                · -- 9: Op.move (Operand.tmp 15)
                  obtain ⟨_, g63, rfl⟩ := DP 7 63 (by kernel_rfl) (by kernel_rfl)
                  refine wpOp_skip rfl (wanted_false rfl (by kernel_rfl) g63) fun K2 hK => ?_
                  exact hK _ _ ⟨_, 65, rfl, rfl, KR.refl _ _, rfl⟩
                · -- 10: Op.indexAddr 43 (Operand.tmp 64) (Operand.tmp 65)
                  obtain ⟨_, g63, rfl⟩ := DP 7 63 (by kernel_rfl) (by kernel_rfl)
                  refine wpOp_skip rfl (wanted_false rfl (by kernel_rfl) g63) fun K2 hK => ?_
                  exact hK _ _ ⟨_, 66, rfl, rfl, KR.refl _ _, rfl⟩
                · -- 11: Op.load 23 (Operand.tmp 66)
                  obtain ⟨_, g63, rfl⟩ := DP 7 63 (by kernel_rfl) (by kernel_rfl)
                  refine wpOp_skip rfl (wanted_false rfl (by kernel_rfl) g63) fun K2 hK => ?_
                  exact hK _ _ ⟨_, 67, rfl, rfl, KR.refl _ _, rfl⟩
                · -- 12: Op.load 23 (Operand.tmp 6)
                  obtain ⟨_, g63, rfl⟩ := DP 7 63 (by kernel_rfl) (by kernel_rfl)
                  refine wpOp_skip rfl (wanted_false rfl (by kernel_rfl) g63) fun K2 hK => ?_
                  exact hK _ _ ⟨_, 68, rfl, rfl, KR.refl _ _, rfl⟩
                · -- 13: Op.load 23 (Operand.tmp 7)
                  obtain ⟨_, g63, rfl⟩ := DP 7 63 (by kernel_rfl) (by kernel_rfl)
                  refine wpOp_skip rfl (wanted_false rfl (by kernel_rfl) g63) fun K2 hK => ?_
                  exact hK _ _ ⟨_, 69, rfl, rfl, KR.refl _ _, rfl⟩
                · -- 14: Op.call { callee := Callee.value (Operand.func 49), args := #[Operand.
                  obtain ⟨_, g63, rfl⟩ := DP 7 63 (by kernel_rfl) (by kernel_rfl)
                  refine wpOp_skip rfl (wanted_false rfl (by kernel_rfl) g63) fun K2 hK => ?_
                  exact hK _ _ ⟨_, 70, rfl, rfl, KR.refl _ _, rfl⟩
                · -- 15: Op.pick (Operand.tmp 63) (Operand.tmp 70) (Operand.const (Value.bool f
                  obtain ⟨_, g63, rfl⟩ := DP 7 63 (by kernel_rfl) (by kernel_rfl)
                  obtain ⟨_, g70, rfl⟩ := DP 14 70 (by kernel_rfl) (by kernel_rfl)
                  refine wpOp_run rfl (wanted_none rfl) fun K2 hK => ?_
                  clear FR DP
                  go_simp
                  exact hK _ _ ⟨_, 71, rfl, rfl, KR.refl _ _, rfl⟩
              · intro a w2 FR DP BW DW DF AZ
                obtain ⟨_, g71, rfl⟩ := DP 15 71 (by kernel_rfl)
                clear DP
                obtain ⟨xs, rfl⟩ := frame_xs [56, 57, 58, 59, 60, 61, 62, 63, 64, 65, 66, 67, 68, 69, 70, 71] (by kernel_rfl) FR AZ DF
                clear FR AZ DF
                have B9 := hid BW
                clear BW DW
                have x71 : xs 71 = .bool false := by simpa [List.foldl] using g71
                clear g71
                simp only [List.foldl, List.setIfInBounds_toArray, List.set_cons_succ, List.set_cons_zero, Exit.inBlock, Exit.then]
                go_at_K
                go_wp2_with fail
                go_roundw
                case rel =>
                  refine ⟨⟨j + 1, by go_num, by have := HL.out; omega, ?_⟩, HP.out.below B9.out, HB.out.trans (B9.out.mono HB.out.size), Nat.le_trans HG.out B9.out.size⟩
                  rw [TF.out, HFE.out]
                  simpa using HO.out.below B9.out
                case measure => exact smeas _ _ HL.out
            · obtain ⟨ac0, ac1, bc0, bc1, cc0, cc1, dc0, dc1, x0, x1⟩ := K3.out _ (Below.refl _ _)
              go_region_held3 (fun W' => Below wr.heap.size wr W' ∧ W'.cell? ⟨w.heap.size, 0, none⟩ = some (.int .i64 a1) ∧ W'.cell? ⟨w.heap.size, 1, none⟩ = some (.int .i64 a2) ∧ W'.cell? ⟨w.heap.size + 1, 0, none⟩ = some (.int .i64 b1) ∧ W'.cell? ⟨w.heap.size + 1, 1, none⟩ = some (.int .i64 b2) ∧ W'.cell? ⟨w.heap.size + 1 + 1, 0, none⟩ = some (.int .i64 c1) ∧ W'.cell? ⟨w.heap.size + 1 + 1, 1, none⟩ = some (.int .i64 c2) ∧ W'.cell? ⟨w.heap.size + 1 + 1 + 1, 0, none⟩ = some (.int .i64 d1) ∧ W'.cell? ⟨w.heap.size + 1 + 1 + 1, 1, none⟩ = some (.int .i64 d2) ∧ W'.cell? ⟨w5.heap.size, j * 2, none⟩ = some (.int .i64 e1) ∧ W'.cell? ⟨w5.heap.size, j * 2 + 1, none⟩ = some (.int .i64 e2)) ((exact K4.out _ (by repeat' (first | (with_reducible exact Below.refl _ _) | (with_reducible refine Below.alloc ?_ ?_ _) | (with_reducible refine Below.setCell ?_ ?_ _) | (with_reducible refine Below.drew ?_) | (with_reducible refine below_dn ?_ _) | (with_reducible refine Below.trans ?_ (Below.mono (by assumption) ?_)) | (simp; done) | (simp; omega) | omega))))
                (first | (go_at_call 49; (with_reducible refine (k1 _).mono ?_); rintro _ w7 ⟨rfl, hb, hd⟩; have hb7 : Below wr.heap.size wr w7 := (by repeat' (first | (with_reducible exact Below.refl _ _) | (with_reducible refine Below.alloc ?_ ?_ _) | (with_reducible refine Below.setCell ?_ ?_ _) | (with_reducible refine Below.drew ?_) | (with_reducible refine below_dn ?_ _) | (with_reducible refine Below.trans ?_ (Below.mono (by assumption) ?_)) | (simp; done) | (simp; omega) | omega)); have hz7 : wr.heap.size ≤ w7.heap.size := hb7.size; clear hb hd) | (go_at_call 49; (with_reducible refine (k2 _).mono ?_); rintro _ w7 ⟨rfl, hb, hd⟩; have hb7 : Below wr.heap.size wr w7 := (by repeat' (first | (with_reducible exact Below.refl _ _) | (with_reducible refine Below.alloc ?_ ?_ _) | (with_reducible refine Below.setCell ?_ ?_ _) | (with_reducible refine Below.drew ?_) | (with_reducible refine below_dn ?_ _) | (with_reducible refine Below.trans ?_ (Below.mono (by assumption) ?_)) | (simp; done) | (simp; omega) | omega)); have hz7 : wr.heap.size ≤ w7.heap.size := hb7.size; clear hb hd))
              all_goals
                have B9 := hid hb7
                try clear ac0 ac1 bc0 bc1 cc0 cc1 dc0 dc1 x0 x1
                clear hb7 hz7
                simp only [Exit.inBlock, Exit.then]
                cases f2
                · go_at_K
                  go_wp2_with fail
                  go_roundw
                  case rel =>
                    refine ⟨⟨j + 1, by go_num, by have := HL.out; omega, ?_⟩, HP.out.below B9.out, HB.out.trans (B9.out.mono HB.out.size), Nat.le_trans HG.out B9.out.size⟩
                    rw [TF.out, HFE.out]
                    simpa using HO.out.below B9.out
                  case measure => exact smeas _ _ HL.out
                · obtain ⟨ac0, ac1, bc0, bc1, cc0, cc1, dc0, dc1, x0, x1⟩ := K3.out _ B9.out
                  have LE : Hid (((l.take j).filter f).length ≤ 1000) := hid (Nat.le_trans (List.length_filter_le _ _) (Nat.le_trans (List.length_take_le _ _) (by omega)))
                  have gb7 : w5.heap.size + 1 ≤ (w7.alloc (Obj.cells #[.int .i64 (e1), .int .i64 (e2)] 23)).heap.size := by have h1 := HG.out; have h2 := B9.out.size; simp; omega
                  go_at_K
                  go_wp2_with (at_builtin; refine appP rfl _ _ rfl (w5.heap.size + 1) _ ((l.take j).filter f) rfl ((HO.out.below B9.out).below ((Below.refl _ _).alloc (Nat.le_refl _) _)) w7.heap.size rfl e1 e2 (by simp [go_sem]) (by simp [go_sem]) LE gb7 ?_; intro v8 w8 how hgr)
                  have HOW := hid how
                  have GR := hid hgr
                  have OL := hid (own_lt HO.out (g := wr.heap.size))
                  go_roundw
                  case rel =>
                    have gr := GR.out
                    have ba := (Below.refl w7.heap.size w7).alloc (Nat.le_refl _) (Obj.cells #[.int .i64 (e1), .int .i64 (e2)] 23)
                    have bal := B9.out.trans (ba.mono B9.out.size)
                    have keep : ∀ k, k < w5.heap.size + 1 → w8.heap[k]? = wr.heap[k]? := fun k hk => by
                      have h1 := HG.out
                      have h2 := bal.size
                      refine (gr.block k (by omega) (fun c => ?_)).trans (bal.block k (by omega))
                      have := own_lt HO.out c.symm
                      omega
                    refine ⟨⟨j + 1, by go_num, by have := HL.out; omega, ?_⟩, pts_block HP.out (keep _ (Nat.lt_succ_self _)) (Nat.le_trans bal.size gr.size), ?_, Nat.le_trans HG.out (Nat.le_trans bal.size gr.size)⟩
                    · rw [TF.out, HFE.out]
                      simpa using HOW.out
                    · refine ⟨gr.os.trans (bal.os.trans HB.out.os), gr.tape.trans (bal.tape.trans HB.out.tape), gr.output.trans (bal.output.trans HB.out.output), Nat.le_trans HB.out.size (Nat.le_trans bal.size gr.size), fun k hk => ?_⟩
                      exact (keep k (by have := B0.out.size; omega)).trans (HB.out.block k hk)
                  case measure => exact smeas _ _ HL.out
          · have hjl : j = l.length := by omega
            have i1 : ¬ ((j : Nat) : Int) < 4 := by omega
            obtain ⟨L0, hL0⟩ : ∃ L, (l.take j).filter f = L := ⟨_, rfl⟩
            have hle : L0.length ≤ 4 := by rw [← hL0]; exact Nat.le_trans (List.length_filter_le _ _) (Nat.le_trans (List.length_take_le _ _) (by omega))
            have PKH := PK.out
            have hLf : l.filter f = L0 := by rw [← hL0, hjl, List.take_length]
            rw [hLf] at PKH
            rw [hL0] at hcp PTH HO ⊢
            have PT1 := PTH.out
            have BN := hid (BV.out.trans (HB.out.mono BV.out.size))
            clear hL0 hLf hjl
            cases L0 with
            | nil =>
              have hR : R = 0 := PKH.symm
              subst hR
              have z0 : (([] : List Sp.Pt).length : Int) = 0 := rfl
              clear PTH HO
              go_wp2_with fail
              go_ret
              exact Gives.mk rfl BN.out
            | cons p r =>
              have len0 : ¬ (((p :: r).length : Nat) : Int) = 0 := by simp; omega
              have len4 : (((p :: r).length : Nat) : Int) ≤ 4 := by omega
              obtain ⟨LL, hLL⟩ : ∃ L, p :: r = L := ⟨_, rfl⟩
              have HLL := hid hLL
              rw [hLL] at PKH hle PT1 hcp len0 len4 ⊢
              have l1 : 1 ≤ LL.length := by rw [← hLL]; simp
              have PKL := hid PKH
              have PTL := hid PT1
              clear PKH PT1 PTH HO hLL hle
              go_wp2_with fail
              go_loopw [16] (fun t wx => AllRel wr LL p t wx) (fun t _ => LL.length - (intOf t).toNat)
              case atStart => exact ⟨1, rfl, Nat.le_refl _, l1, by rw [← HLL.out]; simp, Below.refl _ _⟩
              case round =>
                obtain ⟨i, rfl, hi1, hi, hall, hBx⟩ := hrel
                have HA := hid hall
                have HX := hid hBx
                clear hall hBx
                by_cases hlt : i < LL.length
                · obtain ⟨b, off, rfl, bl, q0, q1⟩ := PTL.out.at_ HX.out hlt
                  obtain ⟨b', off', hA', bl', p0, p1⟩ := PTL.out.at_ HX.out (j := 0) (by omega)
                  injection hA' with hA'
                  injection hA' with h1 h2 h3
                  subst h1 h2
                  obtain ⟨q, hq⟩ : ∃ q, LL[i]'hlt = q := ⟨_, rfl⟩
                  have hp0 : LL[0]'(by omega) = p := by simp [← HLL.out]
                  rw [hq] at q0 q1
                  rw [hp0] at p0 p1
                  have hmem := List.getElem_mem hlt
                  rw [hq] at hmem
                  have htk : LL.take (i + 1) = LL.take i ++ [q] := by rw [List.take_add_one, List.getElem?_eq_getElem hlt, hq]; rfl
                  obtain ⟨g1, g2⟩ := q
                  obtain ⟨h1, h2⟩ := p
                  dsimp only at q0 q1 p0 p1
                  have i0 : (0 : Int) ≤ (i : Int) := by omega
                  have i2 : (i : Int) < (LL.length : Int) := by omega
                  have i3 : (0 : Int) < (LL.length : Int) := by omega
                  have HLT := hid hlt
                  have HTK := hid htk
                  have HM := hid hmem
                  simp only [Nat.zero_mul, Nat.add_zero] at p0 p1
                  clear hq hp0 htk hmem hlt
                  by_cases y8 : g1 = h1
                  · subst y8
                    by_cases y9 : g2 = h2
                    · subst y9
                      go_wp2_with fail
                      go_region
                      all_goals
                        simp only [Exit.inBlock, Exit.then]
                        go_at_K
                        go_wp2_with fail
                        go_roundw
                        case rel => exact ⟨i + 1, by go_num, by omega, HLT.out, by rw [HTK.out, List.all_append, HA.out]; simp, HX.out.drew⟩
                        case measure => exact smeas _ _ HLT.out
                    · have nz : R = 3 := by
                        have h := PKL.out
                        rw [← HLL.out] at h
                        have c : ¬ r.all (fun q => decide (q = (g1, h2))) = true := fun c => by
                          have hm := HM.out
                          rw [← HLL.out] at hm
                          rcases List.mem_cons.1 hm with e | e
                          · exact y9 (Prod.mk.inj e).2
                          · have := List.all_eq_true.1 c _ e
                            simp at this
                            exact y9 this
                        have h2 : Sp.pk 0 1 3 ((g1, h2) :: r) = 3 := by show (if _ then (1 : Int) else 3) = 3; rw [if_neg c]
                        rw [← h, h2]
                      subst nz
                      go_wp2_with fail
                      go_region
                      all_goals
                        simp only [Exit.inBlock, Exit.then]
                        go_at_K
                        go_wp2_with fail
                        go_ret
                        exact Gives.mk rfl (BN.out.trans ((HX.out.drew).mono BN.out.size))
                  · have nz : R = 3 := by
                      have h := PKL.out
                      rw [← HLL.out] at h
                      have c : ¬ r.all (fun q => decide (q = (h1, h2))) = true := fun c => by
                        have hm := HM.out
                        rw [← HLL.out] at hm
                        rcases List.mem_cons.1 hm with e | e
                        · exact y8 (Prod.mk.inj e).1
                        · have := List.all_eq_true.1 c _ e
                          simp at this
                          exact y8 this.1
                      have h2' : Sp.pk 0 1 3 ((h1, h2) :: r) = 3 := by show (if _ then (1 : Int) else 3) = 3; rw [if_neg c]
                      rw [← h, h2']
                    subst nz
                    go_wp2_with fail
                    go_region
                    all_goals
                      simp only [Exit.inBlock, Exit.then]
                      go_at_K
                      go_wp2_with fail
                      go_ret
                      exact Gives.mk rfl (BN.out.trans ((HX.out.drew).mono BN.out.size))
                · have i2 : ¬ (i : Int) < (LL.length : Int) := by omega
                  have hR : R = 1 := by
                    have h := PKL.out
                    have ha := HA.out
                    rw [show i = LL.length by omega, List.take_length] at ha
                    rw [← HLL.out] at h ha
                    rw [List.all_cons, Bool.and_eq_true] at ha
                    have h2 : Sp.pk 0 1 3 (p :: r) = 1 := by show (if _ then (1 : Int) else 3) = 1; rw [if_pos ha.2]
                    rw [← h, h2]
                  subst hR
                  go_wp2_with fail
                  go_ret
                  exact Gives.mk rfl (BN.out.trans (HX.out.mono BN.out.size))

end Go.Proofs.Ytfdnmlggemonhaa
