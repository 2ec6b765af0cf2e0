/-
  Layer 6: appendDatum and Encode of package codec, by contract.
-/
import Derived.Test.YtcjhgihkofmhgaaCxd
namespace Go.Proofs.Ytcjhgihkofmhgaa
open Go.RowKit
set_option linter.unusedVariables false
set_option linter.unusedSimpArgs false

theorem OwnB.not_below {w : World} {base : Nat} {v : Value} {L : List UInt8} (h : OwnB w base v L) {b : Nat} (hb : b < base) : some b ≠ v.ownBlock := fun e => by have := (h.base_le e.symm).1; omega
theorem OwnB.not_new {w : World} {base : Nat} {v : Value} {L : List UInt8} (h : OwnB w base v L) {b : Nat} (hb : w.heap.size ≤ b) : some b ≠ v.ownBlock := fun e => by have := (h.base_le e.symm).2; omega
theorem kind_byte {k : Int} (h : (1 : Int) ≤ k ∧ k ≤ 3) : ((UInt8.ofNat k.toNat).toNat : Int) = k := by rw [UInt8.toNat_ofNat']; omega
/-- What an appending call leaves. -/
def PostA (base : Nat) (v : Value) (M : List UInt8) (w : World) (e : Ending) (w' : World) : Prop := ∃ v', e = .returned v' ∧ OwnB w' base v' M ∧ Ow w w' v.ownBlock v'.ownBlock
set_option maxRecDepth 100000 in
set_option maxHeartbeats 2000000 in
theorem adatum_int (base : Nat) (vv : Value) (L : List UInt8) (hL : L.length ≤ 10000) (n : Int) (hn0 : -9223372036854775808 ≤ n) (hn1 : n ≤ 9223372036854775807) (s : ByteArray) (A : Option Addr) (m cap : Nat) (w : World) (hb : base ≤ w.heap.size) (hv : OwnB w base vv L) :
    Calls Try.prog 42 #[vv, .agg #[.int .i64 1, .int .i64 n, .string s, .slice A m cap]] w (PostA base vv (L ++ 1 :: Sp.putS n) w) := by
  have HL : Hid (L.length + 1 ≤ 140737488355328) := by show L.length + 1 ≤ 140737488355328; omega
  have HV := hid (hv.alloc (Obj.cells #[.int .i64 1, .int .i64 n, .string s, .slice A m cap] 34))
  have HNB := hid (hv.not_new (Nat.le_refl w.heap.size))
  have AP := hid (fun v (W : World) h1 h2 => appendInt_any base v (L ++ [1]) n hn0 hn1 (by simp; omega) W h1 h2)
  clear hL hv hn0 hn1
  go_enter Try.func42, Try.ntmps42
  go_wp2_with (first | (at_builtin; refine app1 rfl _ _ rfl base _ L rfl (HV.out.alloc _) (w.heap.size + 1) rfl (1 : UInt8) (by simp [go_sem]) HL (by simp; omega) ?_; intro v3 w3 how3 hO3; have z3 : w.heap.size < w3.heap.size := Nat.lt_of_lt_of_le (by simp; omega) hO3.size; have b0 : w3.cell? ⟨w.heap.size, 0, none⟩ = some (.int .i64 1) := (hO3.cell (a := ⟨w.heap.size, 0, none⟩) (by simp; omega) HNB.out).trans (by simp [go_sem]); have b1 : w3.cell? ⟨w.heap.size, 1, none⟩ = some (.int .i64 n) := (hO3.cell (a := ⟨w.heap.size, 1, none⟩) (by simp; omega) HNB.out).trans (by simp [go_sem]); have b2 : w3.cell? ⟨w.heap.size, 2, none⟩ = some (.string s) := (hO3.cell (a := ⟨w.heap.size, 2, none⟩) (by simp; omega) HNB.out).trans (by simp [go_sem]); have b3 : w3.cell? ⟨w.heap.size, 3, none⟩ = some (.slice A m cap) := (hO3.cell (a := ⟨w.heap.size, 3, none⟩) (by simp; omega) HNB.out).trans (by simp [go_sem]); have O3 : Ow w w3 vv.ownBlock v3.ownBlock := (((Ow.refl w _).alloc _).alloc _).trans hO3; have hs3 := hO3.size; have B3 : base ≤ w3.heap.size := (by simp at hs3; omega); have nb3 : some w.heap.size ≠ v3.ownBlock := (fun e => by rcases hO3.2 with h | h; exact HNB.out (e.trans h); exact absurd (h _ e.symm) (by simp; omega)); have HO3 := hid O3; have HN3 := hid nb3; have HW3 := hid how3; clear hO3 O3 how3 hs3 nb3) | (go_at_call 39; refine (AP.out _ _ B3 HW3.out).mono ?_; rintro e w4 ⟨v4, rfl, how4, hO4⟩; have HO4 := hid hO4; have HW4 := hid how4; clear hO4 how4))
  go_ret
  exact ⟨v4, rfl, by simpa using HW4.out, HO3.out.trans HO4.out⟩
set_option maxRecDepth 100000 in
set_option maxHeartbeats 2000000 in
theorem adatum_text (base : Nat) (vv : Value) (L : List UInt8) (hL : L.length ≤ 10000) (n : Int) (s : ByteArray) (hs : s.size ≤ 10000) (A : Option Addr) (m cap : Nat) (w : World) (hb : base ≤ w.heap.size) (hv : OwnB w base vv L) :
    Calls Try.prog 42 #[vv, .agg #[.int .i64 2, .int .i64 n, .string s, .slice A m cap]] w (PostA base vv (L ++ 2 :: (Sp.putS s.size ++ s.data.toList)) w) := by
  have HL : Hid (L.length + 1 ≤ 140737488355328) := by show L.length + 1 ≤ 140737488355328; omega
  have HV := hid (hv.alloc (Obj.cells #[.int .i64 2, .int .i64 n, .string s, .slice A m cap] 34))
  have HNB := hid (hv.not_new (Nat.le_refl w.heap.size))
  have AP := hid (fun v (W : World) h1 h2 => appendText_any base v (L ++ [2]) s (by simp; omega) W h1 h2)
  clear hL hv hs
  go_enter Try.func42, Try.ntmps42
  go_wp2_with (first | (at_builtin; refine app1 rfl _ _ rfl base _ L rfl (HV.out.alloc _) (w.heap.size + 1) rfl (2 : UInt8) (by simp [go_sem]) HL (by simp; omega) ?_; intro v3 w3 how3 hO3; have z3 : w.heap.size < w3.heap.size := Nat.lt_of_lt_of_le (by simp; omega) hO3.size; have b0 : w3.cell? ⟨w.heap.size, 0, none⟩ = some (.int .i64 2) := (hO3.cell (a := ⟨w.heap.size, 0, none⟩) (by simp; omega) HNB.out).trans (by simp [go_sem]); have b1 : w3.cell? ⟨w.heap.size, 1, none⟩ = some (.int .i64 n) := (hO3.cell (a := ⟨w.heap.size, 1, none⟩) (by simp; omega) HNB.out).trans (by simp [go_sem]); have b2 : w3.cell? ⟨w.heap.size, 2, none⟩ = some (.string s) := (hO3.cell (a := ⟨w.heap.size, 2, none⟩) (by simp; omega) HNB.out).trans (by simp [go_sem]); have b3 : w3.cell? ⟨w.heap.size, 3, none⟩ = some (.slice A m cap) := (hO3.cell (a := ⟨w.heap.size, 3, none⟩) (by simp; omega) HNB.out).trans (by simp [go_sem]); have O3 : Ow w w3 vv.ownBlock v3.ownBlock := (((Ow.refl w _).alloc _).alloc _).trans hO3; have hs3 := hO3.size; have B3 : base ≤ w3.heap.size := (by simp at hs3; omega); have nb3 : some w.heap.size ≠ v3.ownBlock := (fun e => by rcases hO3.2 with h | h; exact HNB.out (e.trans h); exact absurd (h _ e.symm) (by simp; omega)); have HO3 := hid O3; have HN3 := hid nb3; have HW3 := hid how3; clear hO3 O3 how3 hs3 nb3) | (go_at_call 40; refine (AP.out _ _ B3 HW3.out).mono ?_; rintro e w4 ⟨v4, rfl, how4, hO4⟩; have HO4 := hid hO4; have HW4 := hid how4; clear hO4 how4))
  go_ret
  exact ⟨v4, rfl, by simpa using HW4.out, HO3.out.trans HO4.out⟩
theorem flat_step {α : Type} {f : α → List UInt8} {l : List α} {j : Nat} (h : j < l.length) : ((l.take (j + 1)).map f).flatten = ((l.take j).map f).flatten ++ f (l[j]'h) := by
  rw [List.take_succ_eq_append_getElem h, List.map_append, List.flatten_append, List.map_singleton, List.flatten_cons, List.flatten_nil, List.append_nil]
/-- The head of a round over the list. -/
def AL (base : Nat) (vv : Value) (M : List UInt8) {d : Nat} (l : List (Sp.Tr d)) (w : World) (b t : Value) (wr : World) : Prop :=
  ∃ k : Nat, t = .int .i64 (k : Int) ∧ k ≤ l.length ∧ OwnB wr base b (M ++ ((l.take k).map (Sp.encT d)).flatten) ∧ Ow w wr vv.ownBlock b.ownBlock
set_option maxRecDepth 100000 in
set_option maxHeartbeats 4000000 in
theorem adatum_list {d : Nat} (P : Nat → Prop) (l : List (Sp.Tr d)) (base : Nat) (hPb : ∀ b, P b → b < base) (vv : Value) (L : List UInt8) (n : Int) (s : ByteArray) (A : Option Addr) (cap : Nat)
    (hL : (L ++ 3 :: (Sp.putS l.length ++ (l.map (Sp.encT d)).flatten)).length ≤ 10000) (hm : l.length ≤ 10000) (w : World) (hb : base ≤ w.heap.size) (hv : OwnB w base vv L)
    (hel : 0 < l.length → ∃ b off, A = some ⟨b, off, none⟩ ∧ P b ∧ ∀ j, (hj : j < l.length) → ∃ c0 c1 c2 c3 : Value,
        w.cell? ⟨b, off + j * 4, none⟩ = some c0 ∧ w.cell? ⟨b, off + j * 4 + 1, none⟩ = some c1 ∧ w.cell? ⟨b, off + j * 4 + 2, none⟩ = some c2 ∧ w.cell? ⟨b, off + j * 4 + 3, none⟩ = some c3 ∧
        Lies w P d (l[j]) (.agg #[c0, c1, c2, c3]))
    (ih : ∀ (u : Sp.Tr d) (v vv : Value) (L : List UInt8) (W : World), u ∈ l → Lies W P d u v → base ≤ W.heap.size → OwnB W base vv L → (L ++ Sp.encT d u).length ≤ 10000 →
      Calls Try.prog 42 #[vv, v] W (PostA base vv (L ++ Sp.encT d u) W)) :
    Calls Try.prog 42 #[vv, .agg #[.int .i64 3, .int .i64 n, .string s, .slice A l.length cap]] w (PostA base vv (L ++ 3 :: (Sp.putS l.length ++ (l.map (Sp.encT d)).flatten)) w) := by
  have hLL : L.length + 1 ≤ 10000 := by simp at hL; omega
  have HL : Hid (L.length + 1 ≤ 140737488355328) := by show L.length + 1 ≤ 140737488355328; omega
  have HV := hid (hv.alloc (Obj.cells #[.int .i64 3, .int .i64 n, .string s, .slice A l.length cap] 34))
  have HNB := hid (hv.not_new (Nat.le_refl w.heap.size))
  have AP := hid (fun v (W : World) h1 h2 => appendInt_any base v (L ++ [3]) (l.length : Int) (by omega) (by omega) (by simp; omega) W h1 h2)
  have HEL := hid hel
  have IH := hid ih
  have HLN : Hid (∀ k, (h : k < l.length) → ((L ++ [3] ++ Sp.putS l.length ++ ((l.take k).map (Sp.encT d)).flatten) ++ Sp.encT d (l[k]'h)).length ≤ 10000) := hid fun k h => by
    have e : l = l.take k ++ (l[k]'h :: l.drop (k + 1)) := by rw [← List.drop_eq_getElem_cons h, List.take_append_drop]
    have e2 : ((l.map (Sp.encT d)).flatten).length = (((l.take k).map (Sp.encT d)).flatten).length + (Sp.encT d (l[k]'h)).length + (((l.drop (k + 1)).map (Sp.encT d)).flatten).length := by
      conv => lhs; rw [e]
      simp only [List.map_append, List.map_cons, List.flatten_append, List.flatten_cons, List.length_append]
      omega
    simp only [List.length_append, List.length_cons, List.length_nil] at hL ⊢
    omega
  clear hL hv hel ih hLL
  go_enter Try.func42, Try.ntmps42
  go_wp2_with (first | (at_builtin; refine app1 rfl _ _ rfl base _ L rfl (HV.out.alloc _) (w.heap.size + 1) rfl (3 : UInt8) (by simp [go_sem]) HL (by simp; omega) ?_; intro v3 w3 how3 hO3; have z3 : w.heap.size < w3.heap.size := Nat.lt_of_lt_of_le (by simp; omega) hO3.size; have b0 : w3.cell? ⟨w.heap.size, 0, none⟩ = some (.int .i64 3) := (hO3.cell (a := ⟨w.heap.size, 0, none⟩) (by simp; omega) HNB.out).trans (by simp [go_sem]); have b1 : w3.cell? ⟨w.heap.size, 1, none⟩ = some (.int .i64 n) := (hO3.cell (a := ⟨w.heap.size, 1, none⟩) (by simp; omega) HNB.out).trans (by simp [go_sem]); have b2 : w3.cell? ⟨w.heap.size, 2, none⟩ = some (.string s) := (hO3.cell (a := ⟨w.heap.size, 2, none⟩) (by simp; omega) HNB.out).trans (by simp [go_sem]); have b3 : w3.cell? ⟨w.heap.size, 3, none⟩ = some (.slice A l.length cap) := (hO3.cell (a := ⟨w.heap.size, 3, none⟩) (by simp; omega) HNB.out).trans (by simp [go_sem]); have O3 : Ow w w3 vv.ownBlock v3.ownBlock := (((Ow.refl w _).alloc _).alloc _).trans hO3; have hs3 := hO3.size; have B3 : base ≤ w3.heap.size := (by simp at hs3; omega); have nb3 : some w.heap.size ≠ v3.ownBlock := (fun e => by rcases hO3.2 with h | h; exact HNB.out (e.trans h); exact absurd (h _ e.symm) (by simp; omega)); have HO3 := hid O3; have HN3 := hid nb3; have HW3 := hid how3; clear hO3 O3 how3 hs3 nb3) | (go_at_call 39; refine (AP.out _ _ B3 HW3.out).mono ?_; rintro e w4 ⟨v4, rfl, how4, hO4⟩; have c3 : w4.cell? ⟨w.heap.size, 3, none⟩ = some (.slice A l.length cap) := (hO4.cell (a := ⟨w.heap.size, 3, none⟩) z3 HN3.out).trans b3; have O4 := HO3.out.trans hO4; have HO4 := hid O4; have HW4 := hid how4; have hs4 := hO4.size; clear hO4 how4 O4))
  go_loopw [0, 35] (fun b t wr => AL base vv (L ++ [3] ++ Sp.putS l.length) l w b t wr) (fun _ t _ => l.length - (intOf t).toNat)
  case atStart => exact ⟨0, rfl, Nat.zero_le _, by simpa using HW4.out, HO4.out⟩
  case round =>
    obtain ⟨j, rfl, hj, how, hO⟩ := hrel
    have hszr := hO.size
    have HWR := hid how
    have HOR := hid hO
    clear how hO
    by_cases hlt : j < l.length
    · obtain ⟨b, off, rfl, hPb', hcs⟩ := HEL.out (by omega)
      obtain ⟨c0, c1, c2, c3', h0, h1, h2, h3, hLj⟩ := hcs j hlt
      have hbb := hPb b hPb'
      have hne : some b ≠ vv.ownBlock := HV.out.not_below hbb
      have hbw : b < w.heap.size := World.block_lt_of_cell? w _ h0
      have hbr : b < wr.heap.size := by omega
      have hh := HOR.out.block hbw hne
      obtain ⟨k', n', s', A', m', cap', hv⟩ := hLj.form
      injection hv with hv
      simp only [Array.mk.injEq, List.cons.injEq, and_true] at hv
      obtain ⟨rfl, rfl, rfl, rfl⟩ := hv
      have q0 := (World.cell?_of_block (a := ⟨b, off + j * 4, none⟩) hh).trans h0
      have q1 := (World.cell?_of_block (a := ⟨b, off + j * 4 + 1, none⟩) hh).trans h1
      have q2 := (World.cell?_of_block (a := ⟨b, off + j * 4 + 2, none⟩) hh).trans h2
      have q3 := (World.cell?_of_block (a := ⟨b, off + j * 4 + 3, none⟩) hh).trans h3
      have hLr := hid (hLj.ow HOR.out (fun b' hb' => HV.out.not_below (hPb b' hb')))
      have CALL := hid (fun (v : Value) (W : World) (a1 : Lies W P d (l[j]'hlt) (.agg #[.int .i64 k', .int .i64 n', .string s', .slice A' m' cap'])) (a2 : base ≤ W.heap.size) (a3 : OwnB W base v (L ++ [3] ++ Sp.putS l.length ++ ((l.take j).map (Sp.encT d)).flatten)) => IH.out (l[j]'hlt) _ v _ W (List.getElem_mem hlt) a1 a2 a3 (HLN.out j hlt))
      clear h0 h1 h2 h3 hLj hcs hh hne
      go_wp2_with (go_at_call 42; refine (CALL.out _ _ (hLr.out.below (by repeat' (first | (with_reducible exact Below.refl _ _) | (with_reducible refine Below.alloc ?_ ?_ _) | (with_reducible refine Below.setCell ?_ ?_ _) | (with_reducible refine Below.drew ?_) | (with_reducible refine below_dn ?_ _) | (with_reducible refine Below.trans ?_ (Below.mono (by assumption) ?_)) | (simp; done) | (simp; omega) | omega))) (by simp; omega) (HWR.out.alloc _)).mono ?_; rintro e w7 ⟨v7, rfl, how7, hO7⟩; have HW7 := hid how7; have HO7 := hid hO7; clear how7 hO7)
      go_roundw
      case rel =>
        refine ⟨j + 1, by go_num, by omega, ?_, (HOR.out.alloc _).trans HO7.out⟩
        rw [flat_step hlt, ← List.append_assoc]
        exact HW7.out
      case measure => simp [intOf]; omega
    · go_wp2_with fail
      go_ret
      refine ⟨_, rfl, ?_, HOR.out⟩
      have h2 := HWR.out
      rw [List.take_of_length_le (by omega)] at h2
      simpa using h2
theorem list_zero {k : Int} {α : Type} {l : List α} (h : k = 3 ∨ l = []) (hk : k ≠ 3) : l.length = 0 := by
  rcases h with h | h
  · exact absurd h hk
  · rw [h]; rfl
theorem adatum_any {P : Nat → Prop} {base : Nat} (hPb : ∀ b, P b → b < base) : ∀ (d : Nat) (t : Sp.Tr d) (i c z : Nat) (v vv : Value) (L : List UInt8) (w : World), (Sp.chkT d t i c z).1 = 0 → Lies w P d t v → base ≤ w.heap.size → OwnB w base vv L →
    (L ++ Sp.encT d t).length ≤ 10000 → Calls Try.prog 42 #[vv, v] w (PostA base vv (L ++ Sp.encT d t) w)
  | 0, t, i, c, z, v, vv, L, w, _, hL, _, _, _ => nomatch hL
  | d + 1, t, i, c, z, v, vv, L, w, hc, hL, hb, hv, hlen => by
    obtain ⟨k, f, hi, hcc, he⟩ := Sp.kinds hc
    obtain ⟨s, A, cap, rfl, hs, ⟨⟨k0, k1⟩, ⟨n0, n1⟩, s1, m1, mc⟩, hel⟩ := hL
    rw [he] at hc
    rcases Sp.three k f with ⟨n, rfl⟩ | ⟨x, rfl⟩ | ⟨l, rfl⟩
    · rw [Sp.enc1] at hlen ⊢
      exact adatum_int base vv L (by simp at hlen; omega) n n0 n1 s A _ cap w hb hv
    · rw [Sp.enc2] at hlen ⊢
      simp only at hs
      subst hs
      rw [← size_list] at hlen ⊢
      exact adatum_text base vv L (by simp at hlen; omega) 0 s (by simp at hlen; rw [size_list]; simp; omega) A _ cap w hb hv
    · rw [Sp.enc3] at hlen ⊢
      simp only at hel hc
      have cnt := Sp.loop_count l _ _ hc
      refine adatum_list P l base hPb vv L 0 s A cap hlen (by simp only [List.length_append, List.length_cons] at hlen; omega) w hb hv hel ?_
      intro u v vv L W hu h1 h2 h3 h4
      obtain ⟨c', z', h5⟩ := cnt.2 u hu
      exact adatum_any hPb d u (i + 1) c' z' v vv L W h5 h1 h2 h3 h4
set_option maxRecDepth 100000 in
set_option maxHeartbeats 1000000 in
theorem encode_bad (d : Nat) (t : Sp.Tr d) (v : Value) (e : Int) (he : Sp.checkS d t = e) (e0 : e ≠ 0) (w : World) (hL : Lies w (· < w.heap.size) d t v) :
    Calls Try.prog 22 #[v] w (Gives (.tuple #[.slice none 0 0, .int .i64 e]) w) := by
  obtain ⟨k, n, s, A, m, cap, rfl⟩ := hL.form
  have hL2 := (hL.below ((Below.refl _ _).alloc (Nat.le_refl _) (Obj.cells #[.int .i64 k, .int .i64 n, .string s, .slice A m cap] 34))).weak (Q := fun b => b < (w.alloc (Obj.cells #[.int .i64 k, .int .i64 n, .string s, .slice A m cap] 34)).heap.size) (fun b _ h => h)
  have ck := check_any d t _ _ hL2
  rw [he] at ck
  have e2 : (e != 0) = true := by simpa using e0
  clear he hL hL2 e0
  go_enter Try.func22, Try.ntmps22
  go_wp2_with (go_at_call 24; refine ck.mono ?_; rintro e w7 ⟨rfl, hb⟩)
  go_ret2
  exact Gives.mk rfl (by repeat' (first | (with_reducible exact Below.refl _ _) | (with_reducible refine Below.alloc ?_ ?_ _) | (with_reducible refine Below.setCell ?_ ?_ _) | (with_reducible refine Below.drew ?_) | (with_reducible refine Below.trans ?_ (Below.mono (by assumption) ?_)) | (simp; done) | (simp; omega) | omega))
theorem check_ok {d : Nat} {t : Sp.Tr d} (h : Sp.checkS d t = 0) : (Sp.chkT d t 0 0 0).1 = 0 ∧ (Sp.encT d t).length ≤ 4000 := by
  unfold Sp.checkS at h
  by_cases c : (Sp.chkT d t 0 0 0).1 = 0
  · rw [if_neg (by simpa using c)] at h
    have hs := Sp.chkT_size d t 0 0 0 c
    refine ⟨c, ?_⟩
    by_cases c2 : 4000 < (Sp.chkT d t 0 0 0).2.2
    · rw [if_pos c2] at h; simp at h
    · omega
  · rw [if_pos c] at h
    exact absurd h c
set_option maxRecDepth 100000 in
set_option maxHeartbeats 1000000 in
theorem encode_good (d : Nat) (t : Sp.Tr d) (v : Value) (he : Sp.checkS d t = 0) (w : World) (hL : Lies w (· < w.heap.size) d t v) :
    Calls Try.prog 22 #[v] w fun e w' => ∃ v', e = .returned (.tuple #[v', .int .i64 0]) ∧ OwnB w' w.heap.size v' (Sp.encT d t) ∧ Below w.heap.size w w' := by
  obtain ⟨k, n, s, A, m, cap, rfl⟩ := hL.form
  have hL1 := hL.below ((Below.refl _ _).alloc (Nat.le_refl _) (Obj.cells #[.int .i64 k, .int .i64 n, .string s, .slice A m cap] 34))
  have hL2 := hL1.weak (Q := fun b => b < (w.alloc (Obj.cells #[.int .i64 k, .int .i64 n, .string s, .slice A m cap] 34)).heap.size) (fun b _ h => h)
  have ck := check_any d t _ _ hL2
  rw [he] at ck
  obtain ⟨h1, h2⟩ := check_ok he
  have AD := hid (fun (W : World) (a1 : Lies W (· < w.heap.size) d t (.agg #[.int .i64 k, .int .i64 n, .string s, .slice A m cap])) (a2 : w.heap.size ≤ W.heap.size) => adatum_any (P := (· < w.heap.size)) (base := w.heap.size) (fun b h => h) d t 0 0 0 _ (.slice none 0 0) [] W h1 a1 a2 (OwnB.nil _ _) (by simpa using (by omega)))
  have HL := hid hL1
  clear he hL hL1 hL2 h1 h2
  go_enter Try.func22, Try.ntmps22
  go_wp2_with (first | (go_at_call 24; refine ck.mono ?_; rintro e w7 ⟨rfl, hb⟩; have x0 : w7.cell? ⟨w.heap.size, 0, none⟩ = some (.int .i64 k) := (hb.cell (p := ⟨w.heap.size, 0, none⟩) (by simp)).trans (by simp [go_sem]); have x1 : w7.cell? ⟨w.heap.size, 1, none⟩ = some (.int .i64 n) := (hb.cell (p := ⟨w.heap.size, 1, none⟩) (by simp)).trans (by simp [go_sem]); have x2 : w7.cell? ⟨w.heap.size, 2, none⟩ = some (.string s) := (hb.cell (p := ⟨w.heap.size, 2, none⟩) (by simp)).trans (by simp [go_sem]); have x3 : w7.cell? ⟨w.heap.size, 3, none⟩ = some (.slice A m cap) := (hb.cell (p := ⟨w.heap.size, 3, none⟩) (by simp)).trans (by simp [go_sem]); have hz := hb.size; have HB := hid hb; clear hb) | (go_at_call 42; refine (AD.out _ (HL.out.below HB.out) (by simp at hz; omega)).mono ?_; rintro e w8 ⟨v8, rfl, how8, hO8⟩))
  go_ret2
  refine ⟨v8, rfl, by simpa using how8, ?_⟩
  have h8 := hO8.to_below
  have hB := HB.out
  exact (Below.trans (Below.trans ((Below.refl _ _).alloc (Nat.le_refl _) _) (hB.mono (by simp))) (h8.mono (by simp at hz; omega)))
end Go.Proofs.Ytcjhgihkofmhgaa
