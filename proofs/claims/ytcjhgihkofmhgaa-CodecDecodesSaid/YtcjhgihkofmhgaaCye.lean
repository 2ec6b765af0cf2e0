/-
  Layer 6: the reader of package codec: a list of data.
-/
import Derived.Test.YtcjhgihkofmhgaaCyd
namespace Go.Proofs.Ytcjhgihkofmhgaa
open Go.RowKit
set_option linter.unusedVariables false
set_option linter.unusedSimpArgs false

namespace Sp
/-- What was read before, and what is read now. -/
def pre {α : Type} (ts : List α) (R : Sum Int (List α × List UInt8 × Nat)) : Sum Int (List α × List UInt8 × Nat) :=
  match R with
  | .inl e => .inl e
  | .inr (us, r, c) => .inr (ts ++ us, r, c)
theorem pre_nil {α : Type} (R : Sum Int (List α × List UInt8 × Nat)) : pre [] R = R := by
  rcases R with e | ⟨us, r, c⟩ <;> rfl
theorem pre_step {α : Type} (f : List UInt8 → Nat → Sum Int (α × List UInt8 × Nat)) (ts : List α) (n : Nat) (L : List UInt8) (c : Nat) :
    pre ts (loopD f (n + 1) L c) = match f L c with
    | .inl e => .inl e
    | .inr (t, L1, c1) => pre (ts ++ [t]) (loopD f n L1 c1) := by
  have h : loopD f (n + 1) L c = match f L c with
    | .inl e => .inl e
    | .inr (t, L1, c1) => match loopD f n L1 c1 with
      | .inl e => .inl e
      | .inr (ts, L2, c2) => .inr (t :: ts, L2, c2) := rfl
  rw [h]
  rcases f L c with e | ⟨t, L1, c1⟩
  · rfl
  · simp only
    rcases loopD f n L1 c1 with e | ⟨us, r, c2⟩
    · rfl
    · simp [pre]
theorem getS_get {L : List UInt8} {k : Nat} (hk : k ≤ L.length) : getS L k = if (getL (L.drop k)).2.2 = 0 then ((getL (L.drop k)).1, (k : Int) + (getL (L.drop k)).2.1, 0) else (0, 0, (getL (L.drop k)).2.2) := by
  unfold getS
  rw [if_neg (by omega), Int.toNat_natCast]
end Sp
def PostD (w : World) (g : Nat) (A : Option Addr) (L : List UInt8) (cap : Nat) (D : Nat) (R : Sum Int (Sp.Tr D × List UInt8 × Nat)) (e : Ending) (w' : World) : Prop :=
  match R with
  | .inl er => er ≠ 0 ∧ e = .returned (.tuple #[.agg #[.int .i64 0, .int .i64 0, .string ⟨#[]⟩, .slice none 0 0], .int .i64 er]) ∧ (∃ x y, RB w' g A L.length cap x y) ∧ Ow w w' (some g) (some g)
  | .inr (t, rest, c') => ∃ (v : Value) (a' : Nat), e = .returned (.tuple #[v, .int .i64 0]) ∧ Lies w' (fun b => w.heap.size ≤ b) D t v ∧ a' ≤ L.length ∧ rest = L.drop a' ∧ RB w' g A L.length cap (a' : Int) (c' : Int) ∧ Ow w w' (some g) (some g)
def PostLi (w : World) (g : Nat) (A : Option Addr) (L : List UInt8) (cap : Nat) {D : Nat} (R : Sum Int (List (Sp.Tr D) × List UInt8 × Nat)) (e : Ending) (w' : World) : Prop :=
  match R with
  | .inl er => er ≠ 0 ∧ e = .returned (.tuple #[.slice none 0 0, .int .i64 er]) ∧ (∃ x y, RB w' g A L.length cap x y) ∧ Ow w w' (some g) (some g)
  | .inr (ts, rest, c') => ∃ (A' : Option Addr) (cap' a' : Nat), e = .returned (.tuple #[.slice A' ts.length cap', .int .i64 0]) ∧ ts.length ≤ cap' ∧ ts.length ≤ 500 ∧ Els w' (fun b => w.heap.size ≤ b) ts A' ∧ a' ≤ L.length ∧ rest = L.drop a' ∧ RB w' g A L.length cap (a' : Int) (c' : Int) ∧ Ow w w' (some g) (some g)
set_option maxRecDepth 100000 in
set_option maxHeartbeats 1000000 in
theorem rlist_bad (len cap : Nat) (A : Option Addr) (at_ : Nat) (i c : Int) (g : Nat) (n x er : Int) (w : World) (hB : RB w g A len cap at_ c) (h : er ≠ 0 ∨ n < 0)
    (gi : ∀ W, Below w.heap.size w W → Calls Try.prog 12 #[.slice A len cap, .int .i64 (at_ : Int)] W fun e w' => e = .returned (.tuple #[.int .i64 n, .int .i64 x, .int .i64 er]) ∧ w' = W) :
    Calls Try.prog 55 #[.pointer (some ⟨g, 0, none⟩), .int .i64 i] w (Gives (.tuple #[.slice none 0 0, .int .i64 (if er ≠ 0 then er else 3)]) w) := by
  have gl := hB.lt
  have r0 := hB.c0
  have r1 := hB.c1
  have fr := hB.fr
  have GI := hid gi
  clear gi
  by_cases e0 : er = 0
  · subst e0
    have n0 : n < 0 := by omega
    rw [if_neg (by simp)]
    clear h
    go_enter Try.func55, Try.ntmps55
    go_wp2_with fail
    go_quiet ((go_at_call 12; exact Calls.quiet_of_same (GI.out _ (by repeat' (first | (with_reducible exact Below.refl _ _) | (with_reducible refine Below.alloc ?_ ?_ _) | (with_reducible refine Below.setCell ?_ ?_ _) | (with_reducible refine Below.drew ?_) | (with_reducible refine below_dn ?_ _) | (with_reducible refine Below.trans ?_ (Below.mono (by assumption) ?_)) | (simp; done) | (simp; omega) | omega)))))
    go_wp2_with fail
    go_ret2
    exact Gives.mk rfl (by repeat' (first | (with_reducible exact Below.refl _ _) | (with_reducible refine Below.alloc ?_ ?_ _) | (with_reducible refine Below.setCell ?_ ?_ _) | (with_reducible refine Below.drew ?_) | (with_reducible refine below_dn ?_ _) | (with_reducible refine Below.trans ?_ (Below.mono (by assumption) ?_)) | (simp; done) | (simp; omega) | omega))
  · rw [if_pos e0]
    have e2 : (er != 0) = true := by simpa using e0
    clear h e0
    go_enter Try.func55, Try.ntmps55
    go_wp2_with fail
    go_quiet ((go_at_call 12; exact Calls.quiet_of_same (GI.out _ (by repeat' (first | (with_reducible exact Below.refl _ _) | (with_reducible refine Below.alloc ?_ ?_ _) | (with_reducible refine Below.setCell ?_ ?_ _) | (with_reducible refine Below.drew ?_) | (with_reducible refine below_dn ?_ _) | (with_reducible refine Below.trans ?_ (Below.mono (by assumption) ?_)) | (simp; done) | (simp; omega) | omega)))))
    go_wp2_with fail
    go_ret2
    exact Gives.mk rfl (by repeat' (first | (with_reducible exact Below.refl _ _) | (with_reducible refine Below.alloc ?_ ?_ _) | (with_reducible refine Below.setCell ?_ ?_ _) | (with_reducible refine Below.drew ?_) | (with_reducible refine below_dn ?_ _) | (with_reducible refine Below.trans ?_ (Below.mono (by assumption) ?_)) | (simp; done) | (simp; omega) | omega))
/-- The head of a round of the list. -/
def DL (w : World) (g : Nat) (A : Option Addr) (L : List UInt8) (cap : Nat) (D : Nat) (n : Nat) (R : Sum Int (List (Sp.Tr D) × List UInt8 × Nat)) (v t : Value) (wr : World) : Prop :=
  ∃ (k a' cc : Nat) (ts : List (Sp.Tr D)) (xs : List Value), t = .int .i64 (k : Int) ∧ k ≤ n ∧ ts.length = k ∧ k ≤ cc ∧ cc ≤ 500 ∧ a' ≤ L.length ∧ OwnD wr w.heap.size v ts xs ∧ RB wr g A L.length cap (a' : Int) (cc : Int) ∧ Ow w wr (some g) (some g) ∧ Sp.pre ts (Sp.loopD (Sp.decT D) (n - k) (L.drop a') cc) = R
set_option maxRecDepth 100000 in
set_option maxHeartbeats 4000000 in
theorem rlist_good (L : List UInt8) (cap : Nat) (A : Option Addr) (at_ c : Nat) (i : Int) (g n x : Nat) (hn : (n : Int) ≤ 9223372036854775807) (hx : x ≤ L.length) (hc : c ≤ 500) (w : World) (hB : RB w g A L.length cap at_ c) (D : Nat)
    (gi : ∀ W, Below w.heap.size w W → Calls Try.prog 12 #[.slice A L.length cap, .int .i64 (at_ : Int)] W fun e w' => e = .returned (.tuple #[.int .i64 (n : Int), .int .i64 (x : Int), .int .i64 0]) ∧ w' = W)
    (B : Nat) (hBg : B ≤ g) (S : Bs w B A L)
    (ih : ∀ (a' c' : Nat) (W : World), RB W g A L.length cap a' c' → a' ≤ L.length → c' ≤ 500 → Bs W B A L → Calls Try.prog 47 #[.pointer (some ⟨g, 0, none⟩), .int .i64 i] W (PostD W g A L cap D (Sp.decT D (L.drop a') c'))) :
    Calls Try.prog 55 #[.pointer (some ⟨g, 0, none⟩), .int .i64 i] w (PostLi w g A L cap (Sp.loopD (Sp.decT D) n (L.drop x) c)) := by
  obtain ⟨R, hR⟩ : ∃ R, Sp.loopD (Sp.decT D) n (L.drop x) c = R := ⟨_, rfl⟩
  rw [hR]
  have HR := hid hR
  have gl := hB.lt
  have r0 := hB.c0
  have r1 := hB.c1
  have fr := hB.fr
  have GI := hid gi
  have IH := hid ih
  have HS := hid S
  have HBB := hid hB
  clear gi ih S hR hB
  go_enter Try.func55, Try.ntmps55
  go_wp2_with fail
  go_quiet ((go_at_call 12; exact Calls.quiet_of_same (GI.out _ (by repeat' (first | (with_reducible exact Below.refl _ _) | (with_reducible refine Below.alloc ?_ ?_ _) | (with_reducible refine Below.setCell ?_ ?_ _) | (with_reducible refine Below.drew ?_) | (with_reducible refine below_dn ?_ _) | (with_reducible refine Below.trans ?_ (Below.mono (by assumption) ?_)) | (simp; done) | (simp; omega) | omega)))))
  go_wp2_with fail
  go_loopw [9, 35] (fun v t wr => DL w g A L cap D n R v t wr) (fun _ t _ => n - (intOf t).toNat)
  case atStart =>
    refine ⟨0, x, c, [], [], rfl, Nat.zero_le _, rfl, Nat.zero_le _, hc, hx, OwnD.nil _ _, ((HBB.out.below (by repeat' (first | (with_reducible exact Below.refl _ _) | (with_reducible refine Below.alloc ?_ ?_ _) | (with_reducible refine Below.setCell ?_ ?_ _) | (with_reducible refine Below.drew ?_) | (with_reducible refine below_dn ?_ _) | (with_reducible refine Below.trans ?_ (Below.mono (by assumption) ?_)) | (simp; done) | (simp; omega) | omega))).set1 _), (Ow.of_below (by repeat' (first | (with_reducible exact Below.refl _ _) | (with_reducible refine Below.alloc ?_ ?_ _) | (with_reducible refine Below.setCell ?_ ?_ _) | (with_reducible refine Below.drew ?_) | (with_reducible refine below_dn ?_ _) | (with_reducible refine Below.trans ?_ (Below.mono (by assumption) ?_)) | (simp; done) | (simp; omega) | omega)) _).setCell _ rfl _, ?_⟩
    rw [Sp.pre_nil]
    exact HR.out
  case round =>
    obtain ⟨k, a', cc, ts, xs, rfl, hk, htl, hkc, hcc, ha', hown, hrb, hO, hpre⟩ := hrel
    have hszr := hO.size
    have HOWN := hid hown
    have HRB := hid hrb
    have HO := hid hO
    have HP := hid hpre
    have HTL := hid htl
    have SB := hid (HS.out.below (hO.under (B := B) (by omega) (fun g' hg' => by injection hg' with hg'; omega)))
    clear hown hrb hO hpre htl r0 r1 fr
    by_cases hlt : k < n
    · have CALL := hid (IH.out a' cc wr HRB.out ha' hcc SB.out)
      have hp := HP.out
      rw [show n - k = (n - (k + 1)) + 1 by omega, Sp.pre_step] at hp
      rcases hr : Sp.decT D (L.drop a') cc with e1 | ⟨t, rest, c1⟩
      · rw [hr] at hp CALL
        simp only at hp
        have HR2 := hid hp
        have call : Calls Try.prog 47 #[.pointer (some ⟨g, 0, none⟩), .int .i64 i] wr (fun e w' => e = .returned (.tuple #[.agg #[.int .i64 0, .int .i64 0, .string ⟨#[]⟩, .slice none 0 0], .int .i64 e1]) ∧ (e1 != 0) = true ∧ Hid ((∃ x y, RB w' g A L.length cap x y) ∧ Ow wr w' (some g) (some g))) :=
          CALL.out.mono fun e w' h => ⟨h.2.1, by simpa using h.1, ⟨h.2.2.1, h.2.2.2⟩⟩
        have CALL2 := hid call
        clear CALL call hp hr
        go_wp2_with (go_at_call 47; refine CALL2.out.mono ?_; rintro e w7 ⟨rfl, he2, H7⟩)
        go_ret2
        rw [← HR2.out]
        obtain ⟨⟨x', y', h1⟩, h2⟩ := H7.out
        exact ⟨by simpa using he2, rfl, ⟨x', y', h1.below (by repeat' (first | (with_reducible exact Below.refl _ _) | (with_reducible refine Below.alloc ?_ ?_ _) | (with_reducible refine Below.setCell ?_ ?_ _) | (with_reducible refine Below.drew ?_) | (with_reducible refine below_dn ?_ _) | (with_reducible refine Below.trans ?_ (Below.mono (by assumption) ?_)) | (simp; done) | (simp; omega) | omega))⟩, (HO.out.trans h2).alloc _⟩
      · rw [hr] at hp CALL
        simp only at hp
        have HR2 := hid hp
        have hcnt := Sp.dec_count D (L.drop a') cc t rest c1 hr
        have call : Calls Try.prog 47 #[.pointer (some ⟨g, 0, none⟩), .int .i64 i] wr (fun e w' => ∃ (k1 n1 : Int) (z : ByteArray) (A1 : Option Addr) (m1 cap1 a1 : Nat), e = .returned (.tuple #[.agg #[.int .i64 k1, .int .i64 n1, .string z, .slice A1 m1 cap1], .int .i64 0]) ∧ Hid (Lies w' (fun b => wr.heap.size ≤ b) D t (.agg #[.int .i64 k1, .int .i64 n1, .string z, .slice A1 m1 cap1]) ∧ a1 ≤ L.length ∧ rest = L.drop a1 ∧ RB w' g A L.length cap (a1 : Int) (c1 : Int) ∧ Ow wr w' (some g) (some g)) ∧ wr.heap.size ≤ w'.heap.size) :=
          CALL.out.mono fun e w' h => by
            obtain ⟨v, a1, he, hL, h1, h2, h3, h4⟩ := h
            obtain ⟨k1, n1, z, A1, m1, cap1, rfl⟩ := hL.form
            exact ⟨k1, n1, z, A1, m1, cap1, a1, he, ⟨hL, h1, h2, h3, h4⟩, h4.size⟩
        have CALL2 := hid call
        clear CALL call hp hr
        go_wp2_with (first | (go_at_call 47; refine CALL2.out.mono ?_; rintro e w7 ⟨k1, n1, z, A1, m1, cap1, a1, rfl, H7, hz7⟩; have OW7 := hid (HOWN.out.kept H7.out.2.2.2.2.1 (fun g' hg' => by injection hg' with hg'; omega)); have LI7 := hid (H7.out.1.weak (Q := fun b => w.heap.size ≤ b ∧ some b ≠ _) (fun b hb _ => ⟨Nat.le_trans hszr hb, fun e => by have := (HOWN.out.row.lt b e.symm).2; omega⟩))) | (at_builtin; refine appD rfl _ _ rfl w.heap.size _ ts xs rfl (OW7.out.below (by repeat' (first | (with_reducible exact Below.refl _ _) | (with_reducible refine Below.alloc ?_ ?_ _) | (with_reducible refine Below.setCell ?_ ?_ _) | (with_reducible refine Below.drew ?_) | (with_reducible refine below_dn ?_ _) | (with_reducible refine Below.trans ?_ (Below.mono (by assumption) ?_)) | (simp; done) | (simp; omega) | omega))) (w7.heap.size + 1) rfl k1 n1 z A1 m1 cap1 t (by simp [go_sem]) (by simp [go_sem]) (by simp [go_sem]) (by simp [go_sem]) (LI7.out.below (by repeat' (first | (with_reducible exact Below.refl _ _) | (with_reducible refine Below.alloc ?_ ?_ _) | (with_reducible refine Below.setCell ?_ ?_ _) | (with_reducible refine Below.drew ?_) | (with_reducible refine below_dn ?_ _) | (with_reducible refine Below.trans ?_ (Below.mono (by assumption) ?_)) | (simp; done) | (simp; omega) | omega))) (by have := HTL.out; omega) (by simp; omega) ?_; intro v' w10 xs' how10 hO10; have HW10 := hid how10; have HO10 := hid hO10; clear how10 hO10))
        go_roundw
        case rel =>
          obtain ⟨_, h1, h2, h3, h4⟩ := H7.out
          have hown := OW7.out
          have hs := HO10.out.size
          have hin : Ow w w10 (some g) (some g) := by
            have o1 := ((HO.out.trans h4).alloc (Obj.cells #[.int .i64 k1, .int .i64 n1, .string z, .slice A1 m1 cap1] 34)).alloc (Obj.cells #[.int .i64 k1, .int .i64 n1, .string z, .slice A1 m1 cap1] 34)
            refine ⟨⟨HO10.out.1.os.trans o1.1.os, HO10.out.1.tape.trans o1.1.tape, HO10.out.1.output.trans o1.1.output, Nat.le_trans o1.1.size HO10.out.1.size, fun q hq hne => (HO10.out.block (by simp; omega) (fun e => ?_)).trans (o1.1.block q hq hne)⟩, .inl rfl⟩
            have := (hown.row.lt q e.symm).1
            omega
          refine ⟨k + 1, a1, c1, ts ++ [t], xs', by go_num, by omega, by rw [List.length_append, HTL.out]; rfl, by omega, hcnt.2, h1, HW10.out, ?_, hin, ?_⟩
          · have hb : RB ((w7.alloc (Obj.cells #[.int .i64 k1, .int .i64 n1, .string z, .slice A1 m1 cap1] 34)).alloc (Obj.cells #[.int .i64 k1, .int .i64 n1, .string z, .slice A1 m1 cap1] 34)) g A L.length cap (a1 : Int) (c1 : Int) := h3.below (by repeat' (first | (with_reducible exact Below.refl _ _) | (with_reducible refine Below.alloc ?_ ?_ _) | (with_reducible refine Below.setCell ?_ ?_ _) | (with_reducible refine Below.drew ?_) | (with_reducible refine below_dn ?_ _) | (with_reducible refine Below.trans ?_ (Below.mono (by assumption) ?_)) | (simp; done) | (simp; omega) | omega))
            have hne : some g ≠ Value.ownBlock _ := fun e => by have := (hown.row.lt g e.symm).1; omega
            exact ⟨Nat.lt_of_lt_of_le hb.lt hs, (HO10.out.cell (a := ⟨g, 0, none⟩) hb.lt hne).trans hb.c0, (HO10.out.cell (a := ⟨g, 1, none⟩) hb.lt hne).trans hb.c1, (HO10.out.cell (a := ⟨g, 2, none⟩) hb.lt hne).trans hb.c2, fun o => (HO10.out.frozen (a := ⟨g, o, none⟩) hb.lt hne).trans (hb.fr o)⟩
          · rw [← h2]
            exact HR2.out
        case measure => simp [intOf]; omega
    · have e : k = n := by omega
      subst e
      obtain ⟨A', cap', hv, hcap, hels⟩ := HOWN.out.form
      subst hv
      have hp := HP.out
      rw [Nat.sub_self] at hp
      have hp2 : R = .inr (ts, L.drop a', cc) := by
        rw [← hp]
        simp [Sp.pre, Sp.loopD]
      have HP2 := hid hp2
      have HELS := hid hels
      clear hp hp2 hels
      go_wp2_with fail
      go_ret2
      rw [HP2.out]
      exact ⟨A', cap', a', rfl, hcap, by have := HTL.out; omega, HELS.out, ha', rfl, HRB.out, HO.out⟩
end Go.Proofs.Ytcjhgihkofmhgaa
