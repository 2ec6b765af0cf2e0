/-
  Layer 6: the reference's reader: a list, by contract.
-/
import Derived.Test.YtcjhgihkofmhgaaCrp
namespace Go.Proofs.Ytcjhgihkofmhgaa
open Go.RowKit
set_option linter.unusedVariables false
set_option linter.unusedSimpArgs false

/-- What is left when the reference has read, or refused. -/
def PostG (w : World) (g : Nat) (A : Option Addr) (L : List UInt8) (cap : Nat) (D : Nat) (R : Sum Int (Sp.Tr D × List UInt8 × Nat)) (e : Ending) (w' : World) : Prop :=
  match R with
  | .inl er => er ≠ 0 ∧ PostZ w g A L.length cap er e w'
  | .inr (t, rest, c') => ∃ (v : Value) (a' : Nat), e = .returned (.tuple #[v, .int .i64 0]) ∧ Lies w' (fun b => w.heap.size ≤ b) D t v ∧ a' ≤ L.length ∧ rest = L.drop a' ∧ RB w' g A L.length cap (a' : Int) (c' : Int) ∧ Ow w w' (some g) (some g)
def listR {D : Nat} (R : Sum Int (List (Sp.Tr D) × List UInt8 × Nat)) : Sum Int (Sp.Tr (D + 1) × List UInt8 × Nat) :=
  match R with
  | .inl e => .inl e
  | .inr (l, L1, c1) => .inr (((3, 0, [], l) : Int × Int × List UInt8 × List (Sp.Tr D)), L1, c1)
theorem Hd.own {w wx wy : World} {g : Nat} {A : Option Addr} {len cap : Nat} {x y : Int} {v0 v1 v2 v3 : Value} {r r' : Option Nat} (h : Hd w g A len cap x y v0 v1 v2 v3 wx) (gl : g < w.heap.size) (hO : Ow wx wy r r') (hr : ∀ q, r = some q → w.heap.size + 2 ≤ q) :
    Hd w g A len cap x y v0 v1 v2 v3 wy := by
  have n0 : ∀ q, q < w.heap.size + 2 → some q ≠ r := fun q hq e => by have := hr q e.symm; omega
  have cg : ∀ o, wy.cell? ⟨g, o, none⟩ = wx.cell? ⟨g, o, none⟩ := fun o => hO.cell (a := ⟨g, o, none⟩) h.rb.lt (n0 g (by omega))
  have cz : ∀ o, wy.cell? ⟨w.heap.size, o, none⟩ = wx.cell? ⟨w.heap.size, o, none⟩ := fun o => hO.cell (a := ⟨w.heap.size, o, none⟩) h.zl (n0 w.heap.size (by omega))
  have cx : ∀ o, wy.cell? ⟨w.heap.size + 1, o, none⟩ = wx.cell? ⟨w.heap.size + 1, o, none⟩ := fun o => hO.cell (a := ⟨w.heap.size + 1, o, none⟩) h.xl (n0 (w.heap.size + 1) (by omega))
  exact ⟨⟨Nat.lt_of_lt_of_le h.rb.lt hO.size, (cg _).trans h.rb.c0, (cg _).trans h.rb.c1, (cg _).trans h.rb.c2, fun o => (hO.frozen (a := ⟨g, o, none⟩) h.rb.lt (n0 g (by omega))).trans (h.rb.fr o)⟩,
    Nat.lt_of_lt_of_le h.zl hO.size, (cz _).trans h.z0, (cz _).trans h.z1, (cz _).trans h.z2, (cz _).trans h.z3, fun o => (hO.frozen (a := ⟨w.heap.size, o, none⟩) h.zl (n0 w.heap.size (by omega))).trans (h.zf o),
    Nat.lt_of_lt_of_le h.xl hO.size, (cx _).trans h.x0, (cx _).trans h.x1, (cx _).trans h.x2, (cx _).trans h.x3, fun o => (hO.frozen (a := ⟨w.heap.size + 1, o, none⟩) h.xl (n0 (w.heap.size + 1) (by omega))).trans (h.xf o)⟩
theorem Ow.own {w wx wy : World} {g : Nat} {r r' : Option Nat} (h : Ow w wx (some g) (some g)) (hO : Ow wx wy r r') (hr : ∀ q, r = some q → w.heap.size ≤ q) : Ow w wy (some g) (some g) :=
  ⟨⟨hO.1.os.trans h.1.os, hO.1.tape.trans h.1.tape, hO.1.output.trans h.1.output, Nat.le_trans h.1.size hO.1.size, fun q hq hne => (hO.block (Nat.lt_of_lt_of_le hq h.size) (fun e => by have := hr q e.symm; omega)).trans (h.1.block q hq hne)⟩, .inl rfl⟩
def DLr (w : World) (g : Nat) (A : Option Addr) (L : List UInt8) (cap : Nat) (D : Nat) (n : Nat) (R : Sum Int (List (Sp.Tr D) × List UInt8 × Nat)) (t : Value) (wr : World) : Prop :=
  ∃ (k a' cc : Nat) (ts : List (Sp.Tr D)) (xs : List Value) (v : Value), t = .int .i64 (k : Int) ∧ k ≤ n ∧ ts.length = k ∧ k ≤ cc ∧ cc ≤ 500 ∧ a' ≤ L.length ∧ OwnD wr (w.heap.size + 2) v ts xs ∧
    Hd w g A L.length cap (a' : Int) (cc : Int) (.int .i64 3) (.int .i64 0) (.string ⟨#[]⟩) v wr ∧ Ow w wr (some g) (some g) ∧ Sp.pre ts (Sp.loopD (Sp.decT D) (n - k) (L.drop a') cc) = R
theorem rr_meas (n j : Nat) (h : j < n) : n - (intOf (.int .i64 ((j : Int) + 1))).toNat < n - (intOf (.int .i64 (j : Int))).toNat := by simp [intOf]; omega
set_option maxRecDepth 100000 in
set_option maxHeartbeats 4000000 in
theorem rr_list (len : Nat) (b off at_ : Nat) (cap i c : Nat) (g : Nat) (ha : at_ < len) (hl : len ≤ 140737488355328) (hi : ¬ (7 < i ∨ 500 < c + 1)) (w : World) (hB : RB w g (some ⟨b, off, none⟩) len cap at_ c)
    (bl : b < w.heap.size) (hx : w.cell? ⟨b, off + at_, none⟩ = some (.int .u8 ((3 : Nat) : Int))) (B : Nat) (hBg : B ≤ g) (L : List UInt8) (S : Bs w B (some ⟨b, off, none⟩) L) (n x : Nat) (hlen : L.length = len) (hn : (n : Int) ≤ 9223372036854775807) (hx2 : x ≤ L.length)
    (gi : ∀ W, Bs W B (some ⟨b, off, none⟩) L → Calls Try.prog 13 #[.slice (some ⟨b, off, none⟩) len cap, .int .i64 ((at_ : Int) + 1)] W fun e w' => e = .returned (.tuple #[.int .i64 (n : Int), .int .i64 (x : Int), .int .i64 0]) ∧ W = w') (D : Nat)
    (ih : ∀ (a' c' : Nat) (W : World), RB W g (some ⟨b, off, none⟩) L.length cap a' c' → a' ≤ L.length → c' ≤ 500 → Bs W B (some ⟨b, off, none⟩) L → Calls Try.prog 48 #[.pointer (some ⟨g, 0, none⟩), .int .i64 ((i : Int) + 1)] W (PostG W g (some ⟨b, off, none⟩) L cap D (Sp.decT D (L.drop a') c'))) :
    Calls Try.prog 48 #[.pointer (some ⟨g, 0, none⟩), .int .i64 (i : Int)] w (PostG w g (some ⟨b, off, none⟩) L cap (D + 1) (listR (Sp.loopD (Sp.decT D) n (L.drop x) (c + 1)))) := by
  obtain ⟨X, hX1⟩ : ∃ X : Nat, X = 3 := ⟨3, rfl⟩
  rw [← hX1] at hx
  have HX := hid hX1
  have gl := hB.lt
  have r0 := hB.c0
  have r1 := hB.c1
  have fr := hB.fr
  have i0 : (0 : Int) ≤ (at_ : Int) := by omega
  have i1 : (at_ : Int) < (len : Int) := by omega
  have h1 : ¬ (X : Int) < 1 := by omega
  have h2 : ¬ (3 : Int) < (X : Int) := by omega
  have h3 : ¬ (8 : Int) ≤ (i : Int) := by omega
  have h4 : ¬ (500 : Int) ≤ (c : Int) := by omega
  have wr1 : IntKind.i64.wrap ((at_ : Int) + 1) = (at_ : Int) + 1 := IntWalk.i64_in _ (by omega)
  have wr2 : IntKind.i64.wrap ((c : Int) + 1) = (c : Int) + 1 := IntWalk.i64_in _ (by omega)
  have WR1 := hid wr1
  have WR2 := hid wr2
  have GI := hid gi
  have HS := hid S
  clear gi S wr1 wr2 hX1 hi
  go_enter Try.func48, Try.ntmps48
  go_wp2_with fail
  go_quiet (fail)
  go_upto_region 3 with (fail)
  go_cut [6] (fun v wx => v = .pointer (some ⟨w.heap.size + 1, 0, none⟩) ∧ Hd w g (some ⟨b, off, none⟩) len cap at_ c (.int .i64 (X : Int)) (.int .i64 0) (.string ⟨#[]⟩) (.slice none 0 0) wx ∧ Below w.heap.size w wx)
  case first =>
    go_region
    all_goals
      go_wp2_with fail
      go_meet
      refine ⟨rfl, ⟨hB.below (by repeat' (first | (with_reducible exact Below.refl _ _) | (with_reducible refine Below.alloc ?_ ?_ _) | (with_reducible refine Below.setCell ?_ ?_ _) | (with_reducible refine Below.drew ?_) | (with_reducible refine below_dn ?_ _) | (with_reducible refine Below.trans ?_ (Below.mono (by assumption) ?_)) | (simp; done) | (simp; omega) | omega)), (by first | assumption | (simp; done) | (simp; omega) | (dsimp only; omega) | omega), by simp [go_sem], by simp [go_sem], by simp [go_sem], by simp [go_sem], fun o => by simp [go_sem], (by first | assumption | (simp; done) | (simp; omega) | (dsimp only; omega) | omega), by simp [go_sem], by simp [go_sem], by simp [go_sem], by simp [go_sem], fun o => by simp [go_sem]⟩, by repeat' (first | (with_reducible exact Below.refl _ _) | (with_reducible refine Below.alloc ?_ ?_ _) | (with_reducible refine Below.setCell ?_ ?_ _) | (with_reducible refine Below.drew ?_) | (with_reducible refine below_dn ?_ _) | (with_reducible refine Below.trans ?_ (Below.mono (by assumption) ?_)) | (simp; done) | (simp; omega) | omega)⟩
  case rest =>
    obtain ⟨rfl, HD, BW⟩ := hcut
    have HBW := hid BW
    clear BW
    clear r0 r1 fr hx
    have gne : ¬ w.heap.size = g := by omega
    have gne2 : ¬ g = w.heap.size := by omega
    have gne3 : ¬ w.heap.size + 1 = g := by omega
    have gne4 : ¬ g = w.heap.size + 1 := by omega
    have HH := hid HD
    have q1 := HD.rb.c1
    have q2 := HD.rb.c2
    have qf := HD.rb.fr
    have ql := HD.rb.lt
    have y0 := HD.x0
    clear HD
    go_upto_region 8 with fail
    go_cut [5] (fun v wx => v = .int .i64 0 ∧ Hd w g (some ⟨b, off, none⟩) len cap ((at_ : Int) + 1) ((c : Int) + 1) (.int .i64 (X : Int)) (.int .i64 0) (.string ⟨#[]⟩) (.slice none 0 0) wx ∧ Ow w wx (some g) (some g))
    case first =>
      go_region_with (fail)
      all_goals
        go_wp2_with fail
        go_meet
        have hh := HH.out.step gne2 gne4 (IntKind.i64.wrap ((at_ : Int) + 1)) (IntKind.i64.wrap ((c : Int) + 1))
        have ho := ((Ow.of_below HBW.out (some g)).setCell ⟨g, 1, none⟩ rfl (.int .i64 (IntKind.i64.wrap ((at_ : Int) + 1)))).setCell ⟨g, 2, none⟩ rfl (.int .i64 (IntKind.i64.wrap ((c : Int) + 1)))
        refine ⟨rfl, ?_, ?_⟩
        · have e9 : ∀ (p q : Int) (W : World), Hd w g (some ⟨b, off, none⟩) len cap (IntKind.i64.wrap ((at_ : Int) + 1)) (IntKind.i64.wrap ((c : Int) + 1)) (.int .i64 (X : Int)) (.int .i64 0) (.string ⟨#[]⟩) (.slice none 0 0) W → p = IntKind.i64.wrap ((at_ : Int) + 1) → q = IntKind.i64.wrap ((c : Int) + 1) → Hd w g (some ⟨b, off, none⟩) len cap p q (.int .i64 (X : Int)) (.int .i64 0) (.string ⟨#[]⟩) (.slice none 0 0) W := fun p q W h hp hq => by
            subst hp hq
            exact h
          refine e9 _ _ _ ?_ WR1.out.symm WR2.out.symm
          first | exact hh.drew | exact hh
        · first | exact ho.drew | exact ho
    case rest =>
      obtain ⟨rfl, HU, OU⟩ := hcut
      clear q1 q2 qf ql y0 HH HBW h1 h2 h3 h4
      have hX := HX.out
      subst hX
      have q0 := HU.rb.c0
      have q1 := HU.rb.c1
      have qf := HU.rb.fr
      have ql := HU.rb.lt
      have y0 := HU.x0
      have y1 := HU.x1
      have y2 := HU.x2
      have y3 := HU.x3
      have yf := HU.xf
      have yl := HU.xl
      have HHU := hid HU
      have HOU := hid OU
      clear HU OU
      have HS2 : Hid (∀ W, Below B wc W → Bs W B (some ⟨b, off, none⟩) L) := hid fun W hW => (HS.out.below ((HOU.out.under (B := B) (by omega) (fun g' hg' => by injection hg' with hg'; omega)).trans hW))
      go_upto_region 13 with fail
      go_cut [10, 11, 12] (fun v1 v2 v3 wx => v1 = .int .i64 (n : Int) ∧ v2 = .int .i64 (x : Int) ∧ v3 = .int .i64 0 ∧ Hd w g (some ⟨b, off, none⟩) len cap ((at_ : Int) + 1) ((c : Int) + 1) (.int .i64 (3 : Int)) (.int .i64 0) (.string ⟨#[]⟩) (.slice none 0 0) wx ∧ Ow w wx (some g) (some g))
      case first =>
        go_quiet ((go_at_call 13; exact Calls.quiet_of_same ((GI.out _ (HS2.out _ (by repeat' (first | (with_reducible exact Below.refl _ _) | (with_reducible refine Below.alloc ?_ ?_ _) | (with_reducible refine Below.setCell ?_ ?_ _) | (with_reducible refine Below.drew ?_) | (with_reducible refine below_dn ?_ _) | (with_reducible refine Below.trans ?_ (Below.mono (by assumption) ?_)) | (simp; done) | (simp; omega) | omega)))).mono (fun e w' h => ⟨h.1, h.2.symm⟩))))
        go_wp2_with fail
        go_meet
        refine ⟨rfl, rfl, rfl, ?_, ?_⟩
        · first | exact HHU.out | exact HHU.out.quiet gne3 gne _
        · first | exact HOU.out | exact HOU.out.below (below_dn (Below.refl _ _) _)
      case rest =>
        obtain ⟨rfl, rfl, rfl, HE, OE⟩ := hcut
        have HHE := hid HE
        have HOE := hid OE
        clear q0 q1 qf ql y0 y1 y2 y3 yf yl HHU HOU HS2 GI
        have q1 := HE.rb.c1
        have qf := HE.rb.fr
        have ql := HE.rb.lt
        have y0 := HE.x0
        have y1 := HE.x1
        have y2 := HE.x2
        have y3 := HE.x3
        have yf := HE.xf
        have yl := HE.xl
        have z0 := HE.z0
        have z1 := HE.z1
        have z2 := HE.z2
        have z3 := HE.z3
        have zf := HE.zf
        have zl := HE.zl
        clear HE OE
        obtain ⟨V, hV⟩ : ∃ V : World, wc.setCell ⟨g, 1, none⟩ (.int .i64 (x : Int)) = V := ⟨_, rfl⟩
        have HV : Hd w g (some ⟨b, off, none⟩) len cap (x : Int) ((c : Int) + 1) (.int .i64 3) (.int .i64 0) (.string ⟨#[]⟩) (.slice none 0 0) V := by rw [← hV]; exact HHE.out.at_ gne2 gne4 _
        have OV : Ow w V (some g) (some g) := by rw [← hV]; exact HOE.out.setCell ⟨g, 1, none⟩ rfl _
        have HHV := hid HV
        have HOV := hid OV
        have VV := hid hV
        have nn : ¬ (n : Int) < 0 := by omega
        clear hV HV OV
        go_upto_region 22 with fail
        rw [VV.out]
        clear VV q1 qf ql y0 y1 y2 y3 yf yl z0 z1 z2 z3 zf zl nn
        subst hlen
        obtain ⟨R, hR⟩ : ∃ R, Sp.loopD (Sp.decT D) n (L.drop x) (c + 1) = R := ⟨_, rfl⟩
        rw [hR]
        have HR := hid hR
        have HCC := hid (show c + 1 ≤ 500 by omega)
        have HI8 := hid (show i ≤ 7 by omega)
        have IHH := hid ih
        have HSB := hid HS.out
        clear hR ih
        go_wp2_with fail
        go_loopw [13] (fun t wr => DLr w g (some ⟨b, off, none⟩) L cap D n R t wr) (fun t _ => n - (intOf t).toNat)
        case atStart =>
          refine ⟨0, x, c + 1, [], [], .slice none 0 0, rfl, Nat.zero_le _, rfl, Nat.zero_le _, HCC.out, hx2, OwnD.nil _ _, HHV.out, HOV.out, ?_⟩
          rw [Sp.pre_nil]
          exact HR.out
        case round =>
          obtain ⟨k, a', cc, ts, xs, v, rfl, hk, htl, hkc, hcc, ha', hown, hh, hO, hpre⟩ := hrel
          have HOWN := hid hown
          have HHR := hid hh
          have HO := hid hO
          have HP := hid hpre
          have HTL := hid htl
          have SB := hid (HSB.out.below (hO.under (B := B) (by omega) (fun g' hg' => by injection hg' with hg'; omega)))
          have wl := hid hh.xl
          clear hown hh hO hpre htl HHV HOV HHE HOE
          by_cases hlt : k < n
          · have i3 : (k : Int) < (n : Int) := by omega
            have j0 : (0 : Int) ≤ (i : Int) := by omega
            have j1 : (i : Int) ≤ 7 := by have := HI8.out; omega
            have CALL := hid (IHH.out a' cc wr HHR.out.rb ha' hcc SB.out)
            have hp := HP.out
            rw [show n - k = (n - (k + 1)) + 1 by omega, Sp.pre_step] at hp
            rcases hr : Sp.decT D (L.drop a') cc with e1 | ⟨t, rest, c1⟩
            · rw [hr] at hp CALL
              simp only at hp
              have HR2 := hid hp
              obtain ⟨he1, _⟩ : e1 ≠ 0 ∧ True := ⟨Sp.dec_e D _ _ _ hr, trivial⟩
              have e2 : (e1 != 0) = true := by simpa using he1
              have HE1 := hid he1
              clear hp hr he1 hlt
              go_wp2_with fail
              refine CALL.out.mono ?_
              rintro _ w7 ⟨-, ⟨k1, n1, z, A1, m1, cap1, rfl⟩, ⟨x', y', hrb⟩, ho7⟩
              obtain ⟨V7, hV7⟩ : ∃ V : World, w7.alloc (Obj.cells #[.int .i64 k1, .int .i64 n1, .string z, .slice A1 m1 cap1] 34) = V := ⟨_, rfl⟩
              have b7 : Below w7.heap.size w7 V7 := by rw [← hV7]; exact (Below.refl _ _).alloc (Nat.le_refl _) _
              have H7 : Hd w g (some ⟨b, off, none⟩) L.length cap x' y' (.int .i64 3) (.int .i64 0) (.string ⟨#[]⟩) v V7 := (HHR.out.ow gne3 gne ho7 hrb).own gl (Ow.of_below b7 none) (fun q hq => by cases hq)
              have O7 : Ow w V7 (some g) (some g) := (HO.out.trans ho7).below b7
              have VV := hid hV7
              have HH7 := hid H7
              have HO7 := hid O7
              clear hV7 b7 H7 O7 hrb ho7 CALL
              go_upto_region 26 with fail
              rw [VV.out]
              have HE := HH7.out
              have y0 := HE.x0
              have y1 := HE.x1
              have y2 := HE.x2
              have y3 := HE.x3
              have yf := HE.xf
              have yl := HE.xl
              have z0 := HE.z0
              have z1 := HE.z1
              have z2 := HE.z2
              have z3 := HE.z3
              have zf := HE.zf
              have zl := HE.zl
              clear HE VV
              go_wp2_with fail
              refine bodyPost_ret (v := .tuple #[.agg #[.int .i64 0, .int .i64 0, .string ⟨#[]⟩, .slice none 0 0], .int .i64 e1]) (by simp [results, Try.results48, go_sem, z0, z1, z2, z3, zf, gne, gne2]) rfl ?_
              first | rw [HR.out, ← HR2.out] | rw [← HR2.out]
              exact ⟨HE1.out, ⟨_, _, _, _, _, _, rfl⟩, ⟨_, _, HH7.out.rb.res gne _ _ _ _⟩, HO7.out.res _ _ _ _⟩
            · rw [hr] at hp CALL
              simp only at hp
              have HR2 := hid hp
              have HCNT := hid (Sp.dec_count D (L.drop a') cc t rest c1 hr)
              clear hp hr
              go_wp2_with fail
              refine CALL.out.mono ?_
              rintro _ w7 ⟨v1, a1, rfl, hL7, ha1, hrest, hrb, ho7⟩
              obtain ⟨k1, n1, z, A1, m1, cap1, rfl⟩ := hL7.form
              obtain ⟨V7, hV7⟩ : ∃ V : World, w7.alloc (Obj.cells #[.int .i64 k1, .int .i64 n1, .string z, .slice A1 m1 cap1] 34) = V := ⟨_, rfl⟩
              have b7 : Below w7.heap.size w7 V7 := by rw [← hV7]; exact (Below.refl _ _).alloc (Nat.le_refl _) _
              have zV7 : V7.heap.size = w7.heap.size + 1 := by rw [← hV7]; simp
              have u0 : V7.cell? ⟨w7.heap.size, 0, none⟩ = some (.int .i64 k1) := by rw [← hV7]; simp [go_sem]
              have u1 : V7.cell? ⟨w7.heap.size, 1, none⟩ = some (.int .i64 n1) := by rw [← hV7]; simp [go_sem]
              have u2 : V7.cell? ⟨w7.heap.size, 2, none⟩ = some (.string z) := by rw [← hV7]; simp [go_sem]
              have u3 : V7.cell? ⟨w7.heap.size, 3, none⟩ = some (.slice A1 m1 cap1) := by rw [← hV7]; simp [go_sem]
              have H7 : Hd w g (some ⟨b, off, none⟩) L.length cap (a1 : Int) (c1 : Int) (.int .i64 3) (.int .i64 0) (.string ⟨#[]⟩) v V7 := (HHR.out.ow gne3 gne ho7 hrb).own gl (Ow.of_below b7 none) (fun q hq => by cases hq)
              have O7 : Ow w V7 (some g) (some g) := (HO.out.trans ho7).below b7
              have N7 : OwnD V7 (w.heap.size + 2) v ts xs := (HOWN.out.kept ho7.1 (fun q hq => by injection hq with hq; omega)).below b7
              have L7 : Lies V7 (fun q => w.heap.size + 2 ≤ q ∧ some q ≠ v.ownBlock) D t (.agg #[.int .i64 k1, .int .i64 n1, .string z, .slice A1 m1 cap1]) := (hL7.weak (fun q hq _ => ⟨by have := wl.out; omega, fun e => by have := (HOWN.out.row.lt q e.symm).2; omega⟩)).below b7
              have VV := hid hV7
              have HH7 := hid H7
              have HO7 := hid O7
              have HN7 := hid N7
              have HL7 := hid L7
              have uz : w7.heap.size < V7.heap.size := by omega
              have HA1 := hid ha1
              have HREST := hid hrest
              have e2 : w.heap.size + 2 ≤ V7.heap.size := by have := H7.xl; omega
              clear hV7 b7 H7 O7 N7 L7 hrb ho7 CALL hL7 ha1 hrest zV7
              go_upto_region 26 with fail
              rw [VV.out]
              have HE := HH7.out
              have y0 := HE.x0
              have y1 := HE.x1
              have y2 := HE.x2
              have y3 := HE.x3
              have yf := HE.xf
              have yl := HE.xl
              have z0 := HE.z0
              have z1 := HE.z1
              have z2 := HE.z2
              have z3 := HE.z3
              have zf := HE.zf
              have zl := HE.zl
              clear HE VV
              obtain ⟨V8, hV8⟩ : ∃ V : World, V7.alloc (Obj.cells #[.int .i64 k1, .int .i64 n1, .string z, .slice A1 m1 cap1] 34) = V := ⟨_, rfl⟩
              have b8 : Below V7.heap.size V7 V8 := by rw [← hV8]; exact (Below.refl _ _).alloc (Nat.le_refl _) _
              have s0 : V8.cell? ⟨V7.heap.size, 0, none⟩ = some (.int .i64 k1) := by rw [← hV8]; simp [go_sem]
              have s1 : V8.cell? ⟨V7.heap.size, 1, none⟩ = some (.int .i64 n1) := by rw [← hV8]; simp [go_sem]
              have s2 : V8.cell? ⟨V7.heap.size, 2, none⟩ = some (.string z) := by rw [← hV8]; simp [go_sem]
              have s3 : V8.cell? ⟨V7.heap.size, 3, none⟩ = some (.slice A1 m1 cap1) := by rw [← hV8]; simp [go_sem]
              have H8 : Hd w g (some ⟨b, off, none⟩) L.length cap (a1 : Int) (c1 : Int) (.int .i64 3) (.int .i64 0) (.string ⟨#[]⟩) v V8 := HH7.out.own gl (Ow.of_below b8 none) (fun q hq => by cases hq)
              have HH8 := hid H8
              have HO8 := hid (HO7.out.below b8)
              have HN8 := hid (HN7.out.below b8)
              have HL8 := hid (HL7.out.below b8)
              have HS8 := hid (show V8.cell? ⟨V7.heap.size, 0, none⟩ = some (.int .i64 k1) ∧ V8.cell? ⟨V7.heap.size, 1, none⟩ = some (.int .i64 n1) ∧ V8.cell? ⟨V7.heap.size, 2, none⟩ = some (.string z) ∧ V8.cell? ⟨V7.heap.size, 3, none⟩ = some (.slice A1 m1 cap1) from ⟨s0, s1, s2, s3⟩)
              have HZ8 := hid (show w.heap.size + 2 ≤ V8.heap.size from Nat.le_trans e2 b8.size)
              have VV8 := hid hV8
              have t6 := hid (show ts.length ≤ 600 by have := HTL.out; omega)
              clear hV8 b8 s0 s1 s2 s3 H8
              go_wp2_with (at_builtin; rw [VV8.out]; refine appD rfl _ _ rfl (w.heap.size + 2) v ts xs rfl HN8.out V7.heap.size rfl k1 n1 z A1 m1 cap1 t HS8.out.1 HS8.out.2.1 HS8.out.2.2.1 HS8.out.2.2.2 HL8.out t6.out HZ8.out ?_; intro v' w10 xs' how10 hO10; obtain ⟨A10, m10, c10, hv10⟩ : ∃ (A : Option Addr) (m c : Nat), v' = .slice A m c := (by obtain ⟨A, c, h, _⟩ := how10.form; exact ⟨A, _, c, h⟩); subst hv10; have HW10 := hid how10; have HO10 := hid hO10; have H10 := HH8.out.own gl hO10 (fun q hq => (HN8.out.row.lt q hq).1); have HH10 := hid H10; clear y0 y1 y2 y3 yf yl z0 z1 z2 z3 zf zl u0 u1 u2 u3; have y3 := H10.x3; have yf := H10.xf; have yl := H10.xl; clear how10 hO10 H10)
              go_roundw
              case rel =>
                refine ⟨k + 1, a1, c1, ts ++ [t], xs', .slice A10 m10 c10, by go_num, hlt, by rw [List.length_append, HTL.out]; rfl, by have := HCNT.out; omega, HCNT.out.2, HA1.out, ?_, HH10.out.f3 gne3 (.slice A10 m10 c10), ?_, ?_⟩
                · exact HW10.out.kept ((Ow.refl w10 (some (w.heap.size + 1))).setCell ⟨w.heap.size + 1, 3, none⟩ rfl (.slice A10 m10 c10)).1 (fun q hq => by injection hq with hq; omega)
                · exact (HO8.out.own HO10.out (fun q hq => by have := (HN8.out.row.lt q hq).1; omega)).setNew _ (by simp) _
                · rw [← HREST.out]
                  exact HR2.out
              case measure => exact rr_meas _ _ hlt
          · have e : k = n := by omega
            subst e
            have i3 : ¬ (k : Int) < (k : Int) := by omega
            obtain ⟨A', cap', hv, hcap, hels⟩ := HOWN.out.form
            subst hv
            have hp := HP.out
            rw [Nat.sub_self] at hp
            have hp2 : R = .inr (ts, L.drop a', cc) := by
              rw [← hp]
              simp [Sp.pre, Sp.loopD]
            have HP2 := hid hp2
            have HELS := hid hels
            have HE := HHR.out
            have y0 := HE.x0
            have y1 := HE.x1
            have y2 := HE.x2
            have y3 := HE.x3
            have yf := HE.xf
            have yl := HE.xl
            have z0 := HE.z0
            have z1 := HE.z1
            have z2 := HE.z2
            have z3 := HE.z3
            have zf := HE.zf
            have zl := HE.zl
            clear hp hp2 hels HE
            go_wp2_with fail
            refine bodyPost_ret (v := .tuple #[.agg #[.int .i64 3, .int .i64 0, .string ⟨#[]⟩, .slice A' ts.length cap'], .int .i64 0]) (by simp [results, Try.results48, go_sem, z0, z1, z2, z3, zf, gne, gne2]) rfl ?_
            first | rw [HR.out, HP2.out] | rw [HP2.out]
            have t5 : ts.length ≤ 500 := by have := HTL.out; omega
            refine ⟨_, a', rfl, ⟨⟨#[]⟩, A', cap', rfl, rfl, ⟨⟨by first | decide | simp, by first | decide | simp⟩, ⟨by first | decide | simp, by first | decide | simp⟩, by first | decide | simp, by simp; omega, by simpa using hcap⟩, ?_⟩, ha', rfl, HHR.out.rb.res gne _ _ _ _, HO.out.res _ _ _ _⟩
            exact HELS.out.keep (fun q hq hl => ⟨by omega, (Below.heap_setCell _ _ _ _ (by simp; omega)).trans ((Below.heap_setCell _ _ _ _ (by simp; omega)).trans ((Below.heap_setCell _ _ _ _ (by simp; omega)).trans (Below.heap_setCell _ _ _ _ (by simp; omega))))⟩)
end Go.Proofs.Ytcjhgihkofmhgaa
