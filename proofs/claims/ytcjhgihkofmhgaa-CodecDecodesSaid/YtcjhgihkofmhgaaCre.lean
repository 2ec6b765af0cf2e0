/-
  Layer 6: the reference's reader: a list below 0, by contract.
-/
import Derived.Test.YtcjhgihkofmhgaaCrp
namespace Go.Proofs.Ytcjhgihkofmhgaa
open Go.RowKit
set_option linter.unusedVariables false
set_option linter.unusedSimpArgs false

set_option maxRecDepth 100000 in
set_option maxHeartbeats 4000000 in
theorem rr_list_neg (len : Nat) (b off at_ : Nat) (cap i c : Nat) (g : Nat) (ha : at_ < len) (hl : len ≤ 140737488355328) (hi : ¬ (7 < i ∨ 500 < c + 1)) (w : World) (hB : RB w g (some ⟨b, off, none⟩) len cap at_ c)
    (bl : b < w.heap.size) (hx : w.cell? ⟨b, off + at_, none⟩ = some (.int .u8 ((3 : Nat) : Int))) (B : Nat) (hBg : B ≤ g) (L : List UInt8) (S : Bs w B (some ⟨b, off, none⟩) L) (n x er : Int)
    (gi : ∀ W, Bs W B (some ⟨b, off, none⟩) L → Calls Try.prog 13 #[.slice (some ⟨b, off, none⟩) len cap, .int .i64 ((at_ : Int) + 1)] W fun e w' => e = .returned (.tuple #[.int .i64 n, .int .i64 x, .int .i64 er]) ∧ W = w') (he : er = 0) (hn : n < 0) :
    Calls Try.prog 48 #[.pointer (some ⟨g, 0, none⟩), .int .i64 (i : Int)] w (PostZ w g (some ⟨b, off, none⟩) len cap 3) := by
  have HE0 := hid he
  clear he
  obtain ⟨X, hX1⟩ : ∃ X : Nat, X = 3 := ⟨3, rfl⟩
  rw [← hX1] at hx
  have HX := hid hX1
  have gl := hB.lt
  have r0 := hB.c0
  have r1 := hB.c1
  have fr := hB.fr
  have i0 : (0 : Int) ≤ (at_ : Int) := by omega
  have i1 : (at_ : Int) < (len : Int) := by omega
  have h1 : ¬ (X : Int) < 1 := by omega
  have h2 : ¬ (3 : Int) < (X : Int) := by omega
  have h3 : ¬ (8 : Int) ≤ (i : Int) := by omega
  have h4 : ¬ (500 : Int) ≤ (c : Int) := by omega
  have wr1 : IntKind.i64.wrap ((at_ : Int) + 1) = (at_ : Int) + 1 := IntWalk.i64_in _ (by omega)
  have wr2 : IntKind.i64.wrap ((c : Int) + 1) = (c : Int) + 1 := IntWalk.i64_in _ (by omega)
  have WR1 := hid wr1
  have WR2 := hid wr2
  have GI := hid gi
  have HS := hid S
  clear gi S wr1 wr2 hX1 hi
  go_enter Try.func48, Try.ntmps48
  go_wp2_with fail
  go_quiet (fail)
  go_upto_region 3 with (fail)
  go_cut [6] (fun v wx => v = .pointer (some ⟨w.heap.size + 1, 0, none⟩) ∧ Hd w g (some ⟨b, off, none⟩) len cap at_ c (.int .i64 (X : Int)) (.int .i64 0) (.string ⟨#[]⟩) (.slice none 0 0) wx ∧ Below w.heap.size w wx)
  case first =>
    go_region
    all_goals
      go_wp2_with fail
      go_meet
      refine ⟨rfl, ⟨hB.below (by repeat' (first | (with_reducible exact Below.refl _ _) | (with_reducible refine Below.alloc ?_ ?_ _) | (with_reducible refine Below.setCell ?_ ?_ _) | (with_reducible refine Below.drew ?_) | (with_reducible refine below_dn ?_ _) | (with_reducible refine Below.trans ?_ (Below.mono (by assumption) ?_)) | (simp; done) | (simp; omega) | omega)), (by first | assumption | (simp; done) | (simp; omega) | (dsimp only; omega) | omega), by simp [go_sem], by simp [go_sem], by simp [go_sem], by simp [go_sem], fun o => by simp [go_sem], (by first | assumption | (simp; done) | (simp; omega) | (dsimp only; omega) | omega), by simp [go_sem], by simp [go_sem], by simp [go_sem], by simp [go_sem], fun o => by simp [go_sem]⟩, by repeat' (first | (with_reducible exact Below.refl _ _) | (with_reducible refine Below.alloc ?_ ?_ _) | (with_reducible refine Below.setCell ?_ ?_ _) | (with_reducible refine Below.drew ?_) | (with_reducible refine below_dn ?_ _) | (with_reducible refine Below.trans ?_ (Below.mono (by assumption) ?_)) | (simp; done) | (simp; omega) | omega)⟩
  case rest =>
    obtain ⟨rfl, HD, BW⟩ := hcut
    have HBW := hid BW
    clear BW
    clear r0 r1 fr hx
    have gne : ¬ w.heap.size = g := by omega
    have gne2 : ¬ g = w.heap.size := by omega
    have gne3 : ¬ w.heap.size + 1 = g := by omega
    have gne4 : ¬ g = w.heap.size + 1 := by omega
    have HH := hid HD
    have q1 := HD.rb.c1
    have q2 := HD.rb.c2
    have qf := HD.rb.fr
    have ql := HD.rb.lt
    have y0 := HD.x0
    clear HD
    go_upto_region 8 with fail
    go_cut [5] (fun v wx => v = .int .i64 0 ∧ Hd w g (some ⟨b, off, none⟩) len cap ((at_ : Int) + 1) ((c : Int) + 1) (.int .i64 (X : Int)) (.int .i64 0) (.string ⟨#[]⟩) (.slice none 0 0) wx ∧ Ow w wx (some g) (some g))
    case first =>
      go_region_with (fail)
      all_goals
        go_wp2_with fail
        go_meet
        have hh := HH.out.step gne2 gne4 (IntKind.i64.wrap ((at_ : Int) + 1)) (IntKind.i64.wrap ((c : Int) + 1))
        have ho := ((Ow.of_below HBW.out (some g)).setCell ⟨g, 1, none⟩ rfl (.int .i64 (IntKind.i64.wrap ((at_ : Int) + 1)))).setCell ⟨g, 2, none⟩ rfl (.int .i64 (IntKind.i64.wrap ((c : Int) + 1)))
        refine ⟨rfl, ?_, ?_⟩
        · have e9 : ∀ (p q : Int) (W : World), Hd w g (some ⟨b, off, none⟩) len cap (IntKind.i64.wrap ((at_ : Int) + 1)) (IntKind.i64.wrap ((c : Int) + 1)) (.int .i64 (X : Int)) (.int .i64 0) (.string ⟨#[]⟩) (.slice none 0 0) W → p = IntKind.i64.wrap ((at_ : Int) + 1) → q = IntKind.i64.wrap ((c : Int) + 1) → Hd w g (some ⟨b, off, none⟩) len cap p q (.int .i64 (X : Int)) (.int .i64 0) (.string ⟨#[]⟩) (.slice none 0 0) W := fun p q W h hp hq => by
            subst hp hq
            exact h
          refine e9 _ _ _ ?_ WR1.out.symm WR2.out.symm
          first | exact hh.drew | exact hh
        · first | exact ho.drew | exact ho
    case rest =>
      obtain ⟨rfl, HU, OU⟩ := hcut
      clear q1 q2 qf ql y0 HH HBW h1 h2 h3 h4
      have hX := HX.out
      subst hX
      have q0 := HU.rb.c0
      have q1 := HU.rb.c1
      have qf := HU.rb.fr
      have ql := HU.rb.lt
      have y0 := HU.x0
      have y1 := HU.x1
      have y2 := HU.x2
      have y3 := HU.x3
      have yf := HU.xf
      have yl := HU.xl
      have HHU := hid HU
      have HOU := hid OU
      clear HU OU
      have HS2 : Hid (∀ W, Below B wc W → Bs W B (some ⟨b, off, none⟩) L) := hid fun W hW => (HS.out.below ((HOU.out.under (B := B) (by omega) (fun g' hg' => by injection hg' with hg'; omega)).trans hW))
      go_upto_region 13 with fail
      go_cut [10, 11, 12] (fun v1 v2 v3 wx => v1 = .int .i64 n ∧ v2 = .int .i64 x ∧ v3 = .int .i64 er ∧ Hd w g (some ⟨b, off, none⟩) len cap ((at_ : Int) + 1) ((c : Int) + 1) (.int .i64 (3 : Int)) (.int .i64 0) (.string ⟨#[]⟩) (.slice none 0 0) wx ∧ Ow w wx (some g) (some g))
      case first =>
        go_quiet ((go_at_call 13; exact Calls.quiet_of_same ((GI.out _ (HS2.out _ (by repeat' (first | (with_reducible exact Below.refl _ _) | (with_reducible refine Below.alloc ?_ ?_ _) | (with_reducible refine Below.setCell ?_ ?_ _) | (with_reducible refine Below.drew ?_) | (with_reducible refine below_dn ?_ _) | (with_reducible refine Below.trans ?_ (Below.mono (by assumption) ?_)) | (simp; done) | (simp; omega) | omega)))).mono (fun e w' h => ⟨h.1, h.2.symm⟩))))
        go_wp2_with fail
        go_meet
        refine ⟨rfl, rfl, rfl, ?_, ?_⟩
        · first | exact HHU.out | exact HHU.out.quiet gne3 gne _
        · first | exact HOU.out | exact HOU.out.below (below_dn (Below.refl _ _) _)
      case rest =>
        obtain ⟨rfl, rfl, rfl, HE, OE⟩ := hcut
        have HHE := hid HE
        have HOE := hid OE
        clear q0 q1 qf ql y0 y1 y2 y3 yf yl HHU HOU HS2 GI
        have q1 := HE.rb.c1
        have qf := HE.rb.fr
        have ql := HE.rb.lt
        have y0 := HE.x0
        have y1 := HE.x1
        have y2 := HE.x2
        have y3 := HE.x3
        have yf := HE.xf
        have yl := HE.xl
        have z0 := HE.z0
        have z1 := HE.z1
        have z2 := HE.z2
        have z3 := HE.z3
        have zf := HE.zf
        have zl := HE.zl
        clear HE OE
        have he := HE0.out
        clear HE0
        subst he
        go_wp2_with fail
        refine bodyPost_ret (v := .tuple #[.agg #[.int .i64 0, .int .i64 0, .string ⟨#[]⟩, .slice none 0 0], .int .i64 3]) (by simp [results, Try.results48, go_sem, z0, z1, z2, z3, zf, gne, gne2, gne3, gne4]) rfl ?_
        exact ⟨⟨_, _, _, _, _, _, rfl⟩, ⟨_, _, (HHE.out.rb.set1 _).res gne _ _ _ _⟩, (HOE.out.setCell ⟨g, 1, none⟩ rfl _).res _ _ _ _⟩
end Go.Proofs.Ytcjhgihkofmhgaa
