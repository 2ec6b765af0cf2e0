/-
  Layer 6: the reference's reader: what is left, by contract.
-/
import Derived.Test.YtcjhgihkofmhgaaCra
namespace Go.Proofs.Ytcjhgihkofmhgaa
open Go.RowKit
set_option linter.unusedVariables false
set_option linter.unusedSimpArgs false

/-- What is left when the reference refuses. -/
def PostZ (w : World) (g : Nat) (A : Option Addr) (len cap : Nat) (er : Int) (e : Ending) (w' : World) : Prop :=
  (∃ (k n : Int) (s : ByteArray) (A' : Option Addr) (m cap' : Nat), e = .returned (.tuple #[.agg #[.int .i64 k, .int .i64 n, .string s, .slice A' m cap'], .int .i64 er])) ∧ (∃ x y, RB w' g A len cap x y) ∧ Ow w w' (some g) (some g)
/-- What is left when it has read a datum without elements. -/
def PostV (w : World) (g : Nat) (A : Option Addr) (len cap : Nat) (v : Value) (x y : Int) (e : Ending) (w' : World) : Prop :=
  e = .returned (.tuple #[v, .int .i64 0]) ∧ RB w' g A len cap x y ∧ Ow w w' (some g) (some g)
theorem Hd.quiet {w wx : World} {g : Nat} {A : Option Addr} {len cap : Nat} {x y : Int} {v0 v1 v2 v3 : Value} (h : Hd w g A len cap x y v0 v1 v2 v3 wx) (n2 : ¬ w.heap.size + 1 = g) (n1 : ¬ w.heap.size = g) (n : Nat) : Hd w g A len cap x y v0 v1 v2 v3 (wx.drewN n) :=
  h.ow n2 n1 (Ow.of_below (below_dn (Below.refl _ _) n) _) (h.rb.below (below_dn (Below.refl _ _) n))
theorem Ow.res {w wx : World} {g : Nat} (h : Ow w wx (some g) (some g)) (v0 v1 v2 v3 : Value) : Ow w ((((wx.setCell ⟨w.heap.size, 0, none⟩ v0).setCell ⟨w.heap.size, 1, none⟩ v1).setCell ⟨w.heap.size, 2, none⟩ v2).setCell ⟨w.heap.size, 3, none⟩ v3) (some g) (some g) :=
  (((h.setNew _ (Nat.le_refl _) _).setNew _ (Nat.le_refl _) _).setNew _ (Nat.le_refl _) _).setNew _ (Nat.le_refl _) _
theorem RB.res {w wx : World} {g : Nat} {A : Option Addr} {len cap : Nat} {x y : Int} (h : RB wx g A len cap x y) (hg : ¬ w.heap.size = g) (v0 v1 v2 v3 : Value) : RB ((((wx.setCell ⟨w.heap.size, 0, none⟩ v0).setCell ⟨w.heap.size, 1, none⟩ v1).setCell ⟨w.heap.size, 2, none⟩ v2).setCell ⟨w.heap.size, 3, none⟩ v3) g A len cap x y :=
  (((h.other _ hg _).other _ hg _).other _ hg _).other _ hg _
end Go.Proofs.Ytcjhgihkofmhgaa
