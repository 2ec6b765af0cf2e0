/-
  Layer 6: the reference's reader: what is refused at once, by contract.
-/
import Derived.Test.YtcjhgihkofmhgaaCyh
namespace Go.Proofs.Ytcjhgihkofmhgaa
open Go.RowKit
set_option linter.unusedVariables false
set_option linter.unusedSimpArgs false

set_option maxRecDepth 100000 in
set_option maxHeartbeats 1000000 in
theorem rr_torn (L : List UInt8) (A : Option Addr) (cap i : Nat) (c : Int) (g : Nat) (hl : L.length ≤ 140737488355328) (w : World) (hB : RB w g A L.length cap L.length c) :
    Calls Try.prog 48 #[.pointer (some ⟨g, 0, none⟩), .int .i64 (i : Int)] w (Gives (.tuple #[.agg #[.int .i64 0, .int .i64 0, .string ⟨#[]⟩, .slice none 0 0], .int .i64 17]) w) := by
  have gl := hB.lt
  have r0 := hB.c0
  have r1 := hB.c1
  have fr := hB.fr
  have i1 : ((L.length : Int) ≤ (L.length : Int)) := by omega
  clear hB
  go_enter Try.func48, Try.ntmps48
  go_wp2_with fail
  go_quiet (fail)
  go_wp2_with fail
  refine bodyPost_ret (v := .tuple #[.agg #[.int .i64 0, .int .i64 0, .string ⟨#[]⟩, .slice none 0 0], .int .i64 17]) (by simp [results, Try.results48, go_sem, gl]) rfl ?_
  exact Gives.mk rfl (by repeat' (first | (with_reducible exact Below.refl _ _) | (with_reducible refine Below.alloc ?_ ?_ _) | (with_reducible refine Below.setCell ?_ ?_ _) | (with_reducible refine Below.drew ?_) | (with_reducible refine below_dn ?_ _) | (with_reducible refine Below.trans ?_ (Below.mono (by assumption) ?_)) | (simp; done) | (simp; omega) | omega))
set_option maxRecDepth 100000 in
set_option maxHeartbeats 2000000 in
theorem rr_kind (len : Nat) (b off at_ X : Nat) (cap i : Nat) (c : Int) (g : Nat) (ha : at_ < len) (hk : ¬ (1 ≤ X ∧ X ≤ 3)) (hX : X < 256) (hl : len ≤ 140737488355328) (w : World) (hB : RB w g (some ⟨b, off, none⟩) len cap at_ c)
    (bl : b < w.heap.size) (hx : w.cell? ⟨b, off + at_, none⟩ = some (.int .u8 (X : Int))) :
    Calls Try.prog 48 #[.pointer (some ⟨g, 0, none⟩), .int .i64 (i : Int)] w (Gives (.tuple #[.agg #[.int .i64 0, .int .i64 0, .string ⟨#[]⟩, .slice none 0 0], .int .i64 1]) w) := by
  have gl := hB.lt
  have r0 := hB.c0
  have r1 := hB.c1
  have fr := hB.fr
  have i0 : (0 : Int) ≤ (at_ : Int) := by omega
  have i1 : (at_ : Int) < (len : Int) := by omega
  by_cases h1 : (X : Int) < 1
  · clear hk
    go_enter Try.func48, Try.ntmps48
    go_wp2_with fail
    go_quiet (fail)
    go_wp2_with fail
    go_region
    all_goals
      go_wp2_with fail
      refine bodyPost_ret (v := .tuple #[.agg #[.int .i64 0, .int .i64 0, .string ⟨#[]⟩, .slice none 0 0], .int .i64 1]) (by simp [results, Try.results48, go_sem, gl]) rfl ?_
      exact Gives.mk rfl (by repeat' (first | (with_reducible exact Below.refl _ _) | (with_reducible refine Below.alloc ?_ ?_ _) | (with_reducible refine Below.setCell ?_ ?_ _) | (with_reducible refine Below.drew ?_) | (with_reducible refine below_dn ?_ _) | (with_reducible refine Below.trans ?_ (Below.mono (by assumption) ?_)) | (simp; done) | (simp; omega) | omega))
  · have h2 : (3 : Int) < (X : Int) := by omega
    clear hk
    go_enter Try.func48, Try.ntmps48
    go_wp2_with fail
    go_quiet (fail)
    go_wp2_with fail
    go_region
    all_goals
      go_wp2_with fail
      refine bodyPost_ret (v := .tuple #[.agg #[.int .i64 0, .int .i64 0, .string ⟨#[]⟩, .slice none 0 0], .int .i64 1]) (by simp [results, Try.results48, go_sem, gl]) rfl ?_
      exact Gives.mk rfl (by repeat' (first | (with_reducible exact Below.refl _ _) | (with_reducible refine Below.alloc ?_ ?_ _) | (with_reducible refine Below.setCell ?_ ?_ _) | (with_reducible refine Below.drew ?_) | (with_reducible refine below_dn ?_ _) | (with_reducible refine Below.trans ?_ (Below.mono (by assumption) ?_)) | (simp; done) | (simp; omega) | omega))
set_option maxRecDepth 100000 in
set_option maxHeartbeats 2000000 in
theorem rr_limit (len : Nat) (b off at_ X : Nat) (cap i c : Nat) (g : Nat) (ha : at_ < len) (hk : 1 ≤ X ∧ X ≤ 3) (hl : len ≤ 140737488355328) (hi : 7 < i ∨ 500 < c + 1) (w : World) (hB : RB w g (some ⟨b, off, none⟩) len cap at_ c)
    (bl : b < w.heap.size) (hx : w.cell? ⟨b, off + at_, none⟩ = some (.int .u8 (X : Int))) :
    Calls Try.prog 48 #[.pointer (some ⟨g, 0, none⟩), .int .i64 (i : Int)] w (Gives (.tuple #[.agg #[.int .i64 0, .int .i64 0, .string ⟨#[]⟩, .slice none 0 0], .int .i64 8]) w) := by
  have gl := hB.lt
  have r0 := hB.c0
  have r1 := hB.c1
  have r2 := hB.c2
  have fr := hB.fr
  have i0 : (0 : Int) ≤ (at_ : Int) := by omega
  have i1 : (at_ : Int) < (len : Int) := by omega
  have h1 : ¬ (X : Int) < 1 := by omega
  have h2 : ¬ (3 : Int) < (X : Int) := by omega
  by_cases h3 : (8 : Int) ≤ (i : Int)
  · clear hi hk
    go_enter Try.func48, Try.ntmps48
    go_wp2_with fail
    go_quiet (fail)
    go_wp2_with fail
    go_region
    all_goals
      go_wp2_with fail
      refine bodyPost_ret (v := .tuple #[.agg #[.int .i64 0, .int .i64 0, .string ⟨#[]⟩, .slice none 0 0], .int .i64 8]) (by simp [results, Try.results48, go_sem, gl]) rfl ?_
      exact Gives.mk rfl (by repeat' (first | (with_reducible exact Below.refl _ _) | (with_reducible refine Below.alloc ?_ ?_ _) | (with_reducible refine Below.setCell ?_ ?_ _) | (with_reducible refine Below.drew ?_) | (with_reducible refine below_dn ?_ _) | (with_reducible refine Below.trans ?_ (Below.mono (by assumption) ?_)) | (simp; done) | (simp; omega) | omega))
  · have h4 : (500 : Int) ≤ (c : Int) := by omega
    clear hi hk
    go_enter Try.func48, Try.ntmps48
    go_wp2_with fail
    go_quiet (fail)
    go_wp2_with fail
    go_region
    all_goals
      go_wp2_with fail
      refine bodyPost_ret (v := .tuple #[.agg #[.int .i64 0, .int .i64 0, .string ⟨#[]⟩, .slice none 0 0], .int .i64 8]) (by simp [results, Try.results48, go_sem, gl]) rfl ?_
      exact Gives.mk rfl (by repeat' (first | (with_reducible exact Below.refl _ _) | (with_reducible refine Below.alloc ?_ ?_ _) | (with_reducible refine Below.setCell ?_ ?_ _) | (with_reducible refine Below.drew ?_) | (with_reducible refine below_dn ?_ _) | (with_reducible refine Below.trans ?_ (Below.mono (by assumption) ?_)) | (simp; done) | (simp; omega) | omega))
end Go.Proofs.Ytcjhgihkofmhgaa
