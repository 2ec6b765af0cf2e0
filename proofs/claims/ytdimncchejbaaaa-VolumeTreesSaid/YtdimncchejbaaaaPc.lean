/-
  Layer 12: slices.BinarySearchFunc over the closure of pieceAt, pieceAt of package piecewise, by contract.
-/
import Derived.Test.YtdimncchejbaaaaPb
namespace Go.Proofs.Ytdimncchejbaaaa
open Go.RowKit
set_option linter.unusedVariables false
set_option linter.unusedSimpArgs false

theorem pclos_any (f t : Int) (A : Option Addr) (m k : Nat) (x : Int) (w : World) :
    Calls Try.prog 90 #[.agg #[.int .i64 f, .int .i64 t, .slice A m k], .int .i64 x] w (Gives (.int .i64 (if t ≤ x then -1 else 1)) w) := by
  by_cases c : t ≤ x
  · rw [if_pos c]
    go_enter Try.func90, Try.ntmps90
    go_wp2_with fail
    go_ret
    exact Gives.mk rfl ((Below.refl _ _).alloc (Nat.le_refl _) _)
  · rw [if_neg c]
    go_enter Try.func90, Try.ntmps90
    go_wp2_with fail
    go_ret
    exact Gives.mk rfl ((Below.refl _ _).alloc (Nat.le_refl _) _)
def BsRel (w : World) (n I : Int) (t u : Value) (wr : World) : Prop := ∃ i j : Int, t = .int .i64 i ∧ u = .int .i64 j ∧ 0 ≤ i ∧ i ≤ I ∧ I ≤ j ∧ j ≤ n ∧ Below w.heap.size w wr
set_option maxRecDepth 100000 in
set_option maxHeartbeats 2000000 in
theorem pbs_any (A : Option Addr) (cap : Nat) (l : List Sp.Pd) (x : Int) (I : Nat) (w : World) (hl : l.length ≤ 2000) (hT : Pcs w A l) (hI : Sp.IsAt l x I) :
    Calls Try.prog 89 #[.slice A l.length cap, .int .i64 x, .func (.func 90) #[] #[]] w (Gives (.tuple #[.int .i64 (I : Int), .bool false]) w) := by
  have HT := hid hT
  have HI := hid hI
  obtain ⟨n, hn⟩ : ∃ n : Int, (l.length : Int) = n := ⟨_, rfl⟩
  obtain ⟨J, hJ⟩ : ∃ J : Int, (I : Int) = J := ⟨_, rfl⟩
  have HN := hid hn
  have HJ := hid hJ
  have n2 : n ≤ 2000 := by omega
  have n0 : 0 ≤ n := by omega
  have j0 : 0 ≤ J := by omega
  have jn : J ≤ n := by have := hI.1; omega
  rw [hJ]
  clear hT hI hJ hl
  go_enter Try.func89, Try.ntmps89
  go_wp2_with fail
  go_loopw [9, 10] (fun t u wr => BsRel w n J t u wr) (fun t u _ => (intOf u - intOf t).toNat)
  case atStart => exact ⟨0, n, by first | rfl | (rw [hn]), by first | rfl | (rw [hn]), by omega, j0, jn, by omega, Below.refl _ _⟩
  case round =>
    obtain ⟨i, j, rfl, rfl, i0, i1, i2, i3, hB⟩ := hrel
    have HB := hid hB
    clear hB
    by_cases hlt : i < j
    · obtain ⟨h, eh⟩ : ∃ h, (i + j) / 2 = h := ⟨_, rfl⟩
      have h0 : i ≤ h := by omega
      have h1 : h < j := by omega
      have hk : h.toNat < l.length := by have := HN.out; omega
      obtain ⟨b, off, rfl, bl, q0, q1, q2⟩ := HT.out.at_ HB.out hk
      have lo := HI.out.2.1 _ hk
      have hi := HI.out.2.2 _ hk
      obtain ⟨⟨f, t, A', k, c⟩, hp⟩ : ∃ c', l[h.toNat]'hk = c' := ⟨_, rfl⟩
      rw [hp] at q0 q1 q2 lo hi
      simp only at q0 q1 q2 lo hi
      have bw : b < wr.heap.size := Nat.lt_of_lt_of_le bl HB.out.size
      have CL := hid (pclos_any f t A' c.length k x wr)
      have z0 : 0 ≤ h := by omega
      have z1 : h < n := by omega
      by_cases c5 : h < J
      · have ht : t ≤ x := lo (by have := HJ.out; omega)
        rw [if_pos ht] at CL
        clear lo hi hp hk bl ht
        go_wp2_with fail
        refine CL.out.mono ?_
        rintro _ w5 ⟨rfl, hb⟩
        have HB5 := hid (HB.out.trans (hb.mono HB.out.size))
        clear hb
        go_wp2_with fail
        go_roundw
        case rel => exact ⟨h + 1, j, by go_num, rfl, by omega, by omega, i2, i3, HB5.out⟩
        case measure => simp [intOf]; omega
      · have ht : ¬ t ≤ x := by have := hi (by have := HJ.out; omega); omega
        rw [if_neg ht] at CL
        clear lo hi hp hk bl ht
        go_wp2_with fail
        refine CL.out.mono ?_
        rintro _ w5 ⟨rfl, hb⟩
        have HB5 := hid (HB.out.trans (hb.mono HB.out.size))
        clear hb
        go_wp2_with fail
        go_roundw
        case rel => exact ⟨i, h, rfl, rfl, i0, i1, by omega, by omega, HB5.out⟩
        case measure => simp [intOf]; omega
    · have e : i = J := by omega
      have e2 : j = J := by omega
      subst e2
      subst e
      by_cases c6 : i < n
      · have hk : i.toNat < l.length := by have := HN.out; omega
        obtain ⟨b, off, rfl, bl, q0, q1, q2⟩ := HT.out.at_ HB.out hk
        have hi := HI.out.2.2 _ hk (by have := HJ.out; omega)
        obtain ⟨⟨f, t, A', k, c⟩, hp⟩ : ∃ c', l[i.toNat]'hk = c' := ⟨_, rfl⟩
        rw [hp] at q0 q1 q2 hi
        simp only at q0 q1 q2 hi
        have bw : b < wr.heap.size := Nat.lt_of_lt_of_le bl HB.out.size
        have CL := hid (pclos_any f t A' c.length k x wr)
        rw [if_neg (show ¬ t ≤ x by omega)] at CL
        clear hi hp hk bl
        go_wp2_with fail
        refine CL.out.mono ?_
        rintro _ w5 ⟨rfl, hb⟩
        have HB5 := hid (HB.out.trans (hb.mono HB.out.size))
        clear hb
        go_wp2_with fail
        refine bodyPost_ret (v := .tuple #[.int .i64 i, .bool false]) (by simp [results, Try.results89, go_sem]) rfl ?_
        exact Gives.mk rfl HB5.out
      · go_wp2_with fail
        refine bodyPost_ret (v := .tuple #[.int .i64 i, .bool false]) (by simp [results, Try.results89, go_sem]) rfl ?_
        exact Gives.mk rfl HB.out
/-- What pieceAt looks at. -/
def atJ (l : List Sp.Pd) (I : Nat) : Nat := min I (l.length - 1)
theorem atJ_lt {l : List Sp.Pd} {I : Nat} (h0 : 0 < l.length) : atJ l I < l.length := by unfold atJ; omega
set_option maxRecDepth 100000 in
set_option maxHeartbeats 2000000 in
theorem pat_any (A : Option Addr) (cap : Nat) (l : List Sp.Pd) (x : Int) (I : Nat) (p : Sp.Pd) (w : World) (hl : l.length ≤ 2000) (h0 : 0 < l.length) (hp : l[atJ l I]'(atJ_lt h0) = p) (hT : Pcs w A l) (hI : Sp.IsAt l x I) :
    Calls Try.prog 72 #[.slice A l.length cap, .int .i64 x] w (Gives (.agg #[.int .i64 (p).f, .int .i64 (p).t, .slice (p).A (p).c.length (p).k]) w) := by
  have HT := hid hT
  obtain ⟨b, off, rfl, bl, -, -, -⟩ := hT.at_ (Below.refl _ _) h0
  obtain ⟨V, hV⟩ : ∃ V, w.alloc (Obj.cells #[.int .i64 (0), .int .i64 (0), .slice (none) (0) (0)] 59) = V := ⟨_, rfl⟩
  have vb : Below w.heap.size w V := by rw [← hV]; exact (Below.refl _ _).alloc (Nat.le_refl _) _
  have VS : V.heap.size = w.heap.size + 1 := by rw [← hV]; simp
  have v0 : V.cell? ⟨w.heap.size, 0, none⟩ = some (.int .i64 0) := by rw [← hV]; simp [go_sem]
  have v1 : V.cell? ⟨w.heap.size, 1, none⟩ = some (.int .i64 0) := by rw [← hV]; simp [go_sem]
  have v2 : V.cell? ⟨w.heap.size, 2, none⟩ = some (.slice none 0 0) := by rw [← hV]; simp [go_sem]
  have vf : ∀ o, V.frozen? ⟨w.heap.size, o, none⟩ = false := by intro o; rw [← hV]; simp [go_sem]
  have HV := hid hV
  have HVB := hid vb
  have VSS := hid VS
  have BS := hid (pbs_any (some ⟨b, off, none⟩) cap l x I V hl (hT.below vb) hI)
  obtain ⟨n, hn⟩ : ∃ n : Int, (l.length : Int) = n := ⟨_, rfl⟩
  obtain ⟨J, hJ⟩ : ∃ J : Int, (I : Int) = J := ⟨_, rfl⟩
  obtain ⟨M, hM⟩ : ∃ M, atJ l I = M := ⟨_, rfl⟩
  have ML : M < l.length := hM ▸ atJ_lt h0
  have HML := hid ML
  have hp2 : l[M]'HML.out = p := by subst hM; exact hp
  have iM : (if J < n - 1 then J else n - 1) = (M : Int) := by
    have := hI.1
    unfold atJ at hM
    split <;> omega
  have m0 : (0 : Int) ≤ (M : Int) := by omega
  have m1 : (M : Int) < n := by omega
  have n2 : n ≤ 2000 := by omega
  have n1 : 1 ≤ n := by omega
  have HP := hid hp2
  have HN := hid hn
  rw [hJ] at BS
  have IM := hid iM
  clear hV vb hT hp hI hp2 hM iM VS hJ h0 ML
  go_enter Try.func72, Try.ntmps72
  go_upto_region 1 with fail
  rw [HV.out]
  go_wp2_with fail
  refine BS.out.mono ?_
  rintro _ w5 ⟨rfl, hb⟩
  have lz : w.heap.size < V.heap.size := by rw [VSS.out]; exact Nat.lt_succ_self _
  have x0 : w5.cell? ⟨w.heap.size, 0, none⟩ = some (.int .i64 0) := (hb.cell (p := ⟨w.heap.size, 0, none⟩) lz).trans v0
  have x1 : w5.cell? ⟨w.heap.size, 1, none⟩ = some (.int .i64 0) := (hb.cell (p := ⟨w.heap.size, 1, none⟩) lz).trans v1
  have x2 : w5.cell? ⟨w.heap.size, 2, none⟩ = some (.slice none 0 0) := (hb.cell (p := ⟨w.heap.size, 2, none⟩) lz).trans v2
  have xf : ∀ o, w5.frozen? ⟨w.heap.size, o, none⟩ = false := fun o => (hb.frozen (p := ⟨w.heap.size, o, none⟩) lz).trans (vf o)
  have bz : w.heap.size < w5.heap.size := Nat.lt_of_lt_of_le lz hb.size
  have HB := hid (HVB.out.trans (hb.mono (Nat.le_of_lt lz)))
  obtain ⟨b', off', e, bl', q0, q1, q2⟩ := HT.out.at_ HB.out HML.out
  obtain ⟨rfl, rfl⟩ : b = b' ∧ off = off' := by simpa using e
  rw [HP.out] at q0 q1 q2
  have bw : b < w5.heap.size := Nat.lt_of_lt_of_le bl HB.out.size
  have ne1 : ¬ b = w.heap.size := by omega
  clear hb e bl' v0 v1 v2 vf
  have em : min J (n - 1) = (M : Int) := by
    have h := IM.out
    by_cases c : J < n - 1
    · rw [if_pos c] at h; omega
    · rw [if_neg c] at h; omega
  go_wp2_with fail
  refine bodyPost_ret (v := .agg #[.int .i64 (p).f, .int .i64 (p).t, .slice (p).A (p).c.length (p).k]) (by simp [results, Try.results72, go_sem, x0, x1, x2]) rfl ?_
  exact Gives.mk rfl (by have hB := HB.out; repeat' (first | (with_reducible exact Below.refl _ _) | (with_reducible refine Below.alloc ?_ ?_ _) | (with_reducible refine Below.setCell ?_ ?_ _) | (with_reducible refine Below.drew ?_) | (with_reducible refine Below.trans ?_ (Below.mono (by assumption) ?_)) | (simp; done) | (simp; omega) | omega))
end Go.Proofs.Ytdimncchejbaaaa
