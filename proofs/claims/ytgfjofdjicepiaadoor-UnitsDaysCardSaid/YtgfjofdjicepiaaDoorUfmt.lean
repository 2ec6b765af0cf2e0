/-
  Package units: padded, Format, Date, over the tables.
-/
import Derived.Test.YtgfjofdjicepiaaDoorUstr
namespace Go.Proofs.YtgfjofdjicepiaaDoor
open Go.RowKit
set_option linter.unusedVariables false
set_option linter.unusedSimpArgs false
theorem KI.at {w : World} (K : KI w) {k : Int} (h1 : 1 ≤ k) (h2 : k ≤ 5) : w.cell? ⟨0, k.toNat * 2, none⟩ = some (.string ⟨(Sp.unitL k).toArray⟩) ∧ w.cell? ⟨0, k.toNat * 2 + 1, none⟩ = some (.int .i64 (Sp.decK k)) := by
  have h := K.2 k.toNat (by omega) (by omega)
  have e : ((k.toNat : Nat) : Int) = k := by omega
  rw [e, Nat.mul_comm] at h
  exact h
/-- Two texts, one behind the other. -/
theorem add_run (a b : List UInt8) (h : a.length + b.length ≤ 1000) : ∀ W, (Op.stringOp .add ⟨a.toArray⟩ ⟨b.toArray⟩).run Tryd.prog W = .ok (.string ⟨(a ++ b).toArray⟩) W := by
  intro W
  have z1 : (⟨a.toArray⟩ : ByteArray).size = a.length := by rw [Lib.size_eq, utoList_mk]
  have z2 : (⟨b.toArray⟩ : ByteArray).size = b.length := by rw [Lib.size_eq, utoList_mk]
  rw [run_string_add_sum _ _ _ (by omega)]
  have : (⟨a.toArray⟩ : ByteArray) ++ ⟨b.toArray⟩ = ⟨(a ++ b).toArray⟩ := by
    refine ByteArray.ext ?_
    simp [ByteArray.data_append]
  rw [this]
theorem repeat48 : ∀ c : Nat, Lib.repeatL [48] c = List.replicate c 48
  | 0 => rfl
  | c + 1 => by
    rw [Lib.repeatL, repeat48 c, List.replicate_succ]
    rfl
theorem urep_any (c : Nat) (cI : Int) (hcI : cI = c) (hc : c ≤ 1000) (w : World) : Calls Tryd.prog 68 #[.string ⟨#[48]⟩, .int .i64 cI] w (Gives (.string ⟨(List.replicate c 48).toArray⟩) w) := by
  subst hcI
  refine (Tryd.strings_Repeat ⟨#[48]⟩ c w (by omega) (by have : (⟨#[48]⟩ : ByteArray).size = 1 := rfl; rw [this]; omega)).mono ?_
  rintro e w' ⟨rfl, hb⟩
  have := repeat48 c
  exact Gives.mk (by rw [← this]) hb
theorem uitoa_len (n : Int) (n0 : -9223372036854775808 ≤ n) (n1 : n ≤ 9223372036854775807) : (Lib.itoa n).length ≤ 20 := by
  have nd : ∀ (k u : Nat), u < 10 ^ (k + 1) → Lib.nDigits u ≤ k + 1 := by
    intro k
    induction k with
    | zero => intro u h; rw [Lib.nDigits_small (by simpa using h)]; omega
    | succ k ih =>
      intro u h
      by_cases c : u < 10
      · rw [Lib.nDigits_small c]; omega
      · rw [Lib.nDigits_big c]
        have := ih (u / 10) (by rw [Nat.pow_succ] at h; omega)
        omega
  have h := nd 18 n.natAbs (by omega)
  unfold Lib.itoa
  split
  · simp only [List.length_cons, Lib.decDigits_length]; omega
  · rw [show n.toNat = n.natAbs by omega, Lib.decDigits_length]; omega

set_option maxRecDepth 100000 in
set_option maxHeartbeats 2000000 in
theorem upad_walk (n wd D C : Int) (T R Z : ByteArray) (m : Nat) (hm : T.size = m) (hD : wd - m = D) (m1 : m ≤ 100) (w0 : 0 ≤ wd) (w1 : wd ≤ 100) (hX : max 0 D = C) (w : World)
    (i1 : ∀ W, Below w.heap.size w W → Calls Tryd.prog 60 #[.int .i64 n] W (Gives (.string T) W))
    (rp : ∀ w : World, Calls Tryd.prog 68 #[.string ⟨#[48]⟩, .int .i64 C] w (Gives (.string R) w)) (s1 : ∀ W, (Op.stringOp .add R T).run Tryd.prog W = .ok (.string Z) W) :
    Calls Tryd.prog 37 #[.int .i64 n, .int .i64 wd] w (Gives (.string Z) w) := by
  go_enter Tryd.func37, Tryd.ntmps37
  go_wp2_with fail
  refine (i1 _ (by repeat' (first | (with_reducible exact Below.refl _ _) | (with_reducible refine Below.alloc ?_ ?_ _) | (with_reducible refine Below.setCell ?_ ?_ _) | (with_reducible refine Below.drew ?_) | (with_reducible refine Below.trans ?_ (Below.mono (by assumption) ?_)) | (simp; done) | (simp; omega) | omega))).mono ?_; rintro _ w2 ⟨rfl, hb⟩
  have BN : Below w.heap.size w w2 := by repeat' (first | (with_reducible exact Below.refl _ _) | (with_reducible refine Below.alloc ?_ ?_ _) | (with_reducible refine Below.setCell ?_ ?_ _) | (with_reducible refine Below.drew ?_) | (with_reducible refine Below.trans ?_ (Below.mono (by assumption) ?_)) | (simp; done) | (simp; omega) | omega)
  clear hb i1
  go_wp2_with fail
  refine (rp _).mono ?_; rintro _ w3 ⟨rfl, hb⟩
  have BN2 : Below w.heap.size w w3 := BN.trans (hb.mono BN.size)
  clear hb rp BN
  go_wp2_with fail
  go_ret
  exact Gives.mk rfl BN2

theorem upad_any (n wd : Int) (n0 : -9223372036854775808 ≤ n) (n1 : n ≤ 9223372036854775807) (w0 : 0 ≤ wd) (w1 : wd ≤ 100) (w : World) (ht : Lib.TabIs Tryd.prog w "internal/strconv.uint64pow10" .u64 Lib.pow10Tab) :
    Calls Tryd.prog 37 #[.int .i64 n, .int .i64 wd] w (Gives (.string ⟨(Sp.padL n wd.toNat).toArray⟩) w) := by
  have hl := uitoa_len n n0 n1
  have hm : (⟨(Lib.itoa n).toArray⟩ : ByteArray).size = (Lib.itoa n).length := by rw [Lib.size_eq, utoList_mk]
  have i1 := fun W (B : Below w.heap.size w W) => itoa_gives n n0 n1 W (tab_below gPow ht B) _ rfl
  have ad := add_run (List.replicate (wd.toNat - (Lib.itoa n).length) 48) (Lib.itoa n) (by rw [List.length_replicate]; omega)
  unfold Sp.padL
  exact upad_walk n wd _ _ _ _ _ _ hm rfl (by omega) w0 w1 rfl w i1 (fun w => urep_any (wd.toNat - (Lib.itoa n).length) _ (by omega) (by omega) w) ad

theorem ufmt_bad (k n : Int) (h : ¬ (1 ≤ k ∧ k ≤ 5)) (w : World) : Calls Tryd.prog 15 #[.int .i64 k, .int .i64 n] w (Gives (.tuple #[.string ⟨#[]⟩, .int .i64 1]) w) := by
  have kn := fun w => uknown_any k w
  rw [decide_eq_false h] at kn
  clear h
  go_enter Tryd.func15, Tryd.ntmps15
  go_wp2_with fail
  refine (kn _).mono ?_; rintro _ w1 ⟨rfl, hb⟩
  go_wp2_with fail
  go_ret2
  exact Gives.mk rfl (by repeat' (first | (with_reducible exact Below.refl _ _) | (with_reducible refine Below.alloc ?_ ?_ _) | (with_reducible refine Below.setCell ?_ ?_ _) | (with_reducible refine Below.drew ?_) | (with_reducible refine Below.trans ?_ (Below.mono (by assumption) ?_)) | (simp; done) | (simp; omega) | omega))
theorem ufmt_over (k n : Int) (h : 1 ≤ k ∧ k ≤ 5) (hn : n < -1000000000000000 ∨ 1000000000000000 < n) (w : World) : Calls Tryd.prog 15 #[.int .i64 k, .int .i64 n] w (Gives (.tuple #[.string ⟨#[]⟩, .int .i64 8]) w) := by
  have kn := fun w => uknown_any k w
  rw [decide_eq_true h] at kn
  clear h
  rcases hn with hn | hn
  · have f1 : decide (1000000000000000 < n) = false := decide_eq_false (by omega)
    have f2 : decide (n < -1000000000000000) = true := decide_eq_true hn
    go_enter Tryd.func15, Tryd.ntmps15
    go_wp2_with fail
    refine (kn _).mono ?_; rintro _ w1 ⟨rfl, hb⟩
    go_wp2_with fail
    go_ret2
    exact Gives.mk rfl (by repeat' (first | (with_reducible exact Below.refl _ _) | (with_reducible refine Below.alloc ?_ ?_ _) | (with_reducible refine Below.setCell ?_ ?_ _) | (with_reducible refine Below.drew ?_) | (with_reducible refine Below.trans ?_ (Below.mono (by assumption) ?_)) | (simp; done) | (simp; omega) | omega))
  · have f1 : decide (1000000000000000 < n) = true := decide_eq_true hn
    go_enter Tryd.func15, Tryd.ntmps15
    go_wp2_with fail
    refine (kn _).mono ?_; rintro _ w1 ⟨rfl, hb⟩
    go_wp2_with fail
    go_ret2
    exact Gives.mk rfl (by repeat' (first | (with_reducible exact Below.refl _ _) | (with_reducible refine Below.alloc ?_ ?_ _) | (with_reducible refine Below.setCell ?_ ?_ _) | (with_reducible refine Below.drew ?_) | (with_reducible refine Below.trans ?_ (Below.mono (by assumption) ?_)) | (simp; done) | (simp; omega) | omega))

set_option maxRecDepth 100000 in
set_option maxHeartbeats 2000000 in
theorem ufmt_neg (k n N d e p : Int) (U S T1 T2 B1 B2 B3 B4 B5 : ByteArray) (m : Nat) (hm : S.size = m) (hp : m - d = p) (p0 : 0 ≤ p) (p1 : p ≤ 1000) (m1 : m ≤ 1000) (d0 : 0 ≤ d) (d1 : d ≤ 10) (he : d + 1 = e) (k1 : 1 ≤ k) (k5 : k ≤ 5)
    (n0 : -1000000000000000 ≤ n) (n1 : n ≤ 1000000000000000) (hn : n < 0) (hN : -n = N) (w : World)
    (cl : ∀ W, Below w.heap.size w W → W.cell? ⟨0, k.toNat * 2, none⟩ = some (.string U) ∧ W.cell? ⟨0, k.toNat * 2 + 1, none⟩ = some (.int .i64 d))
    (pd : ∀ W, Below w.heap.size w W → Calls Tryd.prog 37 #[.int .i64 N, .int .i64 e] W (Gives (.string S) W))
    (t1 : ∀ W, (Instr.slice 9 (.string S) none (some (.int .i64 p)) none).run Tryd.prog W = .ok (.string T1) W) (t2 : ∀ W, (Instr.slice 9 (.string S) (some (.int .i64 p)) none none).run Tryd.prog W = .ok (.string T2) W)
    (s1 : ∀ W, (Op.stringOp .add ⟨#[45]⟩ T1).run Tryd.prog W = .ok (.string B1) W) (s2 : ∀ W, (Op.stringOp .add B1 ⟨#[46]⟩).run Tryd.prog W = .ok (.string B2) W) (s3 : ∀ W, (Op.stringOp .add B2 T2).run Tryd.prog W = .ok (.string B3) W) (s4 : ∀ W, (Op.stringOp .add B3 ⟨#[32]⟩).run Tryd.prog W = .ok (.string B4) W) (s5 : ∀ W, (Op.stringOp .add B4 U).run Tryd.prog W = .ok (.string B5) W) :
    Calls Tryd.prog 15 #[.int .i64 k, .int .i64 n] w (Gives (.tuple #[.string B5, .int .i64 0]) w) := by
  have kn := fun w => uknown_any k w
  rw [decide_eq_true ⟨k1, k5⟩] at kn
  have f1 : decide (1000000000000000 < n) = false := decide_eq_false (by omega)
  have f2 : decide (n < -1000000000000000) = false := decide_eq_false (by omega)
  go_enter Tryd.func15, Tryd.ntmps15
  go_wp2_with fail
  refine (kn _).mono ?_; rintro _ w1 ⟨rfl, hb⟩
  have BN : Below w.heap.size w w1 := by repeat' (first | (with_reducible exact Below.refl _ _) | (with_reducible refine Below.alloc ?_ ?_ _) | (with_reducible refine Below.setCell ?_ ?_ _) | (with_reducible refine Below.drew ?_) | (with_reducible refine Below.trans ?_ (Below.mono (by assumption) ?_)) | (simp; done) | (simp; omega) | omega)
  have c0 := (cl _ BN).1
  have c1 := (cl _ BN).2
  clear hb kn
  go_wp2_with fail
  refine (pd _ BN).mono ?_; rintro _ w2 ⟨rfl, hb⟩
  have BN2 : Below w.heap.size w w2 := BN.trans (hb.mono BN.size)
  clear hb pd BN c0 c1
  have c0 := (cl _ BN2).1
  have c1 := (cl _ BN2).2
  have BH := hid BN2
  clear cl BN2
  go_wp2_with fail
  go_quiet (fail)
  go_wp2_with fail
  go_ret2
  have BB := BH.out
  exact Gives.mk rfl (by repeat' (first | (with_reducible exact Below.refl _ _) | (with_reducible refine Below.alloc ?_ ?_ _) | (with_reducible refine Below.setCell ?_ ?_ _) | (with_reducible refine Below.drew ?_) | (with_reducible refine below_dn ?_ _) | (with_reducible refine Below.trans ?_ (Below.mono (by assumption) ?_)) | (simp; done) | (simp; omega) | omega))

set_option maxRecDepth 100000 in
set_option maxHeartbeats 2000000 in
theorem ufmt_pos (k n d e p : Int) (U S T1 T2 B1 B2 B3 B4 B5 : ByteArray) (m : Nat) (hm : S.size = m) (hp : m - d = p) (p0 : 0 ≤ p) (p1 : p ≤ 1000) (m1 : m ≤ 1000) (d0 : 0 ≤ d) (d1 : d ≤ 10) (he : d + 1 = e) (k1 : 1 ≤ k) (k5 : k ≤ 5)
    (n0 : -1000000000000000 ≤ n) (n1 : n ≤ 1000000000000000) (hn : 0 ≤ n) (w : World)
    (cl : ∀ W, Below w.heap.size w W → W.cell? ⟨0, k.toNat * 2, none⟩ = some (.string U) ∧ W.cell? ⟨0, k.toNat * 2 + 1, none⟩ = some (.int .i64 d))
    (pd : ∀ W, Below w.heap.size w W → Calls Tryd.prog 37 #[.int .i64 n, .int .i64 e] W (Gives (.string S) W))
    (t1 : ∀ W, (Instr.slice 9 (.string S) none (some (.int .i64 p)) none).run Tryd.prog W = .ok (.string T1) W) (t2 : ∀ W, (Instr.slice 9 (.string S) (some (.int .i64 p)) none none).run Tryd.prog W = .ok (.string T2) W)
    (s1 : ∀ W, (Op.stringOp .add ⟨#[]⟩ T1).run Tryd.prog W = .ok (.string B1) W) (s2 : ∀ W, (Op.stringOp .add B1 ⟨#[46]⟩).run Tryd.prog W = .ok (.string B2) W) (s3 : ∀ W, (Op.stringOp .add B2 T2).run Tryd.prog W = .ok (.string B3) W) (s4 : ∀ W, (Op.stringOp .add B3 ⟨#[32]⟩).run Tryd.prog W = .ok (.string B4) W) (s5 : ∀ W, (Op.stringOp .add B4 U).run Tryd.prog W = .ok (.string B5) W) :
    Calls Tryd.prog 15 #[.int .i64 k, .int .i64 n] w (Gives (.tuple #[.string B5, .int .i64 0]) w) := by
  have kn := fun w => uknown_any k w
  rw [decide_eq_true ⟨k1, k5⟩] at kn
  have f1 : decide (1000000000000000 < n) = false := decide_eq_false (by omega)
  have f2 : decide (n < -1000000000000000) = false := decide_eq_false (by omega)
  go_enter Tryd.func15, Tryd.ntmps15
  go_wp2_with fail
  refine (kn _).mono ?_; rintro _ w1 ⟨rfl, hb⟩
  have BN : Below w.heap.size w w1 := by repeat' (first | (with_reducible exact Below.refl _ _) | (with_reducible refine Below.alloc ?_ ?_ _) | (with_reducible refine Below.setCell ?_ ?_ _) | (with_reducible refine Below.drew ?_) | (with_reducible refine Below.trans ?_ (Below.mono (by assumption) ?_)) | (simp; done) | (simp; omega) | omega)
  have c0 := (cl _ BN).1
  have c1 := (cl _ BN).2
  clear hb kn
  go_wp2_with fail
  refine (pd _ BN).mono ?_; rintro _ w2 ⟨rfl, hb⟩
  have BN2 : Below w.heap.size w w2 := BN.trans (hb.mono BN.size)
  clear hb pd BN c0 c1
  have c0 := (cl _ BN2).1
  have c1 := (cl _ BN2).2
  have BH := hid BN2
  clear cl BN2
  go_wp2_with fail
  go_quiet (fail)
  go_wp2_with fail
  go_ret2
  have BB := BH.out
  exact Gives.mk rfl (by repeat' (first | (with_reducible exact Below.refl _ _) | (with_reducible refine Below.alloc ?_ ?_ _) | (with_reducible refine Below.setCell ?_ ?_ _) | (with_reducible refine Below.drew ?_) | (with_reducible refine below_dn ?_ _) | (with_reducible refine Below.trans ?_ (Below.mono (by assumption) ?_)) | (simp; done) | (simp; omega) | omega))

end Go.Proofs.YtgfjofdjicepiaaDoor
