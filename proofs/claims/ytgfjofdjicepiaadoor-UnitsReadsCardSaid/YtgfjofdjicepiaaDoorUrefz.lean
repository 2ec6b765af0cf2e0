/-
  Package couperef04: padded, digits, number, Format, Date, ParseDate (merged from Urefa, Urefb).
-/
import Derived.Test.YtgfjofdjicepiaaDoorUfmt
import Derived.Test.YtgfjofdjicepiaaDoorUmz
import Derived.Test.YtgfjofdjicepiaaDoorUtany
namespace Go.Proofs.YtgfjofdjicepiaaDoor
open Go.RowKit
set_option linter.unusedVariables false
set_option linter.unusedSimpArgs false

set_option maxRecDepth 100000 in
set_option maxHeartbeats 2000000 in
theorem rdigits_any (s : ByteArray) (hs : s.data.toList.length ≤ 1000) (w : World) : Calls Tryd.prog 46 #[.string s] w (Gives (.int .i64 (Sp.dn s.data.toList)) w) := by
  obtain ⟨m, hm⟩ : ∃ m, s.size = m := ⟨_, rfl⟩
  have hl : s.data.toList.length = m := by rw [← Lib.size_eq]; exact hm
  rw [hl] at hs
  have HL := hid hl
  obtain ⟨b, hb⟩ : ∃ b, Sp.dn s.data.toList = b := ⟨_, rfl⟩
  rw [hb]
  have HB := hid hb
  clear hl hb
  go_enter Tryd.func46, Tryd.ntmps46
  go_wp2_with fail
  go_loopw [3] (fun vi wr => DGL s.data.toList w vi wr) (fun vi _ => m - (intOf vi).toNat)
  case atStart => exact ⟨0, Nat.zero_le _, rfl, fun j hj => absurd hj (Nat.not_lt_zero _), Below.refl _ _⟩
  case round =>
    obtain ⟨k, hk, rfl, ha, hB⟩ := hrel
    rw [HL.out] at hk
    have HA := hid ha
    have BH := hid hB
    clear ha hB
    by_cases hlt : k < m
    · have hkl : k < s.data.toList.length := by rw [HL.out]; exact hlt
      have ix := urun_byte s k hkl
      have fin := hid (fun (e : Sp.isD (s.data.toList[k]) = false) => Sp.dn_at (l := s.data.toList) (k := k) (Nat.le_of_lt hkl) HA.out (.inr ⟨hkl, e⟩))
      have ok := hid (@Sp.isD_iff (s.data.toList[k]))
      have c1 := (s.data.toList[k]).toNat_lt
      obtain ⟨c, hc⟩ : ∃ c : Int, ((s.data.toList[k]).toNat : Int) = c := ⟨_, rfl⟩
      have c0 : 0 ≤ c := by omega
      have c2 : c ≤ 255 := by omega
      rw [hc] at ix
      have CH := hid hc
      clear hc c1
      have out : ¬ (48 ≤ c ∧ c ≤ 57) → b = k := fun q => by
        have e : Sp.isD (s.data.toList[k]) = false := by
          cases h : Sp.isD (s.data.toList[k]) with
          | false => rfl
          | true => have h2 := ok.out.1 h; rw [CH.out] at h2; exact absurd h2 q
        rw [← HB.out]; exact fin.out e
      have OUT := hid out
      clear out
      rcases Int.lt_or_le c 48 with q | q
      · go_wp2_with fail
        go_ret
        obtain rfl := OUT.out (by omega)
        have BB := BH.out
        exact Gives.mk rfl (by repeat' (first | (with_reducible exact Below.refl _ _) | (with_reducible refine Below.alloc ?_ ?_ _) | (with_reducible refine Below.setCell ?_ ?_ _) | (with_reducible refine Below.drew ?_) | (with_reducible refine Below.trans ?_ (Below.mono (by assumption) ?_)) | (simp; done) | (simp; omega) | omega))
      · rcases Int.lt_or_le 57 c with q2 | q2
        · go_wp2_with fail
          go_ret
          obtain rfl := OUT.out (by omega)
          have BB := BH.out
          exact Gives.mk rfl (by repeat' (first | (with_reducible exact Below.refl _ _) | (with_reducible refine Below.alloc ?_ ?_ _) | (with_reducible refine Below.setCell ?_ ?_ _) | (with_reducible refine Below.drew ?_) | (with_reducible refine Below.trans ?_ (Below.mono (by assumption) ?_)) | (simp; done) | (simp; omega) | omega))
        · go_wp2_with fail
          go_roundw
          case rel =>
            refine ⟨k + 1, by rw [HL.out]; omega, by go_num, fun j hj hjl => ?_, ?_⟩
            · rcases Nat.lt_or_ge j k with h | h
              · exact HA.out j h hjl
              · obtain rfl : j = k := by omega
                have e := ok.out
                rw [CH.out] at e
                exact e.2 ⟨q, q2⟩
            · have BB := BH.out
              repeat' (first | (with_reducible exact Below.refl _ _) | (with_reducible refine Below.alloc ?_ ?_ _) | (with_reducible refine Below.setCell ?_ ?_ _) | (with_reducible refine Below.drew ?_) | (with_reducible refine Below.trans ?_ (Below.mono (by assumption) ?_)) | (simp; done) | (simp; omega) | omega)
          case measure => simp [intOf]; omega
    · have e : k = m := by omega
      have hb2 : b = k := by
        rw [← HB.out]
        exact Sp.dn_at (by rw [HL.out]; omega) HA.out (.inl (by rw [HL.out]; exact e))
      subst e
      have HB2 := hid hb2
      clear hb2
      go_wp2_with fail
      go_ret
      obtain rfl := HB2.out
      have BB := BH.out
      exact Gives.mk rfl (by repeat' (first | (with_reducible exact Below.refl _ _) | (with_reducible refine Below.alloc ?_ ?_ _) | (with_reducible refine Below.setCell ?_ ?_ _) | (with_reducible refine Below.drew ?_) | (with_reducible refine Below.trans ?_ (Below.mono (by assumption) ?_)) | (simp; done) | (simp; omega) | omega))

namespace Sp
theorem num_step {l : List UInt8} {k : Nat} {n : Int} (h : k < l.length) : numC n (l.drop k) = if 10000000000000000 < 10 * n + (((l[k]).toNat : Int) - 48) then numC 10000000000000000 (l.drop (k + 1)) else numC (10 * n + (((l[k]).toNat : Int) - 48)) (l.drop (k + 1)) := by
  rw [List.drop_eq_getElem_cons h]
  rfl
end Sp
def NUL (L : List UInt8) (v : Int) (w : World) (vn vi : Value) (wr : World) : Prop :=
  ∃ (k : Nat) (n : Int), k ≤ L.length ∧ vn = .int .i64 n ∧ vi = .int .i64 k ∧ 0 ≤ n ∧ n ≤ 10000000000000000 ∧ Sp.numC n (L.drop k) = v ∧ wr = w
set_option maxRecDepth 100000 in
set_option maxHeartbeats 2000000 in
theorem rnumber_same (s : ByteArray) (v : Int) (hs : s.data.toList.length ≤ 1000) (hd : s.data.toList.all Sp.isD = true) (hR : Sp.numC 0 s.data.toList = v) (w : World) :
    Calls Tryd.prog 47 #[.string s] w (fun e w' => e = .returned (.int .i64 v) ∧ w' = w) := by
  obtain ⟨m, hm⟩ : ∃ m, s.size = m := ⟨_, rfl⟩
  have hl : s.data.toList.length = m := by rw [← Lib.size_eq]; exact hm
  rw [hl] at hs
  have HL := hid hl
  have HR := hid hR
  have HD := hid hd
  clear hl hR hd
  go_enter Tryd.func47, Tryd.ntmps47
  go_wp2_with fail
  go_loopw [3, 4] (fun vn vi wr => NUL s.data.toList v w vn vi wr) (fun _ vi _ => m - (intOf vi).toNat)
  case atStart => exact ⟨0, 0, Nat.zero_le _, rfl, rfl, by omega, by omega, HR.out, rfl⟩
  case round =>
    obtain ⟨k, n, hk, rfl, rfl, n0, n1, hf, rfl⟩ := hrel
    rw [HL.out] at hk
    have HF := hid hf
    clear hf
    by_cases hlt : k < m
    · have hkl : k < s.data.toList.length := by rw [HL.out]; exact hlt
      have ix := urun_byte s k hkl
      have st := hid (Sp.num_step (n := n) hkl)
      obtain ⟨c0, c1⟩ := Sp.all_at HD.out hkl
      obtain ⟨c, hc⟩ : ∃ c : Int, ((s.data.toList[k]).toNat : Int) = c := ⟨_, rfl⟩
      rw [hc] at ix c0 c1
      have CH := hid hc
      clear hc
      rcases Int.lt_or_le 10000000000000000 (10 * n + (c - 48)) with q | q
      · go_wp2_with fail
        go_roundw
        case rel =>
          refine ⟨k + 1, 10000000000000000, by rw [HL.out]; omega, by go_num, by go_num, by omega, by omega, ?_, ?_⟩
          · have e := st.out
            rw [CH.out, HF.out, if_pos q] at e
            exact e.symm
          · rfl
        case measure => simp [intOf]; omega
      · go_wp2_with fail
        go_roundw
        case rel =>
          refine ⟨k + 1, 10 * n + (c - 48), by rw [HL.out]; omega, by go_num, by go_num, by omega, q, ?_, ?_⟩
          · have e := st.out
            rw [CH.out, HF.out, if_neg (by omega)] at e
            exact e.symm
          · rfl
        case measure => simp [intOf]; omega
    · have e : k = m := by omega
      subst e
      go_wp2_with fail
      go_ret
      have e := HF.out
      rw [List.drop_eq_nil_of_le (by rw [HL.out]; exact Nat.le_refl _)] at e
      obtain rfl : n = v := e
      exact ⟨rfl, rfl⟩
theorem rnumber_any (s : ByteArray) (v : Int) (hs : s.data.toList.length ≤ 1000) (hd : s.data.toList.all Sp.isD = true) (hR : Sp.numC 0 s.data.toList = v) (w : World) :
    Calls Tryd.prog 47 #[.string s] w (Gives (.int .i64 v) w) := by
  refine (rnumber_same s v hs hd hR w).mono ?_
  rintro e w' ⟨rfl, rfl⟩
  exact Gives.mk rfl (Below.refl _ _)

def szOf : Value → Nat
  | .string s => s.size
  | _ => 0
def PDL (T : List UInt8) (t : Nat) (wd : Int) (w : World) (vs : Value) (wr : World) : Prop :=
  ∃ j : Nat, vs = .string ⟨(List.replicate j 48 ++ T).toArray⟩ ∧ (j = 0 ∨ (j : Int) + t ≤ wd) ∧ Below w.heap.size w wr
set_option maxRecDepth 100000 in
set_option maxHeartbeats 2000000 in
theorem rpad_any (n wd : Int) (n0 : -9223372036854775808 ≤ n) (n1 : n ≤ 9223372036854775807) (w0 : 0 ≤ wd) (w1 : wd ≤ 100) (w : World) (ht : Lib.TabIs Tryd.prog w "internal/strconv.uint64pow10" .u64 Lib.pow10Tab) :
    Calls Tryd.prog 38 #[.int .i64 n, .int .i64 wd] w (Gives (.string ⟨(Sp.padL n wd.toNat).toArray⟩) w) := by
  have hl := uitoa_len n n0 n1
  have i1 := fun W (B : Below w.heap.size w W) => itoa_gives n n0 n1 W (tab_below gPow ht B) _ rfl
  unfold Sp.padL
  generalize Lib.itoa n = T at hl i1 ⊢
  clear ht
  obtain ⟨t, hT⟩ : ∃ t, T.length = t := ⟨_, rfl⟩
  rw [hT] at hl ⊢
  have HT := hid hT
  clear hT
  go_enter Tryd.func38, Tryd.ntmps38
  go_wp2_with fail
  refine (i1 _ (by repeat' (first | (with_reducible exact Below.refl _ _) | (with_reducible refine Below.alloc ?_ ?_ _) | (with_reducible refine Below.setCell ?_ ?_ _) | (with_reducible refine Below.drew ?_) | (with_reducible refine Below.trans ?_ (Below.mono (by assumption) ?_)) | (simp; done) | (simp; omega) | omega))).mono ?_; rintro _ w2 ⟨rfl, hb⟩
  have BN : Below w.heap.size w w2 := by repeat' (first | (with_reducible exact Below.refl _ _) | (with_reducible refine Below.alloc ?_ ?_ _) | (with_reducible refine Below.setCell ?_ ?_ _) | (with_reducible refine Below.drew ?_) | (with_reducible refine Below.trans ?_ (Below.mono (by assumption) ?_)) | (simp; done) | (simp; omega) | omega)
  clear hb i1
  have BH := hid BN
  clear BN
  go_wp2_with fail
  go_loopw [5] (fun vs wr => PDL T t wd w vs wr) (fun vs _ => 200 - szOf vs)
  case atStart => exact ⟨0, by simp, .inl rfl, BH.out⟩
  case round =>
    obtain ⟨j, rfl, hj, hB⟩ := hrel
    have BI := hid hB
    clear hB
    have hz : (⟨(List.replicate j 48 ++ T).toArray⟩ : ByteArray).size = j + t := by rw [Lib.size_eq, utoList_mk, List.length_append, List.length_replicate, HT.out]
    by_cases hlt : (j : Int) + t < wd
    · have ad := add_run [48] (List.replicate j 48 ++ T) (by rw [List.length_append, List.length_replicate, HT.out, List.length_singleton]; omega)
      have hz2 : (⟨([48] ++ (List.replicate j 48 ++ T)).toArray⟩ : ByteArray).size = j + t + 1 := by rw [Lib.size_eq, utoList_mk, List.length_append, List.length_append, List.length_replicate, HT.out, List.length_singleton]; omega
      have sh : ([48] ++ (List.replicate j 48 ++ T) : List UInt8) = List.replicate (j + 1) 48 ++ T := by rw [List.replicate_succ]; rfl
      have SH := hid sh
      clear sh
      generalize hS : (⟨(List.replicate j 48 ++ T).toArray⟩ : ByteArray) = S at hz ad ⊢
      generalize hS2 : (⟨([48] ++ (List.replicate j 48 ++ T)).toArray⟩ : ByteArray) = S2 at hz2 ad
      have H2 := hid hS2
      clear hS hS2
      go_wp2_with fail
      go_roundw
      case rel =>
        refine ⟨j + 1, by rw [← H2.out, SH.out], .inr (by omega), BI.out⟩
      case measure => simp only [szOf]; omega
    · have e : j = wd.toNat - t := by omega
      have E := hid e
      clear e
      generalize hS : (⟨(List.replicate j 48 ++ T).toArray⟩ : ByteArray) = S at hz ⊢
      have H2 := hid hS
      clear hS
      go_wp2_with fail
      go_ret
      have B2 := BI.out
      exact Gives.mk (by rw [← H2.out, ← E.out]; rfl) (by repeat' (first | (with_reducible exact Below.refl _ _) | (with_reducible refine Below.alloc ?_ ?_ _) | (with_reducible refine Below.setCell ?_ ?_ _) | (with_reducible refine Below.drew ?_) | (with_reducible refine Below.trans ?_ (Below.mono (by assumption) ?_)) | (simp; done) | (simp; omega) | omega))

theorem rnamed {k : Int} (h : 1 ≤ k ∧ k ≤ 5) (w : World) : Calls Tryd.prog 12 #[.int .i64 k] w (Gives (.tuple #[.string ⟨(Sp.unitL k).toArray⟩, .int .i64 0]) w) := by
  have rn := rname_any k w
  have e : Sp.nameS k = (Sp.unitL k, 0) := by unfold Sp.nameS; rw [if_pos h]
  rw [e] at rn
  exact rn
theorem rdeced {k : Int} (h : 1 ≤ k ∧ k ≤ 5) (w : World) : Calls Tryd.prog 14 #[.int .i64 k] w (Gives (.tuple #[.int .i64 (Sp.decK k), .int .i64 0]) w) := by
  have rn := rdec_any k w
  have e : Sp.decS k = ((Sp.decK k : Int), 0) := by unfold Sp.decS; rw [if_pos h]
  rw [e] at rn
  exact rn
theorem runnamed {k : Int} (h : ¬ (1 ≤ k ∧ k ≤ 5)) (w : World) : Calls Tryd.prog 12 #[.int .i64 k] w (Gives (.tuple #[.string ⟨#[]⟩, .int .i64 1]) w) := by
  have rn := rname_any k w
  have e : Sp.nameS k = ([], 1) := by unfold Sp.nameS; rw [if_neg h]
  rw [e] at rn
  exact rn
theorem rfmt_bad (k n : Int) (h : ¬ (1 ≤ k ∧ k ≤ 5)) (w : World) : Calls Tryd.prog 16 #[.int .i64 k, .int .i64 n] w (Gives (.tuple #[.string ⟨#[]⟩, .int .i64 1]) w) := by
  have rn := fun w => runnamed h w
  clear h
  go_enter Tryd.func16, Tryd.ntmps16
  go_wp2_with fail
  refine (rn _).mono ?_; rintro _ w1 ⟨rfl, hb⟩
  go_wp2_with fail
  go_ret2
  exact Gives.mk rfl (by repeat' (first | (with_reducible exact Below.refl _ _) | (with_reducible refine Below.alloc ?_ ?_ _) | (with_reducible refine Below.setCell ?_ ?_ _) | (with_reducible refine Below.drew ?_) | (with_reducible refine Below.trans ?_ (Below.mono (by assumption) ?_)) | (simp; done) | (simp; omega) | omega))
theorem rfmt_over (k n : Int) (h : 1 ≤ k ∧ k ≤ 5) (hn : n < -1000000000000000 ∨ 1000000000000000 < n) (w : World) : Calls Tryd.prog 16 #[.int .i64 k, .int .i64 n] w (Gives (.tuple #[.string ⟨#[]⟩, .int .i64 8]) w) := by
  have rn := fun w => rnamed h w
  generalize Sp.unitL k = U at rn
  clear h
  rcases hn with hn | hn
  · have f1 : decide (1000000000000000 < n) = false := decide_eq_false (by omega)
    have f2 : decide (n < -1000000000000000) = true := decide_eq_true hn
    go_enter Tryd.func16, Tryd.ntmps16
    go_wp2_with fail
    refine (rn _).mono ?_; rintro _ w1 ⟨rfl, hb⟩
    go_wp2_with fail
    go_ret2
    exact Gives.mk rfl (by repeat' (first | (with_reducible exact Below.refl _ _) | (with_reducible refine Below.alloc ?_ ?_ _) | (with_reducible refine Below.setCell ?_ ?_ _) | (with_reducible refine Below.drew ?_) | (with_reducible refine Below.trans ?_ (Below.mono (by assumption) ?_)) | (simp; done) | (simp; omega) | omega))
  · have f1 : decide (1000000000000000 < n) = true := decide_eq_true hn
    go_enter Tryd.func16, Tryd.ntmps16
    go_wp2_with fail
    refine (rn _).mono ?_; rintro _ w1 ⟨rfl, hb⟩
    go_wp2_with fail
    go_ret2
    exact Gives.mk rfl (by repeat' (first | (with_reducible exact Below.refl _ _) | (with_reducible refine Below.alloc ?_ ?_ _) | (with_reducible refine Below.setCell ?_ ?_ _) | (with_reducible refine Below.drew ?_) | (with_reducible refine Below.trans ?_ (Below.mono (by assumption) ?_)) | (simp; done) | (simp; omega) | omega))

set_option maxRecDepth 100000 in
set_option maxHeartbeats 2000000 in
theorem rfmt_neg (k n N d e p : Int) (U S T1 T2 B1 B2 B3 B4 B5 : ByteArray) (m : Nat) (hm : S.size = m) (hp : m - d = p) (p0 : 0 ≤ p) (p1 : p ≤ 1000) (m1 : m ≤ 1000) (d0 : 0 ≤ d) (d1 : d ≤ 10) (he : d + 1 = e)
    (n0 : -1000000000000000 ≤ n) (n1 : n ≤ 1000000000000000) (hn : n < 0) (hN : -n = N) (w : World)
    (rn : ∀ w : World, Calls Tryd.prog 12 #[.int .i64 k] w (Gives (.tuple #[.string U, .int .i64 0]) w)) (dc : ∀ w : World, Calls Tryd.prog 14 #[.int .i64 k] w (Gives (.tuple #[.int .i64 d, .int .i64 0]) w))
    (pd : ∀ W, Below w.heap.size w W → Calls Tryd.prog 38 #[.int .i64 N, .int .i64 e] W (Gives (.string S) W))
    (t1 : ∀ W, (Instr.slice 9 (.string S) none (some (.int .i64 p)) none).run Tryd.prog W = .ok (.string T1) W) (t2 : ∀ W, (Instr.slice 9 (.string S) (some (.int .i64 p)) none none).run Tryd.prog W = .ok (.string T2) W)
    (s1 : ∀ W, (Op.stringOp .add ⟨#[45]⟩ T1).run Tryd.prog W = .ok (.string B1) W) (s2 : ∀ W, (Op.stringOp .add B1 ⟨#[46]⟩).run Tryd.prog W = .ok (.string B2) W) (s3 : ∀ W, (Op.stringOp .add B2 T2).run Tryd.prog W = .ok (.string B3) W) (s4 : ∀ W, (Op.stringOp .add B3 ⟨#[32]⟩).run Tryd.prog W = .ok (.string B4) W) (s5 : ∀ W, (Op.stringOp .add B4 U).run Tryd.prog W = .ok (.string B5) W) :
    Calls Tryd.prog 16 #[.int .i64 k, .int .i64 n] w (Gives (.tuple #[.string B5, .int .i64 0]) w) := by
  have f1 : decide (1000000000000000 < n) = false := decide_eq_false (by omega)
  have f2 : decide (n < -1000000000000000) = false := decide_eq_false (by omega)
  go_enter Tryd.func16, Tryd.ntmps16
  go_wp2_with fail
  refine (rn _).mono ?_; rintro _ w1 ⟨rfl, hb⟩
  have BN : Below w.heap.size w w1 := by repeat' (first | (with_reducible exact Below.refl _ _) | (with_reducible refine Below.alloc ?_ ?_ _) | (with_reducible refine Below.setCell ?_ ?_ _) | (with_reducible refine Below.drew ?_) | (with_reducible refine Below.trans ?_ (Below.mono (by assumption) ?_)) | (simp; done) | (simp; omega) | omega)
  clear hb
  go_wp2_with fail
  refine (dc _).mono ?_; rintro _ w2 ⟨rfl, hb⟩
  have BN2 : Below w.heap.size w w2 := BN.trans (hb.mono BN.size)
  clear hb BN
  go_wp2_with fail
  refine (pd _ BN2).mono ?_; rintro _ w3 ⟨rfl, hb⟩
  have BN3 : Below w.heap.size w w3 := BN2.trans (hb.mono BN2.size)
  clear hb pd BN2
  have BH := hid BN3
  clear BN3
  go_wp2_with fail
  go_quiet (fail)
  go_wp2_with fail
  go_ret2
  have BB := BH.out
  exact Gives.mk rfl (by repeat' (first | (with_reducible exact Below.refl _ _) | (with_reducible refine Below.alloc ?_ ?_ _) | (with_reducible refine Below.setCell ?_ ?_ _) | (with_reducible refine Below.drew ?_) | (with_reducible refine below_dn ?_ _) | (with_reducible refine Below.trans ?_ (Below.mono (by assumption) ?_)) | (simp; done) | (simp; omega) | omega))

set_option maxRecDepth 100000 in
set_option maxHeartbeats 2000000 in
theorem rfmt_pos (k n d e p : Int) (U S T1 T2 B1 B2 B3 B4 B5 : ByteArray) (m : Nat) (hm : S.size = m) (hp : m - d = p) (p0 : 0 ≤ p) (p1 : p ≤ 1000) (m1 : m ≤ 1000) (d0 : 0 ≤ d) (d1 : d ≤ 10) (he : d + 1 = e)
    (n0 : -1000000000000000 ≤ n) (n1 : n ≤ 1000000000000000) (hn : 0 ≤ n) (w : World)
    (rn : ∀ w : World, Calls Tryd.prog 12 #[.int .i64 k] w (Gives (.tuple #[.string U, .int .i64 0]) w)) (dc : ∀ w : World, Calls Tryd.prog 14 #[.int .i64 k] w (Gives (.tuple #[.int .i64 d, .int .i64 0]) w))
    (pd : ∀ W, Below w.heap.size w W → Calls Tryd.prog 38 #[.int .i64 n, .int .i64 e] W (Gives (.string S) W))
    (t1 : ∀ W, (Instr.slice 9 (.string S) none (some (.int .i64 p)) none).run Tryd.prog W = .ok (.string T1) W) (t2 : ∀ W, (Instr.slice 9 (.string S) (some (.int .i64 p)) none none).run Tryd.prog W = .ok (.string T2) W)
    (s1 : ∀ W, (Op.stringOp .add ⟨#[]⟩ T1).run Tryd.prog W = .ok (.string B1) W) (s2 : ∀ W, (Op.stringOp .add B1 ⟨#[46]⟩).run Tryd.prog W = .ok (.string B2) W) (s3 : ∀ W, (Op.stringOp .add B2 T2).run Tryd.prog W = .ok (.string B3) W) (s4 : ∀ W, (Op.stringOp .add B3 ⟨#[32]⟩).run Tryd.prog W = .ok (.string B4) W) (s5 : ∀ W, (Op.stringOp .add B4 U).run Tryd.prog W = .ok (.string B5) W) :
    Calls Tryd.prog 16 #[.int .i64 k, .int .i64 n] w (Gives (.tuple #[.string B5, .int .i64 0]) w) := by
  have f1 : decide (1000000000000000 < n) = false := decide_eq_false (by omega)
  have f2 : decide (n < -1000000000000000) = false := decide_eq_false (by omega)
  go_enter Tryd.func16, Tryd.ntmps16
  go_wp2_with fail
  refine (rn _).mono ?_; rintro _ w1 ⟨rfl, hb⟩
  have BN : Below w.heap.size w w1 := by repeat' (first | (with_reducible exact Below.refl _ _) | (with_reducible refine Below.alloc ?_ ?_ _) | (with_reducible refine Below.setCell ?_ ?_ _) | (with_reducible refine Below.drew ?_) | (with_reducible refine Below.trans ?_ (Below.mono (by assumption) ?_)) | (simp; done) | (simp; omega) | omega)
  clear hb
  go_wp2_with fail
  refine (dc _).mono ?_; rintro _ w2 ⟨rfl, hb⟩
  have BN2 : Below w.heap.size w w2 := BN.trans (hb.mono BN.size)
  clear hb BN
  go_wp2_with fail
  refine (pd _ BN2).mono ?_; rintro _ w3 ⟨rfl, hb⟩
  have BN3 : Below w.heap.size w w3 := BN2.trans (hb.mono BN2.size)
  clear hb pd BN2
  have BH := hid BN3
  clear BN3
  go_wp2_with fail
  go_quiet (fail)
  go_wp2_with fail
  go_ret2
  have BB := BH.out
  exact Gives.mk rfl (by repeat' (first | (with_reducible exact Below.refl _ _) | (with_reducible refine Below.alloc ?_ ?_ _) | (with_reducible refine Below.setCell ?_ ?_ _) | (with_reducible refine Below.drew ?_) | (with_reducible refine below_dn ?_ _) | (with_reducible refine Below.trans ?_ (Below.mono (by assumption) ?_)) | (simp; done) | (simp; omega) | omega))

theorem rformat_any (k n : Int) (n0 : -9223372036854775808 ≤ n) (n1 : n ≤ 9223372036854775807) (w : World) (ht : Lib.TabIs Tryd.prog w "internal/strconv.uint64pow10" .u64 Lib.pow10Tab) :
    Calls Tryd.prog 16 #[.int .i64 k, .int .i64 n] w (Gives (.tuple #[.string ⟨(Sp.formatS k n).1.toArray⟩, .int .i64 (Sp.formatS k n).2]) w) := by
  unfold Sp.formatS
  by_cases h : 1 ≤ k ∧ k ≤ 5
  · rw [if_neg (by simpa using h)]
    by_cases hn : n < -1000000000000000 ∨ 1000000000000000 < n
    · rw [if_pos hn]
      exact rfmt_over k n h hn w
    · rw [if_neg hn]
      have hn' : -1000000000000000 ≤ n ∧ n ≤ 1000000000000000 := by omega
      have rn := fun w => rnamed h w
      have dc := fun w => rdeced h w
      have pl := padL_len n.natAbs (Sp.decK k + 1)
      have il := uitoa_len (n.natAbs : Int) (by omega) (by omega)
      have dk := decK_le k
      have ul := unitL_len k
      have pd := fun W (B : Below w.heap.size w W) => rpad_any (n.natAbs : Int) ((Sp.decK k : Int) + 1) (by omega) (by omega) (by omega) (by omega) W (tab_below gPow ht B)
      have et : ((Sp.decK k : Int) + 1).toNat = Sp.decK k + 1 := by omega
      rw [et] at pd
      unfold Sp.fmtL
      simp only
      have pl1 : Sp.decK k + 1 ≤ (Sp.padL n.natAbs (Sp.decK k + 1)).length := by omega
      have pl2 : (Sp.padL n.natAbs (Sp.decK k + 1)).length ≤ 30 := by omega
      generalize Sp.padL n.natAbs (Sp.decK k + 1) = S at pd pl1 pl2 ⊢
      generalize Sp.decK k = d at dc dk pd pl1 ⊢
      generalize Sp.unitL k = U at rn ul ⊢
      have hm : (⟨S.toArray⟩ : ByteArray).size = S.length := by rw [Lib.size_eq, utoList_mk]
      have t1 := urun_take ⟨S.toArray⟩ (S.length - d) (by omega)
      have t2 := urun_drop ⟨S.toArray⟩ (S.length - d) (by omega) _ rfl
      rw [utoList_mk] at t1 t2
      have l1 : (S.take (S.length - d)).length ≤ 30 := by rw [List.length_take]; omega
      have l2 : (S.drop (S.length - d)).length ≤ 30 := by rw [List.length_drop]; omega
      generalize S.take (S.length - d) = T1 at t1 l1 ⊢
      generalize S.drop (S.length - d) = T2 at t2 l2 ⊢
      by_cases hs : n < 0
      · rw [if_pos hs]
        exact rfmt_neg k n (n.natAbs : Int) d ((d : Int) + 1) ((S.length - d : Nat) : Int) ⟨U.toArray⟩ ⟨S.toArray⟩ ⟨T1.toArray⟩ ⟨T2.toArray⟩ _ _ _ _ _ S.length hm (by omega) (by omega) (by omega) (by omega) (by omega) (by omega) rfl hn'.1 hn'.2 hs (by omega) w rn dc pd t1 t2
          (add_run [45] T1 (by simp; omega)) (add_run _ [46] (by simp; omega)) (add_run _ T2 (by simp; omega)) (add_run _ [32] (by simp; omega)) (add_run _ U (by simp; omega))
      · rw [if_neg hs]
        have en : (n.natAbs : Int) = n := by omega
        rw [en] at pd
        exact rfmt_pos k n d ((d : Int) + 1) ((S.length - d : Nat) : Int) ⟨U.toArray⟩ ⟨S.toArray⟩ ⟨T1.toArray⟩ ⟨T2.toArray⟩ _ _ _ _ _ S.length hm (by omega) (by omega) (by omega) (by omega) (by omega) (by omega) rfl hn'.1 hn'.2 (by omega) w rn dc pd t1 t2
          (add_run [] T1 (by simp; omega)) (add_run _ [46] (by simp; omega)) (add_run _ T2 (by simp; omega)) (add_run _ [32] (by simp; omega)) (add_run _ U (by simp; omega))
  · rw [if_pos h]
    exact rfmt_bad k n h w

theorem rdate_bad (k : Int) (h : ¬ (0 ≤ k ∧ k ≤ 100000)) (w : World) : Calls Tryd.prog 30 #[.int .i64 k] w (Gives (.tuple #[.string ⟨#[]⟩, .int .i64 2]) w) := by
  rcases Int.lt_or_le k 0 with q | q
  · have k1 : decide (k < 0) = true := decide_eq_true q
    go_enter Tryd.func30, Tryd.ntmps30
    go_wp2_with fail
    go_ret2
    exact Gives.mk rfl (by repeat' (first | (with_reducible exact Below.refl _ _) | (with_reducible refine Below.alloc ?_ ?_ _) | (with_reducible refine Below.setCell ?_ ?_ _) | (with_reducible refine Below.drew ?_) | (with_reducible refine Below.trans ?_ (Below.mono (by assumption) ?_)) | (simp; done) | (simp; omega) | omega))
  · have k1 : decide (k < 0) = false := decide_eq_false (by omega)
    have k2 : decide (100000 < k) = true := decide_eq_true (by omega)
    go_enter Tryd.func30, Tryd.ntmps30
    go_wp2_with fail
    go_ret2
    exact Gives.mk rfl (by repeat' (first | (with_reducible exact Below.refl _ _) | (with_reducible refine Below.alloc ?_ ?_ _) | (with_reducible refine Below.setCell ?_ ?_ _) | (with_reducible refine Below.drew ?_) | (with_reducible refine Below.trans ?_ (Below.mono (by assumption) ?_)) | (simp; done) | (simp; omega) | omega))
set_option maxRecDepth 100000 in
set_option maxHeartbeats 2000000 in
theorem rdate_good (k q r s : Int) (T S B1 B2 : ByteArray) (h : 0 ≤ k ∧ k ≤ 100000) (hq : k.tdiv 365 = q) (hr : k.tmod 365 = r) (hs : r + 1 = s) (r0 : 0 ≤ r) (r1 : r ≤ 365) (q0 : 0 ≤ q) (q1 : q ≤ 100000) (w : World)
    (i1 : ∀ W, Below w.heap.size w W → Calls Tryd.prog 60 #[.int .i64 q] W (Gives (.string T) W)) (pd : ∀ W, Below w.heap.size w W → Calls Tryd.prog 38 #[.int .i64 s, .int .i64 3] W (Gives (.string S) W))
    (ad : ∀ W, (Op.stringOp .add T ⟨#[45]⟩).run Tryd.prog W = .ok (.string B1) W) (ad2 : ∀ W, (Op.stringOp .add B1 S).run Tryd.prog W = .ok (.string B2) W) :
    Calls Tryd.prog 30 #[.int .i64 k] w (Gives (.tuple #[.string B2, .int .i64 0]) w) := by
  have k1 : decide (k < 0) = false := decide_eq_false (by omega)
  have k2 : decide (100000 < k) = false := decide_eq_false (by omega)
  go_enter Tryd.func30, Tryd.ntmps30
  go_wp2_with fail
  refine (i1 _ (by repeat' (first | (with_reducible exact Below.refl _ _) | (with_reducible refine Below.alloc ?_ ?_ _) | (with_reducible refine Below.setCell ?_ ?_ _) | (with_reducible refine Below.drew ?_) | (with_reducible refine Below.trans ?_ (Below.mono (by assumption) ?_)) | (simp; done) | (simp; omega) | omega))).mono ?_; rintro _ w2 ⟨rfl, hb⟩
  have BN2 : Below w.heap.size w w2 := by repeat' (first | (with_reducible exact Below.refl _ _) | (with_reducible refine Below.alloc ?_ ?_ _) | (with_reducible refine Below.setCell ?_ ?_ _) | (with_reducible refine Below.drew ?_) | (with_reducible refine Below.trans ?_ (Below.mono (by assumption) ?_)) | (simp; done) | (simp; omega) | omega)
  clear hb i1
  go_wp2_with fail
  refine (pd _ BN2).mono ?_; rintro _ w3 ⟨rfl, hb⟩
  have BN3 : Below w.heap.size w w3 := BN2.trans (hb.mono BN2.size)
  clear hb pd BN2
  go_wp2_with fail
  go_ret2
  exact Gives.mk rfl BN3
theorem rdate_any (k : Int) (w : World) (ht : Lib.TabIs Tryd.prog w "internal/strconv.uint64pow10" .u64 Lib.pow10Tab) :
    Calls Tryd.prog 30 #[.int .i64 k] w (Gives (.tuple #[.string ⟨(Sp.dateS k).1.toArray⟩, .int .i64 (Sp.dateS k).2]) w) := by
  unfold Sp.dateS
  by_cases h : 0 ≤ k ∧ k ≤ 100000
  · rw [if_neg (by omega)]
    unfold Sp.dayL
    have eq : k.tdiv 365 = k / 365 := Int.tdiv_eq_ediv_of_nonneg h.1
    have er : k.tmod 365 = k % 365 := Int.tmod_eq_emod_of_nonneg h.1
    have q0 : 0 ≤ k / 365 ∧ k / 365 ≤ 100000 := by omega
    have r0 : 0 ≤ k % 365 ∧ k % 365 ≤ 365 := by omega
    generalize k / 365 = q at eq q0 ⊢
    generalize k % 365 = r at er r0 ⊢
    have i1 := fun W (B : Below w.heap.size w W) => itoa_gives q (by omega) (by omega) W (tab_below gPow ht B) _ rfl
    have pd := fun W (B : Below w.heap.size w W) => rpad_any (r + 1) 3 (by omega) (by omega) (by omega) (by omega) W (tab_below gPow ht B)
    have il := uitoa_len q (by omega) (by omega)
    have pl := padL_len (r + 1) 3
    have il2 := uitoa_len (r + 1) (by omega) (by omega)
    exact rdate_good k q r _ _ _ _ _ h eq er rfl r0.1 r0.2 q0.1 q0.2 w i1 pd (add_run _ [45] (by simp; omega)) (add_run _ _ (by
      show (Lib.itoa q ++ [45]).length + (Sp.padL (r + 1) 3).length ≤ 1000
      rw [List.length_append, List.length_singleton]; omega))
  · rw [if_pos (by omega)]
    exact rdate_bad k h w

set_option maxRecDepth 100000 in
set_option maxHeartbeats 2000000 in
theorem rpd_none (t : ByteArray) (m a : Nat) (hm : t.size = m) (m1 : m ≤ 1000) (a1 : a ≤ 1000) (h : a < 1)
    (dg : ∀ w : World, Calls Tryd.prog 46 #[.string t] w (Gives (.int .i64 a) w))  (w : World) :
    Calls Tryd.prog 32 #[.string t] w (Gives (.tuple #[.int .i64 0, .int .i64 4]) w) := by
  have f1 : decide ((a : Int) < 1) = true := decide_eq_true (by omega)
  go_enter Tryd.func32, Tryd.ntmps32
  go_wp2_with fail
  refine (dg _).mono ?_; rintro _ w1 ⟨rfl, hb⟩
  have B1 : Below w.heap.size w w1 := by repeat' (first | (with_reducible exact Below.refl _ _) | (with_reducible refine Below.alloc ?_ ?_ _) | (with_reducible refine Below.setCell ?_ ?_ _) | (with_reducible refine Below.drew ?_) | (with_reducible refine Below.trans ?_ (Below.mono (by assumption) ?_)) | (simp; done) | (simp; omega) | omega)
  clear hb
  go_wp2_with fail
  go_ret2
  exact Gives.mk rfl B1

set_option maxRecDepth 100000 in
set_option maxHeartbeats 2000000 in
theorem rpd_many (t : ByteArray) (m a : Nat) (hm : t.size = m) (m1 : m ≤ 1000) (a1 : a ≤ 1000) (h : 4 < a)
    (dg : ∀ w : World, Calls Tryd.prog 46 #[.string t] w (Gives (.int .i64 a) w))  (w : World) :
    Calls Tryd.prog 32 #[.string t] w (Gives (.tuple #[.int .i64 0, .int .i64 4]) w) := by
  have f1 : decide ((a : Int) < 1) = false := decide_eq_false (by omega)
  have f2 : decide (4 < (a : Int)) = true := decide_eq_true (by omega)
  go_enter Tryd.func32, Tryd.ntmps32
  go_wp2_with fail
  refine (dg _).mono ?_; rintro _ w1 ⟨rfl, hb⟩
  have B1 : Below w.heap.size w w1 := by repeat' (first | (with_reducible exact Below.refl _ _) | (with_reducible refine Below.alloc ?_ ?_ _) | (with_reducible refine Below.setCell ?_ ?_ _) | (with_reducible refine Below.drew ?_) | (with_reducible refine Below.trans ?_ (Below.mono (by assumption) ?_)) | (simp; done) | (simp; omega) | omega)
  clear hb
  go_wp2_with fail
  go_ret2
  exact Gives.mk rfl B1

set_option maxRecDepth 100000 in
set_option maxHeartbeats 2000000 in
theorem rpd_lead (t : ByteArray) (m a : Nat) (hm : t.size = m) (m1 : m ≤ 1000) (a1 : a ≤ 1000) (h : 1 < a) (h2 : a ≤ 4)
    (dg : ∀ w : World, Calls Tryd.prog 46 #[.string t] w (Gives (.int .i64 a) w)) (ix : ∀ W, (Instr.index 9 (.string t) (.int .i64 0)).run Tryd.prog W = .ok (.int .u8 48) W) (w : World) :
    Calls Tryd.prog 32 #[.string t] w (Gives (.tuple #[.int .i64 0, .int .i64 4]) w) := by
  have f1 : decide ((a : Int) < 1) = false := decide_eq_false (by omega)
  have f2 : decide (4 < (a : Int)) = false := decide_eq_false (by omega)
  have f3 : decide (1 < (a : Int)) = true := decide_eq_true (by omega)
  go_enter Tryd.func32, Tryd.ntmps32
  go_wp2_with fail
  refine (dg _).mono ?_; rintro _ w1 ⟨rfl, hb⟩
  have B1 : Below w.heap.size w w1 := by repeat' (first | (with_reducible exact Below.refl _ _) | (with_reducible refine Below.alloc ?_ ?_ _) | (with_reducible refine Below.setCell ?_ ?_ _) | (with_reducible refine Below.drew ?_) | (with_reducible refine Below.trans ?_ (Below.mono (by assumption) ?_)) | (simp; done) | (simp; omega) | omega)
  clear hb
  go_wp2_with fail
  go_ret2
  exact Gives.mk rfl B1

set_option maxRecDepth 100000 in
set_option maxHeartbeats 2000000 in
theorem rpd_lena (t : ByteArray) (m a : Nat) (hm : t.size = m) (m1 : m ≤ 1000) (a1 : a ≤ 1000) (ha : a = 1) (hl : ¬ m = a + 4)
    (dg : ∀ w : World, Calls Tryd.prog 46 #[.string t] w (Gives (.int .i64 a) w))  (w : World) :
    Calls Tryd.prog 32 #[.string t] w (Gives (.tuple #[.int .i64 0, .int .i64 4]) w) := by
  have f1 : decide ((a : Int) < 1) = false := decide_eq_false (by omega)
  have f2 : decide (4 < (a : Int)) = false := decide_eq_false (by omega)
  have f3 : decide (1 < (a : Int)) = false := decide_eq_false (by omega)
  have a0 : 1 ≤ a := by omega
  have a4 : a ≤ 4 := by omega
  clear ha
  have f5 : ((m : Int) != (a : Int) + 4) = true := by simp; omega
  clear hl
  go_enter Tryd.func32, Tryd.ntmps32
  go_wp2_with fail
  refine (dg _).mono ?_; rintro _ w1 ⟨rfl, hb⟩
  have B1 : Below w.heap.size w w1 := by repeat' (first | (with_reducible exact Below.refl _ _) | (with_reducible refine Below.alloc ?_ ?_ _) | (with_reducible refine Below.setCell ?_ ?_ _) | (with_reducible refine Below.drew ?_) | (with_reducible refine Below.trans ?_ (Below.mono (by assumption) ?_)) | (simp; done) | (simp; omega) | omega)
  clear hb
  go_wp2_with fail
  go_ret2
  exact Gives.mk rfl B1

set_option maxRecDepth 100000 in
set_option maxHeartbeats 2000000 in
theorem rpd_dasha (t : ByteArray) (m a : Nat) (hm : t.size = m) (m1 : m ≤ 1000) (a1 : a ≤ 1000) (ha : a = 1) (hl : m = a + 4) (b : Int) (b0 : 0 ≤ b) (b255 : b ≤ 255) (hb0 : ¬ b = 45)
    (dg : ∀ w : World, Calls Tryd.prog 46 #[.string t] w (Gives (.int .i64 a) w)) (ib : ∀ W, (Instr.index 9 (.string t) (.int .i64 a)).run Tryd.prog W = .ok (.int .u8 b) W) (w : World) :
    Calls Tryd.prog 32 #[.string t] w (Gives (.tuple #[.int .i64 0, .int .i64 4]) w) := by
  have f1 : decide ((a : Int) < 1) = false := decide_eq_false (by omega)
  have f2 : decide (4 < (a : Int)) = false := decide_eq_false (by omega)
  have f3 : decide (1 < (a : Int)) = false := decide_eq_false (by omega)
  have a0 : 1 ≤ a := by omega
  have a4 : a ≤ 4 := by omega
  clear ha
  have f5 : ((m : Int) != (a : Int) + 4) = false := by simp; omega
  have mA : a < m := by omega
  clear hl
  have f6 : (b != 45) = true := by simpa using hb0
  clear hb0
  go_enter Tryd.func32, Tryd.ntmps32
  go_wp2_with fail
  refine (dg _).mono ?_; rintro _ w1 ⟨rfl, hb⟩
  have B1 : Below w.heap.size w w1 := by repeat' (first | (with_reducible exact Below.refl _ _) | (with_reducible refine Below.alloc ?_ ?_ _) | (with_reducible refine Below.setCell ?_ ?_ _) | (with_reducible refine Below.drew ?_) | (with_reducible refine Below.trans ?_ (Below.mono (by assumption) ?_)) | (simp; done) | (simp; omega) | omega)
  clear hb
  go_wp2_with fail
  go_ret2
  exact Gives.mk rfl B1

set_option maxRecDepth 100000 in
set_option maxHeartbeats 2000000 in
theorem rpd_threea (t : ByteArray) (m a : Nat) (hm : t.size = m) (m1 : m ≤ 1000) (a1 : a ≤ 1000) (ha : a = 1) (hl : m = a + 4) (J : Int) (hJ : (a : Int) + 1 = J) (D : ByteArray) (e : Nat) (e1 : e ≤ 1000) (he : ¬ e = 3)
    (dg : ∀ w : World, Calls Tryd.prog 46 #[.string t] w (Gives (.int .i64 a) w)) (ib : ∀ W, (Instr.index 9 (.string t) (.int .i64 a)).run Tryd.prog W = .ok (.int .u8 45) W) (sl : ∀ W, (Instr.slice 9 (.string t) (some (.int .i64 J)) none none).run Tryd.prog W = .ok (.string D) W) (dg2 : ∀ w : World, Calls Tryd.prog 46 #[.string D] w (Gives (.int .i64 e) w)) (w : World) :
    Calls Tryd.prog 32 #[.string t] w (Gives (.tuple #[.int .i64 0, .int .i64 4]) w) := by
  have f1 : decide ((a : Int) < 1) = false := decide_eq_false (by omega)
  have f2 : decide (4 < (a : Int)) = false := decide_eq_false (by omega)
  have f3 : decide (1 < (a : Int)) = false := decide_eq_false (by omega)
  have a0 : 1 ≤ a := by omega
  have a4 : a ≤ 4 := by omega
  clear ha
  have f5 : ((m : Int) != (a : Int) + 4) = false := by simp; omega
  have mA : a < m := by omega
  clear hl
  have f7 : ((e : Int) != 3) = true := by simp; omega
  clear he
  go_enter Tryd.func32, Tryd.ntmps32
  go_wp2_with fail
  refine (dg _).mono ?_; rintro _ w1 ⟨rfl, hb⟩
  have B1 : Below w.heap.size w w1 := by repeat' (first | (with_reducible exact Below.refl _ _) | (with_reducible refine Below.alloc ?_ ?_ _) | (with_reducible refine Below.setCell ?_ ?_ _) | (with_reducible refine Below.drew ?_) | (with_reducible refine Below.trans ?_ (Below.mono (by assumption) ?_)) | (simp; done) | (simp; omega) | omega)
  clear hb
  go_wp2_with fail
  refine (dg2 _).mono ?_; rintro _ w2 ⟨rfl, hb⟩
  have B2 : Below w.heap.size w w2 := B1.trans (hb.mono B1.size)
  clear hb B1
  go_wp2_with fail
  go_ret2
  exact Gives.mk rfl B2

set_option maxRecDepth 100000 in
set_option maxHeartbeats 2000000 in
theorem rpd_loa (t : ByteArray) (m a : Nat) (hm : t.size = m) (m1 : m ≤ 1000) (a1 : a ≤ 1000) (ha : a = 1) (hl : m = a + 4) (J : Int) (hJ : (a : Int) + 1 = J) (D : ByteArray) (e : Nat) (e1 : e ≤ 1000) (he : e = 3) (Y : ByteArray) (y z yy D1 D2 : Int) (y0 : 0 ≤ y) (y1 : y ≤ 10000000000000000) (z0 : 0 ≤ z) (z1 : z ≤ 10000000000000000) (hyy : 365 * y = yy) (hD1 : yy + z = D1) (hD2 : D1 - 1 = D2) (hz : z < 1)
    (dg : ∀ w : World, Calls Tryd.prog 46 #[.string t] w (Gives (.int .i64 a) w)) (ib : ∀ W, (Instr.index 9 (.string t) (.int .i64 a)).run Tryd.prog W = .ok (.int .u8 45) W) (sl : ∀ W, (Instr.slice 9 (.string t) (some (.int .i64 J)) none none).run Tryd.prog W = .ok (.string D) W) (dg2 : ∀ w : World, Calls Tryd.prog 46 #[.string D] w (Gives (.int .i64 e) w)) (sy : ∀ W, (Instr.slice 9 (.string t) none (some (.int .i64 a)) none).run Tryd.prog W = .ok (.string Y) W) (n1 : ∀ w : World, Calls Tryd.prog 47 #[.string Y] w fun e w' => e = .returned (.int .i64 y) ∧ w' = w) (n2 : ∀ w : World, Calls Tryd.prog 47 #[.string D] w fun e w' => e = .returned (.int .i64 z) ∧ w' = w) (w : World) :
    Calls Tryd.prog 32 #[.string t] w (Gives (.tuple #[.int .i64 0, .int .i64 2]) w) := by
  have f1 : decide ((a : Int) < 1) = false := decide_eq_false (by omega)
  have f2 : decide (4 < (a : Int)) = false := decide_eq_false (by omega)
  have f3 : decide (1 < (a : Int)) = false := decide_eq_false (by omega)
  have a0 : 1 ≤ a := by omega
  have a4 : a ≤ 4 := by omega
  clear ha
  have f5 : ((m : Int) != (a : Int) + 4) = false := by simp; omega
  have mA : a < m := by omega
  clear hl
  have f7 : ((e : Int) != 3) = false := by simp; omega
  clear he
  have g1 : 0 ≤ yy := by omega
  have g2 : yy ≤ 3650000000000000000 := by omega
  have k3 : decide (z < 1) = true := decide_eq_true hz
  go_enter Tryd.func32, Tryd.ntmps32
  go_wp2_with fail
  refine (dg _).mono ?_; rintro _ w1 ⟨rfl, hb⟩
  have B1 : Below w.heap.size w w1 := by repeat' (first | (with_reducible exact Below.refl _ _) | (with_reducible refine Below.alloc ?_ ?_ _) | (with_reducible refine Below.setCell ?_ ?_ _) | (with_reducible refine Below.drew ?_) | (with_reducible refine Below.trans ?_ (Below.mono (by assumption) ?_)) | (simp; done) | (simp; omega) | omega)
  clear hb
  go_wp2_with fail
  refine (dg2 _).mono ?_; rintro _ w2 ⟨rfl, hb⟩
  have B2 : Below w.heap.size w w2 := B1.trans (hb.mono B1.size)
  clear hb B1
  have B2z := B2.size
  go_wp2_with fail
  go_quiet ((first | (go_at_call 47; (with_reducible exact Calls.quiet_of_same (n1 _))) | (go_at_call 47; (with_reducible exact Calls.quiet_of_same (n2 _)))))
  have BQ : Below w.heap.size w (w2.drewN nq) := below_dn B2 _
  clear B2
  go_wp2_with fail
  go_ret2
  exact Gives.mk rfl BQ

set_option maxRecDepth 100000 in
set_option maxHeartbeats 2000000 in
theorem rpd_hia (t : ByteArray) (m a : Nat) (hm : t.size = m) (m1 : m ≤ 1000) (a1 : a ≤ 1000) (ha : a = 1) (hl : m = a + 4) (J : Int) (hJ : (a : Int) + 1 = J) (D : ByteArray) (e : Nat) (e1 : e ≤ 1000) (he : e = 3) (Y : ByteArray) (y z yy D1 D2 : Int) (y0 : 0 ≤ y) (y1 : y ≤ 10000000000000000) (z0 : 0 ≤ z) (z1 : z ≤ 10000000000000000) (hyy : 365 * y = yy) (hD1 : yy + z = D1) (hD2 : D1 - 1 = D2) (hz : 365 < z)
    (dg : ∀ w : World, Calls Tryd.prog 46 #[.string t] w (Gives (.int .i64 a) w)) (ib : ∀ W, (Instr.index 9 (.string t) (.int .i64 a)).run Tryd.prog W = .ok (.int .u8 45) W) (sl : ∀ W, (Instr.slice 9 (.string t) (some (.int .i64 J)) none none).run Tryd.prog W = .ok (.string D) W) (dg2 : ∀ w : World, Calls Tryd.prog 46 #[.string D] w (Gives (.int .i64 e) w)) (sy : ∀ W, (Instr.slice 9 (.string t) none (some (.int .i64 a)) none).run Tryd.prog W = .ok (.string Y) W) (n1 : ∀ w : World, Calls Tryd.prog 47 #[.string Y] w fun e w' => e = .returned (.int .i64 y) ∧ w' = w) (n2 : ∀ w : World, Calls Tryd.prog 47 #[.string D] w fun e w' => e = .returned (.int .i64 z) ∧ w' = w) (w : World) :
    Calls Tryd.prog 32 #[.string t] w (Gives (.tuple #[.int .i64 0, .int .i64 2]) w) := by
  have f1 : decide ((a : Int) < 1) = false := decide_eq_false (by omega)
  have f2 : decide (4 < (a : Int)) = false := decide_eq_false (by omega)
  have f3 : decide (1 < (a : Int)) = false := decide_eq_false (by omega)
  have a0 : 1 ≤ a := by omega
  have a4 : a ≤ 4 := by omega
  clear ha
  have f5 : ((m : Int) != (a : Int) + 4) = false := by simp; omega
  have mA : a < m := by omega
  clear hl
  have f7 : ((e : Int) != 3) = false := by simp; omega
  clear he
  have g1 : 0 ≤ yy := by omega
  have g2 : yy ≤ 3650000000000000000 := by omega
  have k3 : decide (z < 1) = false := decide_eq_false (by omega)
  have k4 : decide (365 < z) = true := decide_eq_true hz
  go_enter Tryd.func32, Tryd.ntmps32
  go_wp2_with fail
  refine (dg _).mono ?_; rintro _ w1 ⟨rfl, hb⟩
  have B1 : Below w.heap.size w w1 := by repeat' (first | (with_reducible exact Below.refl _ _) | (with_reducible refine Below.alloc ?_ ?_ _) | (with_reducible refine Below.setCell ?_ ?_ _) | (with_reducible refine Below.drew ?_) | (with_reducible refine Below.trans ?_ (Below.mono (by assumption) ?_)) | (simp; done) | (simp; omega) | omega)
  clear hb
  go_wp2_with fail
  refine (dg2 _).mono ?_; rintro _ w2 ⟨rfl, hb⟩
  have B2 : Below w.heap.size w w2 := B1.trans (hb.mono B1.size)
  clear hb B1
  have B2z := B2.size
  go_wp2_with fail
  go_quiet ((first | (go_at_call 47; (with_reducible exact Calls.quiet_of_same (n1 _))) | (go_at_call 47; (with_reducible exact Calls.quiet_of_same (n2 _)))))
  have BQ : Below w.heap.size w (w2.drewN nq) := below_dn B2 _
  clear B2
  go_wp2_with fail
  go_ret2
  exact Gives.mk rfl BQ

set_option maxRecDepth 100000 in
set_option maxHeartbeats 2000000 in
theorem rpd_fara (t : ByteArray) (m a : Nat) (hm : t.size = m) (m1 : m ≤ 1000) (a1 : a ≤ 1000) (ha : a = 1) (hl : m = a + 4) (J : Int) (hJ : (a : Int) + 1 = J) (D : ByteArray) (e : Nat) (e1 : e ≤ 1000) (he : e = 3) (Y : ByteArray) (y z yy D1 D2 : Int) (y0 : 0 ≤ y) (y1 : y ≤ 10000000000000000) (z0 : 0 ≤ z) (z1 : z ≤ 10000000000000000) (hyy : 365 * y = yy) (hD1 : yy + z = D1) (hD2 : D1 - 1 = D2) (hz : 1 ≤ z) (hz2 : z ≤ 365) (hf : 100000 < D2)
    (dg : ∀ w : World, Calls Tryd.prog 46 #[.string t] w (Gives (.int .i64 a) w)) (ib : ∀ W, (Instr.index 9 (.string t) (.int .i64 a)).run Tryd.prog W = .ok (.int .u8 45) W) (sl : ∀ W, (Instr.slice 9 (.string t) (some (.int .i64 J)) none none).run Tryd.prog W = .ok (.string D) W) (dg2 : ∀ w : World, Calls Tryd.prog 46 #[.string D] w (Gives (.int .i64 e) w)) (sy : ∀ W, (Instr.slice 9 (.string t) none (some (.int .i64 a)) none).run Tryd.prog W = .ok (.string Y) W) (n1 : ∀ w : World, Calls Tryd.prog 47 #[.string Y] w fun e w' => e = .returned (.int .i64 y) ∧ w' = w) (n2 : ∀ w : World, Calls Tryd.prog 47 #[.string D] w fun e w' => e = .returned (.int .i64 z) ∧ w' = w) (w : World) :
    Calls Tryd.prog 32 #[.string t] w (Gives (.tuple #[.int .i64 0, .int .i64 2]) w) := by
  have f1 : decide ((a : Int) < 1) = false := decide_eq_false (by omega)
  have f2 : decide (4 < (a : Int)) = false := decide_eq_false (by omega)
  have f3 : decide (1 < (a : Int)) = false := decide_eq_false (by omega)
  have a0 : 1 ≤ a := by omega
  have a4 : a ≤ 4 := by omega
  clear ha
  have f5 : ((m : Int) != (a : Int) + 4) = false := by simp; omega
  have mA : a < m := by omega
  clear hl
  have f7 : ((e : Int) != 3) = false := by simp; omega
  clear he
  have g1 : 0 ≤ yy := by omega
  have g2 : yy ≤ 3650000000000000000 := by omega
  have k3 : decide (z < 1) = false := decide_eq_false (by omega)
  have k4 : decide (365 < z) = false := decide_eq_false (by omega)
  have k5 : decide (100000 < D2) = true := decide_eq_true hf
  go_enter Tryd.func32, Tryd.ntmps32
  go_wp2_with fail
  refine (dg _).mono ?_; rintro _ w1 ⟨rfl, hb⟩
  have B1 : Below w.heap.size w w1 := by repeat' (first | (with_reducible exact Below.refl _ _) | (with_reducible refine Below.alloc ?_ ?_ _) | (with_reducible refine Below.setCell ?_ ?_ _) | (with_reducible refine Below.drew ?_) | (with_reducible refine Below.trans ?_ (Below.mono (by assumption) ?_)) | (simp; done) | (simp; omega) | omega)
  clear hb
  go_wp2_with fail
  refine (dg2 _).mono ?_; rintro _ w2 ⟨rfl, hb⟩
  have B2 : Below w.heap.size w w2 := B1.trans (hb.mono B1.size)
  clear hb B1
  have B2z := B2.size
  go_wp2_with fail
  go_quiet ((first | (go_at_call 47; (with_reducible exact Calls.quiet_of_same (n1 _))) | (go_at_call 47; (with_reducible exact Calls.quiet_of_same (n2 _)))))
  have BQ : Below w.heap.size w (w2.drewN nq) := below_dn B2 _
  clear B2
  go_wp2_with fail
  go_ret2
  exact Gives.mk rfl BQ

set_option maxRecDepth 100000 in
set_option maxHeartbeats 2000000 in
theorem rpd_gooda (t : ByteArray) (m a : Nat) (hm : t.size = m) (m1 : m ≤ 1000) (a1 : a ≤ 1000) (ha : a = 1) (hl : m = a + 4) (J : Int) (hJ : (a : Int) + 1 = J) (D : ByteArray) (e : Nat) (e1 : e ≤ 1000) (he : e = 3) (Y : ByteArray) (y z yy D1 D2 : Int) (y0 : 0 ≤ y) (y1 : y ≤ 10000000000000000) (z0 : 0 ≤ z) (z1 : z ≤ 10000000000000000) (hyy : 365 * y = yy) (hD1 : yy + z = D1) (hD2 : D1 - 1 = D2) (hz : 1 ≤ z) (hz2 : z ≤ 365) (hf : D2 ≤ 100000)
    (dg : ∀ w : World, Calls Tryd.prog 46 #[.string t] w (Gives (.int .i64 a) w)) (ib : ∀ W, (Instr.index 9 (.string t) (.int .i64 a)).run Tryd.prog W = .ok (.int .u8 45) W) (sl : ∀ W, (Instr.slice 9 (.string t) (some (.int .i64 J)) none none).run Tryd.prog W = .ok (.string D) W) (dg2 : ∀ w : World, Calls Tryd.prog 46 #[.string D] w (Gives (.int .i64 e) w)) (sy : ∀ W, (Instr.slice 9 (.string t) none (some (.int .i64 a)) none).run Tryd.prog W = .ok (.string Y) W) (n1 : ∀ w : World, Calls Tryd.prog 47 #[.string Y] w fun e w' => e = .returned (.int .i64 y) ∧ w' = w) (n2 : ∀ w : World, Calls Tryd.prog 47 #[.string D] w fun e w' => e = .returned (.int .i64 z) ∧ w' = w) (w : World) :
    Calls Tryd.prog 32 #[.string t] w (Gives (.tuple #[.int .i64 D2, .int .i64 0]) w) := by
  have f1 : decide ((a : Int) < 1) = false := decide_eq_false (by omega)
  have f2 : decide (4 < (a : Int)) = false := decide_eq_false (by omega)
  have f3 : decide (1 < (a : Int)) = false := decide_eq_false (by omega)
  have a0 : 1 ≤ a := by omega
  have a4 : a ≤ 4 := by omega
  clear ha
  have f5 : ((m : Int) != (a : Int) + 4) = false := by simp; omega
  have mA : a < m := by omega
  clear hl
  have f7 : ((e : Int) != 3) = false := by simp; omega
  clear he
  have g1 : 0 ≤ yy := by omega
  have g2 : yy ≤ 3650000000000000000 := by omega
  have k3 : decide (z < 1) = false := decide_eq_false (by omega)
  have k4 : decide (365 < z) = false := decide_eq_false (by omega)
  have k5 : decide (100000 < D2) = false := decide_eq_false (by omega)
  go_enter Tryd.func32, Tryd.ntmps32
  go_wp2_with fail
  refine (dg _).mono ?_; rintro _ w1 ⟨rfl, hb⟩
  have B1 : Below w.heap.size w w1 := by repeat' (first | (with_reducible exact Below.refl _ _) | (with_reducible refine Below.alloc ?_ ?_ _) | (with_reducible refine Below.setCell ?_ ?_ _) | (with_reducible refine Below.drew ?_) | (with_reducible refine Below.trans ?_ (Below.mono (by assumption) ?_)) | (simp; done) | (simp; omega) | omega)
  clear hb
  go_wp2_with fail
  refine (dg2 _).mono ?_; rintro _ w2 ⟨rfl, hb⟩
  have B2 : Below w.heap.size w w2 := B1.trans (hb.mono B1.size)
  clear hb B1
  have B2z := B2.size
  go_wp2_with fail
  go_quiet ((first | (go_at_call 47; (with_reducible exact Calls.quiet_of_same (n1 _))) | (go_at_call 47; (with_reducible exact Calls.quiet_of_same (n2 _)))))
  have BQ : Below w.heap.size w (w2.drewN nq) := below_dn B2 _
  clear B2
  go_wp2_with fail
  go_ret2
  exact Gives.mk rfl BQ

set_option maxRecDepth 100000 in
set_option maxHeartbeats 2000000 in
theorem rpd_lenb (t : ByteArray) (m a : Nat) (hm : t.size = m) (m1 : m ≤ 1000) (a1 : a ≤ 1000) (ha : 1 < a) (ha4 : a ≤ 4) (c : Int) (c0 : 0 ≤ c) (c255 : c ≤ 255) (hc : ¬ c = 48) (hl : ¬ m = a + 4)
    (dg : ∀ w : World, Calls Tryd.prog 46 #[.string t] w (Gives (.int .i64 a) w)) (ix : ∀ W, (Instr.index 9 (.string t) (.int .i64 0)).run Tryd.prog W = .ok (.int .u8 c) W) (w : World) :
    Calls Tryd.prog 32 #[.string t] w (Gives (.tuple #[.int .i64 0, .int .i64 4]) w) := by
  have f1 : decide ((a : Int) < 1) = false := decide_eq_false (by omega)
  have f2 : decide (4 < (a : Int)) = false := decide_eq_false (by omega)
  have f3 : decide (1 < (a : Int)) = true := decide_eq_true (by omega)
  have f4 : (c == 48) = false := by simpa using hc
  clear hc
  have f5 : ((m : Int) != (a : Int) + 4) = true := by simp; omega
  clear hl
  go_enter Tryd.func32, Tryd.ntmps32
  go_wp2_with fail
  refine (dg _).mono ?_; rintro _ w1 ⟨rfl, hb⟩
  have B1 : Below w.heap.size w w1 := by repeat' (first | (with_reducible exact Below.refl _ _) | (with_reducible refine Below.alloc ?_ ?_ _) | (with_reducible refine Below.setCell ?_ ?_ _) | (with_reducible refine Below.drew ?_) | (with_reducible refine Below.trans ?_ (Below.mono (by assumption) ?_)) | (simp; done) | (simp; omega) | omega)
  clear hb
  go_wp2_with fail
  go_ret2
  exact Gives.mk rfl B1

set_option maxRecDepth 100000 in
set_option maxHeartbeats 2000000 in
theorem rpd_dashb (t : ByteArray) (m a : Nat) (hm : t.size = m) (m1 : m ≤ 1000) (a1 : a ≤ 1000) (ha : 1 < a) (ha4 : a ≤ 4) (c : Int) (c0 : 0 ≤ c) (c255 : c ≤ 255) (hc : ¬ c = 48) (hl : m = a + 4) (b : Int) (b0 : 0 ≤ b) (b255 : b ≤ 255) (hb0 : ¬ b = 45)
    (dg : ∀ w : World, Calls Tryd.prog 46 #[.string t] w (Gives (.int .i64 a) w)) (ix : ∀ W, (Instr.index 9 (.string t) (.int .i64 0)).run Tryd.prog W = .ok (.int .u8 c) W) (ib : ∀ W, (Instr.index 9 (.string t) (.int .i64 a)).run Tryd.prog W = .ok (.int .u8 b) W) (w : World) :
    Calls Tryd.prog 32 #[.string t] w (Gives (.tuple #[.int .i64 0, .int .i64 4]) w) := by
  have f1 : decide ((a : Int) < 1) = false := decide_eq_false (by omega)
  have f2 : decide (4 < (a : Int)) = false := decide_eq_false (by omega)
  have f3 : decide (1 < (a : Int)) = true := decide_eq_true (by omega)
  have f4 : (c == 48) = false := by simpa using hc
  clear hc
  have f5 : ((m : Int) != (a : Int) + 4) = false := by simp; omega
  have mA : a < m := by omega
  clear hl
  have f6 : (b != 45) = true := by simpa using hb0
  clear hb0
  go_enter Tryd.func32, Tryd.ntmps32
  go_wp2_with fail
  refine (dg _).mono ?_; rintro _ w1 ⟨rfl, hb⟩
  have B1 : Below w.heap.size w w1 := by repeat' (first | (with_reducible exact Below.refl _ _) | (with_reducible refine Below.alloc ?_ ?_ _) | (with_reducible refine Below.setCell ?_ ?_ _) | (with_reducible refine Below.drew ?_) | (with_reducible refine Below.trans ?_ (Below.mono (by assumption) ?_)) | (simp; done) | (simp; omega) | omega)
  clear hb
  go_wp2_with fail
  go_ret2
  exact Gives.mk rfl B1

set_option maxRecDepth 100000 in
set_option maxHeartbeats 2000000 in
theorem rpd_threeb (t : ByteArray) (m a : Nat) (hm : t.size = m) (m1 : m ≤ 1000) (a1 : a ≤ 1000) (ha : 1 < a) (ha4 : a ≤ 4) (c : Int) (c0 : 0 ≤ c) (c255 : c ≤ 255) (hc : ¬ c = 48) (hl : m = a + 4) (J : Int) (hJ : (a : Int) + 1 = J) (D : ByteArray) (e : Nat) (e1 : e ≤ 1000) (he : ¬ e = 3)
    (dg : ∀ w : World, Calls Tryd.prog 46 #[.string t] w (Gives (.int .i64 a) w)) (ix : ∀ W, (Instr.index 9 (.string t) (.int .i64 0)).run Tryd.prog W = .ok (.int .u8 c) W) (ib : ∀ W, (Instr.index 9 (.string t) (.int .i64 a)).run Tryd.prog W = .ok (.int .u8 45) W) (sl : ∀ W, (Instr.slice 9 (.string t) (some (.int .i64 J)) none none).run Tryd.prog W = .ok (.string D) W) (dg2 : ∀ w : World, Calls Tryd.prog 46 #[.string D] w (Gives (.int .i64 e) w)) (w : World) :
    Calls Tryd.prog 32 #[.string t] w (Gives (.tuple #[.int .i64 0, .int .i64 4]) w) := by
  have f1 : decide ((a : Int) < 1) = false := decide_eq_false (by omega)
  have f2 : decide (4 < (a : Int)) = false := decide_eq_false (by omega)
  have f3 : decide (1 < (a : Int)) = true := decide_eq_true (by omega)
  have f4 : (c == 48) = false := by simpa using hc
  clear hc
  have f5 : ((m : Int) != (a : Int) + 4) = false := by simp; omega
  have mA : a < m := by omega
  clear hl
  have f7 : ((e : Int) != 3) = true := by simp; omega
  clear he
  go_enter Tryd.func32, Tryd.ntmps32
  go_wp2_with fail
  refine (dg _).mono ?_; rintro _ w1 ⟨rfl, hb⟩
  have B1 : Below w.heap.size w w1 := by repeat' (first | (with_reducible exact Below.refl _ _) | (with_reducible refine Below.alloc ?_ ?_ _) | (with_reducible refine Below.setCell ?_ ?_ _) | (with_reducible refine Below.drew ?_) | (with_reducible refine Below.trans ?_ (Below.mono (by assumption) ?_)) | (simp; done) | (simp; omega) | omega)
  clear hb
  go_wp2_with fail
  refine (dg2 _).mono ?_; rintro _ w2 ⟨rfl, hb⟩
  have B2 : Below w.heap.size w w2 := B1.trans (hb.mono B1.size)
  clear hb B1
  go_wp2_with fail
  go_ret2
  exact Gives.mk rfl B2

set_option maxRecDepth 100000 in
set_option maxHeartbeats 2000000 in
theorem rpd_lob (t : ByteArray) (m a : Nat) (hm : t.size = m) (m1 : m ≤ 1000) (a1 : a ≤ 1000) (ha : 1 < a) (ha4 : a ≤ 4) (c : Int) (c0 : 0 ≤ c) (c255 : c ≤ 255) (hc : ¬ c = 48) (hl : m = a + 4) (J : Int) (hJ : (a : Int) + 1 = J) (D : ByteArray) (e : Nat) (e1 : e ≤ 1000) (he : e = 3) (Y : ByteArray) (y z yy D1 D2 : Int) (y0 : 0 ≤ y) (y1 : y ≤ 10000000000000000) (z0 : 0 ≤ z) (z1 : z ≤ 10000000000000000) (hyy : 365 * y = yy) (hD1 : yy + z = D1) (hD2 : D1 - 1 = D2) (hz : z < 1)
    (dg : ∀ w : World, Calls Tryd.prog 46 #[.string t] w (Gives (.int .i64 a) w)) (ix : ∀ W, (Instr.index 9 (.string t) (.int .i64 0)).run Tryd.prog W = .ok (.int .u8 c) W) (ib : ∀ W, (Instr.index 9 (.string t) (.int .i64 a)).run Tryd.prog W = .ok (.int .u8 45) W) (sl : ∀ W, (Instr.slice 9 (.string t) (some (.int .i64 J)) none none).run Tryd.prog W = .ok (.string D) W) (dg2 : ∀ w : World, Calls Tryd.prog 46 #[.string D] w (Gives (.int .i64 e) w)) (sy : ∀ W, (Instr.slice 9 (.string t) none (some (.int .i64 a)) none).run Tryd.prog W = .ok (.string Y) W) (n1 : ∀ w : World, Calls Tryd.prog 47 #[.string Y] w fun e w' => e = .returned (.int .i64 y) ∧ w' = w) (n2 : ∀ w : World, Calls Tryd.prog 47 #[.string D] w fun e w' => e = .returned (.int .i64 z) ∧ w' = w) (w : World) :
    Calls Tryd.prog 32 #[.string t] w (Gives (.tuple #[.int .i64 0, .int .i64 2]) w) := by
  have f1 : decide ((a : Int) < 1) = false := decide_eq_false (by omega)
  have f2 : decide (4 < (a : Int)) = false := decide_eq_false (by omega)
  have f3 : decide (1 < (a : Int)) = true := decide_eq_true (by omega)
  have f4 : (c == 48) = false := by simpa using hc
  clear hc
  have f5 : ((m : Int) != (a : Int) + 4) = false := by simp; omega
  have mA : a < m := by omega
  clear hl
  have f7 : ((e : Int) != 3) = false := by simp; omega
  clear he
  have g1 : 0 ≤ yy := by omega
  have g2 : yy ≤ 3650000000000000000 := by omega
  have k3 : decide (z < 1) = true := decide_eq_true hz
  go_enter Tryd.func32, Tryd.ntmps32
  go_wp2_with fail
  refine (dg _).mono ?_; rintro _ w1 ⟨rfl, hb⟩
  have B1 : Below w.heap.size w w1 := by repeat' (first | (with_reducible exact Below.refl _ _) | (with_reducible refine Below.alloc ?_ ?_ _) | (with_reducible refine Below.setCell ?_ ?_ _) | (with_reducible refine Below.drew ?_) | (with_reducible refine Below.trans ?_ (Below.mono (by assumption) ?_)) | (simp; done) | (simp; omega) | omega)
  clear hb
  go_wp2_with fail
  refine (dg2 _).mono ?_; rintro _ w2 ⟨rfl, hb⟩
  have B2 : Below w.heap.size w w2 := B1.trans (hb.mono B1.size)
  clear hb B1
  have B2z := B2.size
  go_wp2_with fail
  go_quiet ((first | (go_at_call 47; (with_reducible exact Calls.quiet_of_same (n1 _))) | (go_at_call 47; (with_reducible exact Calls.quiet_of_same (n2 _)))))
  have BQ : Below w.heap.size w (w2.drewN nq) := below_dn B2 _
  clear B2
  go_wp2_with fail
  go_ret2
  exact Gives.mk rfl BQ

set_option maxRecDepth 100000 in
set_option maxHeartbeats 2000000 in
theorem rpd_hib (t : ByteArray) (m a : Nat) (hm : t.size = m) (m1 : m ≤ 1000) (a1 : a ≤ 1000) (ha : 1 < a) (ha4 : a ≤ 4) (c : Int) (c0 : 0 ≤ c) (c255 : c ≤ 255) (hc : ¬ c = 48) (hl : m = a + 4) (J : Int) (hJ : (a : Int) + 1 = J) (D : ByteArray) (e : Nat) (e1 : e ≤ 1000) (he : e = 3) (Y : ByteArray) (y z yy D1 D2 : Int) (y0 : 0 ≤ y) (y1 : y ≤ 10000000000000000) (z0 : 0 ≤ z) (z1 : z ≤ 10000000000000000) (hyy : 365 * y = yy) (hD1 : yy + z = D1) (hD2 : D1 - 1 = D2) (hz : 365 < z)
    (dg : ∀ w : World, Calls Tryd.prog 46 #[.string t] w (Gives (.int .i64 a) w)) (ix : ∀ W, (Instr.index 9 (.string t) (.int .i64 0)).run Tryd.prog W = .ok (.int .u8 c) W) (ib : ∀ W, (Instr.index 9 (.string t) (.int .i64 a)).run Tryd.prog W = .ok (.int .u8 45) W) (sl : ∀ W, (Instr.slice 9 (.string t) (some (.int .i64 J)) none none).run Tryd.prog W = .ok (.string D) W) (dg2 : ∀ w : World, Calls Tryd.prog 46 #[.string D] w (Gives (.int .i64 e) w)) (sy : ∀ W, (Instr.slice 9 (.string t) none (some (.int .i64 a)) none).run Tryd.prog W = .ok (.string Y) W) (n1 : ∀ w : World, Calls Tryd.prog 47 #[.string Y] w fun e w' => e = .returned (.int .i64 y) ∧ w' = w) (n2 : ∀ w : World, Calls Tryd.prog 47 #[.string D] w fun e w' => e = .returned (.int .i64 z) ∧ w' = w) (w : World) :
    Calls Tryd.prog 32 #[.string t] w (Gives (.tuple #[.int .i64 0, .int .i64 2]) w) := by
  have f1 : decide ((a : Int) < 1) = false := decide_eq_false (by omega)
  have f2 : decide (4 < (a : Int)) = false := decide_eq_false (by omega)
  have f3 : decide (1 < (a : Int)) = true := decide_eq_true (by omega)
  have f4 : (c == 48) = false := by simpa using hc
  clear hc
  have f5 : ((m : Int) != (a : Int) + 4) = false := by simp; omega
  have mA : a < m := by omega
  clear hl
  have f7 : ((e : Int) != 3) = false := by simp; omega
  clear he
  have g1 : 0 ≤ yy := by omega
  have g2 : yy ≤ 3650000000000000000 := by omega
  have k3 : decide (z < 1) = false := decide_eq_false (by omega)
  have k4 : decide (365 < z) = true := decide_eq_true hz
  go_enter Tryd.func32, Tryd.ntmps32
  go_wp2_with fail
  refine (dg _).mono ?_; rintro _ w1 ⟨rfl, hb⟩
  have B1 : Below w.heap.size w w1 := by repeat' (first | (with_reducible exact Below.refl _ _) | (with_reducible refine Below.alloc ?_ ?_ _) | (with_reducible refine Below.setCell ?_ ?_ _) | (with_reducible refine Below.drew ?_) | (with_reducible refine Below.trans ?_ (Below.mono (by assumption) ?_)) | (simp; done) | (simp; omega) | omega)
  clear hb
  go_wp2_with fail
  refine (dg2 _).mono ?_; rintro _ w2 ⟨rfl, hb⟩
  have B2 : Below w.heap.size w w2 := B1.trans (hb.mono B1.size)
  clear hb B1
  have B2z := B2.size
  go_wp2_with fail
  go_quiet ((first | (go_at_call 47; (with_reducible exact Calls.quiet_of_same (n1 _))) | (go_at_call 47; (with_reducible exact Calls.quiet_of_same (n2 _)))))
  have BQ : Below w.heap.size w (w2.drewN nq) := below_dn B2 _
  clear B2
  go_wp2_with fail
  go_ret2
  exact Gives.mk rfl BQ

set_option maxRecDepth 100000 in
set_option maxHeartbeats 2000000 in
theorem rpd_farb (t : ByteArray) (m a : Nat) (hm : t.size = m) (m1 : m ≤ 1000) (a1 : a ≤ 1000) (ha : 1 < a) (ha4 : a ≤ 4) (c : Int) (c0 : 0 ≤ c) (c255 : c ≤ 255) (hc : ¬ c = 48) (hl : m = a + 4) (J : Int) (hJ : (a : Int) + 1 = J) (D : ByteArray) (e : Nat) (e1 : e ≤ 1000) (he : e = 3) (Y : ByteArray) (y z yy D1 D2 : Int) (y0 : 0 ≤ y) (y1 : y ≤ 10000000000000000) (z0 : 0 ≤ z) (z1 : z ≤ 10000000000000000) (hyy : 365 * y = yy) (hD1 : yy + z = D1) (hD2 : D1 - 1 = D2) (hz : 1 ≤ z) (hz2 : z ≤ 365) (hf : 100000 < D2)
    (dg : ∀ w : World, Calls Tryd.prog 46 #[.string t] w (Gives (.int .i64 a) w)) (ix : ∀ W, (Instr.index 9 (.string t) (.int .i64 0)).run Tryd.prog W = .ok (.int .u8 c) W) (ib : ∀ W, (Instr.index 9 (.string t) (.int .i64 a)).run Tryd.prog W = .ok (.int .u8 45) W) (sl : ∀ W, (Instr.slice 9 (.string t) (some (.int .i64 J)) none none).run Tryd.prog W = .ok (.string D) W) (dg2 : ∀ w : World, Calls Tryd.prog 46 #[.string D] w (Gives (.int .i64 e) w)) (sy : ∀ W, (Instr.slice 9 (.string t) none (some (.int .i64 a)) none).run Tryd.prog W = .ok (.string Y) W) (n1 : ∀ w : World, Calls Tryd.prog 47 #[.string Y] w fun e w' => e = .returned (.int .i64 y) ∧ w' = w) (n2 : ∀ w : World, Calls Tryd.prog 47 #[.string D] w fun e w' => e = .returned (.int .i64 z) ∧ w' = w) (w : World) :
    Calls Tryd.prog 32 #[.string t] w (Gives (.tuple #[.int .i64 0, .int .i64 2]) w) := by
  have f1 : decide ((a : Int) < 1) = false := decide_eq_false (by omega)
  have f2 : decide (4 < (a : Int)) = false := decide_eq_false (by omega)
  have f3 : decide (1 < (a : Int)) = true := decide_eq_true (by omega)
  have f4 : (c == 48) = false := by simpa using hc
  clear hc
  have f5 : ((m : Int) != (a : Int) + 4) = false := by simp; omega
  have mA : a < m := by omega
  clear hl
  have f7 : ((e : Int) != 3) = false := by simp; omega
  clear he
  have g1 : 0 ≤ yy := by omega
  have g2 : yy ≤ 3650000000000000000 := by omega
  have k3 : decide (z < 1) = false := decide_eq_false (by omega)
  have k4 : decide (365 < z) = false := decide_eq_false (by omega)
  have k5 : decide (100000 < D2) = true := decide_eq_true hf
  go_enter Tryd.func32, Tryd.ntmps32
  go_wp2_with fail
  refine (dg _).mono ?_; rintro _ w1 ⟨rfl, hb⟩
  have B1 : Below w.heap.size w w1 := by repeat' (first | (with_reducible exact Below.refl _ _) | (with_reducible refine Below.alloc ?_ ?_ _) | (with_reducible refine Below.setCell ?_ ?_ _) | (with_reducible refine Below.drew ?_) | (with_reducible refine Below.trans ?_ (Below.mono (by assumption) ?_)) | (simp; done) | (simp; omega) | omega)
  clear hb
  go_wp2_with fail
  refine (dg2 _).mono ?_; rintro _ w2 ⟨rfl, hb⟩
  have B2 : Below w.heap.size w w2 := B1.trans (hb.mono B1.size)
  clear hb B1
  have B2z := B2.size
  go_wp2_with fail
  go_quiet ((first | (go_at_call 47; (with_reducible exact Calls.quiet_of_same (n1 _))) | (go_at_call 47; (with_reducible exact Calls.quiet_of_same (n2 _)))))
  have BQ : Below w.heap.size w (w2.drewN nq) := below_dn B2 _
  clear B2
  go_wp2_with fail
  go_ret2
  exact Gives.mk rfl BQ

set_option maxRecDepth 100000 in
set_option maxHeartbeats 2000000 in
theorem rpd_goodb (t : ByteArray) (m a : Nat) (hm : t.size = m) (m1 : m ≤ 1000) (a1 : a ≤ 1000) (ha : 1 < a) (ha4 : a ≤ 4) (c : Int) (c0 : 0 ≤ c) (c255 : c ≤ 255) (hc : ¬ c = 48) (hl : m = a + 4) (J : Int) (hJ : (a : Int) + 1 = J) (D : ByteArray) (e : Nat) (e1 : e ≤ 1000) (he : e = 3) (Y : ByteArray) (y z yy D1 D2 : Int) (y0 : 0 ≤ y) (y1 : y ≤ 10000000000000000) (z0 : 0 ≤ z) (z1 : z ≤ 10000000000000000) (hyy : 365 * y = yy) (hD1 : yy + z = D1) (hD2 : D1 - 1 = D2) (hz : 1 ≤ z) (hz2 : z ≤ 365) (hf : D2 ≤ 100000)
    (dg : ∀ w : World, Calls Tryd.prog 46 #[.string t] w (Gives (.int .i64 a) w)) (ix : ∀ W, (Instr.index 9 (.string t) (.int .i64 0)).run Tryd.prog W = .ok (.int .u8 c) W) (ib : ∀ W, (Instr.index 9 (.string t) (.int .i64 a)).run Tryd.prog W = .ok (.int .u8 45) W) (sl : ∀ W, (Instr.slice 9 (.string t) (some (.int .i64 J)) none none).run Tryd.prog W = .ok (.string D) W) (dg2 : ∀ w : World, Calls Tryd.prog 46 #[.string D] w (Gives (.int .i64 e) w)) (sy : ∀ W, (Instr.slice 9 (.string t) none (some (.int .i64 a)) none).run Tryd.prog W = .ok (.string Y) W) (n1 : ∀ w : World, Calls Tryd.prog 47 #[.string Y] w fun e w' => e = .returned (.int .i64 y) ∧ w' = w) (n2 : ∀ w : World, Calls Tryd.prog 47 #[.string D] w fun e w' => e = .returned (.int .i64 z) ∧ w' = w) (w : World) :
    Calls Tryd.prog 32 #[.string t] w (Gives (.tuple #[.int .i64 D2, .int .i64 0]) w) := by
  have f1 : decide ((a : Int) < 1) = false := decide_eq_false (by omega)
  have f2 : decide (4 < (a : Int)) = false := decide_eq_false (by omega)
  have f3 : decide (1 < (a : Int)) = true := decide_eq_true (by omega)
  have f4 : (c == 48) = false := by simpa using hc
  clear hc
  have f5 : ((m : Int) != (a : Int) + 4) = false := by simp; omega
  have mA : a < m := by omega
  clear hl
  have f7 : ((e : Int) != 3) = false := by simp; omega
  clear he
  have g1 : 0 ≤ yy := by omega
  have g2 : yy ≤ 3650000000000000000 := by omega
  have k3 : decide (z < 1) = false := decide_eq_false (by omega)
  have k4 : decide (365 < z) = false := decide_eq_false (by omega)
  have k5 : decide (100000 < D2) = false := decide_eq_false (by omega)
  go_enter Tryd.func32, Tryd.ntmps32
  go_wp2_with fail
  refine (dg _).mono ?_; rintro _ w1 ⟨rfl, hb⟩
  have B1 : Below w.heap.size w w1 := by repeat' (first | (with_reducible exact Below.refl _ _) | (with_reducible refine Below.alloc ?_ ?_ _) | (with_reducible refine Below.setCell ?_ ?_ _) | (with_reducible refine Below.drew ?_) | (with_reducible refine Below.trans ?_ (Below.mono (by assumption) ?_)) | (simp; done) | (simp; omega) | omega)
  clear hb
  go_wp2_with fail
  refine (dg2 _).mono ?_; rintro _ w2 ⟨rfl, hb⟩
  have B2 : Below w.heap.size w w2 := B1.trans (hb.mono B1.size)
  clear hb B1
  have B2z := B2.size
  go_wp2_with fail
  go_quiet ((first | (go_at_call 47; (with_reducible exact Calls.quiet_of_same (n1 _))) | (go_at_call 47; (with_reducible exact Calls.quiet_of_same (n2 _)))))
  have BQ : Below w.heap.size w (w2.drewN nq) := below_dn B2 _
  clear B2
  go_wp2_with fail
  go_ret2
  exact Gives.mk rfl BQ
end Go.Proofs.YtgfjofdjicepiaaDoor
