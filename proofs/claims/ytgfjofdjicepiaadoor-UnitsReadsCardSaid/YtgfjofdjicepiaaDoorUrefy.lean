/-
  Package couperef04: ParseDate and Parse for every text (merged from Urefc, Urefd).
-/
import Derived.Test.YtgfjofdjicepiaaDoorUrefz
import Derived.Laws.DeepStrings4
namespace Go.Proofs.YtgfjofdjicepiaaDoor
open Go.RowKit
set_option linter.unusedVariables false
set_option linter.unusedSimpArgs false

theorem urun_mid (s : ByteArray) (i j : Nat) (hij : i ≤ j) (h : j ≤ s.size) (iI jI : Int) (hi : iI = i) (hj : jI = j) : ∀ W, (Instr.slice 9 (.string s) (some (.int .i64 iI)) (some (.int .i64 jI)) none).run Tryd.prog W = .ok (.string ⟨((s.data.toList.drop i).take (j - i)).toArray⟩) W := by
  intro W
  subst hi hj
  rw [run_slice_string_if W _ _ _ _ _ _ Tryd.underlying9, if_pos ⟨by omega, by omega⟩, if_pos ⟨by omega, by omega⟩]
  have : s.extract ((i : Int)).toNat ((j : Int)).toNat = ⟨((s.data.toList.drop i).take (j - i)).toArray⟩ := by
    refine ByteArray.ext ?_
    rw [ByteArray.data_extract]
    refine Array.toList_inj.1 ?_
    simp
  rw [this]
theorem rparsedate_any (t : ByteArray) (hs : t.data.toList.length ≤ 900) (w : World) :
    Calls Tryd.prog 32 #[.string t] w (Gives (.tuple #[.int .i64 (Sp.dateT t.data.toList).1, .int .i64 (Sp.dateT t.data.toList).2]) w) := by
  have dg := fun w => rdigits_any t (by omega) w
  have hm : t.size = t.data.toList.length := Lib.size_eq t
  have hle := Sp.dn_le t.data.toList
  have htk := Sp.dn_take t.data.toList
  have ixa := fun h => urun_byte t (Sp.dn t.data.toList) h
  have ix0 := fun h => urun_byte t 0 h
  have sl0 := urun_take t (Sp.dn t.data.toList) (by omega)
  have sl1 := fun h => urun_drop t (Sp.dn t.data.toList + 1) h ((Sp.dn t.data.toList : Int) + 1) (by omega)
  unfold Sp.dateT
  generalize t.data.toList = L at hs dg hm hle htk ixa ix0 sl0 sl1 ⊢
  generalize Sp.dn L = a at dg hle htk ixa sl0 sl1 ⊢
  by_cases c1 : a < 1
  · rw [if_pos (.inl c1)]
    exact rpd_none t _ a hm (by omega) (by omega) c1 dg w
  by_cases c2 : 4 < a
  · rw [if_pos (.inr (.inl c2))]
    exact rpd_many t _ a hm (by omega) (by omega) c2 dg w
  have h0 : 0 < L.length := by omega
  have hh : L.head? = some (L[0]) := by
    cases L with
    | nil => simp at h0
    | cons c l => rfl
  have i0 := ix0 h0
  have cb := (L[0]).toNat_lt
  by_cases c3 : 1 < a ∧ L.head? = some 48
  · rw [if_pos (.inr (.inr (.inl c3)))]
    have e : L[0] = 48 := by rw [hh] at c3; exact Option.some.inj c3.2
    rw [e] at i0
    exact rpd_lead t _ a hm (by omega) (by omega) c3.1 (by omega) dg i0 w
  have hc : 1 < a → ¬ (((L[0]).toNat : Nat) : Int) = 48 := fun h e => c3 ⟨h, by
    rw [hh]
    have : (L[0]).toNat = 48 := by omega
    exact congrArg some (UInt8.toNat_inj.1 this)⟩
  have cb2 : 0 ≤ (((L[0]).toNat : Nat) : Int) ∧ (((L[0]).toNat : Nat) : Int) ≤ 255 := by omega
  clear cb
  generalize (((L[0]).toNat : Nat) : Int) = c at i0 hc cb2
  clear hh
  by_cases c4 : ¬ L.length = a + 4
  · rw [if_pos (.inr (.inr (.inr (.inl c4))))]
    by_cases ha : a = 1
    · exact rpd_lena t _ a hm (by omega) (by omega) ha c4 dg w
    · exact rpd_lenb t _ a hm (by omega) (by omega) (by omega) (by omega) c cb2.1 cb2.2 (hc (by omega)) c4 dg i0 w
  have c4' : L.length = a + 4 := by omega
  have hk : a < L.length := by omega
  have ia := ixa hk
  have s1 := sl1 (by omega)
  by_cases c5 : ¬ L[a]? = some 45
  · rw [if_pos (.inr (.inr (.inr (.inr (.inl c5)))))]
    have hb : ¬ (((L[a]).toNat : Nat) : Int) = 45 := fun e => c5 (by
      rw [List.getElem?_eq_getElem hk]
      have : (L[a]).toNat = 45 := by omega
      exact congrArg some (UInt8.toNat_inj.1 this))
    have bb := (L[a]).toNat_lt
    by_cases ha : a = 1
    · exact rpd_dasha t _ a hm (by omega) (by omega) ha c4' _ (by omega) (by omega) hb dg ia w
    · exact rpd_dashb t _ a hm (by omega) (by omega) (by omega) (by omega) c cb2.1 cb2.2 (hc (by omega)) c4' _ (by omega) (by omega) hb dg i0 ia w
  have c5' : L[a] = 45 := by
    have q : L[a]? = some 45 := by
      by_cases q : L[a]? = some 45
      · exact q
      · exact absurd q c5
    rw [List.getElem?_eq_getElem hk] at q
    exact Option.some.inj q
  rw [c5'] at ia
  have lD : (L.drop (a + 1)).length = 3 := by rw [List.length_drop]; omega
  have lY : (L.take a).length ≤ 4 := by rw [List.length_take]; omega
  have dD := Sp.dn_take (L.drop (a + 1))
  have dle := Sp.dn_le (L.drop (a + 1))
  have dg2 := fun w => rdigits_any ⟨(L.drop (a + 1)).toArray⟩ (by rw [utoList_mk]; omega) w
  rw [utoList_mk] at dg2
  by_cases c6 : ¬ Sp.dn (L.drop (a + 1)) = 3
  · rw [if_pos (.inr (.inr (.inr (.inr (.inr c6)))))]
    generalize Sp.dn (L.drop (a + 1)) = e at dg2 c6 dle
    by_cases ha : a = 1
    · exact rpd_threea t _ a hm (by omega) (by omega) ha c4' _ rfl _ e (by omega) c6 dg ia s1 dg2 w
    · exact rpd_threeb t _ a hm (by omega) (by omega) (by omega) (by omega) c cb2.1 cb2.2 (hc (by omega)) c4' _ rfl _ e (by omega) c6 dg i0 ia s1 dg2 w
  have c6' : Sp.dn (L.drop (a + 1)) = 3 := by omega
  rw [if_neg (by
    rintro (q | q | q | q | q | q)
    · exact c1 q
    · exact c2 q
    · exact c3 q
    · exact c4 q
    · exact c5 q
    · exact c6 q)]
  rw [c6'] at dg2 dD
  rw [List.take_of_length_le (by omega)] at dD
  have yb := Sp.num_bound4 htk
  have zb := Sp.num_bound4 dD
  have n1 := fun w => rnumber_same ⟨(L.take a).toArray⟩ _ (by rw [utoList_mk]; omega) (by rw [utoList_mk]; exact htk) rfl w
  have n2 := fun w => rnumber_same ⟨(L.drop (a + 1)).toArray⟩ _ (by rw [utoList_mk]; omega) (by rw [utoList_mk]; exact dD) rfl w
  rw [utoList_mk] at n1 n2
  generalize L.take a = Y at n1 yb sl0 ⊢
  generalize L.drop (a + 1) = D at n2 zb s1 dg2 ⊢
  generalize Sp.numC 0 Y = y at n1 yb ⊢
  generalize Sp.numC 0 D = z at n2 zb ⊢
  unfold Sp.dcR
  by_cases k1 : z < 1
  · rw [if_pos (.inl k1)]
    by_cases ha : a = 1
    · exact rpd_loa t _ a hm (by omega) (by omega) ha c4' _ rfl _ 3 (by omega) rfl _ y z _ _ _ yb.1 yb.2 zb.1 zb.2 rfl rfl rfl k1 dg ia s1 dg2 sl0 n1 n2 w
    · exact rpd_lob t _ a hm (by omega) (by omega) (by omega) (by omega) c cb2.1 cb2.2 (hc (by omega)) c4' _ rfl _ 3 (by omega) rfl _ y z _ _ _ yb.1 yb.2 zb.1 zb.2 rfl rfl rfl k1 dg i0 ia s1 dg2 sl0 n1 n2 w
  by_cases k2 : 365 < z
  · rw [if_pos (.inr (.inl k2))]
    by_cases ha : a = 1
    · exact rpd_hia t _ a hm (by omega) (by omega) ha c4' _ rfl _ 3 (by omega) rfl _ y z _ _ _ yb.1 yb.2 zb.1 zb.2 rfl rfl rfl k2 dg ia s1 dg2 sl0 n1 n2 w
    · exact rpd_hib t _ a hm (by omega) (by omega) (by omega) (by omega) c cb2.1 cb2.2 (hc (by omega)) c4' _ rfl _ 3 (by omega) rfl _ y z _ _ _ yb.1 yb.2 zb.1 zb.2 rfl rfl rfl k2 dg i0 ia s1 dg2 sl0 n1 n2 w
  by_cases k3 : 100000 < 365 * y + z - 1
  · rw [if_pos (.inr (.inr k3))]
    by_cases ha : a = 1
    · exact rpd_fara t _ a hm (by omega) (by omega) ha c4' _ rfl _ 3 (by omega) rfl _ y z _ _ _ yb.1 yb.2 zb.1 zb.2 rfl rfl rfl (by omega) (by omega) k3 dg ia s1 dg2 sl0 n1 n2 w
    · exact rpd_farb t _ a hm (by omega) (by omega) (by omega) (by omega) c cb2.1 cb2.2 (hc (by omega)) c4' _ rfl _ 3 (by omega) rfl _ y z _ _ _ yb.1 yb.2 zb.1 zb.2 rfl rfl rfl (by omega) (by omega) k3 dg i0 ia s1 dg2 sl0 n1 n2 w
  rw [if_neg (by rintro (q | q | q); exact k1 q; exact k2 q; exact k3 q)]
  by_cases ha : a = 1
  · exact rpd_gooda t _ a hm (by omega) (by omega) ha c4' _ rfl _ 3 (by omega) rfl _ y z _ _ _ yb.1 yb.2 zb.1 zb.2 rfl rfl rfl (by omega) (by omega) (by omega) dg ia s1 dg2 sl0 n1 n2 w
  · exact rpd_goodb t _ a hm (by omega) (by omega) (by omega) (by omega) c cb2.1 cb2.2 (hc (by omega)) c4' _ rfl _ 3 (by omega) rfl _ y z _ _ _ yb.1 yb.2 zb.1 zb.2 rfl rfl rfl (by omega) (by omega) (by omega) dg i0 ia s1 dg2 sl0 n1 n2 w

def PZL (AL : List UInt8) (kk d : Nat) (w : World) (vk va : Value) (wr : World) : Prop :=
  ∃ j : Nat, va = .string ⟨(AL ++ List.replicate j 48).toArray⟩ ∧ vk = .int .i64 ((kk + j : Nat) : Int) ∧ kk + j ≤ d ∧ Below w.heap.size w wr
theorem rpr_bad (k : Int) (t : ByteArray) (h : ¬ (1 ≤ k ∧ k ≤ 5)) (w : World) : Calls Tryd.prog 19 #[.int .i64 k, .string t] w (Gives (.tuple #[.int .i64 0, .int .i64 1]) w) := by
  have rn := fun w => runnamed h w
  clear h
  go_enter Tryd.func19, Tryd.ntmps19
  go_wp2_with fail
  refine (rn _).mono ?_; rintro _ w1 ⟨rfl, hb⟩
  go_wp2_with fail
  go_ret2
  exact Gives.mk rfl (by repeat' (first | (with_reducible exact Below.refl _ _) | (with_reducible refine Below.alloc ?_ ?_ _) | (with_reducible refine Below.setCell ?_ ?_ _) | (with_reducible refine Below.drew ?_) | (with_reducible refine Below.trans ?_ (Below.mono (by assumption) ?_)) | (simp; done) | (simp; omega) | omega))
theorem rpr_long (k : Int) (t U : ByteArray) (m : Nat) (hm : t.size = m) (h64 : 64 < m) (rn : ∀ w : World, Calls Tryd.prog 12 #[.int .i64 k] w (Gives (.tuple #[.string U, .int .i64 0]) w)) (w : World) : Calls Tryd.prog 19 #[.int .i64 k, .string t] w (Gives (.tuple #[.int .i64 0, .int .i64 8]) w) := by
  have f1 : decide (64 < (m : Int)) = true := decide_eq_true (by omega)
  go_enter Tryd.func19, Tryd.ntmps19
  go_wp2_with fail
  refine (rn _).mono ?_; rintro _ w1 ⟨rfl, hb⟩
  go_wp2_with fail
  go_ret2
  exact Gives.mk rfl (by repeat' (first | (with_reducible exact Below.refl _ _) | (with_reducible refine Below.alloc ?_ ?_ _) | (with_reducible refine Below.setCell ?_ ?_ _) | (with_reducible refine Below.drew ?_) | (with_reducible refine Below.trans ?_ (Below.mono (by assumption) ?_)) | (simp; done) | (simp; omega) | omega))

set_option maxRecDepth 100000 in
set_option maxHeartbeats 2000000 in
theorem rpr_empty (k : Int) (t U : ByteArray) (d : Nat) (d3 : d ≤ 10) (hm : t.size = 0) (w : World)
    (rn : ∀ w : World, Calls Tryd.prog 12 #[.int .i64 k] w (Gives (.tuple #[.string U, .int .i64 0]) w)) (dc : ∀ w : World, Calls Tryd.prog 14 #[.int .i64 k] w (Gives (.tuple #[.int .i64 (d : Int), .int .i64 0]) w))
    (dg : ∀ w : World, Calls Tryd.prog 46 #[.string t] w (Gives (.int .i64 0) w)) :
    Calls Tryd.prog 19 #[.int .i64 k, .string t] w (Gives (.tuple #[.int .i64 0, .int .i64 4]) w) := by
  go_enter Tryd.func19, Tryd.ntmps19
  go_wp2_with fail
  refine (rn _).mono ?_; rintro _ w1 ⟨rfl, hb⟩
  have BW1 : Below w.heap.size w w1 := by repeat' (first | (with_reducible exact Below.refl _ _) | (with_reducible refine Below.alloc ?_ ?_ _) | (with_reducible refine Below.setCell ?_ ?_ _) | (with_reducible refine Below.drew ?_) | (with_reducible refine Below.trans ?_ (Below.mono (by assumption) ?_)) | (simp; done) | (simp; omega) | omega)
  clear hb
  go_wp2_with fail
  refine (dc _).mono ?_; rintro _ w2 ⟨rfl, hb⟩
  have BW2 : Below w.heap.size w w2 := BW1.trans (hb.mono BW1.size)
  clear hb BW1
  go_wp2_with fail
  refine (dg _).mono ?_; rintro _ w3 ⟨rfl, hb⟩
  have BW3 : Below w.heap.size w w3 := BW2.trans (hb.mono BW2.size)
  clear hb BW2
  go_wp2_with fail
  go_ret2
  exact Gives.mk rfl BW3

set_option maxRecDepth 100000 in
set_option maxHeartbeats 2000000 in
theorem rpr_nonep (k : Int) (t U : ByteArray) (m a d : Nat) (d3 : d ≤ 10) (hm : t.size = m) (m0 : 1 ≤ m) (m64 : m ≤ 64) (a64 : a ≤ 64) (c : Int) (c0 : 0 ≤ c) (c255 : c ≤ 255) (hc : ¬ c = 45) (h : a = 0) (w : World)
    (rn : ∀ w : World, Calls Tryd.prog 12 #[.int .i64 k] w (Gives (.tuple #[.string U, .int .i64 0]) w)) (dc : ∀ w : World, Calls Tryd.prog 14 #[.int .i64 k] w (Gives (.tuple #[.int .i64 (d : Int), .int .i64 0]) w))
    (ix : ∀ W, (Instr.index 9 (.string t) (.int .i64 0)).run Tryd.prog W = .ok (.int .u8 c) W) (dg : ∀ w : World, Calls Tryd.prog 46 #[.string t] w (Gives (.int .i64 (a : Int)) w)) :
    Calls Tryd.prog 19 #[.int .i64 k, .string t] w (Gives (.tuple #[.int .i64 0, .int .i64 4]) w) := by
  have fA : decide (64 < (m : Int)) = false := decide_eq_false (by omega)
  have fB : decide (0 < (m : Int)) = true := decide_eq_true (by omega)
  have kc : (c == 45) = false := by simpa using hc
  have h0 : ((a : Int) == 0) = true := by simp; omega
  clear h
  go_enter Tryd.func19, Tryd.ntmps19
  go_wp2_with fail
  refine (rn _).mono ?_; rintro _ w1 ⟨rfl, hb⟩
  have BW1 : Below w.heap.size w w1 := by repeat' (first | (with_reducible exact Below.refl _ _) | (with_reducible refine Below.alloc ?_ ?_ _) | (with_reducible refine Below.setCell ?_ ?_ _) | (with_reducible refine Below.drew ?_) | (with_reducible refine Below.trans ?_ (Below.mono (by assumption) ?_)) | (simp; done) | (simp; omega) | omega)
  clear hb
  go_wp2_with fail
  refine (dc _).mono ?_; rintro _ w2 ⟨rfl, hb⟩
  have BW2 : Below w.heap.size w w2 := BW1.trans (hb.mono BW1.size)
  clear hb BW1
  go_wp2_with fail
  refine (dg _).mono ?_; rintro _ w3 ⟨rfl, hb⟩
  have BW3 : Below w.heap.size w w3 := BW2.trans (hb.mono BW2.size)
  clear hb BW2
  go_wp2_with fail
  go_ret2
  exact Gives.mk rfl BW3

set_option maxRecDepth 100000 in
set_option maxHeartbeats 2000000 in
theorem rpr_leadp (k : Int) (t U : ByteArray) (m a d : Nat) (d3 : d ≤ 10) (hm : t.size = m) (m0 : 1 ≤ m) (m64 : m ≤ 64) (a64 : a ≤ 64) (c : Int) (c0 : 0 ≤ c) (c255 : c ≤ 255) (hc : ¬ c = 45) (h : 1 < a) (hz : c = 48) (w : World)
    (rn : ∀ w : World, Calls Tryd.prog 12 #[.int .i64 k] w (Gives (.tuple #[.string U, .int .i64 0]) w)) (dc : ∀ w : World, Calls Tryd.prog 14 #[.int .i64 k] w (Gives (.tuple #[.int .i64 (d : Int), .int .i64 0]) w))
    (ix : ∀ W, (Instr.index 9 (.string t) (.int .i64 0)).run Tryd.prog W = .ok (.int .u8 c) W) (dg : ∀ w : World, Calls Tryd.prog 46 #[.string t] w (Gives (.int .i64 (a : Int)) w)) :
    Calls Tryd.prog 19 #[.int .i64 k, .string t] w (Gives (.tuple #[.int .i64 0, .int .i64 4]) w) := by
  have fA : decide (64 < (m : Int)) = false := decide_eq_false (by omega)
  have fB : decide (0 < (m : Int)) = true := decide_eq_true (by omega)
  have kc : (c == 45) = false := by simpa using hc
  have h0 : ((a : Int) == 0) = false := by simp; omega
  have h1 : decide (1 < (a : Int)) = true := decide_eq_true (by omega)
  have h2 : (c == 48) = true := by simpa using hz
  clear hz
  go_enter Tryd.func19, Tryd.ntmps19
  go_wp2_with fail
  refine (rn _).mono ?_; rintro _ w1 ⟨rfl, hb⟩
  have BW1 : Below w.heap.size w w1 := by repeat' (first | (with_reducible exact Below.refl _ _) | (with_reducible refine Below.alloc ?_ ?_ _) | (with_reducible refine Below.setCell ?_ ?_ _) | (with_reducible refine Below.drew ?_) | (with_reducible refine Below.trans ?_ (Below.mono (by assumption) ?_)) | (simp; done) | (simp; omega) | omega)
  clear hb
  go_wp2_with fail
  refine (dc _).mono ?_; rintro _ w2 ⟨rfl, hb⟩
  have BW2 : Below w.heap.size w w2 := BW1.trans (hb.mono BW1.size)
  clear hb BW1
  go_wp2_with fail
  refine (dg _).mono ?_; rintro _ w3 ⟨rfl, hb⟩
  have BW3 : Below w.heap.size w w3 := BW2.trans (hb.mono BW2.size)
  clear hb BW2
  go_wp2_with fail
  go_ret2
  exact Gives.mk rfl BW3

set_option maxRecDepth 100000 in
set_option maxHeartbeats 2000000 in
theorem rpr_n0p1 (k : Int) (t U : ByteArray) (m a d : Nat) (d3 : d ≤ 10) (hm : t.size = m) (m0 : 1 ≤ m) (m64 : m ≤ 64) (a64 : a ≤ 64) (c : Int) (c0 : 0 ≤ c) (c255 : c ≤ 255) (hc : ¬ c = 45) (h : a = 1) (A R Nm : ByteArray) (hR : R.size = 0) (w : World)
    (rn : ∀ w : World, Calls Tryd.prog 12 #[.int .i64 k] w (Gives (.tuple #[.string U, .int .i64 0]) w)) (dc : ∀ w : World, Calls Tryd.prog 14 #[.int .i64 k] w (Gives (.tuple #[.int .i64 (d : Int), .int .i64 0]) w))
    (ix : ∀ W, (Instr.index 9 (.string t) (.int .i64 0)).run Tryd.prog W = .ok (.int .u8 c) W) (dg : ∀ w : World, Calls Tryd.prog 46 #[.string t] w (Gives (.int .i64 (a : Int)) w)) (slA : ∀ W, (Instr.slice 9 (.string t) none (some (.int .i64 a)) none).run Tryd.prog W = .ok (.string A) W) (slR : ∀ W, (Instr.slice 9 (.string t) (some (.int .i64 a)) none none).run Tryd.prog W = .ok (.string R) W) (adN : ∀ W, (Op.stringOp .add ⟨#[32]⟩ U).run Tryd.prog W = .ok (.string Nm) W) (hne : (R.toList == Nm.toList) = false) :
    Calls Tryd.prog 19 #[.int .i64 k, .string t] w (Gives (.tuple #[.int .i64 0, .int .i64 4]) w) := by
  have fA : decide (64 < (m : Int)) = false := decide_eq_false (by omega)
  have fB : decide (0 < (m : Int)) = true := decide_eq_true (by omega)
  have kc : (c == 45) = false := by simpa using hc
  have h0 : ((a : Int) == 0) = false := by simp; omega
  have h1 : decide (1 < (a : Int)) = false := decide_eq_false (by omega)
  clear h
  have hne2 : (R.toList != Nm.toList) = true := by unfold bne; rw [hne]; rfl
  go_enter Tryd.func19, Tryd.ntmps19
  go_wp2_with fail
  refine (rn _).mono ?_; rintro _ w1 ⟨rfl, hb⟩
  have BW1 : Below w.heap.size w w1 := by repeat' (first | (with_reducible exact Below.refl _ _) | (with_reducible refine Below.alloc ?_ ?_ _) | (with_reducible refine Below.setCell ?_ ?_ _) | (with_reducible refine Below.drew ?_) | (with_reducible refine Below.trans ?_ (Below.mono (by assumption) ?_)) | (simp; done) | (simp; omega) | omega)
  clear hb
  go_wp2_with fail
  refine (dc _).mono ?_; rintro _ w2 ⟨rfl, hb⟩
  have BW2 : Below w.heap.size w w2 := BW1.trans (hb.mono BW1.size)
  clear hb BW1
  go_wp2_with fail
  refine (dg _).mono ?_; rintro _ w3 ⟨rfl, hb⟩
  have BW3 : Below w.heap.size w w3 := BW2.trans (hb.mono BW2.size)
  clear hb BW2
  go_wp2_with fail
  go_ret2
  exact Gives.mk rfl BW3

set_option maxRecDepth 100000 in
set_option maxHeartbeats 2000000 in
theorem rpr_n1xp1 (k : Int) (t U : ByteArray) (m a d : Nat) (d3 : d ≤ 10) (hm : t.size = m) (m0 : 1 ≤ m) (m64 : m ≤ 64) (a64 : a ≤ 64) (c : Int) (c0 : 0 ≤ c) (c255 : c ≤ 255) (hc : ¬ c = 45) (h : a = 1) (A R Nm : ByteArray) (q : Nat) (hR : R.size = q) (q0 : 1 ≤ q) (q1 : q ≤ 100) (p : Int) (p0 : 0 ≤ p) (p1 : p ≤ 255) (hp : ¬ p = 46) (w : World)
    (rn : ∀ w : World, Calls Tryd.prog 12 #[.int .i64 k] w (Gives (.tuple #[.string U, .int .i64 0]) w)) (dc : ∀ w : World, Calls Tryd.prog 14 #[.int .i64 k] w (Gives (.tuple #[.int .i64 (d : Int), .int .i64 0]) w))
    (ix : ∀ W, (Instr.index 9 (.string t) (.int .i64 0)).run Tryd.prog W = .ok (.int .u8 c) W) (dg : ∀ w : World, Calls Tryd.prog 46 #[.string t] w (Gives (.int .i64 (a : Int)) w)) (slA : ∀ W, (Instr.slice 9 (.string t) none (some (.int .i64 a)) none).run Tryd.prog W = .ok (.string A) W) (slR : ∀ W, (Instr.slice 9 (.string t) (some (.int .i64 a)) none none).run Tryd.prog W = .ok (.string R) W) (ixp : ∀ W, (Instr.index 9 (.string R) (.int .i64 0)).run Tryd.prog W = .ok (.int .u8 p) W) (adN : ∀ W, (Op.stringOp .add ⟨#[32]⟩ U).run Tryd.prog W = .ok (.string Nm) W) (hne : (R.toList == Nm.toList) = false) :
    Calls Tryd.prog 19 #[.int .i64 k, .string t] w (Gives (.tuple #[.int .i64 0, .int .i64 4]) w) := by
  have fA : decide (64 < (m : Int)) = false := decide_eq_false (by omega)
  have fB : decide (0 < (m : Int)) = true := decide_eq_true (by omega)
  have kc : (c == 45) = false := by simpa using hc
  have h0 : ((a : Int) == 0) = false := by simp; omega
  have h1 : decide (1 < (a : Int)) = false := decide_eq_false (by omega)
  clear h
  have fq : decide (0 < (q : Int)) = true := decide_eq_true (by omega)
  have kp : (p == 46) = false := by simpa using hp
  clear hp
  have hne2 : (R.toList != Nm.toList) = true := by unfold bne; rw [hne]; rfl
  go_enter Tryd.func19, Tryd.ntmps19
  go_wp2_with fail
  refine (rn _).mono ?_; rintro _ w1 ⟨rfl, hb⟩
  have BW1 : Below w.heap.size w w1 := by repeat' (first | (with_reducible exact Below.refl _ _) | (with_reducible refine Below.alloc ?_ ?_ _) | (with_reducible refine Below.setCell ?_ ?_ _) | (with_reducible refine Below.drew ?_) | (with_reducible refine Below.trans ?_ (Below.mono (by assumption) ?_)) | (simp; done) | (simp; omega) | omega)
  clear hb
  go_wp2_with fail
  refine (dc _).mono ?_; rintro _ w2 ⟨rfl, hb⟩
  have BW2 : Below w.heap.size w w2 := BW1.trans (hb.mono BW1.size)
  clear hb BW1
  go_wp2_with fail
  refine (dg _).mono ?_; rintro _ w3 ⟨rfl, hb⟩
  have BW3 : Below w.heap.size w w3 := BW2.trans (hb.mono BW2.size)
  clear hb BW2
  go_wp2_with fail
  go_ret2
  exact Gives.mk rfl BW3

set_option maxRecDepth 100000 in
set_option maxHeartbeats 2000000 in
theorem rpr_n1gp1 (k : Int) (t U : ByteArray) (m a d : Nat) (d3 : d ≤ 10) (hm : t.size = m) (m0 : 1 ≤ m) (m64 : m ≤ 64) (a64 : a ≤ 64) (c : Int) (c0 : 0 ≤ c) (c255 : c ≤ 255) (hc : ¬ c = 45) (h : a = 1) (AL : List UInt8) (al : AL.length ≤ 500) (R : ByteArray) (q : Nat) (hR : R.size = q) (q0 : 1 ≤ q) (q1 : q ≤ 100) (p : Int) (p0 : 0 ≤ p) (p1 : p ≤ 255) (hp : ¬ p = 46) (n x e : Int) (n0 : 0 ≤ n) (n1 : n ≤ 10000000000000000) (hx : Sp.signC false n = (x, e)) (w : World)
    (rn : ∀ w : World, Calls Tryd.prog 12 #[.int .i64 k] w (Gives (.tuple #[.string U, .int .i64 0]) w)) (dc : ∀ w : World, Calls Tryd.prog 14 #[.int .i64 k] w (Gives (.tuple #[.int .i64 (d : Int), .int .i64 0]) w))
    (ix : ∀ W, (Instr.index 9 (.string t) (.int .i64 0)).run Tryd.prog W = .ok (.int .u8 c) W) (dg : ∀ w : World, Calls Tryd.prog 46 #[.string t] w (Gives (.int .i64 (a : Int)) w)) (slA : ∀ W, (Instr.slice 9 (.string t) none (some (.int .i64 a)) none).run Tryd.prog W = .ok (.string ⟨AL.toArray⟩) W) (slR : ∀ W, (Instr.slice 9 (.string t) (some (.int .i64 a)) none none).run Tryd.prog W = .ok (.string R) W) (ixp : ∀ W, (Instr.index 9 (.string R) (.int .i64 0)).run Tryd.prog W = .ok (.int .u8 p) W) (adN : ∀ W, (Op.stringOp .add ⟨#[32]⟩ U).run Tryd.prog W = .ok (.string R) W) (nb : ∀ w : World, Calls Tryd.prog 47 #[.string ⟨(AL ++ List.replicate (d - 0) 48).toArray⟩] w (Gives (.int .i64 n) w)) :
    Calls Tryd.prog 19 #[.int .i64 k, .string t] w (Gives (.tuple #[.int .i64 x, .int .i64 e]) w) := by
  have fA : decide (64 < (m : Int)) = false := decide_eq_false (by omega)
  have fB : decide (0 < (m : Int)) = true := decide_eq_true (by omega)
  have kc : (c == 45) = false := by simpa using hc
  have h0 : ((a : Int) == 0) = false := by simp; omega
  have h1 : decide (1 < (a : Int)) = false := decide_eq_false (by omega)
  clear h
  have fq : decide (0 < (q : Int)) = true := decide_eq_true (by omega)
  have kp : (p == 46) = false := by simpa using hp
  clear hp
  go_enter Tryd.func19, Tryd.ntmps19
  go_wp2_with fail
  refine (rn _).mono ?_; rintro _ w1 ⟨rfl, hb⟩
  have BW1 : Below w.heap.size w w1 := by repeat' (first | (with_reducible exact Below.refl _ _) | (with_reducible refine Below.alloc ?_ ?_ _) | (with_reducible refine Below.setCell ?_ ?_ _) | (with_reducible refine Below.drew ?_) | (with_reducible refine Below.trans ?_ (Below.mono (by assumption) ?_)) | (simp; done) | (simp; omega) | omega)
  clear hb
  go_wp2_with fail
  refine (dc _).mono ?_; rintro _ w2 ⟨rfl, hb⟩
  have BW2 : Below w.heap.size w w2 := BW1.trans (hb.mono BW1.size)
  clear hb BW1
  go_wp2_with fail
  refine (dg _).mono ?_; rintro _ w3 ⟨rfl, hb⟩
  have BW3 : Below w.heap.size w w3 := BW2.trans (hb.mono BW2.size)
  clear hb BW2
  have BH := hid BW3
  clear BW3
  go_wp2_with fail
  go_loopw [11, 12] (fun vk va wr => PZL AL 0 d w vk va wr) (fun vk _ _ => d - (intOf vk).toNat)
  case atStart => exact ⟨0, by simp, by go_num, by omega, BH.out⟩
  case round =>
    obtain ⟨j, rfl, rfl, hj, hB⟩ := hrel
    have BI := hid hB
    clear hB
    by_cases hlt : 0 + j < d
    · have ad := add_run (AL ++ List.replicate j 48) [48] (by rw [List.length_append, List.length_replicate, List.length_singleton]; omega)
      have sh : (AL ++ List.replicate j 48 ++ [48] : List UInt8) = AL ++ List.replicate (j + 1) 48 := by rw [List.append_assoc, List.replicate_succ']
      have SH := hid sh
      clear sh
      generalize hS : (⟨(AL ++ List.replicate j 48).toArray⟩ : ByteArray) = S at ad ⊢
      generalize hS2 : (⟨(AL ++ List.replicate j 48 ++ [48]).toArray⟩ : ByteArray) = S2 at ad
      have H2 := hid hS2
      clear hS hS2
      go_wp2_with fail
      go_roundw
      case rel =>
        refine ⟨j + 1, by rw [← H2.out, SH.out], by go_num, by omega, BI.out⟩
      case measure => simp [intOf]; omega
    · have e : j = d - 0 := by omega
      subst e
      go_wp2_with fail
      refine (nb _).mono ?_; rintro _ wz ⟨rfl, hb⟩
      have BZ : Below w.heap.size w wz := BI.out.trans (hb.mono BI.out.size)
      clear hb nb
      have HX := hid hx
      clear hx
      rcases Int.lt_or_le 1000000000000000 n with q | q
      · have z1 : (n == 0) = false := by simp; omega
        have z2 : decide (1000000000000000 < n) = true := decide_eq_true q
        go_wp2_with fail
        go_ret2
        have e := HX.out
        unfold Sp.signC at e
        rw [if_neg (by rintro ⟨_, q1⟩; exact absurd q1 (by simp)), if_pos q] at e
        obtain ⟨rfl, rfl⟩ := Prod.mk.inj e
        exact Gives.mk rfl BZ
      · have z2 : decide (1000000000000000 < n) = false := decide_eq_false (by omega)
        have fin : x = n ∧ e = 0 := by
          have e := HX.out
          unfold Sp.signC at e
          rw [if_neg (by rintro ⟨_, q1⟩; exact absurd q1 (by simp)), if_neg (by omega)] at e
          obtain ⟨q1, q2⟩ := Prod.mk.inj e
          simp at q1
          exact ⟨by omega, q2.symm⟩
        obtain ⟨rfl, rfl⟩ := fin
        by_cases z0 : x = 0
        · subst z0
          go_wp2_with fail
          go_ret2
          exact Gives.mk (by first | rfl | (simp; done) | (simp; omega)) BZ
        · have z1 : (x == 0) = false := by simpa using z0
          have Z0 := hid z0
          clear z0
          go_wp2_with fail
          go_ret2
          exact Gives.mk (by first | rfl | (simp; done) | (simp; omega)) BZ

set_option maxRecDepth 100000 in
set_option maxHeartbeats 2000000 in
theorem rpr_pk0p1 (k : Int) (t U : ByteArray) (m a d : Nat) (d3 : d ≤ 10) (hm : t.size = m) (m0 : 1 ≤ m) (m64 : m ≤ 64) (a64 : a ≤ 64) (c : Int) (c0 : 0 ≤ c) (c255 : c ≤ 255) (hc : ¬ c = 45) (h : a = 1) (A R V : ByteArray) (q : Nat) (hR : R.size = q) (q0 : 1 ≤ q) (q1 : q ≤ 100) (b : Nat) (b1 : b ≤ 100) (hb0 : b = 0) (w : World)
    (rn : ∀ w : World, Calls Tryd.prog 12 #[.int .i64 k] w (Gives (.tuple #[.string U, .int .i64 0]) w)) (dc : ∀ w : World, Calls Tryd.prog 14 #[.int .i64 k] w (Gives (.tuple #[.int .i64 (d : Int), .int .i64 0]) w))
    (ix : ∀ W, (Instr.index 9 (.string t) (.int .i64 0)).run Tryd.prog W = .ok (.int .u8 c) W) (dg : ∀ w : World, Calls Tryd.prog 46 #[.string t] w (Gives (.int .i64 (a : Int)) w)) (slA : ∀ W, (Instr.slice 9 (.string t) none (some (.int .i64 a)) none).run Tryd.prog W = .ok (.string A) W) (slR : ∀ W, (Instr.slice 9 (.string t) (some (.int .i64 a)) none none).run Tryd.prog W = .ok (.string R) W) (ixp : ∀ W, (Instr.index 9 (.string R) (.int .i64 0)).run Tryd.prog W = .ok (.int .u8 46) W) (slV : ∀ W, (Instr.slice 9 (.string R) (some (.int .i64 1)) none none).run Tryd.prog W = .ok (.string V) W) (dg2 : ∀ w : World, Calls Tryd.prog 46 #[.string V] w (Gives (.int .i64 (b : Int)) w)) :
    Calls Tryd.prog 19 #[.int .i64 k, .string t] w (Gives (.tuple #[.int .i64 0, .int .i64 4]) w) := by
  have fA : decide (64 < (m : Int)) = false := decide_eq_false (by omega)
  have fB : decide (0 < (m : Int)) = true := decide_eq_true (by omega)
  have kc : (c == 45) = false := by simpa using hc
  have h0 : ((a : Int) == 0) = false := by simp; omega
  have h1 : decide (1 < (a : Int)) = false := decide_eq_false (by omega)
  clear h
  have fq : decide (0 < (q : Int)) = true := decide_eq_true (by omega)
  have g0 : ((b : Int) == 0) = true := by simp; omega
  clear hb0
  go_enter Tryd.func19, Tryd.ntmps19
  go_wp2_with fail
  refine (rn _).mono ?_; rintro _ w1 ⟨rfl, hb⟩
  have BW1 : Below w.heap.size w w1 := by repeat' (first | (with_reducible exact Below.refl _ _) | (with_reducible refine Below.alloc ?_ ?_ _) | (with_reducible refine Below.setCell ?_ ?_ _) | (with_reducible refine Below.drew ?_) | (with_reducible refine Below.trans ?_ (Below.mono (by assumption) ?_)) | (simp; done) | (simp; omega) | omega)
  clear hb
  go_wp2_with fail
  refine (dc _).mono ?_; rintro _ w2 ⟨rfl, hb⟩
  have BW2 : Below w.heap.size w w2 := BW1.trans (hb.mono BW1.size)
  clear hb BW1
  go_wp2_with fail
  refine (dg _).mono ?_; rintro _ w3 ⟨rfl, hb⟩
  have BW3 : Below w.heap.size w w3 := BW2.trans (hb.mono BW2.size)
  clear hb BW2
  go_wp2_with fail
  refine (dg2 _).mono ?_; rintro _ w4 ⟨rfl, hb⟩
  have BW4 : Below w.heap.size w w4 := BW3.trans (hb.mono BW3.size)
  clear hb BW3
  go_wp2_with fail
  go_ret2
  exact Gives.mk rfl BW4

set_option maxRecDepth 100000 in
set_option maxHeartbeats 2000000 in
theorem rpr_pkdp1 (k : Int) (t U : ByteArray) (m a d : Nat) (d3 : d ≤ 10) (hm : t.size = m) (m0 : 1 ≤ m) (m64 : m ≤ 64) (a64 : a ≤ 64) (c : Int) (c0 : 0 ≤ c) (c255 : c ≤ 255) (hc : ¬ c = 45) (h : a = 1) (A R V : ByteArray) (q : Nat) (hR : R.size = q) (q0 : 1 ≤ q) (q1 : q ≤ 100) (b : Nat) (b1 : b ≤ 100) (hb0 : d < b) (w : World)
    (rn : ∀ w : World, Calls Tryd.prog 12 #[.int .i64 k] w (Gives (.tuple #[.string U, .int .i64 0]) w)) (dc : ∀ w : World, Calls Tryd.prog 14 #[.int .i64 k] w (Gives (.tuple #[.int .i64 (d : Int), .int .i64 0]) w))
    (ix : ∀ W, (Instr.index 9 (.string t) (.int .i64 0)).run Tryd.prog W = .ok (.int .u8 c) W) (dg : ∀ w : World, Calls Tryd.prog 46 #[.string t] w (Gives (.int .i64 (a : Int)) w)) (slA : ∀ W, (Instr.slice 9 (.string t) none (some (.int .i64 a)) none).run Tryd.prog W = .ok (.string A) W) (slR : ∀ W, (Instr.slice 9 (.string t) (some (.int .i64 a)) none none).run Tryd.prog W = .ok (.string R) W) (ixp : ∀ W, (Instr.index 9 (.string R) (.int .i64 0)).run Tryd.prog W = .ok (.int .u8 46) W) (slV : ∀ W, (Instr.slice 9 (.string R) (some (.int .i64 1)) none none).run Tryd.prog W = .ok (.string V) W) (dg2 : ∀ w : World, Calls Tryd.prog 46 #[.string V] w (Gives (.int .i64 (b : Int)) w)) :
    Calls Tryd.prog 19 #[.int .i64 k, .string t] w (Gives (.tuple #[.int .i64 0, .int .i64 4]) w) := by
  have fA : decide (64 < (m : Int)) = false := decide_eq_false (by omega)
  have fB : decide (0 < (m : Int)) = true := decide_eq_true (by omega)
  have kc : (c == 45) = false := by simpa using hc
  have h0 : ((a : Int) == 0) = false := by simp; omega
  have h1 : decide (1 < (a : Int)) = false := decide_eq_false (by omega)
  clear h
  have fq : decide (0 < (q : Int)) = true := decide_eq_true (by omega)
  have g0 : ((b : Int) == 0) = false := by simp; omega
  have g1 : decide ((d : Int) < (b : Int)) = true := decide_eq_true (by omega)
  go_enter Tryd.func19, Tryd.ntmps19
  go_wp2_with fail
  refine (rn _).mono ?_; rintro _ w1 ⟨rfl, hb⟩
  have BW1 : Below w.heap.size w w1 := by repeat' (first | (with_reducible exact Below.refl _ _) | (with_reducible refine Below.alloc ?_ ?_ _) | (with_reducible refine Below.setCell ?_ ?_ _) | (with_reducible refine Below.drew ?_) | (with_reducible refine Below.trans ?_ (Below.mono (by assumption) ?_)) | (simp; done) | (simp; omega) | omega)
  clear hb
  go_wp2_with fail
  refine (dc _).mono ?_; rintro _ w2 ⟨rfl, hb⟩
  have BW2 : Below w.heap.size w w2 := BW1.trans (hb.mono BW1.size)
  clear hb BW1
  go_wp2_with fail
  refine (dg _).mono ?_; rintro _ w3 ⟨rfl, hb⟩
  have BW3 : Below w.heap.size w w3 := BW2.trans (hb.mono BW2.size)
  clear hb BW2
  go_wp2_with fail
  refine (dg2 _).mono ?_; rintro _ w4 ⟨rfl, hb⟩
  have BW4 : Below w.heap.size w w4 := BW3.trans (hb.mono BW3.size)
  clear hb BW3
  go_wp2_with fail
  go_ret2
  exact Gives.mk rfl BW4

set_option maxRecDepth 100000 in
set_option maxHeartbeats 2000000 in
theorem rpr_pxp1 (k : Int) (t U : ByteArray) (m a d : Nat) (d3 : d ≤ 10) (hm : t.size = m) (m0 : 1 ≤ m) (m64 : m ≤ 64) (a64 : a ≤ 64) (c : Int) (c0 : 0 ≤ c) (c255 : c ≤ 255) (hc : ¬ c = 45) (h : a = 1) (A R V : ByteArray) (q : Nat) (hR : R.size = q) (q0 : 1 ≤ q) (q1 : q ≤ 100) (b : Nat) (b1 : b ≤ 100) (hb0 : 1 ≤ b) (hbd : b ≤ d) (J : Int) (hJ : 1 + (b : Int) = J) (Pb A2 X Nm : ByteArray) (w : World)
    (rn : ∀ w : World, Calls Tryd.prog 12 #[.int .i64 k] w (Gives (.tuple #[.string U, .int .i64 0]) w)) (dc : ∀ w : World, Calls Tryd.prog 14 #[.int .i64 k] w (Gives (.tuple #[.int .i64 (d : Int), .int .i64 0]) w))
    (ix : ∀ W, (Instr.index 9 (.string t) (.int .i64 0)).run Tryd.prog W = .ok (.int .u8 c) W) (dg : ∀ w : World, Calls Tryd.prog 46 #[.string t] w (Gives (.int .i64 (a : Int)) w)) (slA : ∀ W, (Instr.slice 9 (.string t) none (some (.int .i64 a)) none).run Tryd.prog W = .ok (.string A) W) (slR : ∀ W, (Instr.slice 9 (.string t) (some (.int .i64 a)) none none).run Tryd.prog W = .ok (.string R) W) (ixp : ∀ W, (Instr.index 9 (.string R) (.int .i64 0)).run Tryd.prog W = .ok (.int .u8 46) W) (slV : ∀ W, (Instr.slice 9 (.string R) (some (.int .i64 1)) none none).run Tryd.prog W = .ok (.string V) W) (dg2 : ∀ w : World, Calls Tryd.prog 46 #[.string V] w (Gives (.int .i64 (b : Int)) w)) (slB : ∀ W, (Instr.slice 9 (.string R) (some (.int .i64 1)) (some (.int .i64 J)) none).run Tryd.prog W = .ok (.string Pb) W) (adA : ∀ W, (Op.stringOp .add A Pb).run Tryd.prog W = .ok (.string A2) W) (slC : ∀ W, (Instr.slice 9 (.string R) (some (.int .i64 J)) none none).run Tryd.prog W = .ok (.string X) W) (adN : ∀ W, (Op.stringOp .add ⟨#[32]⟩ U).run Tryd.prog W = .ok (.string Nm) W) (hne : (X.toList == Nm.toList) = false) :
    Calls Tryd.prog 19 #[.int .i64 k, .string t] w (Gives (.tuple #[.int .i64 0, .int .i64 4]) w) := by
  have fA : decide (64 < (m : Int)) = false := decide_eq_false (by omega)
  have fB : decide (0 < (m : Int)) = true := decide_eq_true (by omega)
  have kc : (c == 45) = false := by simpa using hc
  have h0 : ((a : Int) == 0) = false := by simp; omega
  have h1 : decide (1 < (a : Int)) = false := decide_eq_false (by omega)
  clear h
  have fq : decide (0 < (q : Int)) = true := decide_eq_true (by omega)
  have g0 : ((b : Int) == 0) = false := by simp; omega
  have g1 : decide ((d : Int) < (b : Int)) = false := decide_eq_false (by omega)
  have j0 : 0 ≤ J := by omega
  have j1 : J ≤ 200 := by omega
  have hne2 : (X.toList != Nm.toList) = true := by unfold bne; rw [hne]; rfl
  go_enter Tryd.func19, Tryd.ntmps19
  go_wp2_with fail
  refine (rn _).mono ?_; rintro _ w1 ⟨rfl, hb⟩
  have BW1 : Below w.heap.size w w1 := by repeat' (first | (with_reducible exact Below.refl _ _) | (with_reducible refine Below.alloc ?_ ?_ _) | (with_reducible refine Below.setCell ?_ ?_ _) | (with_reducible refine Below.drew ?_) | (with_reducible refine Below.trans ?_ (Below.mono (by assumption) ?_)) | (simp; done) | (simp; omega) | omega)
  clear hb
  go_wp2_with fail
  refine (dc _).mono ?_; rintro _ w2 ⟨rfl, hb⟩
  have BW2 : Below w.heap.size w w2 := BW1.trans (hb.mono BW1.size)
  clear hb BW1
  go_wp2_with fail
  refine (dg _).mono ?_; rintro _ w3 ⟨rfl, hb⟩
  have BW3 : Below w.heap.size w w3 := BW2.trans (hb.mono BW2.size)
  clear hb BW2
  go_wp2_with fail
  refine (dg2 _).mono ?_; rintro _ w4 ⟨rfl, hb⟩
  have BW4 : Below w.heap.size w w4 := BW3.trans (hb.mono BW3.size)
  clear hb BW3
  go_wp2_with fail
  go_ret2
  exact Gives.mk rfl BW4

set_option maxRecDepth 100000 in
set_option maxHeartbeats 2000000 in
theorem rpr_pgp1 (k : Int) (t U : ByteArray) (m a d : Nat) (d3 : d ≤ 10) (hm : t.size = m) (m0 : 1 ≤ m) (m64 : m ≤ 64) (a64 : a ≤ 64) (c : Int) (c0 : 0 ≤ c) (c255 : c ≤ 255) (hc : ¬ c = 45) (h : a = 1) (A R V : ByteArray) (q : Nat) (hR : R.size = q) (q0 : 1 ≤ q) (q1 : q ≤ 100) (b : Nat) (b1 : b ≤ 100) (hb0 : 1 ≤ b) (hbd : b ≤ d) (J : Int) (hJ : 1 + (b : Int) = J) (Pb X : ByteArray) (AL : List UInt8) (al : AL.length ≤ 500) (n x e : Int) (n0 : 0 ≤ n) (n1 : n ≤ 10000000000000000) (hx : Sp.signC false n = (x, e)) (w : World)
    (rn : ∀ w : World, Calls Tryd.prog 12 #[.int .i64 k] w (Gives (.tuple #[.string U, .int .i64 0]) w)) (dc : ∀ w : World, Calls Tryd.prog 14 #[.int .i64 k] w (Gives (.tuple #[.int .i64 (d : Int), .int .i64 0]) w))
    (ix : ∀ W, (Instr.index 9 (.string t) (.int .i64 0)).run Tryd.prog W = .ok (.int .u8 c) W) (dg : ∀ w : World, Calls Tryd.prog 46 #[.string t] w (Gives (.int .i64 (a : Int)) w)) (slA : ∀ W, (Instr.slice 9 (.string t) none (some (.int .i64 a)) none).run Tryd.prog W = .ok (.string A) W) (slR : ∀ W, (Instr.slice 9 (.string t) (some (.int .i64 a)) none none).run Tryd.prog W = .ok (.string R) W) (ixp : ∀ W, (Instr.index 9 (.string R) (.int .i64 0)).run Tryd.prog W = .ok (.int .u8 46) W) (slV : ∀ W, (Instr.slice 9 (.string R) (some (.int .i64 1)) none none).run Tryd.prog W = .ok (.string V) W) (dg2 : ∀ w : World, Calls Tryd.prog 46 #[.string V] w (Gives (.int .i64 (b : Int)) w)) (slB : ∀ W, (Instr.slice 9 (.string R) (some (.int .i64 1)) (some (.int .i64 J)) none).run Tryd.prog W = .ok (.string Pb) W) (adA : ∀ W, (Op.stringOp .add A Pb).run Tryd.prog W = .ok (.string ⟨AL.toArray⟩) W) (slC : ∀ W, (Instr.slice 9 (.string R) (some (.int .i64 J)) none none).run Tryd.prog W = .ok (.string X) W) (adN : ∀ W, (Op.stringOp .add ⟨#[32]⟩ U).run Tryd.prog W = .ok (.string X) W) (nb : ∀ w : World, Calls Tryd.prog 47 #[.string ⟨(AL ++ List.replicate (d - b) 48).toArray⟩] w (Gives (.int .i64 n) w)) :
    Calls Tryd.prog 19 #[.int .i64 k, .string t] w (Gives (.tuple #[.int .i64 x, .int .i64 e]) w) := by
  have fA : decide (64 < (m : Int)) = false := decide_eq_false (by omega)
  have fB : decide (0 < (m : Int)) = true := decide_eq_true (by omega)
  have kc : (c == 45) = false := by simpa using hc
  have h0 : ((a : Int) == 0) = false := by simp; omega
  have h1 : decide (1 < (a : Int)) = false := decide_eq_false (by omega)
  clear h
  have fq : decide (0 < (q : Int)) = true := decide_eq_true (by omega)
  have g0 : ((b : Int) == 0) = false := by simp; omega
  have g1 : decide ((d : Int) < (b : Int)) = false := decide_eq_false (by omega)
  have j0 : 0 ≤ J := by omega
  have j1 : J ≤ 200 := by omega
  go_enter Tryd.func19, Tryd.ntmps19
  go_wp2_with fail
  refine (rn _).mono ?_; rintro _ w1 ⟨rfl, hb⟩
  have BW1 : Below w.heap.size w w1 := by repeat' (first | (with_reducible exact Below.refl _ _) | (with_reducible refine Below.alloc ?_ ?_ _) | (with_reducible refine Below.setCell ?_ ?_ _) | (with_reducible refine Below.drew ?_) | (with_reducible refine Below.trans ?_ (Below.mono (by assumption) ?_)) | (simp; done) | (simp; omega) | omega)
  clear hb
  go_wp2_with fail
  refine (dc _).mono ?_; rintro _ w2 ⟨rfl, hb⟩
  have BW2 : Below w.heap.size w w2 := BW1.trans (hb.mono BW1.size)
  clear hb BW1
  go_wp2_with fail
  refine (dg _).mono ?_; rintro _ w3 ⟨rfl, hb⟩
  have BW3 : Below w.heap.size w w3 := BW2.trans (hb.mono BW2.size)
  clear hb BW2
  go_wp2_with fail
  refine (dg2 _).mono ?_; rintro _ w4 ⟨rfl, hb⟩
  have BW4 : Below w.heap.size w w4 := BW3.trans (hb.mono BW3.size)
  clear hb BW3
  have BH := hid BW4
  clear BW4
  go_wp2_with fail
  go_loopw [11, 12] (fun vk va wr => PZL AL b d w vk va wr) (fun vk _ _ => d - (intOf vk).toNat)
  case atStart => exact ⟨0, by simp, by go_num, by omega, BH.out⟩
  case round =>
    obtain ⟨j, rfl, rfl, hj, hB⟩ := hrel
    have BI := hid hB
    clear hB
    by_cases hlt : b + j < d
    · have ad := add_run (AL ++ List.replicate j 48) [48] (by rw [List.length_append, List.length_replicate, List.length_singleton]; omega)
      have sh : (AL ++ List.replicate j 48 ++ [48] : List UInt8) = AL ++ List.replicate (j + 1) 48 := by rw [List.append_assoc, List.replicate_succ']
      have SH := hid sh
      clear sh
      generalize hS : (⟨(AL ++ List.replicate j 48).toArray⟩ : ByteArray) = S at ad ⊢
      generalize hS2 : (⟨(AL ++ List.replicate j 48 ++ [48]).toArray⟩ : ByteArray) = S2 at ad
      have H2 := hid hS2
      clear hS hS2
      go_wp2_with fail
      go_roundw
      case rel =>
        refine ⟨j + 1, by rw [← H2.out, SH.out], by go_num, by omega, BI.out⟩
      case measure => simp [intOf]; omega
    · have e : j = d - b := by omega
      subst e
      go_wp2_with fail
      refine (nb _).mono ?_; rintro _ wz ⟨rfl, hb⟩
      have BZ : Below w.heap.size w wz := BI.out.trans (hb.mono BI.out.size)
      clear hb nb
      have HX := hid hx
      clear hx
      rcases Int.lt_or_le 1000000000000000 n with q | q
      · have z1 : (n == 0) = false := by simp; omega
        have z2 : decide (1000000000000000 < n) = true := decide_eq_true q
        go_wp2_with fail
        go_ret2
        have e := HX.out
        unfold Sp.signC at e
        rw [if_neg (by rintro ⟨_, q1⟩; exact absurd q1 (by simp)), if_pos q] at e
        obtain ⟨rfl, rfl⟩ := Prod.mk.inj e
        exact Gives.mk rfl BZ
      · have z2 : decide (1000000000000000 < n) = false := decide_eq_false (by omega)
        have fin : x = n ∧ e = 0 := by
          have e := HX.out
          unfold Sp.signC at e
          rw [if_neg (by rintro ⟨_, q1⟩; exact absurd q1 (by simp)), if_neg (by omega)] at e
          obtain ⟨q1, q2⟩ := Prod.mk.inj e
          simp at q1
          exact ⟨by omega, q2.symm⟩
        obtain ⟨rfl, rfl⟩ := fin
        by_cases z0 : x = 0
        · subst z0
          go_wp2_with fail
          go_ret2
          exact Gives.mk (by first | rfl | (simp; done) | (simp; omega)) BZ
        · have z1 : (x == 0) = false := by simpa using z0
          have Z0 := hid z0
          clear z0
          go_wp2_with fail
          go_ret2
          exact Gives.mk (by first | rfl | (simp; done) | (simp; omega)) BZ

set_option maxRecDepth 100000 in
set_option maxHeartbeats 2000000 in
theorem rpr_n0pn (k : Int) (t U : ByteArray) (m a d : Nat) (d3 : d ≤ 10) (hm : t.size = m) (m0 : 1 ≤ m) (m64 : m ≤ 64) (a64 : a ≤ 64) (c : Int) (c0 : 0 ≤ c) (c255 : c ≤ 255) (hc : ¬ c = 45) (h : 1 < a) (hz : ¬ c = 48) (A R Nm : ByteArray) (hR : R.size = 0) (w : World)
    (rn : ∀ w : World, Calls Tryd.prog 12 #[.int .i64 k] w (Gives (.tuple #[.string U, .int .i64 0]) w)) (dc : ∀ w : World, Calls Tryd.prog 14 #[.int .i64 k] w (Gives (.tuple #[.int .i64 (d : Int), .int .i64 0]) w))
    (ix : ∀ W, (Instr.index 9 (.string t) (.int .i64 0)).run Tryd.prog W = .ok (.int .u8 c) W) (dg : ∀ w : World, Calls Tryd.prog 46 #[.string t] w (Gives (.int .i64 (a : Int)) w)) (slA : ∀ W, (Instr.slice 9 (.string t) none (some (.int .i64 a)) none).run Tryd.prog W = .ok (.string A) W) (slR : ∀ W, (Instr.slice 9 (.string t) (some (.int .i64 a)) none none).run Tryd.prog W = .ok (.string R) W) (adN : ∀ W, (Op.stringOp .add ⟨#[32]⟩ U).run Tryd.prog W = .ok (.string Nm) W) (hne : (R.toList == Nm.toList) = false) :
    Calls Tryd.prog 19 #[.int .i64 k, .string t] w (Gives (.tuple #[.int .i64 0, .int .i64 4]) w) := by
  have fA : decide (64 < (m : Int)) = false := decide_eq_false (by omega)
  have fB : decide (0 < (m : Int)) = true := decide_eq_true (by omega)
  have kc : (c == 45) = false := by simpa using hc
  have h0 : ((a : Int) == 0) = false := by simp; omega
  have h1 : decide (1 < (a : Int)) = true := decide_eq_true (by omega)
  have h2 : (c == 48) = false := by simpa using hz
  clear hz
  have hne2 : (R.toList != Nm.toList) = true := by unfold bne; rw [hne]; rfl
  go_enter Tryd.func19, Tryd.ntmps19
  go_wp2_with fail
  refine (rn _).mono ?_; rintro _ w1 ⟨rfl, hb⟩
  have BW1 : Below w.heap.size w w1 := by repeat' (first | (with_reducible exact Below.refl _ _) | (with_reducible refine Below.alloc ?_ ?_ _) | (with_reducible refine Below.setCell ?_ ?_ _) | (with_reducible refine Below.drew ?_) | (with_reducible refine Below.trans ?_ (Below.mono (by assumption) ?_)) | (simp; done) | (simp; omega) | omega)
  clear hb
  go_wp2_with fail
  refine (dc _).mono ?_; rintro _ w2 ⟨rfl, hb⟩
  have BW2 : Below w.heap.size w w2 := BW1.trans (hb.mono BW1.size)
  clear hb BW1
  go_wp2_with fail
  refine (dg _).mono ?_; rintro _ w3 ⟨rfl, hb⟩
  have BW3 : Below w.heap.size w w3 := BW2.trans (hb.mono BW2.size)
  clear hb BW2
  go_wp2_with fail
  go_ret2
  exact Gives.mk rfl BW3

set_option maxRecDepth 100000 in
set_option maxHeartbeats 2000000 in
theorem rpr_n1xpn (k : Int) (t U : ByteArray) (m a d : Nat) (d3 : d ≤ 10) (hm : t.size = m) (m0 : 1 ≤ m) (m64 : m ≤ 64) (a64 : a ≤ 64) (c : Int) (c0 : 0 ≤ c) (c255 : c ≤ 255) (hc : ¬ c = 45) (h : 1 < a) (hz : ¬ c = 48) (A R Nm : ByteArray) (q : Nat) (hR : R.size = q) (q0 : 1 ≤ q) (q1 : q ≤ 100) (p : Int) (p0 : 0 ≤ p) (p1 : p ≤ 255) (hp : ¬ p = 46) (w : World)
    (rn : ∀ w : World, Calls Tryd.prog 12 #[.int .i64 k] w (Gives (.tuple #[.string U, .int .i64 0]) w)) (dc : ∀ w : World, Calls Tryd.prog 14 #[.int .i64 k] w (Gives (.tuple #[.int .i64 (d : Int), .int .i64 0]) w))
    (ix : ∀ W, (Instr.index 9 (.string t) (.int .i64 0)).run Tryd.prog W = .ok (.int .u8 c) W) (dg : ∀ w : World, Calls Tryd.prog 46 #[.string t] w (Gives (.int .i64 (a : Int)) w)) (slA : ∀ W, (Instr.slice 9 (.string t) none (some (.int .i64 a)) none).run Tryd.prog W = .ok (.string A) W) (slR : ∀ W, (Instr.slice 9 (.string t) (some (.int .i64 a)) none none).run Tryd.prog W = .ok (.string R) W) (ixp : ∀ W, (Instr.index 9 (.string R) (.int .i64 0)).run Tryd.prog W = .ok (.int .u8 p) W) (adN : ∀ W, (Op.stringOp .add ⟨#[32]⟩ U).run Tryd.prog W = .ok (.string Nm) W) (hne : (R.toList == Nm.toList) = false) :
    Calls Tryd.prog 19 #[.int .i64 k, .string t] w (Gives (.tuple #[.int .i64 0, .int .i64 4]) w) := by
  have fA : decide (64 < (m : Int)) = false := decide_eq_false (by omega)
  have fB : decide (0 < (m : Int)) = true := decide_eq_true (by omega)
  have kc : (c == 45) = false := by simpa using hc
  have h0 : ((a : Int) == 0) = false := by simp; omega
  have h1 : decide (1 < (a : Int)) = true := decide_eq_true (by omega)
  have h2 : (c == 48) = false := by simpa using hz
  clear hz
  have fq : decide (0 < (q : Int)) = true := decide_eq_true (by omega)
  have kp : (p == 46) = false := by simpa using hp
  clear hp
  have hne2 : (R.toList != Nm.toList) = true := by unfold bne; rw [hne]; rfl
  go_enter Tryd.func19, Tryd.ntmps19
  go_wp2_with fail
  refine (rn _).mono ?_; rintro _ w1 ⟨rfl, hb⟩
  have BW1 : Below w.heap.size w w1 := by repeat' (first | (with_reducible exact Below.refl _ _) | (with_reducible refine Below.alloc ?_ ?_ _) | (with_reducible refine Below.setCell ?_ ?_ _) | (with_reducible refine Below.drew ?_) | (with_reducible refine Below.trans ?_ (Below.mono (by assumption) ?_)) | (simp; done) | (simp; omega) | omega)
  clear hb
  go_wp2_with fail
  refine (dc _).mono ?_; rintro _ w2 ⟨rfl, hb⟩
  have BW2 : Below w.heap.size w w2 := BW1.trans (hb.mono BW1.size)
  clear hb BW1
  go_wp2_with fail
  refine (dg _).mono ?_; rintro _ w3 ⟨rfl, hb⟩
  have BW3 : Below w.heap.size w w3 := BW2.trans (hb.mono BW2.size)
  clear hb BW2
  go_wp2_with fail
  go_ret2
  exact Gives.mk rfl BW3

set_option maxRecDepth 100000 in
set_option maxHeartbeats 2000000 in
theorem rpr_n1gpn (k : Int) (t U : ByteArray) (m a d : Nat) (d3 : d ≤ 10) (hm : t.size = m) (m0 : 1 ≤ m) (m64 : m ≤ 64) (a64 : a ≤ 64) (c : Int) (c0 : 0 ≤ c) (c255 : c ≤ 255) (hc : ¬ c = 45) (h : 1 < a) (hz : ¬ c = 48) (AL : List UInt8) (al : AL.length ≤ 500) (R : ByteArray) (q : Nat) (hR : R.size = q) (q0 : 1 ≤ q) (q1 : q ≤ 100) (p : Int) (p0 : 0 ≤ p) (p1 : p ≤ 255) (hp : ¬ p = 46) (n x e : Int) (n0 : 0 ≤ n) (n1 : n ≤ 10000000000000000) (hx : Sp.signC false n = (x, e)) (w : World)
    (rn : ∀ w : World, Calls Tryd.prog 12 #[.int .i64 k] w (Gives (.tuple #[.string U, .int .i64 0]) w)) (dc : ∀ w : World, Calls Tryd.prog 14 #[.int .i64 k] w (Gives (.tuple #[.int .i64 (d : Int), .int .i64 0]) w))
    (ix : ∀ W, (Instr.index 9 (.string t) (.int .i64 0)).run Tryd.prog W = .ok (.int .u8 c) W) (dg : ∀ w : World, Calls Tryd.prog 46 #[.string t] w (Gives (.int .i64 (a : Int)) w)) (slA : ∀ W, (Instr.slice 9 (.string t) none (some (.int .i64 a)) none).run Tryd.prog W = .ok (.string ⟨AL.toArray⟩) W) (slR : ∀ W, (Instr.slice 9 (.string t) (some (.int .i64 a)) none none).run Tryd.prog W = .ok (.string R) W) (ixp : ∀ W, (Instr.index 9 (.string R) (.int .i64 0)).run Tryd.prog W = .ok (.int .u8 p) W) (adN : ∀ W, (Op.stringOp .add ⟨#[32]⟩ U).run Tryd.prog W = .ok (.string R) W) (nb : ∀ w : World, Calls Tryd.prog 47 #[.string ⟨(AL ++ List.replicate (d - 0) 48).toArray⟩] w (Gives (.int .i64 n) w)) :
    Calls Tryd.prog 19 #[.int .i64 k, .string t] w (Gives (.tuple #[.int .i64 x, .int .i64 e]) w) := by
  have fA : decide (64 < (m : Int)) = false := decide_eq_false (by omega)
  have fB : decide (0 < (m : Int)) = true := decide_eq_true (by omega)
  have kc : (c == 45) = false := by simpa using hc
  have h0 : ((a : Int) == 0) = false := by simp; omega
  have h1 : decide (1 < (a : Int)) = true := decide_eq_true (by omega)
  have h2 : (c == 48) = false := by simpa using hz
  clear hz
  have fq : decide (0 < (q : Int)) = true := decide_eq_true (by omega)
  have kp : (p == 46) = false := by simpa using hp
  clear hp
  go_enter Tryd.func19, Tryd.ntmps19
  go_wp2_with fail
  refine (rn _).mono ?_; rintro _ w1 ⟨rfl, hb⟩
  have BW1 : Below w.heap.size w w1 := by repeat' (first | (with_reducible exact Below.refl _ _) | (with_reducible refine Below.alloc ?_ ?_ _) | (with_reducible refine Below.setCell ?_ ?_ _) | (with_reducible refine Below.drew ?_) | (with_reducible refine Below.trans ?_ (Below.mono (by assumption) ?_)) | (simp; done) | (simp; omega) | omega)
  clear hb
  go_wp2_with fail
  refine (dc _).mono ?_; rintro _ w2 ⟨rfl, hb⟩
  have BW2 : Below w.heap.size w w2 := BW1.trans (hb.mono BW1.size)
  clear hb BW1
  go_wp2_with fail
  refine (dg _).mono ?_; rintro _ w3 ⟨rfl, hb⟩
  have BW3 : Below w.heap.size w w3 := BW2.trans (hb.mono BW2.size)
  clear hb BW2
  have BH := hid BW3
  clear BW3
  go_wp2_with fail
  go_loopw [11, 12] (fun vk va wr => PZL AL 0 d w vk va wr) (fun vk _ _ => d - (intOf vk).toNat)
  case atStart => exact ⟨0, by simp, by go_num, by omega, BH.out⟩
  case round =>
    obtain ⟨j, rfl, rfl, hj, hB⟩ := hrel
    have BI := hid hB
    clear hB
    by_cases hlt : 0 + j < d
    · have ad := add_run (AL ++ List.replicate j 48) [48] (by rw [List.length_append, List.length_replicate, List.length_singleton]; omega)
      have sh : (AL ++ List.replicate j 48 ++ [48] : List UInt8) = AL ++ List.replicate (j + 1) 48 := by rw [List.append_assoc, List.replicate_succ']
      have SH := hid sh
      clear sh
      generalize hS : (⟨(AL ++ List.replicate j 48).toArray⟩ : ByteArray) = S at ad ⊢
      generalize hS2 : (⟨(AL ++ List.replicate j 48 ++ [48]).toArray⟩ : ByteArray) = S2 at ad
      have H2 := hid hS2
      clear hS hS2
      go_wp2_with fail
      go_roundw
      case rel =>
        refine ⟨j + 1, by rw [← H2.out, SH.out], by go_num, by omega, BI.out⟩
      case measure => simp [intOf]; omega
    · have e : j = d - 0 := by omega
      subst e
      go_wp2_with fail
      refine (nb _).mono ?_; rintro _ wz ⟨rfl, hb⟩
      have BZ : Below w.heap.size w wz := BI.out.trans (hb.mono BI.out.size)
      clear hb nb
      have HX := hid hx
      clear hx
      rcases Int.lt_or_le 1000000000000000 n with q | q
      · have z1 : (n == 0) = false := by simp; omega
        have z2 : decide (1000000000000000 < n) = true := decide_eq_true q
        go_wp2_with fail
        go_ret2
        have e := HX.out
        unfold Sp.signC at e
        rw [if_neg (by rintro ⟨_, q1⟩; exact absurd q1 (by simp)), if_pos q] at e
        obtain ⟨rfl, rfl⟩ := Prod.mk.inj e
        exact Gives.mk rfl BZ
      · have z2 : decide (1000000000000000 < n) = false := decide_eq_false (by omega)
        have fin : x = n ∧ e = 0 := by
          have e := HX.out
          unfold Sp.signC at e
          rw [if_neg (by rintro ⟨_, q1⟩; exact absurd q1 (by simp)), if_neg (by omega)] at e
          obtain ⟨q1, q2⟩ := Prod.mk.inj e
          simp at q1
          exact ⟨by omega, q2.symm⟩
        obtain ⟨rfl, rfl⟩ := fin
        by_cases z0 : x = 0
        · subst z0
          go_wp2_with fail
          go_ret2
          exact Gives.mk (by first | rfl | (simp; done) | (simp; omega)) BZ
        · have z1 : (x == 0) = false := by simpa using z0
          have Z0 := hid z0
          clear z0
          go_wp2_with fail
          go_ret2
          exact Gives.mk (by first | rfl | (simp; done) | (simp; omega)) BZ

set_option maxRecDepth 100000 in
set_option maxHeartbeats 2000000 in
theorem rpr_pk0pn (k : Int) (t U : ByteArray) (m a d : Nat) (d3 : d ≤ 10) (hm : t.size = m) (m0 : 1 ≤ m) (m64 : m ≤ 64) (a64 : a ≤ 64) (c : Int) (c0 : 0 ≤ c) (c255 : c ≤ 255) (hc : ¬ c = 45) (h : 1 < a) (hz : ¬ c = 48) (A R V : ByteArray) (q : Nat) (hR : R.size = q) (q0 : 1 ≤ q) (q1 : q ≤ 100) (b : Nat) (b1 : b ≤ 100) (hb0 : b = 0) (w : World)
    (rn : ∀ w : World, Calls Tryd.prog 12 #[.int .i64 k] w (Gives (.tuple #[.string U, .int .i64 0]) w)) (dc : ∀ w : World, Calls Tryd.prog 14 #[.int .i64 k] w (Gives (.tuple #[.int .i64 (d : Int), .int .i64 0]) w))
    (ix : ∀ W, (Instr.index 9 (.string t) (.int .i64 0)).run Tryd.prog W = .ok (.int .u8 c) W) (dg : ∀ w : World, Calls Tryd.prog 46 #[.string t] w (Gives (.int .i64 (a : Int)) w)) (slA : ∀ W, (Instr.slice 9 (.string t) none (some (.int .i64 a)) none).run Tryd.prog W = .ok (.string A) W) (slR : ∀ W, (Instr.slice 9 (.string t) (some (.int .i64 a)) none none).run Tryd.prog W = .ok (.string R) W) (ixp : ∀ W, (Instr.index 9 (.string R) (.int .i64 0)).run Tryd.prog W = .ok (.int .u8 46) W) (slV : ∀ W, (Instr.slice 9 (.string R) (some (.int .i64 1)) none none).run Tryd.prog W = .ok (.string V) W) (dg2 : ∀ w : World, Calls Tryd.prog 46 #[.string V] w (Gives (.int .i64 (b : Int)) w)) :
    Calls Tryd.prog 19 #[.int .i64 k, .string t] w (Gives (.tuple #[.int .i64 0, .int .i64 4]) w) := by
  have fA : decide (64 < (m : Int)) = false := decide_eq_false (by omega)
  have fB : decide (0 < (m : Int)) = true := decide_eq_true (by omega)
  have kc : (c == 45) = false := by simpa using hc
  have h0 : ((a : Int) == 0) = false := by simp; omega
  have h1 : decide (1 < (a : Int)) = true := decide_eq_true (by omega)
  have h2 : (c == 48) = false := by simpa using hz
  clear hz
  have fq : decide (0 < (q : Int)) = true := decide_eq_true (by omega)
  have g0 : ((b : Int) == 0) = true := by simp; omega
  clear hb0
  go_enter Tryd.func19, Tryd.ntmps19
  go_wp2_with fail
  refine (rn _).mono ?_; rintro _ w1 ⟨rfl, hb⟩
  have BW1 : Below w.heap.size w w1 := by repeat' (first | (with_reducible exact Below.refl _ _) | (with_reducible refine Below.alloc ?_ ?_ _) | (with_reducible refine Below.setCell ?_ ?_ _) | (with_reducible refine Below.drew ?_) | (with_reducible refine Below.trans ?_ (Below.mono (by assumption) ?_)) | (simp; done) | (simp; omega) | omega)
  clear hb
  go_wp2_with fail
  refine (dc _).mono ?_; rintro _ w2 ⟨rfl, hb⟩
  have BW2 : Below w.heap.size w w2 := BW1.trans (hb.mono BW1.size)
  clear hb BW1
  go_wp2_with fail
  refine (dg _).mono ?_; rintro _ w3 ⟨rfl, hb⟩
  have BW3 : Below w.heap.size w w3 := BW2.trans (hb.mono BW2.size)
  clear hb BW2
  go_wp2_with fail
  refine (dg2 _).mono ?_; rintro _ w4 ⟨rfl, hb⟩
  have BW4 : Below w.heap.size w w4 := BW3.trans (hb.mono BW3.size)
  clear hb BW3
  go_wp2_with fail
  go_ret2
  exact Gives.mk rfl BW4

set_option maxRecDepth 100000 in
set_option maxHeartbeats 2000000 in
theorem rpr_pkdpn (k : Int) (t U : ByteArray) (m a d : Nat) (d3 : d ≤ 10) (hm : t.size = m) (m0 : 1 ≤ m) (m64 : m ≤ 64) (a64 : a ≤ 64) (c : Int) (c0 : 0 ≤ c) (c255 : c ≤ 255) (hc : ¬ c = 45) (h : 1 < a) (hz : ¬ c = 48) (A R V : ByteArray) (q : Nat) (hR : R.size = q) (q0 : 1 ≤ q) (q1 : q ≤ 100) (b : Nat) (b1 : b ≤ 100) (hb0 : d < b) (w : World)
    (rn : ∀ w : World, Calls Tryd.prog 12 #[.int .i64 k] w (Gives (.tuple #[.string U, .int .i64 0]) w)) (dc : ∀ w : World, Calls Tryd.prog 14 #[.int .i64 k] w (Gives (.tuple #[.int .i64 (d : Int), .int .i64 0]) w))
    (ix : ∀ W, (Instr.index 9 (.string t) (.int .i64 0)).run Tryd.prog W = .ok (.int .u8 c) W) (dg : ∀ w : World, Calls Tryd.prog 46 #[.string t] w (Gives (.int .i64 (a : Int)) w)) (slA : ∀ W, (Instr.slice 9 (.string t) none (some (.int .i64 a)) none).run Tryd.prog W = .ok (.string A) W) (slR : ∀ W, (Instr.slice 9 (.string t) (some (.int .i64 a)) none none).run Tryd.prog W = .ok (.string R) W) (ixp : ∀ W, (Instr.index 9 (.string R) (.int .i64 0)).run Tryd.prog W = .ok (.int .u8 46) W) (slV : ∀ W, (Instr.slice 9 (.string R) (some (.int .i64 1)) none none).run Tryd.prog W = .ok (.string V) W) (dg2 : ∀ w : World, Calls Tryd.prog 46 #[.string V] w (Gives (.int .i64 (b : Int)) w)) :
    Calls Tryd.prog 19 #[.int .i64 k, .string t] w (Gives (.tuple #[.int .i64 0, .int .i64 4]) w) := by
  have fA : decide (64 < (m : Int)) = false := decide_eq_false (by omega)
  have fB : decide (0 < (m : Int)) = true := decide_eq_true (by omega)
  have kc : (c == 45) = false := by simpa using hc
  have h0 : ((a : Int) == 0) = false := by simp; omega
  have h1 : decide (1 < (a : Int)) = true := decide_eq_true (by omega)
  have h2 : (c == 48) = false := by simpa using hz
  clear hz
  have fq : decide (0 < (q : Int)) = true := decide_eq_true (by omega)
  have g0 : ((b : Int) == 0) = false := by simp; omega
  have g1 : decide ((d : Int) < (b : Int)) = true := decide_eq_true (by omega)
  go_enter Tryd.func19, Tryd.ntmps19
  go_wp2_with fail
  refine (rn _).mono ?_; rintro _ w1 ⟨rfl, hb⟩
  have BW1 : Below w.heap.size w w1 := by repeat' (first | (with_reducible exact Below.refl _ _) | (with_reducible refine Below.alloc ?_ ?_ _) | (with_reducible refine Below.setCell ?_ ?_ _) | (with_reducible refine Below.drew ?_) | (with_reducible refine Below.trans ?_ (Below.mono (by assumption) ?_)) | (simp; done) | (simp; omega) | omega)
  clear hb
  go_wp2_with fail
  refine (dc _).mono ?_; rintro _ w2 ⟨rfl, hb⟩
  have BW2 : Below w.heap.size w w2 := BW1.trans (hb.mono BW1.size)
  clear hb BW1
  go_wp2_with fail
  refine (dg _).mono ?_; rintro _ w3 ⟨rfl, hb⟩
  have BW3 : Below w.heap.size w w3 := BW2.trans (hb.mono BW2.size)
  clear hb BW2
  go_wp2_with fail
  refine (dg2 _).mono ?_; rintro _ w4 ⟨rfl, hb⟩
  have BW4 : Below w.heap.size w w4 := BW3.trans (hb.mono BW3.size)
  clear hb BW3
  go_wp2_with fail
  go_ret2
  exact Gives.mk rfl BW4

set_option maxRecDepth 100000 in
set_option maxHeartbeats 2000000 in
theorem rpr_pxpn (k : Int) (t U : ByteArray) (m a d : Nat) (d3 : d ≤ 10) (hm : t.size = m) (m0 : 1 ≤ m) (m64 : m ≤ 64) (a64 : a ≤ 64) (c : Int) (c0 : 0 ≤ c) (c255 : c ≤ 255) (hc : ¬ c = 45) (h : 1 < a) (hz : ¬ c = 48) (A R V : ByteArray) (q : Nat) (hR : R.size = q) (q0 : 1 ≤ q) (q1 : q ≤ 100) (b : Nat) (b1 : b ≤ 100) (hb0 : 1 ≤ b) (hbd : b ≤ d) (J : Int) (hJ : 1 + (b : Int) = J) (Pb A2 X Nm : ByteArray) (w : World)
    (rn : ∀ w : World, Calls Tryd.prog 12 #[.int .i64 k] w (Gives (.tuple #[.string U, .int .i64 0]) w)) (dc : ∀ w : World, Calls Tryd.prog 14 #[.int .i64 k] w (Gives (.tuple #[.int .i64 (d : Int), .int .i64 0]) w))
    (ix : ∀ W, (Instr.index 9 (.string t) (.int .i64 0)).run Tryd.prog W = .ok (.int .u8 c) W) (dg : ∀ w : World, Calls Tryd.prog 46 #[.string t] w (Gives (.int .i64 (a : Int)) w)) (slA : ∀ W, (Instr.slice 9 (.string t) none (some (.int .i64 a)) none).run Tryd.prog W = .ok (.string A) W) (slR : ∀ W, (Instr.slice 9 (.string t) (some (.int .i64 a)) none none).run Tryd.prog W = .ok (.string R) W) (ixp : ∀ W, (Instr.index 9 (.string R) (.int .i64 0)).run Tryd.prog W = .ok (.int .u8 46) W) (slV : ∀ W, (Instr.slice 9 (.string R) (some (.int .i64 1)) none none).run Tryd.prog W = .ok (.string V) W) (dg2 : ∀ w : World, Calls Tryd.prog 46 #[.string V] w (Gives (.int .i64 (b : Int)) w)) (slB : ∀ W, (Instr.slice 9 (.string R) (some (.int .i64 1)) (some (.int .i64 J)) none).run Tryd.prog W = .ok (.string Pb) W) (adA : ∀ W, (Op.stringOp .add A Pb).run Tryd.prog W = .ok (.string A2) W) (slC : ∀ W, (Instr.slice 9 (.string R) (some (.int .i64 J)) none none).run Tryd.prog W = .ok (.string X) W) (adN : ∀ W, (Op.stringOp .add ⟨#[32]⟩ U).run Tryd.prog W = .ok (.string Nm) W) (hne : (X.toList == Nm.toList) = false) :
    Calls Tryd.prog 19 #[.int .i64 k, .string t] w (Gives (.tuple #[.int .i64 0, .int .i64 4]) w) := by
  have fA : decide (64 < (m : Int)) = false := decide_eq_false (by omega)
  have fB : decide (0 < (m : Int)) = true := decide_eq_true (by omega)
  have kc : (c == 45) = false := by simpa using hc
  have h0 : ((a : Int) == 0) = false := by simp; omega
  have h1 : decide (1 < (a : Int)) = true := decide_eq_true (by omega)
  have h2 : (c == 48) = false := by simpa using hz
  clear hz
  have fq : decide (0 < (q : Int)) = true := decide_eq_true (by omega)
  have g0 : ((b : Int) == 0) = false := by simp; omega
  have g1 : decide ((d : Int) < (b : Int)) = false := decide_eq_false (by omega)
  have j0 : 0 ≤ J := by omega
  have j1 : J ≤ 200 := by omega
  have hne2 : (X.toList != Nm.toList) = true := by unfold bne; rw [hne]; rfl
  go_enter Tryd.func19, Tryd.ntmps19
  go_wp2_with fail
  refine (rn _).mono ?_; rintro _ w1 ⟨rfl, hb⟩
  have BW1 : Below w.heap.size w w1 := by repeat' (first | (with_reducible exact Below.refl _ _) | (with_reducible refine Below.alloc ?_ ?_ _) | (with_reducible refine Below.setCell ?_ ?_ _) | (with_reducible refine Below.drew ?_) | (with_reducible refine Below.trans ?_ (Below.mono (by assumption) ?_)) | (simp; done) | (simp; omega) | omega)
  clear hb
  go_wp2_with fail
  refine (dc _).mono ?_; rintro _ w2 ⟨rfl, hb⟩
  have BW2 : Below w.heap.size w w2 := BW1.trans (hb.mono BW1.size)
  clear hb BW1
  go_wp2_with fail
  refine (dg _).mono ?_; rintro _ w3 ⟨rfl, hb⟩
  have BW3 : Below w.heap.size w w3 := BW2.trans (hb.mono BW2.size)
  clear hb BW2
  go_wp2_with fail
  refine (dg2 _).mono ?_; rintro _ w4 ⟨rfl, hb⟩
  have BW4 : Below w.heap.size w w4 := BW3.trans (hb.mono BW3.size)
  clear hb BW3
  go_wp2_with fail
  go_ret2
  exact Gives.mk rfl BW4

set_option maxRecDepth 100000 in
set_option maxHeartbeats 2000000 in
theorem rpr_pgpn (k : Int) (t U : ByteArray) (m a d : Nat) (d3 : d ≤ 10) (hm : t.size = m) (m0 : 1 ≤ m) (m64 : m ≤ 64) (a64 : a ≤ 64) (c : Int) (c0 : 0 ≤ c) (c255 : c ≤ 255) (hc : ¬ c = 45) (h : 1 < a) (hz : ¬ c = 48) (A R V : ByteArray) (q : Nat) (hR : R.size = q) (q0 : 1 ≤ q) (q1 : q ≤ 100) (b : Nat) (b1 : b ≤ 100) (hb0 : 1 ≤ b) (hbd : b ≤ d) (J : Int) (hJ : 1 + (b : Int) = J) (Pb X : ByteArray) (AL : List UInt8) (al : AL.length ≤ 500) (n x e : Int) (n0 : 0 ≤ n) (n1 : n ≤ 10000000000000000) (hx : Sp.signC false n = (x, e)) (w : World)
    (rn : ∀ w : World, Calls Tryd.prog 12 #[.int .i64 k] w (Gives (.tuple #[.string U, .int .i64 0]) w)) (dc : ∀ w : World, Calls Tryd.prog 14 #[.int .i64 k] w (Gives (.tuple #[.int .i64 (d : Int), .int .i64 0]) w))
    (ix : ∀ W, (Instr.index 9 (.string t) (.int .i64 0)).run Tryd.prog W = .ok (.int .u8 c) W) (dg : ∀ w : World, Calls Tryd.prog 46 #[.string t] w (Gives (.int .i64 (a : Int)) w)) (slA : ∀ W, (Instr.slice 9 (.string t) none (some (.int .i64 a)) none).run Tryd.prog W = .ok (.string A) W) (slR : ∀ W, (Instr.slice 9 (.string t) (some (.int .i64 a)) none none).run Tryd.prog W = .ok (.string R) W) (ixp : ∀ W, (Instr.index 9 (.string R) (.int .i64 0)).run Tryd.prog W = .ok (.int .u8 46) W) (slV : ∀ W, (Instr.slice 9 (.string R) (some (.int .i64 1)) none none).run Tryd.prog W = .ok (.string V) W) (dg2 : ∀ w : World, Calls Tryd.prog 46 #[.string V] w (Gives (.int .i64 (b : Int)) w)) (slB : ∀ W, (Instr.slice 9 (.string R) (some (.int .i64 1)) (some (.int .i64 J)) none).run Tryd.prog W = .ok (.string Pb) W) (adA : ∀ W, (Op.stringOp .add A Pb).run Tryd.prog W = .ok (.string ⟨AL.toArray⟩) W) (slC : ∀ W, (Instr.slice 9 (.string R) (some (.int .i64 J)) none none).run Tryd.prog W = .ok (.string X) W) (adN : ∀ W, (Op.stringOp .add ⟨#[32]⟩ U).run Tryd.prog W = .ok (.string X) W) (nb : ∀ w : World, Calls Tryd.prog 47 #[.string ⟨(AL ++ List.replicate (d - b) 48).toArray⟩] w (Gives (.int .i64 n) w)) :
    Calls Tryd.prog 19 #[.int .i64 k, .string t] w (Gives (.tuple #[.int .i64 x, .int .i64 e]) w) := by
  have fA : decide (64 < (m : Int)) = false := decide_eq_false (by omega)
  have fB : decide (0 < (m : Int)) = true := decide_eq_true (by omega)
  have kc : (c == 45) = false := by simpa using hc
  have h0 : ((a : Int) == 0) = false := by simp; omega
  have h1 : decide (1 < (a : Int)) = true := decide_eq_true (by omega)
  have h2 : (c == 48) = false := by simpa using hz
  clear hz
  have fq : decide (0 < (q : Int)) = true := decide_eq_true (by omega)
  have g0 : ((b : Int) == 0) = false := by simp; omega
  have g1 : decide ((d : Int) < (b : Int)) = false := decide_eq_false (by omega)
  have j0 : 0 ≤ J := by omega
  have j1 : J ≤ 200 := by omega
  go_enter Tryd.func19, Tryd.ntmps19
  go_wp2_with fail
  refine (rn _).mono ?_; rintro _ w1 ⟨rfl, hb⟩
  have BW1 : Below w.heap.size w w1 := by repeat' (first | (with_reducible exact Below.refl _ _) | (with_reducible refine Below.alloc ?_ ?_ _) | (with_reducible refine Below.setCell ?_ ?_ _) | (with_reducible refine Below.drew ?_) | (with_reducible refine Below.trans ?_ (Below.mono (by assumption) ?_)) | (simp; done) | (simp; omega) | omega)
  clear hb
  go_wp2_with fail
  refine (dc _).mono ?_; rintro _ w2 ⟨rfl, hb⟩
  have BW2 : Below w.heap.size w w2 := BW1.trans (hb.mono BW1.size)
  clear hb BW1
  go_wp2_with fail
  refine (dg _).mono ?_; rintro _ w3 ⟨rfl, hb⟩
  have BW3 : Below w.heap.size w w3 := BW2.trans (hb.mono BW2.size)
  clear hb BW2
  go_wp2_with fail
  refine (dg2 _).mono ?_; rintro _ w4 ⟨rfl, hb⟩
  have BW4 : Below w.heap.size w w4 := BW3.trans (hb.mono BW3.size)
  clear hb BW3
  have BH := hid BW4
  clear BW4
  go_wp2_with fail
  go_loopw [11, 12] (fun vk va wr => PZL AL b d w vk va wr) (fun vk _ _ => d - (intOf vk).toNat)
  case atStart => exact ⟨0, by simp, by go_num, by omega, BH.out⟩
  case round =>
    obtain ⟨j, rfl, rfl, hj, hB⟩ := hrel
    have BI := hid hB
    clear hB
    by_cases hlt : b + j < d
    · have ad := add_run (AL ++ List.replicate j 48) [48] (by rw [List.length_append, List.length_replicate, List.length_singleton]; omega)
      have sh : (AL ++ List.replicate j 48 ++ [48] : List UInt8) = AL ++ List.replicate (j + 1) 48 := by rw [List.append_assoc, List.replicate_succ']
      have SH := hid sh
      clear sh
      generalize hS : (⟨(AL ++ List.replicate j 48).toArray⟩ : ByteArray) = S at ad ⊢
      generalize hS2 : (⟨(AL ++ List.replicate j 48 ++ [48]).toArray⟩ : ByteArray) = S2 at ad
      have H2 := hid hS2
      clear hS hS2
      go_wp2_with fail
      go_roundw
      case rel =>
        refine ⟨j + 1, by rw [← H2.out, SH.out], by go_num, by omega, BI.out⟩
      case measure => simp [intOf]; omega
    · have e : j = d - b := by omega
      subst e
      go_wp2_with fail
      refine (nb _).mono ?_; rintro _ wz ⟨rfl, hb⟩
      have BZ : Below w.heap.size w wz := BI.out.trans (hb.mono BI.out.size)
      clear hb nb
      have HX := hid hx
      clear hx
      rcases Int.lt_or_le 1000000000000000 n with q | q
      · have z1 : (n == 0) = false := by simp; omega
        have z2 : decide (1000000000000000 < n) = true := decide_eq_true q
        go_wp2_with fail
        go_ret2
        have e := HX.out
        unfold Sp.signC at e
        rw [if_neg (by rintro ⟨_, q1⟩; exact absurd q1 (by simp)), if_pos q] at e
        obtain ⟨rfl, rfl⟩ := Prod.mk.inj e
        exact Gives.mk rfl BZ
      · have z2 : decide (1000000000000000 < n) = false := decide_eq_false (by omega)
        have fin : x = n ∧ e = 0 := by
          have e := HX.out
          unfold Sp.signC at e
          rw [if_neg (by rintro ⟨_, q1⟩; exact absurd q1 (by simp)), if_neg (by omega)] at e
          obtain ⟨q1, q2⟩ := Prod.mk.inj e
          simp at q1
          exact ⟨by omega, q2.symm⟩
        obtain ⟨rfl, rfl⟩ := fin
        by_cases z0 : x = 0
        · subst z0
          go_wp2_with fail
          go_ret2
          exact Gives.mk (by first | rfl | (simp; done) | (simp; omega)) BZ
        · have z1 : (x == 0) = false := by simpa using z0
          have Z0 := hid z0
          clear z0
          go_wp2_with fail
          go_ret2
          exact Gives.mk (by first | rfl | (simp; done) | (simp; omega)) BZ

set_option maxRecDepth 100000 in
set_option maxHeartbeats 2000000 in
theorem rpr_noned (k : Int) (t r U : ByteArray) (m a d : Nat) (d3 : d ≤ 10) (hm : t.size = m) (m0 : 1 ≤ m) (m64 : m ≤ 64) (a64 : a ≤ 64) (h : a = 0) (w : World)
    (rn : ∀ w : World, Calls Tryd.prog 12 #[.int .i64 k] w (Gives (.tuple #[.string U, .int .i64 0]) w)) (dc : ∀ w : World, Calls Tryd.prog 14 #[.int .i64 k] w (Gives (.tuple #[.int .i64 (d : Int), .int .i64 0]) w))
    (ix : ∀ W, (Instr.index 9 (.string t) (.int .i64 0)).run Tryd.prog W = .ok (.int .u8 45) W) (sl : ∀ W, (Instr.slice 9 (.string t) (some (.int .i64 1)) none none).run Tryd.prog W = .ok (.string r) W) (dg : ∀ w : World, Calls Tryd.prog 46 #[.string r] w (Gives (.int .i64 (a : Int)) w)) :
    Calls Tryd.prog 19 #[.int .i64 k, .string t] w (Gives (.tuple #[.int .i64 0, .int .i64 4]) w) := by
  have fA : decide (64 < (m : Int)) = false := decide_eq_false (by omega)
  have fB : decide (0 < (m : Int)) = true := decide_eq_true (by omega)
  have h0 : ((a : Int) == 0) = true := by simp; omega
  clear h
  go_enter Tryd.func19, Tryd.ntmps19
  go_wp2_with fail
  refine (rn _).mono ?_; rintro _ w1 ⟨rfl, hb⟩
  have BW1 : Below w.heap.size w w1 := by repeat' (first | (with_reducible exact Below.refl _ _) | (with_reducible refine Below.alloc ?_ ?_ _) | (with_reducible refine Below.setCell ?_ ?_ _) | (with_reducible refine Below.drew ?_) | (with_reducible refine Below.trans ?_ (Below.mono (by assumption) ?_)) | (simp; done) | (simp; omega) | omega)
  clear hb
  go_wp2_with fail
  refine (dc _).mono ?_; rintro _ w2 ⟨rfl, hb⟩
  have BW2 : Below w.heap.size w w2 := BW1.trans (hb.mono BW1.size)
  clear hb BW1
  go_wp2_with fail
  refine (dg _).mono ?_; rintro _ w3 ⟨rfl, hb⟩
  have BW3 : Below w.heap.size w w3 := BW2.trans (hb.mono BW2.size)
  clear hb BW2
  go_wp2_with fail
  go_ret2
  exact Gives.mk rfl BW3

set_option maxRecDepth 100000 in
set_option maxHeartbeats 2000000 in
theorem rpr_leadd (k : Int) (t r U : ByteArray) (m a d : Nat) (d3 : d ≤ 10) (hm : t.size = m) (m0 : 1 ≤ m) (m64 : m ≤ 64) (a64 : a ≤ 64) (h : 1 < a) (w : World)
    (rn : ∀ w : World, Calls Tryd.prog 12 #[.int .i64 k] w (Gives (.tuple #[.string U, .int .i64 0]) w)) (dc : ∀ w : World, Calls Tryd.prog 14 #[.int .i64 k] w (Gives (.tuple #[.int .i64 (d : Int), .int .i64 0]) w))
    (ix : ∀ W, (Instr.index 9 (.string t) (.int .i64 0)).run Tryd.prog W = .ok (.int .u8 45) W) (sl : ∀ W, (Instr.slice 9 (.string t) (some (.int .i64 1)) none none).run Tryd.prog W = .ok (.string r) W) (dg : ∀ w : World, Calls Tryd.prog 46 #[.string r] w (Gives (.int .i64 (a : Int)) w)) (ixr : ∀ W, (Instr.index 9 (.string r) (.int .i64 0)).run Tryd.prog W = .ok (.int .u8 48) W) :
    Calls Tryd.prog 19 #[.int .i64 k, .string t] w (Gives (.tuple #[.int .i64 0, .int .i64 4]) w) := by
  have fA : decide (64 < (m : Int)) = false := decide_eq_false (by omega)
  have fB : decide (0 < (m : Int)) = true := decide_eq_true (by omega)
  have h0 : ((a : Int) == 0) = false := by simp; omega
  have h1 : decide (1 < (a : Int)) = true := decide_eq_true (by omega)
  go_enter Tryd.func19, Tryd.ntmps19
  go_wp2_with fail
  refine (rn _).mono ?_; rintro _ w1 ⟨rfl, hb⟩
  have BW1 : Below w.heap.size w w1 := by repeat' (first | (with_reducible exact Below.refl _ _) | (with_reducible refine Below.alloc ?_ ?_ _) | (with_reducible refine Below.setCell ?_ ?_ _) | (with_reducible refine Below.drew ?_) | (with_reducible refine Below.trans ?_ (Below.mono (by assumption) ?_)) | (simp; done) | (simp; omega) | omega)
  clear hb
  go_wp2_with fail
  refine (dc _).mono ?_; rintro _ w2 ⟨rfl, hb⟩
  have BW2 : Below w.heap.size w w2 := BW1.trans (hb.mono BW1.size)
  clear hb BW1
  go_wp2_with fail
  refine (dg _).mono ?_; rintro _ w3 ⟨rfl, hb⟩
  have BW3 : Below w.heap.size w w3 := BW2.trans (hb.mono BW2.size)
  clear hb BW2
  go_wp2_with fail
  go_ret2
  exact Gives.mk rfl BW3

set_option maxRecDepth 100000 in
set_option maxHeartbeats 2000000 in
theorem rpr_n0d1 (k : Int) (t r U : ByteArray) (m a d : Nat) (d3 : d ≤ 10) (hm : t.size = m) (m0 : 1 ≤ m) (m64 : m ≤ 64) (a64 : a ≤ 64) (h : a = 1) (A R Nm : ByteArray) (hR : R.size = 0) (w : World)
    (rn : ∀ w : World, Calls Tryd.prog 12 #[.int .i64 k] w (Gives (.tuple #[.string U, .int .i64 0]) w)) (dc : ∀ w : World, Calls Tryd.prog 14 #[.int .i64 k] w (Gives (.tuple #[.int .i64 (d : Int), .int .i64 0]) w))
    (ix : ∀ W, (Instr.index 9 (.string t) (.int .i64 0)).run Tryd.prog W = .ok (.int .u8 45) W) (sl : ∀ W, (Instr.slice 9 (.string t) (some (.int .i64 1)) none none).run Tryd.prog W = .ok (.string r) W) (dg : ∀ w : World, Calls Tryd.prog 46 #[.string r] w (Gives (.int .i64 (a : Int)) w)) (slA : ∀ W, (Instr.slice 9 (.string r) none (some (.int .i64 a)) none).run Tryd.prog W = .ok (.string A) W) (slR : ∀ W, (Instr.slice 9 (.string r) (some (.int .i64 a)) none none).run Tryd.prog W = .ok (.string R) W) (adN : ∀ W, (Op.stringOp .add ⟨#[32]⟩ U).run Tryd.prog W = .ok (.string Nm) W) (hne : (R.toList == Nm.toList) = false) :
    Calls Tryd.prog 19 #[.int .i64 k, .string t] w (Gives (.tuple #[.int .i64 0, .int .i64 4]) w) := by
  have fA : decide (64 < (m : Int)) = false := decide_eq_false (by omega)
  have fB : decide (0 < (m : Int)) = true := decide_eq_true (by omega)
  have h0 : ((a : Int) == 0) = false := by simp; omega
  have h1 : decide (1 < (a : Int)) = false := decide_eq_false (by omega)
  clear h
  have hne2 : (R.toList != Nm.toList) = true := by unfold bne; rw [hne]; rfl
  go_enter Tryd.func19, Tryd.ntmps19
  go_wp2_with fail
  refine (rn _).mono ?_; rintro _ w1 ⟨rfl, hb⟩
  have BW1 : Below w.heap.size w w1 := by repeat' (first | (with_reducible exact Below.refl _ _) | (with_reducible refine Below.alloc ?_ ?_ _) | (with_reducible refine Below.setCell ?_ ?_ _) | (with_reducible refine Below.drew ?_) | (with_reducible refine Below.trans ?_ (Below.mono (by assumption) ?_)) | (simp; done) | (simp; omega) | omega)
  clear hb
  go_wp2_with fail
  refine (dc _).mono ?_; rintro _ w2 ⟨rfl, hb⟩
  have BW2 : Below w.heap.size w w2 := BW1.trans (hb.mono BW1.size)
  clear hb BW1
  go_wp2_with fail
  refine (dg _).mono ?_; rintro _ w3 ⟨rfl, hb⟩
  have BW3 : Below w.heap.size w w3 := BW2.trans (hb.mono BW2.size)
  clear hb BW2
  go_wp2_with fail
  go_ret2
  exact Gives.mk rfl BW3

set_option maxRecDepth 100000 in
set_option maxHeartbeats 2000000 in
theorem rpr_n1xd1 (k : Int) (t r U : ByteArray) (m a d : Nat) (d3 : d ≤ 10) (hm : t.size = m) (m0 : 1 ≤ m) (m64 : m ≤ 64) (a64 : a ≤ 64) (h : a = 1) (A R Nm : ByteArray) (q : Nat) (hR : R.size = q) (q0 : 1 ≤ q) (q1 : q ≤ 100) (p : Int) (p0 : 0 ≤ p) (p1 : p ≤ 255) (hp : ¬ p = 46) (w : World)
    (rn : ∀ w : World, Calls Tryd.prog 12 #[.int .i64 k] w (Gives (.tuple #[.string U, .int .i64 0]) w)) (dc : ∀ w : World, Calls Tryd.prog 14 #[.int .i64 k] w (Gives (.tuple #[.int .i64 (d : Int), .int .i64 0]) w))
    (ix : ∀ W, (Instr.index 9 (.string t) (.int .i64 0)).run Tryd.prog W = .ok (.int .u8 45) W) (sl : ∀ W, (Instr.slice 9 (.string t) (some (.int .i64 1)) none none).run Tryd.prog W = .ok (.string r) W) (dg : ∀ w : World, Calls Tryd.prog 46 #[.string r] w (Gives (.int .i64 (a : Int)) w)) (slA : ∀ W, (Instr.slice 9 (.string r) none (some (.int .i64 a)) none).run Tryd.prog W = .ok (.string A) W) (slR : ∀ W, (Instr.slice 9 (.string r) (some (.int .i64 a)) none none).run Tryd.prog W = .ok (.string R) W) (ixp : ∀ W, (Instr.index 9 (.string R) (.int .i64 0)).run Tryd.prog W = .ok (.int .u8 p) W) (adN : ∀ W, (Op.stringOp .add ⟨#[32]⟩ U).run Tryd.prog W = .ok (.string Nm) W) (hne : (R.toList == Nm.toList) = false) :
    Calls Tryd.prog 19 #[.int .i64 k, .string t] w (Gives (.tuple #[.int .i64 0, .int .i64 4]) w) := by
  have fA : decide (64 < (m : Int)) = false := decide_eq_false (by omega)
  have fB : decide (0 < (m : Int)) = true := decide_eq_true (by omega)
  have h0 : ((a : Int) == 0) = false := by simp; omega
  have h1 : decide (1 < (a : Int)) = false := decide_eq_false (by omega)
  clear h
  have fq : decide (0 < (q : Int)) = true := decide_eq_true (by omega)
  have kp : (p == 46) = false := by simpa using hp
  clear hp
  have hne2 : (R.toList != Nm.toList) = true := by unfold bne; rw [hne]; rfl
  go_enter Tryd.func19, Tryd.ntmps19
  go_wp2_with fail
  refine (rn _).mono ?_; rintro _ w1 ⟨rfl, hb⟩
  have BW1 : Below w.heap.size w w1 := by repeat' (first | (with_reducible exact Below.refl _ _) | (with_reducible refine Below.alloc ?_ ?_ _) | (with_reducible refine Below.setCell ?_ ?_ _) | (with_reducible refine Below.drew ?_) | (with_reducible refine Below.trans ?_ (Below.mono (by assumption) ?_)) | (simp; done) | (simp; omega) | omega)
  clear hb
  go_wp2_with fail
  refine (dc _).mono ?_; rintro _ w2 ⟨rfl, hb⟩
  have BW2 : Below w.heap.size w w2 := BW1.trans (hb.mono BW1.size)
  clear hb BW1
  go_wp2_with fail
  refine (dg _).mono ?_; rintro _ w3 ⟨rfl, hb⟩
  have BW3 : Below w.heap.size w w3 := BW2.trans (hb.mono BW2.size)
  clear hb BW2
  go_wp2_with fail
  go_ret2
  exact Gives.mk rfl BW3

set_option maxRecDepth 100000 in
set_option maxHeartbeats 2000000 in
theorem rpr_n1gd1 (k : Int) (t r U : ByteArray) (m a d : Nat) (d3 : d ≤ 10) (hm : t.size = m) (m0 : 1 ≤ m) (m64 : m ≤ 64) (a64 : a ≤ 64) (h : a = 1) (AL : List UInt8) (al : AL.length ≤ 500) (R : ByteArray) (q : Nat) (hR : R.size = q) (q0 : 1 ≤ q) (q1 : q ≤ 100) (p : Int) (p0 : 0 ≤ p) (p1 : p ≤ 255) (hp : ¬ p = 46) (n x e : Int) (n0 : 0 ≤ n) (n1 : n ≤ 10000000000000000) (hx : Sp.signC true n = (x, e)) (w : World)
    (rn : ∀ w : World, Calls Tryd.prog 12 #[.int .i64 k] w (Gives (.tuple #[.string U, .int .i64 0]) w)) (dc : ∀ w : World, Calls Tryd.prog 14 #[.int .i64 k] w (Gives (.tuple #[.int .i64 (d : Int), .int .i64 0]) w))
    (ix : ∀ W, (Instr.index 9 (.string t) (.int .i64 0)).run Tryd.prog W = .ok (.int .u8 45) W) (sl : ∀ W, (Instr.slice 9 (.string t) (some (.int .i64 1)) none none).run Tryd.prog W = .ok (.string r) W) (dg : ∀ w : World, Calls Tryd.prog 46 #[.string r] w (Gives (.int .i64 (a : Int)) w)) (slA : ∀ W, (Instr.slice 9 (.string r) none (some (.int .i64 a)) none).run Tryd.prog W = .ok (.string ⟨AL.toArray⟩) W) (slR : ∀ W, (Instr.slice 9 (.string r) (some (.int .i64 a)) none none).run Tryd.prog W = .ok (.string R) W) (ixp : ∀ W, (Instr.index 9 (.string R) (.int .i64 0)).run Tryd.prog W = .ok (.int .u8 p) W) (adN : ∀ W, (Op.stringOp .add ⟨#[32]⟩ U).run Tryd.prog W = .ok (.string R) W) (nb : ∀ w : World, Calls Tryd.prog 47 #[.string ⟨(AL ++ List.replicate (d - 0) 48).toArray⟩] w (Gives (.int .i64 n) w)) :
    Calls Tryd.prog 19 #[.int .i64 k, .string t] w (Gives (.tuple #[.int .i64 x, .int .i64 e]) w) := by
  have fA : decide (64 < (m : Int)) = false := decide_eq_false (by omega)
  have fB : decide (0 < (m : Int)) = true := decide_eq_true (by omega)
  have h0 : ((a : Int) == 0) = false := by simp; omega
  have h1 : decide (1 < (a : Int)) = false := decide_eq_false (by omega)
  clear h
  have fq : decide (0 < (q : Int)) = true := decide_eq_true (by omega)
  have kp : (p == 46) = false := by simpa using hp
  clear hp
  go_enter Tryd.func19, Tryd.ntmps19
  go_wp2_with fail
  refine (rn _).mono ?_; rintro _ w1 ⟨rfl, hb⟩
  have BW1 : Below w.heap.size w w1 := by repeat' (first | (with_reducible exact Below.refl _ _) | (with_reducible refine Below.alloc ?_ ?_ _) | (with_reducible refine Below.setCell ?_ ?_ _) | (with_reducible refine Below.drew ?_) | (with_reducible refine Below.trans ?_ (Below.mono (by assumption) ?_)) | (simp; done) | (simp; omega) | omega)
  clear hb
  go_wp2_with fail
  refine (dc _).mono ?_; rintro _ w2 ⟨rfl, hb⟩
  have BW2 : Below w.heap.size w w2 := BW1.trans (hb.mono BW1.size)
  clear hb BW1
  go_wp2_with fail
  refine (dg _).mono ?_; rintro _ w3 ⟨rfl, hb⟩
  have BW3 : Below w.heap.size w w3 := BW2.trans (hb.mono BW2.size)
  clear hb BW2
  have BH := hid BW3
  clear BW3
  go_wp2_with fail
  go_loopw [11, 12] (fun vk va wr => PZL AL 0 d w vk va wr) (fun vk _ _ => d - (intOf vk).toNat)
  case atStart => exact ⟨0, by simp, by go_num, by omega, BH.out⟩
  case round =>
    obtain ⟨j, rfl, rfl, hj, hB⟩ := hrel
    have BI := hid hB
    clear hB
    by_cases hlt : 0 + j < d
    · have ad := add_run (AL ++ List.replicate j 48) [48] (by rw [List.length_append, List.length_replicate, List.length_singleton]; omega)
      have sh : (AL ++ List.replicate j 48 ++ [48] : List UInt8) = AL ++ List.replicate (j + 1) 48 := by rw [List.append_assoc, List.replicate_succ']
      have SH := hid sh
      clear sh
      generalize hS : (⟨(AL ++ List.replicate j 48).toArray⟩ : ByteArray) = S at ad ⊢
      generalize hS2 : (⟨(AL ++ List.replicate j 48 ++ [48]).toArray⟩ : ByteArray) = S2 at ad
      have H2 := hid hS2
      clear hS hS2
      go_wp2_with fail
      go_roundw
      case rel =>
        refine ⟨j + 1, by rw [← H2.out, SH.out], by go_num, by omega, BI.out⟩
      case measure => simp [intOf]; omega
    · have e : j = d - 0 := by omega
      subst e
      go_wp2_with fail
      refine (nb _).mono ?_; rintro _ wz ⟨rfl, hb⟩
      have BZ : Below w.heap.size w wz := BI.out.trans (hb.mono BI.out.size)
      clear hb nb
      have HX := hid hx
      clear hx
      by_cases z0 : n = 0
      · subst z0
        go_wp2_with fail
        go_ret2
        have e := HX.out
        simp [Sp.signC] at e
        obtain ⟨rfl, rfl⟩ := e
        exact Gives.mk rfl BZ
      · have z1 : (n == 0) = false := by simpa using z0
        rcases Int.lt_or_le 1000000000000000 n with q | q
        · have z2 : decide (1000000000000000 < n) = true := decide_eq_true q
          have Z0 := hid z0
          clear z0
          go_wp2_with fail
          go_ret2
          have e := HX.out
          unfold Sp.signC at e
          rw [if_neg (by rintro ⟨q1, _⟩; exact Z0.out q1), if_pos q] at e
          obtain ⟨rfl, rfl⟩ := Prod.mk.inj e
          exact Gives.mk rfl BZ
        · have z2 : decide (1000000000000000 < n) = false := decide_eq_false (by omega)
          have Z0 := hid z0
          clear z0
          go_wp2_with fail
          go_ret2
          have e := HX.out
          unfold Sp.signC at e
          rw [if_neg (by rintro ⟨q1, _⟩; exact Z0.out q1), if_neg (by omega)] at e
          simp only [if_true] at e
          obtain ⟨rfl, rfl⟩ := Prod.mk.inj e
          exact Gives.mk (by first | rfl | (simp; done) | (simp; omega)) BZ

set_option maxRecDepth 100000 in
set_option maxHeartbeats 2000000 in
theorem rpr_pk0d1 (k : Int) (t r U : ByteArray) (m a d : Nat) (d3 : d ≤ 10) (hm : t.size = m) (m0 : 1 ≤ m) (m64 : m ≤ 64) (a64 : a ≤ 64) (h : a = 1) (A R V : ByteArray) (q : Nat) (hR : R.size = q) (q0 : 1 ≤ q) (q1 : q ≤ 100) (b : Nat) (b1 : b ≤ 100) (hb0 : b = 0) (w : World)
    (rn : ∀ w : World, Calls Tryd.prog 12 #[.int .i64 k] w (Gives (.tuple #[.string U, .int .i64 0]) w)) (dc : ∀ w : World, Calls Tryd.prog 14 #[.int .i64 k] w (Gives (.tuple #[.int .i64 (d : Int), .int .i64 0]) w))
    (ix : ∀ W, (Instr.index 9 (.string t) (.int .i64 0)).run Tryd.prog W = .ok (.int .u8 45) W) (sl : ∀ W, (Instr.slice 9 (.string t) (some (.int .i64 1)) none none).run Tryd.prog W = .ok (.string r) W) (dg : ∀ w : World, Calls Tryd.prog 46 #[.string r] w (Gives (.int .i64 (a : Int)) w)) (slA : ∀ W, (Instr.slice 9 (.string r) none (some (.int .i64 a)) none).run Tryd.prog W = .ok (.string A) W) (slR : ∀ W, (Instr.slice 9 (.string r) (some (.int .i64 a)) none none).run Tryd.prog W = .ok (.string R) W) (ixp : ∀ W, (Instr.index 9 (.string R) (.int .i64 0)).run Tryd.prog W = .ok (.int .u8 46) W) (slV : ∀ W, (Instr.slice 9 (.string R) (some (.int .i64 1)) none none).run Tryd.prog W = .ok (.string V) W) (dg2 : ∀ w : World, Calls Tryd.prog 46 #[.string V] w (Gives (.int .i64 (b : Int)) w)) :
    Calls Tryd.prog 19 #[.int .i64 k, .string t] w (Gives (.tuple #[.int .i64 0, .int .i64 4]) w) := by
  have fA : decide (64 < (m : Int)) = false := decide_eq_false (by omega)
  have fB : decide (0 < (m : Int)) = true := decide_eq_true (by omega)
  have h0 : ((a : Int) == 0) = false := by simp; omega
  have h1 : decide (1 < (a : Int)) = false := decide_eq_false (by omega)
  clear h
  have fq : decide (0 < (q : Int)) = true := decide_eq_true (by omega)
  have g0 : ((b : Int) == 0) = true := by simp; omega
  clear hb0
  go_enter Tryd.func19, Tryd.ntmps19
  go_wp2_with fail
  refine (rn _).mono ?_; rintro _ w1 ⟨rfl, hb⟩
  have BW1 : Below w.heap.size w w1 := by repeat' (first | (with_reducible exact Below.refl _ _) | (with_reducible refine Below.alloc ?_ ?_ _) | (with_reducible refine Below.setCell ?_ ?_ _) | (with_reducible refine Below.drew ?_) | (with_reducible refine Below.trans ?_ (Below.mono (by assumption) ?_)) | (simp; done) | (simp; omega) | omega)
  clear hb
  go_wp2_with fail
  refine (dc _).mono ?_; rintro _ w2 ⟨rfl, hb⟩
  have BW2 : Below w.heap.size w w2 := BW1.trans (hb.mono BW1.size)
  clear hb BW1
  go_wp2_with fail
  refine (dg _).mono ?_; rintro _ w3 ⟨rfl, hb⟩
  have BW3 : Below w.heap.size w w3 := BW2.trans (hb.mono BW2.size)
  clear hb BW2
  go_wp2_with fail
  refine (dg2 _).mono ?_; rintro _ w4 ⟨rfl, hb⟩
  have BW4 : Below w.heap.size w w4 := BW3.trans (hb.mono BW3.size)
  clear hb BW3
  go_wp2_with fail
  go_ret2
  exact Gives.mk rfl BW4

set_option maxRecDepth 100000 in
set_option maxHeartbeats 2000000 in
theorem rpr_pkdd1 (k : Int) (t r U : ByteArray) (m a d : Nat) (d3 : d ≤ 10) (hm : t.size = m) (m0 : 1 ≤ m) (m64 : m ≤ 64) (a64 : a ≤ 64) (h : a = 1) (A R V : ByteArray) (q : Nat) (hR : R.size = q) (q0 : 1 ≤ q) (q1 : q ≤ 100) (b : Nat) (b1 : b ≤ 100) (hb0 : d < b) (w : World)
    (rn : ∀ w : World, Calls Tryd.prog 12 #[.int .i64 k] w (Gives (.tuple #[.string U, .int .i64 0]) w)) (dc : ∀ w : World, Calls Tryd.prog 14 #[.int .i64 k] w (Gives (.tuple #[.int .i64 (d : Int), .int .i64 0]) w))
    (ix : ∀ W, (Instr.index 9 (.string t) (.int .i64 0)).run Tryd.prog W = .ok (.int .u8 45) W) (sl : ∀ W, (Instr.slice 9 (.string t) (some (.int .i64 1)) none none).run Tryd.prog W = .ok (.string r) W) (dg : ∀ w : World, Calls Tryd.prog 46 #[.string r] w (Gives (.int .i64 (a : Int)) w)) (slA : ∀ W, (Instr.slice 9 (.string r) none (some (.int .i64 a)) none).run Tryd.prog W = .ok (.string A) W) (slR : ∀ W, (Instr.slice 9 (.string r) (some (.int .i64 a)) none none).run Tryd.prog W = .ok (.string R) W) (ixp : ∀ W, (Instr.index 9 (.string R) (.int .i64 0)).run Tryd.prog W = .ok (.int .u8 46) W) (slV : ∀ W, (Instr.slice 9 (.string R) (some (.int .i64 1)) none none).run Tryd.prog W = .ok (.string V) W) (dg2 : ∀ w : World, Calls Tryd.prog 46 #[.string V] w (Gives (.int .i64 (b : Int)) w)) :
    Calls Tryd.prog 19 #[.int .i64 k, .string t] w (Gives (.tuple #[.int .i64 0, .int .i64 4]) w) := by
  have fA : decide (64 < (m : Int)) = false := decide_eq_false (by omega)
  have fB : decide (0 < (m : Int)) = true := decide_eq_true (by omega)
  have h0 : ((a : Int) == 0) = false := by simp; omega
  have h1 : decide (1 < (a : Int)) = false := decide_eq_false (by omega)
  clear h
  have fq : decide (0 < (q : Int)) = true := decide_eq_true (by omega)
  have g0 : ((b : Int) == 0) = false := by simp; omega
  have g1 : decide ((d : Int) < (b : Int)) = true := decide_eq_true (by omega)
  go_enter Tryd.func19, Tryd.ntmps19
  go_wp2_with fail
  refine (rn _).mono ?_; rintro _ w1 ⟨rfl, hb⟩
  have BW1 : Below w.heap.size w w1 := by repeat' (first | (with_reducible exact Below.refl _ _) | (with_reducible refine Below.alloc ?_ ?_ _) | (with_reducible refine Below.setCell ?_ ?_ _) | (with_reducible refine Below.drew ?_) | (with_reducible refine Below.trans ?_ (Below.mono (by assumption) ?_)) | (simp; done) | (simp; omega) | omega)
  clear hb
  go_wp2_with fail
  refine (dc _).mono ?_; rintro _ w2 ⟨rfl, hb⟩
  have BW2 : Below w.heap.size w w2 := BW1.trans (hb.mono BW1.size)
  clear hb BW1
  go_wp2_with fail
  refine (dg _).mono ?_; rintro _ w3 ⟨rfl, hb⟩
  have BW3 : Below w.heap.size w w3 := BW2.trans (hb.mono BW2.size)
  clear hb BW2
  go_wp2_with fail
  refine (dg2 _).mono ?_; rintro _ w4 ⟨rfl, hb⟩
  have BW4 : Below w.heap.size w w4 := BW3.trans (hb.mono BW3.size)
  clear hb BW3
  go_wp2_with fail
  go_ret2
  exact Gives.mk rfl BW4

set_option maxRecDepth 100000 in
set_option maxHeartbeats 2000000 in
theorem rpr_pxd1 (k : Int) (t r U : ByteArray) (m a d : Nat) (d3 : d ≤ 10) (hm : t.size = m) (m0 : 1 ≤ m) (m64 : m ≤ 64) (a64 : a ≤ 64) (h : a = 1) (A R V : ByteArray) (q : Nat) (hR : R.size = q) (q0 : 1 ≤ q) (q1 : q ≤ 100) (b : Nat) (b1 : b ≤ 100) (hb0 : 1 ≤ b) (hbd : b ≤ d) (J : Int) (hJ : 1 + (b : Int) = J) (Pb A2 X Nm : ByteArray) (w : World)
    (rn : ∀ w : World, Calls Tryd.prog 12 #[.int .i64 k] w (Gives (.tuple #[.string U, .int .i64 0]) w)) (dc : ∀ w : World, Calls Tryd.prog 14 #[.int .i64 k] w (Gives (.tuple #[.int .i64 (d : Int), .int .i64 0]) w))
    (ix : ∀ W, (Instr.index 9 (.string t) (.int .i64 0)).run Tryd.prog W = .ok (.int .u8 45) W) (sl : ∀ W, (Instr.slice 9 (.string t) (some (.int .i64 1)) none none).run Tryd.prog W = .ok (.string r) W) (dg : ∀ w : World, Calls Tryd.prog 46 #[.string r] w (Gives (.int .i64 (a : Int)) w)) (slA : ∀ W, (Instr.slice 9 (.string r) none (some (.int .i64 a)) none).run Tryd.prog W = .ok (.string A) W) (slR : ∀ W, (Instr.slice 9 (.string r) (some (.int .i64 a)) none none).run Tryd.prog W = .ok (.string R) W) (ixp : ∀ W, (Instr.index 9 (.string R) (.int .i64 0)).run Tryd.prog W = .ok (.int .u8 46) W) (slV : ∀ W, (Instr.slice 9 (.string R) (some (.int .i64 1)) none none).run Tryd.prog W = .ok (.string V) W) (dg2 : ∀ w : World, Calls Tryd.prog 46 #[.string V] w (Gives (.int .i64 (b : Int)) w)) (slB : ∀ W, (Instr.slice 9 (.string R) (some (.int .i64 1)) (some (.int .i64 J)) none).run Tryd.prog W = .ok (.string Pb) W) (adA : ∀ W, (Op.stringOp .add A Pb).run Tryd.prog W = .ok (.string A2) W) (slC : ∀ W, (Instr.slice 9 (.string R) (some (.int .i64 J)) none none).run Tryd.prog W = .ok (.string X) W) (adN : ∀ W, (Op.stringOp .add ⟨#[32]⟩ U).run Tryd.prog W = .ok (.string Nm) W) (hne : (X.toList == Nm.toList) = false) :
    Calls Tryd.prog 19 #[.int .i64 k, .string t] w (Gives (.tuple #[.int .i64 0, .int .i64 4]) w) := by
  have fA : decide (64 < (m : Int)) = false := decide_eq_false (by omega)
  have fB : decide (0 < (m : Int)) = true := decide_eq_true (by omega)
  have h0 : ((a : Int) == 0) = false := by simp; omega
  have h1 : decide (1 < (a : Int)) = false := decide_eq_false (by omega)
  clear h
  have fq : decide (0 < (q : Int)) = true := decide_eq_true (by omega)
  have g0 : ((b : Int) == 0) = false := by simp; omega
  have g1 : decide ((d : Int) < (b : Int)) = false := decide_eq_false (by omega)
  have j0 : 0 ≤ J := by omega
  have j1 : J ≤ 200 := by omega
  have hne2 : (X.toList != Nm.toList) = true := by unfold bne; rw [hne]; rfl
  go_enter Tryd.func19, Tryd.ntmps19
  go_wp2_with fail
  refine (rn _).mono ?_; rintro _ w1 ⟨rfl, hb⟩
  have BW1 : Below w.heap.size w w1 := by repeat' (first | (with_reducible exact Below.refl _ _) | (with_reducible refine Below.alloc ?_ ?_ _) | (with_reducible refine Below.setCell ?_ ?_ _) | (with_reducible refine Below.drew ?_) | (with_reducible refine Below.trans ?_ (Below.mono (by assumption) ?_)) | (simp; done) | (simp; omega) | omega)
  clear hb
  go_wp2_with fail
  refine (dc _).mono ?_; rintro _ w2 ⟨rfl, hb⟩
  have BW2 : Below w.heap.size w w2 := BW1.trans (hb.mono BW1.size)
  clear hb BW1
  go_wp2_with fail
  refine (dg _).mono ?_; rintro _ w3 ⟨rfl, hb⟩
  have BW3 : Below w.heap.size w w3 := BW2.trans (hb.mono BW2.size)
  clear hb BW2
  go_wp2_with fail
  refine (dg2 _).mono ?_; rintro _ w4 ⟨rfl, hb⟩
  have BW4 : Below w.heap.size w w4 := BW3.trans (hb.mono BW3.size)
  clear hb BW3
  go_wp2_with fail
  go_ret2
  exact Gives.mk rfl BW4

set_option maxRecDepth 100000 in
set_option maxHeartbeats 2000000 in
theorem rpr_pgd1 (k : Int) (t r U : ByteArray) (m a d : Nat) (d3 : d ≤ 10) (hm : t.size = m) (m0 : 1 ≤ m) (m64 : m ≤ 64) (a64 : a ≤ 64) (h : a = 1) (A R V : ByteArray) (q : Nat) (hR : R.size = q) (q0 : 1 ≤ q) (q1 : q ≤ 100) (b : Nat) (b1 : b ≤ 100) (hb0 : 1 ≤ b) (hbd : b ≤ d) (J : Int) (hJ : 1 + (b : Int) = J) (Pb X : ByteArray) (AL : List UInt8) (al : AL.length ≤ 500) (n x e : Int) (n0 : 0 ≤ n) (n1 : n ≤ 10000000000000000) (hx : Sp.signC true n = (x, e)) (w : World)
    (rn : ∀ w : World, Calls Tryd.prog 12 #[.int .i64 k] w (Gives (.tuple #[.string U, .int .i64 0]) w)) (dc : ∀ w : World, Calls Tryd.prog 14 #[.int .i64 k] w (Gives (.tuple #[.int .i64 (d : Int), .int .i64 0]) w))
    (ix : ∀ W, (Instr.index 9 (.string t) (.int .i64 0)).run Tryd.prog W = .ok (.int .u8 45) W) (sl : ∀ W, (Instr.slice 9 (.string t) (some (.int .i64 1)) none none).run Tryd.prog W = .ok (.string r) W) (dg : ∀ w : World, Calls Tryd.prog 46 #[.string r] w (Gives (.int .i64 (a : Int)) w)) (slA : ∀ W, (Instr.slice 9 (.string r) none (some (.int .i64 a)) none).run Tryd.prog W = .ok (.string A) W) (slR : ∀ W, (Instr.slice 9 (.string r) (some (.int .i64 a)) none none).run Tryd.prog W = .ok (.string R) W) (ixp : ∀ W, (Instr.index 9 (.string R) (.int .i64 0)).run Tryd.prog W = .ok (.int .u8 46) W) (slV : ∀ W, (Instr.slice 9 (.string R) (some (.int .i64 1)) none none).run Tryd.prog W = .ok (.string V) W) (dg2 : ∀ w : World, Calls Tryd.prog 46 #[.string V] w (Gives (.int .i64 (b : Int)) w)) (slB : ∀ W, (Instr.slice 9 (.string R) (some (.int .i64 1)) (some (.int .i64 J)) none).run Tryd.prog W = .ok (.string Pb) W) (adA : ∀ W, (Op.stringOp .add A Pb).run Tryd.prog W = .ok (.string ⟨AL.toArray⟩) W) (slC : ∀ W, (Instr.slice 9 (.string R) (some (.int .i64 J)) none none).run Tryd.prog W = .ok (.string X) W) (adN : ∀ W, (Op.stringOp .add ⟨#[32]⟩ U).run Tryd.prog W = .ok (.string X) W) (nb : ∀ w : World, Calls Tryd.prog 47 #[.string ⟨(AL ++ List.replicate (d - b) 48).toArray⟩] w (Gives (.int .i64 n) w)) :
    Calls Tryd.prog 19 #[.int .i64 k, .string t] w (Gives (.tuple #[.int .i64 x, .int .i64 e]) w) := by
  have fA : decide (64 < (m : Int)) = false := decide_eq_false (by omega)
  have fB : decide (0 < (m : Int)) = true := decide_eq_true (by omega)
  have h0 : ((a : Int) == 0) = false := by simp; omega
  have h1 : decide (1 < (a : Int)) = false := decide_eq_false (by omega)
  clear h
  have fq : decide (0 < (q : Int)) = true := decide_eq_true (by omega)
  have g0 : ((b : Int) == 0) = false := by simp; omega
  have g1 : decide ((d : Int) < (b : Int)) = false := decide_eq_false (by omega)
  have j0 : 0 ≤ J := by omega
  have j1 : J ≤ 200 := by omega
  go_enter Tryd.func19, Tryd.ntmps19
  go_wp2_with fail
  refine (rn _).mono ?_; rintro _ w1 ⟨rfl, hb⟩
  have BW1 : Below w.heap.size w w1 := by repeat' (first | (with_reducible exact Below.refl _ _) | (with_reducible refine Below.alloc ?_ ?_ _) | (with_reducible refine Below.setCell ?_ ?_ _) | (with_reducible refine Below.drew ?_) | (with_reducible refine Below.trans ?_ (Below.mono (by assumption) ?_)) | (simp; done) | (simp; omega) | omega)
  clear hb
  go_wp2_with fail
  refine (dc _).mono ?_; rintro _ w2 ⟨rfl, hb⟩
  have BW2 : Below w.heap.size w w2 := BW1.trans (hb.mono BW1.size)
  clear hb BW1
  go_wp2_with fail
  refine (dg _).mono ?_; rintro _ w3 ⟨rfl, hb⟩
  have BW3 : Below w.heap.size w w3 := BW2.trans (hb.mono BW2.size)
  clear hb BW2
  go_wp2_with fail
  refine (dg2 _).mono ?_; rintro _ w4 ⟨rfl, hb⟩
  have BW4 : Below w.heap.size w w4 := BW3.trans (hb.mono BW3.size)
  clear hb BW3
  have BH := hid BW4
  clear BW4
  go_wp2_with fail
  go_loopw [11, 12] (fun vk va wr => PZL AL b d w vk va wr) (fun vk _ _ => d - (intOf vk).toNat)
  case atStart => exact ⟨0, by simp, by go_num, by omega, BH.out⟩
  case round =>
    obtain ⟨j, rfl, rfl, hj, hB⟩ := hrel
    have BI := hid hB
    clear hB
    by_cases hlt : b + j < d
    · have ad := add_run (AL ++ List.replicate j 48) [48] (by rw [List.length_append, List.length_replicate, List.length_singleton]; omega)
      have sh : (AL ++ List.replicate j 48 ++ [48] : List UInt8) = AL ++ List.replicate (j + 1) 48 := by rw [List.append_assoc, List.replicate_succ']
      have SH := hid sh
      clear sh
      generalize hS : (⟨(AL ++ List.replicate j 48).toArray⟩ : ByteArray) = S at ad ⊢
      generalize hS2 : (⟨(AL ++ List.replicate j 48 ++ [48]).toArray⟩ : ByteArray) = S2 at ad
      have H2 := hid hS2
      clear hS hS2
      go_wp2_with fail
      go_roundw
      case rel =>
        refine ⟨j + 1, by rw [← H2.out, SH.out], by go_num, by omega, BI.out⟩
      case measure => simp [intOf]; omega
    · have e : j = d - b := by omega
      subst e
      go_wp2_with fail
      refine (nb _).mono ?_; rintro _ wz ⟨rfl, hb⟩
      have BZ : Below w.heap.size w wz := BI.out.trans (hb.mono BI.out.size)
      clear hb nb
      have HX := hid hx
      clear hx
      by_cases z0 : n = 0
      · subst z0
        go_wp2_with fail
        go_ret2
        have e := HX.out
        simp [Sp.signC] at e
        obtain ⟨rfl, rfl⟩ := e
        exact Gives.mk rfl BZ
      · have z1 : (n == 0) = false := by simpa using z0
        rcases Int.lt_or_le 1000000000000000 n with q | q
        · have z2 : decide (1000000000000000 < n) = true := decide_eq_true q
          have Z0 := hid z0
          clear z0
          go_wp2_with fail
          go_ret2
          have e := HX.out
          unfold Sp.signC at e
          rw [if_neg (by rintro ⟨q1, _⟩; exact Z0.out q1), if_pos q] at e
          obtain ⟨rfl, rfl⟩ := Prod.mk.inj e
          exact Gives.mk rfl BZ
        · have z2 : decide (1000000000000000 < n) = false := decide_eq_false (by omega)
          have Z0 := hid z0
          clear z0
          go_wp2_with fail
          go_ret2
          have e := HX.out
          unfold Sp.signC at e
          rw [if_neg (by rintro ⟨q1, _⟩; exact Z0.out q1), if_neg (by omega)] at e
          simp only [if_true] at e
          obtain ⟨rfl, rfl⟩ := Prod.mk.inj e
          exact Gives.mk (by first | rfl | (simp; done) | (simp; omega)) BZ

set_option maxRecDepth 100000 in
set_option maxHeartbeats 2000000 in
theorem rpr_n0dn (k : Int) (t r U : ByteArray) (m a d : Nat) (d3 : d ≤ 10) (hm : t.size = m) (m0 : 1 ≤ m) (m64 : m ≤ 64) (a64 : a ≤ 64) (h : 1 < a) (c : Int) (c0 : 0 ≤ c) (c255 : c ≤ 255) (hz : ¬ c = 48) (A R Nm : ByteArray) (hR : R.size = 0) (w : World)
    (rn : ∀ w : World, Calls Tryd.prog 12 #[.int .i64 k] w (Gives (.tuple #[.string U, .int .i64 0]) w)) (dc : ∀ w : World, Calls Tryd.prog 14 #[.int .i64 k] w (Gives (.tuple #[.int .i64 (d : Int), .int .i64 0]) w))
    (ix : ∀ W, (Instr.index 9 (.string t) (.int .i64 0)).run Tryd.prog W = .ok (.int .u8 45) W) (sl : ∀ W, (Instr.slice 9 (.string t) (some (.int .i64 1)) none none).run Tryd.prog W = .ok (.string r) W) (dg : ∀ w : World, Calls Tryd.prog 46 #[.string r] w (Gives (.int .i64 (a : Int)) w)) (ixr : ∀ W, (Instr.index 9 (.string r) (.int .i64 0)).run Tryd.prog W = .ok (.int .u8 c) W) (slA : ∀ W, (Instr.slice 9 (.string r) none (some (.int .i64 a)) none).run Tryd.prog W = .ok (.string A) W) (slR : ∀ W, (Instr.slice 9 (.string r) (some (.int .i64 a)) none none).run Tryd.prog W = .ok (.string R) W) (adN : ∀ W, (Op.stringOp .add ⟨#[32]⟩ U).run Tryd.prog W = .ok (.string Nm) W) (hne : (R.toList == Nm.toList) = false) :
    Calls Tryd.prog 19 #[.int .i64 k, .string t] w (Gives (.tuple #[.int .i64 0, .int .i64 4]) w) := by
  have fA : decide (64 < (m : Int)) = false := decide_eq_false (by omega)
  have fB : decide (0 < (m : Int)) = true := decide_eq_true (by omega)
  have h0 : ((a : Int) == 0) = false := by simp; omega
  have h1 : decide (1 < (a : Int)) = true := decide_eq_true (by omega)
  have h2 : (c == 48) = false := by simpa using hz
  clear hz
  have hne2 : (R.toList != Nm.toList) = true := by unfold bne; rw [hne]; rfl
  go_enter Tryd.func19, Tryd.ntmps19
  go_wp2_with fail
  refine (rn _).mono ?_; rintro _ w1 ⟨rfl, hb⟩
  have BW1 : Below w.heap.size w w1 := by repeat' (first | (with_reducible exact Below.refl _ _) | (with_reducible refine Below.alloc ?_ ?_ _) | (with_reducible refine Below.setCell ?_ ?_ _) | (with_reducible refine Below.drew ?_) | (with_reducible refine Below.trans ?_ (Below.mono (by assumption) ?_)) | (simp; done) | (simp; omega) | omega)
  clear hb
  go_wp2_with fail
  refine (dc _).mono ?_; rintro _ w2 ⟨rfl, hb⟩
  have BW2 : Below w.heap.size w w2 := BW1.trans (hb.mono BW1.size)
  clear hb BW1
  go_wp2_with fail
  refine (dg _).mono ?_; rintro _ w3 ⟨rfl, hb⟩
  have BW3 : Below w.heap.size w w3 := BW2.trans (hb.mono BW2.size)
  clear hb BW2
  go_wp2_with fail
  go_ret2
  exact Gives.mk rfl BW3

set_option maxRecDepth 100000 in
set_option maxHeartbeats 2000000 in
theorem rpr_n1xdn (k : Int) (t r U : ByteArray) (m a d : Nat) (d3 : d ≤ 10) (hm : t.size = m) (m0 : 1 ≤ m) (m64 : m ≤ 64) (a64 : a ≤ 64) (h : 1 < a) (c : Int) (c0 : 0 ≤ c) (c255 : c ≤ 255) (hz : ¬ c = 48) (A R Nm : ByteArray) (q : Nat) (hR : R.size = q) (q0 : 1 ≤ q) (q1 : q ≤ 100) (p : Int) (p0 : 0 ≤ p) (p1 : p ≤ 255) (hp : ¬ p = 46) (w : World)
    (rn : ∀ w : World, Calls Tryd.prog 12 #[.int .i64 k] w (Gives (.tuple #[.string U, .int .i64 0]) w)) (dc : ∀ w : World, Calls Tryd.prog 14 #[.int .i64 k] w (Gives (.tuple #[.int .i64 (d : Int), .int .i64 0]) w))
    (ix : ∀ W, (Instr.index 9 (.string t) (.int .i64 0)).run Tryd.prog W = .ok (.int .u8 45) W) (sl : ∀ W, (Instr.slice 9 (.string t) (some (.int .i64 1)) none none).run Tryd.prog W = .ok (.string r) W) (dg : ∀ w : World, Calls Tryd.prog 46 #[.string r] w (Gives (.int .i64 (a : Int)) w)) (ixr : ∀ W, (Instr.index 9 (.string r) (.int .i64 0)).run Tryd.prog W = .ok (.int .u8 c) W) (slA : ∀ W, (Instr.slice 9 (.string r) none (some (.int .i64 a)) none).run Tryd.prog W = .ok (.string A) W) (slR : ∀ W, (Instr.slice 9 (.string r) (some (.int .i64 a)) none none).run Tryd.prog W = .ok (.string R) W) (ixp : ∀ W, (Instr.index 9 (.string R) (.int .i64 0)).run Tryd.prog W = .ok (.int .u8 p) W) (adN : ∀ W, (Op.stringOp .add ⟨#[32]⟩ U).run Tryd.prog W = .ok (.string Nm) W) (hne : (R.toList == Nm.toList) = false) :
    Calls Tryd.prog 19 #[.int .i64 k, .string t] w (Gives (.tuple #[.int .i64 0, .int .i64 4]) w) := by
  have fA : decide (64 < (m : Int)) = false := decide_eq_false (by omega)
  have fB : decide (0 < (m : Int)) = true := decide_eq_true (by omega)
  have h0 : ((a : Int) == 0) = false := by simp; omega
  have h1 : decide (1 < (a : Int)) = true := decide_eq_true (by omega)
  have h2 : (c == 48) = false := by simpa using hz
  clear hz
  have fq : decide (0 < (q : Int)) = true := decide_eq_true (by omega)
  have kp : (p == 46) = false := by simpa using hp
  clear hp
  have hne2 : (R.toList != Nm.toList) = true := by unfold bne; rw [hne]; rfl
  go_enter Tryd.func19, Tryd.ntmps19
  go_wp2_with fail
  refine (rn _).mono ?_; rintro _ w1 ⟨rfl, hb⟩
  have BW1 : Below w.heap.size w w1 := by repeat' (first | (with_reducible exact Below.refl _ _) | (with_reducible refine Below.alloc ?_ ?_ _) | (with_reducible refine Below.setCell ?_ ?_ _) | (with_reducible refine Below.drew ?_) | (with_reducible refine Below.trans ?_ (Below.mono (by assumption) ?_)) | (simp; done) | (simp; omega) | omega)
  clear hb
  go_wp2_with fail
  refine (dc _).mono ?_; rintro _ w2 ⟨rfl, hb⟩
  have BW2 : Below w.heap.size w w2 := BW1.trans (hb.mono BW1.size)
  clear hb BW1
  go_wp2_with fail
  refine (dg _).mono ?_; rintro _ w3 ⟨rfl, hb⟩
  have BW3 : Below w.heap.size w w3 := BW2.trans (hb.mono BW2.size)
  clear hb BW2
  go_wp2_with fail
  go_ret2
  exact Gives.mk rfl BW3

set_option maxRecDepth 100000 in
set_option maxHeartbeats 2000000 in
theorem rpr_n1gdn (k : Int) (t r U : ByteArray) (m a d : Nat) (d3 : d ≤ 10) (hm : t.size = m) (m0 : 1 ≤ m) (m64 : m ≤ 64) (a64 : a ≤ 64) (h : 1 < a) (c : Int) (c0 : 0 ≤ c) (c255 : c ≤ 255) (hz : ¬ c = 48) (AL : List UInt8) (al : AL.length ≤ 500) (R : ByteArray) (q : Nat) (hR : R.size = q) (q0 : 1 ≤ q) (q1 : q ≤ 100) (p : Int) (p0 : 0 ≤ p) (p1 : p ≤ 255) (hp : ¬ p = 46) (n x e : Int) (n0 : 0 ≤ n) (n1 : n ≤ 10000000000000000) (hx : Sp.signC true n = (x, e)) (w : World)
    (rn : ∀ w : World, Calls Tryd.prog 12 #[.int .i64 k] w (Gives (.tuple #[.string U, .int .i64 0]) w)) (dc : ∀ w : World, Calls Tryd.prog 14 #[.int .i64 k] w (Gives (.tuple #[.int .i64 (d : Int), .int .i64 0]) w))
    (ix : ∀ W, (Instr.index 9 (.string t) (.int .i64 0)).run Tryd.prog W = .ok (.int .u8 45) W) (sl : ∀ W, (Instr.slice 9 (.string t) (some (.int .i64 1)) none none).run Tryd.prog W = .ok (.string r) W) (dg : ∀ w : World, Calls Tryd.prog 46 #[.string r] w (Gives (.int .i64 (a : Int)) w)) (ixr : ∀ W, (Instr.index 9 (.string r) (.int .i64 0)).run Tryd.prog W = .ok (.int .u8 c) W) (slA : ∀ W, (Instr.slice 9 (.string r) none (some (.int .i64 a)) none).run Tryd.prog W = .ok (.string ⟨AL.toArray⟩) W) (slR : ∀ W, (Instr.slice 9 (.string r) (some (.int .i64 a)) none none).run Tryd.prog W = .ok (.string R) W) (ixp : ∀ W, (Instr.index 9 (.string R) (.int .i64 0)).run Tryd.prog W = .ok (.int .u8 p) W) (adN : ∀ W, (Op.stringOp .add ⟨#[32]⟩ U).run Tryd.prog W = .ok (.string R) W) (nb : ∀ w : World, Calls Tryd.prog 47 #[.string ⟨(AL ++ List.replicate (d - 0) 48).toArray⟩] w (Gives (.int .i64 n) w)) :
    Calls Tryd.prog 19 #[.int .i64 k, .string t] w (Gives (.tuple #[.int .i64 x, .int .i64 e]) w) := by
  have fA : decide (64 < (m : Int)) = false := decide_eq_false (by omega)
  have fB : decide (0 < (m : Int)) = true := decide_eq_true (by omega)
  have h0 : ((a : Int) == 0) = false := by simp; omega
  have h1 : decide (1 < (a : Int)) = true := decide_eq_true (by omega)
  have h2 : (c == 48) = false := by simpa using hz
  clear hz
  have fq : decide (0 < (q : Int)) = true := decide_eq_true (by omega)
  have kp : (p == 46) = false := by simpa using hp
  clear hp
  go_enter Tryd.func19, Tryd.ntmps19
  go_wp2_with fail
  refine (rn _).mono ?_; rintro _ w1 ⟨rfl, hb⟩
  have BW1 : Below w.heap.size w w1 := by repeat' (first | (with_reducible exact Below.refl _ _) | (with_reducible refine Below.alloc ?_ ?_ _) | (with_reducible refine Below.setCell ?_ ?_ _) | (with_reducible refine Below.drew ?_) | (with_reducible refine Below.trans ?_ (Below.mono (by assumption) ?_)) | (simp; done) | (simp; omega) | omega)
  clear hb
  go_wp2_with fail
  refine (dc _).mono ?_; rintro _ w2 ⟨rfl, hb⟩
  have BW2 : Below w.heap.size w w2 := BW1.trans (hb.mono BW1.size)
  clear hb BW1
  go_wp2_with fail
  refine (dg _).mono ?_; rintro _ w3 ⟨rfl, hb⟩
  have BW3 : Below w.heap.size w w3 := BW2.trans (hb.mono BW2.size)
  clear hb BW2
  have BH := hid BW3
  clear BW3
  go_wp2_with fail
  go_loopw [11, 12] (fun vk va wr => PZL AL 0 d w vk va wr) (fun vk _ _ => d - (intOf vk).toNat)
  case atStart => exact ⟨0, by simp, by go_num, by omega, BH.out⟩
  case round =>
    obtain ⟨j, rfl, rfl, hj, hB⟩ := hrel
    have BI := hid hB
    clear hB
    by_cases hlt : 0 + j < d
    · have ad := add_run (AL ++ List.replicate j 48) [48] (by rw [List.length_append, List.length_replicate, List.length_singleton]; omega)
      have sh : (AL ++ List.replicate j 48 ++ [48] : List UInt8) = AL ++ List.replicate (j + 1) 48 := by rw [List.append_assoc, List.replicate_succ']
      have SH := hid sh
      clear sh
      generalize hS : (⟨(AL ++ List.replicate j 48).toArray⟩ : ByteArray) = S at ad ⊢
      generalize hS2 : (⟨(AL ++ List.replicate j 48 ++ [48]).toArray⟩ : ByteArray) = S2 at ad
      have H2 := hid hS2
      clear hS hS2
      go_wp2_with fail
      go_roundw
      case rel =>
        refine ⟨j + 1, by rw [← H2.out, SH.out], by go_num, by omega, BI.out⟩
      case measure => simp [intOf]; omega
    · have e : j = d - 0 := by omega
      subst e
      go_wp2_with fail
      refine (nb _).mono ?_; rintro _ wz ⟨rfl, hb⟩
      have BZ : Below w.heap.size w wz := BI.out.trans (hb.mono BI.out.size)
      clear hb nb
      have HX := hid hx
      clear hx
      by_cases z0 : n = 0
      · subst z0
        go_wp2_with fail
        go_ret2
        have e := HX.out
        simp [Sp.signC] at e
        obtain ⟨rfl, rfl⟩ := e
        exact Gives.mk rfl BZ
      · have z1 : (n == 0) = false := by simpa using z0
        rcases Int.lt_or_le 1000000000000000 n with q | q
        · have z2 : decide (1000000000000000 < n) = true := decide_eq_true q
          have Z0 := hid z0
          clear z0
          go_wp2_with fail
          go_ret2
          have e := HX.out
          unfold Sp.signC at e
          rw [if_neg (by rintro ⟨q1, _⟩; exact Z0.out q1), if_pos q] at e
          obtain ⟨rfl, rfl⟩ := Prod.mk.inj e
          exact Gives.mk rfl BZ
        · have z2 : decide (1000000000000000 < n) = false := decide_eq_false (by omega)
          have Z0 := hid z0
          clear z0
          go_wp2_with fail
          go_ret2
          have e := HX.out
          unfold Sp.signC at e
          rw [if_neg (by rintro ⟨q1, _⟩; exact Z0.out q1), if_neg (by omega)] at e
          simp only [if_true] at e
          obtain ⟨rfl, rfl⟩ := Prod.mk.inj e
          exact Gives.mk (by first | rfl | (simp; done) | (simp; omega)) BZ

set_option maxRecDepth 100000 in
set_option maxHeartbeats 2000000 in
theorem rpr_pk0dn (k : Int) (t r U : ByteArray) (m a d : Nat) (d3 : d ≤ 10) (hm : t.size = m) (m0 : 1 ≤ m) (m64 : m ≤ 64) (a64 : a ≤ 64) (h : 1 < a) (c : Int) (c0 : 0 ≤ c) (c255 : c ≤ 255) (hz : ¬ c = 48) (A R V : ByteArray) (q : Nat) (hR : R.size = q) (q0 : 1 ≤ q) (q1 : q ≤ 100) (b : Nat) (b1 : b ≤ 100) (hb0 : b = 0) (w : World)
    (rn : ∀ w : World, Calls Tryd.prog 12 #[.int .i64 k] w (Gives (.tuple #[.string U, .int .i64 0]) w)) (dc : ∀ w : World, Calls Tryd.prog 14 #[.int .i64 k] w (Gives (.tuple #[.int .i64 (d : Int), .int .i64 0]) w))
    (ix : ∀ W, (Instr.index 9 (.string t) (.int .i64 0)).run Tryd.prog W = .ok (.int .u8 45) W) (sl : ∀ W, (Instr.slice 9 (.string t) (some (.int .i64 1)) none none).run Tryd.prog W = .ok (.string r) W) (dg : ∀ w : World, Calls Tryd.prog 46 #[.string r] w (Gives (.int .i64 (a : Int)) w)) (ixr : ∀ W, (Instr.index 9 (.string r) (.int .i64 0)).run Tryd.prog W = .ok (.int .u8 c) W) (slA : ∀ W, (Instr.slice 9 (.string r) none (some (.int .i64 a)) none).run Tryd.prog W = .ok (.string A) W) (slR : ∀ W, (Instr.slice 9 (.string r) (some (.int .i64 a)) none none).run Tryd.prog W = .ok (.string R) W) (ixp : ∀ W, (Instr.index 9 (.string R) (.int .i64 0)).run Tryd.prog W = .ok (.int .u8 46) W) (slV : ∀ W, (Instr.slice 9 (.string R) (some (.int .i64 1)) none none).run Tryd.prog W = .ok (.string V) W) (dg2 : ∀ w : World, Calls Tryd.prog 46 #[.string V] w (Gives (.int .i64 (b : Int)) w)) :
    Calls Tryd.prog 19 #[.int .i64 k, .string t] w (Gives (.tuple #[.int .i64 0, .int .i64 4]) w) := by
  have fA : decide (64 < (m : Int)) = false := decide_eq_false (by omega)
  have fB : decide (0 < (m : Int)) = true := decide_eq_true (by omega)
  have h0 : ((a : Int) == 0) = false := by simp; omega
  have h1 : decide (1 < (a : Int)) = true := decide_eq_true (by omega)
  have h2 : (c == 48) = false := by simpa using hz
  clear hz
  have fq : decide (0 < (q : Int)) = true := decide_eq_true (by omega)
  have g0 : ((b : Int) == 0) = true := by simp; omega
  clear hb0
  go_enter Tryd.func19, Tryd.ntmps19
  go_wp2_with fail
  refine (rn _).mono ?_; rintro _ w1 ⟨rfl, hb⟩
  have BW1 : Below w.heap.size w w1 := by repeat' (first | (with_reducible exact Below.refl _ _) | (with_reducible refine Below.alloc ?_ ?_ _) | (with_reducible refine Below.setCell ?_ ?_ _) | (with_reducible refine Below.drew ?_) | (with_reducible refine Below.trans ?_ (Below.mono (by assumption) ?_)) | (simp; done) | (simp; omega) | omega)
  clear hb
  go_wp2_with fail
  refine (dc _).mono ?_; rintro _ w2 ⟨rfl, hb⟩
  have BW2 : Below w.heap.size w w2 := BW1.trans (hb.mono BW1.size)
  clear hb BW1
  go_wp2_with fail
  refine (dg _).mono ?_; rintro _ w3 ⟨rfl, hb⟩
  have BW3 : Below w.heap.size w w3 := BW2.trans (hb.mono BW2.size)
  clear hb BW2
  go_wp2_with fail
  refine (dg2 _).mono ?_; rintro _ w4 ⟨rfl, hb⟩
  have BW4 : Below w.heap.size w w4 := BW3.trans (hb.mono BW3.size)
  clear hb BW3
  go_wp2_with fail
  go_ret2
  exact Gives.mk rfl BW4

set_option maxRecDepth 100000 in
set_option maxHeartbeats 2000000 in
theorem rpr_pkddn (k : Int) (t r U : ByteArray) (m a d : Nat) (d3 : d ≤ 10) (hm : t.size = m) (m0 : 1 ≤ m) (m64 : m ≤ 64) (a64 : a ≤ 64) (h : 1 < a) (c : Int) (c0 : 0 ≤ c) (c255 : c ≤ 255) (hz : ¬ c = 48) (A R V : ByteArray) (q : Nat) (hR : R.size = q) (q0 : 1 ≤ q) (q1 : q ≤ 100) (b : Nat) (b1 : b ≤ 100) (hb0 : d < b) (w : World)
    (rn : ∀ w : World, Calls Tryd.prog 12 #[.int .i64 k] w (Gives (.tuple #[.string U, .int .i64 0]) w)) (dc : ∀ w : World, Calls Tryd.prog 14 #[.int .i64 k] w (Gives (.tuple #[.int .i64 (d : Int), .int .i64 0]) w))
    (ix : ∀ W, (Instr.index 9 (.string t) (.int .i64 0)).run Tryd.prog W = .ok (.int .u8 45) W) (sl : ∀ W, (Instr.slice 9 (.string t) (some (.int .i64 1)) none none).run Tryd.prog W = .ok (.string r) W) (dg : ∀ w : World, Calls Tryd.prog 46 #[.string r] w (Gives (.int .i64 (a : Int)) w)) (ixr : ∀ W, (Instr.index 9 (.string r) (.int .i64 0)).run Tryd.prog W = .ok (.int .u8 c) W) (slA : ∀ W, (Instr.slice 9 (.string r) none (some (.int .i64 a)) none).run Tryd.prog W = .ok (.string A) W) (slR : ∀ W, (Instr.slice 9 (.string r) (some (.int .i64 a)) none none).run Tryd.prog W = .ok (.string R) W) (ixp : ∀ W, (Instr.index 9 (.string R) (.int .i64 0)).run Tryd.prog W = .ok (.int .u8 46) W) (slV : ∀ W, (Instr.slice 9 (.string R) (some (.int .i64 1)) none none).run Tryd.prog W = .ok (.string V) W) (dg2 : ∀ w : World, Calls Tryd.prog 46 #[.string V] w (Gives (.int .i64 (b : Int)) w)) :
    Calls Tryd.prog 19 #[.int .i64 k, .string t] w (Gives (.tuple #[.int .i64 0, .int .i64 4]) w) := by
  have fA : decide (64 < (m : Int)) = false := decide_eq_false (by omega)
  have fB : decide (0 < (m : Int)) = true := decide_eq_true (by omega)
  have h0 : ((a : Int) == 0) = false := by simp; omega
  have h1 : decide (1 < (a : Int)) = true := decide_eq_true (by omega)
  have h2 : (c == 48) = false := by simpa using hz
  clear hz
  have fq : decide (0 < (q : Int)) = true := decide_eq_true (by omega)
  have g0 : ((b : Int) == 0) = false := by simp; omega
  have g1 : decide ((d : Int) < (b : Int)) = true := decide_eq_true (by omega)
  go_enter Tryd.func19, Tryd.ntmps19
  go_wp2_with fail
  refine (rn _).mono ?_; rintro _ w1 ⟨rfl, hb⟩
  have BW1 : Below w.heap.size w w1 := by repeat' (first | (with_reducible exact Below.refl _ _) | (with_reducible refine Below.alloc ?_ ?_ _) | (with_reducible refine Below.setCell ?_ ?_ _) | (with_reducible refine Below.drew ?_) | (with_reducible refine Below.trans ?_ (Below.mono (by assumption) ?_)) | (simp; done) | (simp; omega) | omega)
  clear hb
  go_wp2_with fail
  refine (dc _).mono ?_; rintro _ w2 ⟨rfl, hb⟩
  have BW2 : Below w.heap.size w w2 := BW1.trans (hb.mono BW1.size)
  clear hb BW1
  go_wp2_with fail
  refine (dg _).mono ?_; rintro _ w3 ⟨rfl, hb⟩
  have BW3 : Below w.heap.size w w3 := BW2.trans (hb.mono BW2.size)
  clear hb BW2
  go_wp2_with fail
  refine (dg2 _).mono ?_; rintro _ w4 ⟨rfl, hb⟩
  have BW4 : Below w.heap.size w w4 := BW3.trans (hb.mono BW3.size)
  clear hb BW3
  go_wp2_with fail
  go_ret2
  exact Gives.mk rfl BW4

set_option maxRecDepth 100000 in
set_option maxHeartbeats 2000000 in
theorem rpr_pxdn (k : Int) (t r U : ByteArray) (m a d : Nat) (d3 : d ≤ 10) (hm : t.size = m) (m0 : 1 ≤ m) (m64 : m ≤ 64) (a64 : a ≤ 64) (h : 1 < a) (c : Int) (c0 : 0 ≤ c) (c255 : c ≤ 255) (hz : ¬ c = 48) (A R V : ByteArray) (q : Nat) (hR : R.size = q) (q0 : 1 ≤ q) (q1 : q ≤ 100) (b : Nat) (b1 : b ≤ 100) (hb0 : 1 ≤ b) (hbd : b ≤ d) (J : Int) (hJ : 1 + (b : Int) = J) (Pb A2 X Nm : ByteArray) (w : World)
    (rn : ∀ w : World, Calls Tryd.prog 12 #[.int .i64 k] w (Gives (.tuple #[.string U, .int .i64 0]) w)) (dc : ∀ w : World, Calls Tryd.prog 14 #[.int .i64 k] w (Gives (.tuple #[.int .i64 (d : Int), .int .i64 0]) w))
    (ix : ∀ W, (Instr.index 9 (.string t) (.int .i64 0)).run Tryd.prog W = .ok (.int .u8 45) W) (sl : ∀ W, (Instr.slice 9 (.string t) (some (.int .i64 1)) none none).run Tryd.prog W = .ok (.string r) W) (dg : ∀ w : World, Calls Tryd.prog 46 #[.string r] w (Gives (.int .i64 (a : Int)) w)) (ixr : ∀ W, (Instr.index 9 (.string r) (.int .i64 0)).run Tryd.prog W = .ok (.int .u8 c) W) (slA : ∀ W, (Instr.slice 9 (.string r) none (some (.int .i64 a)) none).run Tryd.prog W = .ok (.string A) W) (slR : ∀ W, (Instr.slice 9 (.string r) (some (.int .i64 a)) none none).run Tryd.prog W = .ok (.string R) W) (ixp : ∀ W, (Instr.index 9 (.string R) (.int .i64 0)).run Tryd.prog W = .ok (.int .u8 46) W) (slV : ∀ W, (Instr.slice 9 (.string R) (some (.int .i64 1)) none none).run Tryd.prog W = .ok (.string V) W) (dg2 : ∀ w : World, Calls Tryd.prog 46 #[.string V] w (Gives (.int .i64 (b : Int)) w)) (slB : ∀ W, (Instr.slice 9 (.string R) (some (.int .i64 1)) (some (.int .i64 J)) none).run Tryd.prog W = .ok (.string Pb) W) (adA : ∀ W, (Op.stringOp .add A Pb).run Tryd.prog W = .ok (.string A2) W) (slC : ∀ W, (Instr.slice 9 (.string R) (some (.int .i64 J)) none none).run Tryd.prog W = .ok (.string X) W) (adN : ∀ W, (Op.stringOp .add ⟨#[32]⟩ U).run Tryd.prog W = .ok (.string Nm) W) (hne : (X.toList == Nm.toList) = false) :
    Calls Tryd.prog 19 #[.int .i64 k, .string t] w (Gives (.tuple #[.int .i64 0, .int .i64 4]) w) := by
  have fA : decide (64 < (m : Int)) = false := decide_eq_false (by omega)
  have fB : decide (0 < (m : Int)) = true := decide_eq_true (by omega)
  have h0 : ((a : Int) == 0) = false := by simp; omega
  have h1 : decide (1 < (a : Int)) = true := decide_eq_true (by omega)
  have h2 : (c == 48) = false := by simpa using hz
  clear hz
  have fq : decide (0 < (q : Int)) = true := decide_eq_true (by omega)
  have g0 : ((b : Int) == 0) = false := by simp; omega
  have g1 : decide ((d : Int) < (b : Int)) = false := decide_eq_false (by omega)
  have j0 : 0 ≤ J := by omega
  have j1 : J ≤ 200 := by omega
  have hne2 : (X.toList != Nm.toList) = true := by unfold bne; rw [hne]; rfl
  go_enter Tryd.func19, Tryd.ntmps19
  go_wp2_with fail
  refine (rn _).mono ?_; rintro _ w1 ⟨rfl, hb⟩
  have BW1 : Below w.heap.size w w1 := by repeat' (first | (with_reducible exact Below.refl _ _) | (with_reducible refine Below.alloc ?_ ?_ _) | (with_reducible refine Below.setCell ?_ ?_ _) | (with_reducible refine Below.drew ?_) | (with_reducible refine Below.trans ?_ (Below.mono (by assumption) ?_)) | (simp; done) | (simp; omega) | omega)
  clear hb
  go_wp2_with fail
  refine (dc _).mono ?_; rintro _ w2 ⟨rfl, hb⟩
  have BW2 : Below w.heap.size w w2 := BW1.trans (hb.mono BW1.size)
  clear hb BW1
  go_wp2_with fail
  refine (dg _).mono ?_; rintro _ w3 ⟨rfl, hb⟩
  have BW3 : Below w.heap.size w w3 := BW2.trans (hb.mono BW2.size)
  clear hb BW2
  go_wp2_with fail
  refine (dg2 _).mono ?_; rintro _ w4 ⟨rfl, hb⟩
  have BW4 : Below w.heap.size w w4 := BW3.trans (hb.mono BW3.size)
  clear hb BW3
  go_wp2_with fail
  go_ret2
  exact Gives.mk rfl BW4

set_option maxRecDepth 100000 in
set_option maxHeartbeats 2000000 in
theorem rpr_pgdn (k : Int) (t r U : ByteArray) (m a d : Nat) (d3 : d ≤ 10) (hm : t.size = m) (m0 : 1 ≤ m) (m64 : m ≤ 64) (a64 : a ≤ 64) (h : 1 < a) (c : Int) (c0 : 0 ≤ c) (c255 : c ≤ 255) (hz : ¬ c = 48) (A R V : ByteArray) (q : Nat) (hR : R.size = q) (q0 : 1 ≤ q) (q1 : q ≤ 100) (b : Nat) (b1 : b ≤ 100) (hb0 : 1 ≤ b) (hbd : b ≤ d) (J : Int) (hJ : 1 + (b : Int) = J) (Pb X : ByteArray) (AL : List UInt8) (al : AL.length ≤ 500) (n x e : Int) (n0 : 0 ≤ n) (n1 : n ≤ 10000000000000000) (hx : Sp.signC true n = (x, e)) (w : World)
    (rn : ∀ w : World, Calls Tryd.prog 12 #[.int .i64 k] w (Gives (.tuple #[.string U, .int .i64 0]) w)) (dc : ∀ w : World, Calls Tryd.prog 14 #[.int .i64 k] w (Gives (.tuple #[.int .i64 (d : Int), .int .i64 0]) w))
    (ix : ∀ W, (Instr.index 9 (.string t) (.int .i64 0)).run Tryd.prog W = .ok (.int .u8 45) W) (sl : ∀ W, (Instr.slice 9 (.string t) (some (.int .i64 1)) none none).run Tryd.prog W = .ok (.string r) W) (dg : ∀ w : World, Calls Tryd.prog 46 #[.string r] w (Gives (.int .i64 (a : Int)) w)) (ixr : ∀ W, (Instr.index 9 (.string r) (.int .i64 0)).run Tryd.prog W = .ok (.int .u8 c) W) (slA : ∀ W, (Instr.slice 9 (.string r) none (some (.int .i64 a)) none).run Tryd.prog W = .ok (.string A) W) (slR : ∀ W, (Instr.slice 9 (.string r) (some (.int .i64 a)) none none).run Tryd.prog W = .ok (.string R) W) (ixp : ∀ W, (Instr.index 9 (.string R) (.int .i64 0)).run Tryd.prog W = .ok (.int .u8 46) W) (slV : ∀ W, (Instr.slice 9 (.string R) (some (.int .i64 1)) none none).run Tryd.prog W = .ok (.string V) W) (dg2 : ∀ w : World, Calls Tryd.prog 46 #[.string V] w (Gives (.int .i64 (b : Int)) w)) (slB : ∀ W, (Instr.slice 9 (.string R) (some (.int .i64 1)) (some (.int .i64 J)) none).run Tryd.prog W = .ok (.string Pb) W) (adA : ∀ W, (Op.stringOp .add A Pb).run Tryd.prog W = .ok (.string ⟨AL.toArray⟩) W) (slC : ∀ W, (Instr.slice 9 (.string R) (some (.int .i64 J)) none none).run Tryd.prog W = .ok (.string X) W) (adN : ∀ W, (Op.stringOp .add ⟨#[32]⟩ U).run Tryd.prog W = .ok (.string X) W) (nb : ∀ w : World, Calls Tryd.prog 47 #[.string ⟨(AL ++ List.replicate (d - b) 48).toArray⟩] w (Gives (.int .i64 n) w)) :
    Calls Tryd.prog 19 #[.int .i64 k, .string t] w (Gives (.tuple #[.int .i64 x, .int .i64 e]) w) := by
  have fA : decide (64 < (m : Int)) = false := decide_eq_false (by omega)
  have fB : decide (0 < (m : Int)) = true := decide_eq_true (by omega)
  have h0 : ((a : Int) == 0) = false := by simp; omega
  have h1 : decide (1 < (a : Int)) = true := decide_eq_true (by omega)
  have h2 : (c == 48) = false := by simpa using hz
  clear hz
  have fq : decide (0 < (q : Int)) = true := decide_eq_true (by omega)
  have g0 : ((b : Int) == 0) = false := by simp; omega
  have g1 : decide ((d : Int) < (b : Int)) = false := decide_eq_false (by omega)
  have j0 : 0 ≤ J := by omega
  have j1 : J ≤ 200 := by omega
  go_enter Tryd.func19, Tryd.ntmps19
  go_wp2_with fail
  refine (rn _).mono ?_; rintro _ w1 ⟨rfl, hb⟩
  have BW1 : Below w.heap.size w w1 := by repeat' (first | (with_reducible exact Below.refl _ _) | (with_reducible refine Below.alloc ?_ ?_ _) | (with_reducible refine Below.setCell ?_ ?_ _) | (with_reducible refine Below.drew ?_) | (with_reducible refine Below.trans ?_ (Below.mono (by assumption) ?_)) | (simp; done) | (simp; omega) | omega)
  clear hb
  go_wp2_with fail
  refine (dc _).mono ?_; rintro _ w2 ⟨rfl, hb⟩
  have BW2 : Below w.heap.size w w2 := BW1.trans (hb.mono BW1.size)
  clear hb BW1
  go_wp2_with fail
  refine (dg _).mono ?_; rintro _ w3 ⟨rfl, hb⟩
  have BW3 : Below w.heap.size w w3 := BW2.trans (hb.mono BW2.size)
  clear hb BW2
  go_wp2_with fail
  refine (dg2 _).mono ?_; rintro _ w4 ⟨rfl, hb⟩
  have BW4 : Below w.heap.size w w4 := BW3.trans (hb.mono BW3.size)
  clear hb BW3
  have BH := hid BW4
  clear BW4
  go_wp2_with fail
  go_loopw [11, 12] (fun vk va wr => PZL AL b d w vk va wr) (fun vk _ _ => d - (intOf vk).toNat)
  case atStart => exact ⟨0, by simp, by go_num, by omega, BH.out⟩
  case round =>
    obtain ⟨j, rfl, rfl, hj, hB⟩ := hrel
    have BI := hid hB
    clear hB
    by_cases hlt : b + j < d
    · have ad := add_run (AL ++ List.replicate j 48) [48] (by rw [List.length_append, List.length_replicate, List.length_singleton]; omega)
      have sh : (AL ++ List.replicate j 48 ++ [48] : List UInt8) = AL ++ List.replicate (j + 1) 48 := by rw [List.append_assoc, List.replicate_succ']
      have SH := hid sh
      clear sh
      generalize hS : (⟨(AL ++ List.replicate j 48).toArray⟩ : ByteArray) = S at ad ⊢
      generalize hS2 : (⟨(AL ++ List.replicate j 48 ++ [48]).toArray⟩ : ByteArray) = S2 at ad
      have H2 := hid hS2
      clear hS hS2
      go_wp2_with fail
      go_roundw
      case rel =>
        refine ⟨j + 1, by rw [← H2.out, SH.out], by go_num, by omega, BI.out⟩
      case measure => simp [intOf]; omega
    · have e : j = d - b := by omega
      subst e
      go_wp2_with fail
      refine (nb _).mono ?_; rintro _ wz ⟨rfl, hb⟩
      have BZ : Below w.heap.size w wz := BI.out.trans (hb.mono BI.out.size)
      clear hb nb
      have HX := hid hx
      clear hx
      by_cases z0 : n = 0
      · subst z0
        go_wp2_with fail
        go_ret2
        have e := HX.out
        simp [Sp.signC] at e
        obtain ⟨rfl, rfl⟩ := e
        exact Gives.mk rfl BZ
      · have z1 : (n == 0) = false := by simpa using z0
        rcases Int.lt_or_le 1000000000000000 n with q | q
        · have z2 : decide (1000000000000000 < n) = true := decide_eq_true q
          have Z0 := hid z0
          clear z0
          go_wp2_with fail
          go_ret2
          have e := HX.out
          unfold Sp.signC at e
          rw [if_neg (by rintro ⟨q1, _⟩; exact Z0.out q1), if_pos q] at e
          obtain ⟨rfl, rfl⟩ := Prod.mk.inj e
          exact Gives.mk rfl BZ
        · have z2 : decide (1000000000000000 < n) = false := decide_eq_false (by omega)
          have Z0 := hid z0
          clear z0
          go_wp2_with fail
          go_ret2
          have e := HX.out
          unfold Sp.signC at e
          rw [if_neg (by rintro ⟨q1, _⟩; exact Z0.out q1), if_neg (by omega)] at e
          simp only [if_true] at e
          obtain ⟨rfl, rfl⟩ := Prod.mk.inj e
          exact Gives.mk (by first | rfl | (simp; done) | (simp; omega)) BZ
theorem ubyte_of {r : ByteArray} {l : List UInt8} (hr : r.data.toList = l) (k : Nat) (h : k < l.length) : ∀ W, (Instr.index 9 (.string r) (.int .i64 k)).run Tryd.prog W = .ok (.int .u8 ((l[k]).toNat : Int)) W := by
  subst hr; exact urun_byte r k h
theorem utake_of {r : ByteArray} {l : List UInt8} (hr : r.data.toList = l) (k : Nat) (h : k ≤ l.length) : ∀ W, (Instr.slice 9 (.string r) none (some (.int .i64 k)) none).run Tryd.prog W = .ok (.string ⟨(l.take k).toArray⟩) W := by
  subst hr; exact urun_take r k (by rw [Lib.size_eq]; exact h)
theorem udrop_of {r : ByteArray} {l : List UInt8} (hr : r.data.toList = l) (k : Nat) (h : k ≤ l.length) (j : Int) (hj : j = k) : ∀ W, (Instr.slice 9 (.string r) (some (.int .i64 j)) none none).run Tryd.prog W = .ok (.string ⟨(l.drop k).toArray⟩) W := by
  subst hr; exact urun_drop r k (by rw [Lib.size_eq]; exact h) j hj
theorem umid_of {r : ByteArray} {l : List UInt8} (hr : r.data.toList = l) (b : Nat) (h : 1 + b ≤ l.length) : ∀ W, (Instr.slice 9 (.string r) (some (.int .i64 1)) (some (.int .i64 (1 + (b : Int)))) none).run Tryd.prog W = .ok (.string ⟨((l.drop 1).take b).toArray⟩) W := by
  subst hr
  have := urun_mid r 1 (1 + b) (by omega) (by rw [Lib.size_eq]; exact h) 1 (1 + (b : Int)) rfl (by omega)
  rw [Nat.add_sub_cancel_left] at this
  exact this
theorem udg_of {r : ByteArray} {l : List UInt8} (hr : r.data.toList = l) (h : l.length ≤ 1000) (w : World) : Calls Tryd.prog 46 #[.string r] w (Gives (.int .i64 (Sp.dn l)) w) := by
  subst hr; exact rdigits_any r h w

theorem rparse_p (k : Int) (t : ByteArray) (ρ u : List UInt8) (d : Nat) (d3 : d ≤ 10) (hr : t.data.toList = ρ) (hl : ρ.length ≤ 64) (ul : u.length ≤ 10) (h0 : 0 < ρ.length) (h45 : ¬ ρ[0] = 45) (w : World)
    (rn : ∀ w : World, Calls Tryd.prog 12 #[.int .i64 k] w (Gives (.tuple #[.string ⟨u.toArray⟩, .int .i64 0]) w)) (dc : ∀ w : World, Calls Tryd.prog 14 #[.int .i64 k] w (Gives (.tuple #[.int .i64 (d : Int), .int .i64 0]) w)) :
    Calls Tryd.prog 19 #[.int .i64 k, .string t] w (Gives (.tuple #[.int .i64 (match Sp.o2 ρ d u with | none => ((0 : Int), (4 : Int)) | some D => Sp.signC false (Sp.numC 0 D)).1, .int .i64 (match Sp.o2 ρ d u with | none => ((0 : Int), (4 : Int)) | some D => Sp.signC false (Sp.numC 0 D)).2]) w) := by
  have hm : t.size = ρ.length := by rw [← hr]; exact Lib.size_eq t
  have m0 : 1 ≤ ρ.length := h0
  have m64 : ρ.length ≤ 64 := hl
  have ix := ubyte_of hr 0 h0
  have dg := fun w => udg_of hr (by omega) w
  have dle := Sp.dn_le ρ
  have dtk := Sp.dn_take ρ
  have slA := utake_of hr (Sp.dn ρ) dle
  have slR := udrop_of hr (Sp.dn ρ) dle _ rfl
  unfold Sp.o2
  by_cases a0 : Sp.dn ρ = 0
  · rw [if_pos (.inl a0)]
    have cb := (ρ[0]).toNat_lt
    exact rpr_nonep k t _ _ _ d d3 hm m0 m64 (by omega) _ (by omega) (by omega) (fun e => h45 (UInt8.toNat_inj.1 (by have : (45 : UInt8).toNat = 45 := rfl; omega))) a0 w rn dc ix dg
  have h0' : 0 < ρ.length := by omega
  have hh : ρ.head? = some (ρ[0]) := by
    cases ρ with
    | nil => simp at h0'
    | cons c l => rfl
  have cb := (ρ[0]).toNat_lt
  by_cases hld : 1 < Sp.dn ρ ∧ ρ.head? = some 48
  · rw [if_pos (.inr hld)]
    have e : ρ[0] = 48 := by have := hld.2; rw [hh] at this; exact Option.some.inj this
    rw [e] at ix
    exact rpr_leadp k t _ _ _ d d3 hm m0 m64 (by omega) _ (by decide) (by decide) (by decide) hld.1 rfl w rn dc ix dg
  rw [if_neg (by rintro (q | q); exact a0 q; exact hld q)]
  have hz : 1 < Sp.dn ρ → ¬ (((ρ[0]).toNat : Nat) : Int) = 48 := fun h e => hld ⟨h, by
    rw [hh]
    have : (ρ[0]).toNat = 48 := by omega
    exact congrArg some (UInt8.toNat_inj.1 this)⟩
  have cb2 : 0 ≤ (((ρ[0]).toNat : Nat) : Int) ∧ (((ρ[0]).toNat : Nat) : Int) ≤ 255 := by omega
  have hc : ¬ (((ρ[0]).toNat : Nat) : Int) = 45 := fun e => h45 (UInt8.toNat_inj.1 (by have : (45 : UInt8).toNat = 45 := rfl; omega))
  clear cb hh hld
  generalize (((ρ[0]).toNat : Nat) : Int) = c at ix hz cb2 hc
  have e1 : ρ.drop (Sp.dn ρ + 1) = (ρ.drop (Sp.dn ρ)).drop 1 := by rw [List.drop_drop]
  have e2 := fun b : Nat => (show ρ.drop (Sp.dn ρ + 1 + b) = (ρ.drop (Sp.dn ρ)).drop (1 + b) by rw [List.drop_drop, Nat.add_assoc])
  rw [e1, e2 (Sp.dn ((ρ.drop (Sp.dn ρ)).drop 1))]
  clear e1 e2
  have lA : (ρ.take (Sp.dn ρ)).length ≤ 64 := by rw [List.length_take]; omega
  have lR : (ρ.drop (Sp.dn ρ)).length ≤ 64 := by rw [List.length_drop]; omega
  have a64 : Sp.dn ρ ≤ 64 := by omega
  generalize ρ.take (Sp.dn ρ) = A at slA dtk lA ⊢
  generalize ρ.drop (Sp.dn ρ) = R at slR lR ⊢
  generalize Sp.dn ρ = a at dg a0 hz slA slR a64
  have hRl : (⟨R.toArray⟩ : ByteArray).data.toList = R := utoList_mk R
  have hRs : (⟨R.toArray⟩ : ByteArray).size = R.length := by rw [Lib.size_eq, hRl]
  have adN : ∀ W, (Op.stringOp .add ⟨#[32]⟩ ⟨u.toArray⟩).run Tryd.prog W = .ok (.string ⟨(32 :: u).toArray⟩) W := add_run [32] u (by simp; omega)
  by_cases hR0 : R.length = 0
  · obtain rfl : R = [] := List.length_eq_zero_iff.1 hR0
    rw [if_neg (by simp), if_pos (by simp)]
    have hne := bytes_ne (a := []) (b := 32 :: u) (by simp)
    by_cases ha : a = 1
    · exact rpr_n0p1 k t _ _ a d d3 hm m0 m64 a64 c cb2.1 cb2.2 hc ha _ _ _ hRs w rn dc ix dg slA slR adN hne
    · exact rpr_n0pn k t _ _ a d d3 hm m0 m64 a64 c cb2.1 cb2.2 hc (by omega) (hz (by omega)) _ _ _ hRs w rn dc ix dg slA slR adN hne
  have hRp : 0 < R.length := by omega
  have hRh : R.head? = some (R[0]) := by
    cases R with
    | nil => simp at hRp
    | cons c l => rfl
  have pb := (R[0]).toNat_lt
  have ixp := ubyte_of hRl 0 hRp
  by_cases hp : R.head? = some 46
  · rw [if_pos hp]
    have e : R[0] = 46 := by have := hp; rw [hRh] at this; exact Option.some.inj this
    rw [e] at ixp
    have slV := udrop_of hRl 1 (by omega) 1 rfl
    have hVl : (⟨(R.drop 1).toArray⟩ : ByteArray).data.toList = R.drop 1 := utoList_mk _
    have lV : (R.drop 1).length = R.length - 1 := by rw [List.length_drop]
    have dg2 := fun w => udg_of hVl (by omega) w
    have ble := Sp.dn_le (R.drop 1)
    have bt := Sp.dn_take (R.drop 1)
    have slB := umid_of hRl (Sp.dn (R.drop 1)) (by omega)
    have slC := udrop_of hRl (1 + Sp.dn (R.drop 1)) (by omega) (1 + ((Sp.dn (R.drop 1) : Nat) : Int)) (by omega)
    have lP : ((R.drop 1).take (Sp.dn (R.drop 1))).length = Sp.dn (R.drop 1) := by rw [List.length_take]; omega
    generalize (R.drop 1).take (Sp.dn (R.drop 1)) = Pb at slB bt lP ⊢
    generalize Sp.dn (R.drop 1) = b at dg2 ble slB slC lP ⊢
    by_cases b0 : b = 0
    · rw [if_pos (.inl b0)]
      by_cases ha : a = 1
      · exact rpr_pk0p1 k t _ _ a d d3 hm m0 m64 a64 c cb2.1 cb2.2 hc ha _ _ _ _ hRs (by omega) (by omega) b (by omega) b0 w rn dc ix dg slA slR ixp slV dg2
      · exact rpr_pk0pn k t _ _ a d d3 hm m0 m64 a64 c cb2.1 cb2.2 hc (by omega) (hz (by omega)) _ _ _ _ hRs (by omega) (by omega) b (by omega) b0 w rn dc ix dg slA slR ixp slV dg2
    by_cases bd : d < b
    · rw [if_pos (.inr bd)]
      by_cases ha : a = 1
      · exact rpr_pkdp1 k t _ _ a d d3 hm m0 m64 a64 c cb2.1 cb2.2 hc ha _ _ _ _ hRs (by omega) (by omega) b (by omega) bd w rn dc ix dg slA slR ixp slV dg2
      · exact rpr_pkdpn k t _ _ a d d3 hm m0 m64 a64 c cb2.1 cb2.2 hc (by omega) (hz (by omega)) _ _ _ _ hRs (by omega) (by omega) b (by omega) bd w rn dc ix dg slA slR ixp slV dg2
    rw [if_neg (by rintro (q | q); exact b0 q; exact bd q)]
    have adA := add_run A Pb (by omega)
    by_cases hx : R.drop (1 + b) ≠ 32 :: u
    · rw [if_pos hx]
      have hne := bytes_ne hx
      by_cases ha : a = 1
      · exact rpr_pxp1 k t _ _ a d d3 hm m0 m64 a64 c cb2.1 cb2.2 hc ha _ _ _ _ hRs (by omega) (by omega) b (by omega) (by omega) (by omega) _ rfl _ _ _ _ w rn dc ix dg slA slR ixp slV dg2 slB adA slC adN hne
      · exact rpr_pxpn k t _ _ a d d3 hm m0 m64 a64 c cb2.1 cb2.2 hc (by omega) (hz (by omega)) _ _ _ _ hRs (by omega) (by omega) b (by omega) (by omega) (by omega) _ rfl _ _ _ _ w rn dc ix dg slA slR ixp slV dg2 slB adA slC adN hne
    rw [if_neg hx]
    have hx2 : R.drop (1 + b) = 32 :: u := by simpa using hx
    rw [hx2] at slC
    have hD := Sp.allD_isD d dtk bt
    have hD2 : Sp.allD A Pb d = A ++ Pb ++ List.replicate (d - b) 48 := by unfold Sp.allD; rw [lP]
    rw [hD2] at hD ⊢
    simp only
    have lAP : (A ++ Pb).length ≤ 500 := by rw [List.length_append]; omega
    have nb := fun w => rnumber_any ⟨(A ++ Pb ++ List.replicate (d - b) 48).toArray⟩ _ (by rw [utoList_mk, List.length_append, List.length_replicate]; omega) (by rw [utoList_mk]; exact hD) rfl w
    rw [utoList_mk] at nb
    have nn := Sp.num_bound4 hD
    generalize Sp.numC 0 (A ++ Pb ++ List.replicate (d - b) 48) = n at nb nn ⊢
    obtain ⟨⟨x, e⟩, hX⟩ : ∃ p, Sp.signC false n = p := ⟨_, rfl⟩
    rw [hX]
    by_cases ha : a = 1
    · exact rpr_pgp1 k t _ _ a d d3 hm m0 m64 a64 c cb2.1 cb2.2 hc ha _ _ _ _ hRs (by omega) (by omega) b (by omega) (by omega) (by omega) _ rfl _ _ _ lAP n x e nn.1 nn.2 hX w rn dc ix dg slA slR ixp slV dg2 slB adA slC adN nb
    · exact rpr_pgpn k t _ _ a d d3 hm m0 m64 a64 c cb2.1 cb2.2 hc (by omega) (hz (by omega)) _ _ _ _ hRs (by omega) (by omega) b (by omega) (by omega) (by omega) _ rfl _ _ _ lAP n x e nn.1 nn.2 hX w rn dc ix dg slA slR ixp slV dg2 slB adA slC adN nb
  rw [if_neg hp]
  have hp2 : ¬ (((R[0]).toNat : Nat) : Int) = 46 := fun e => hp (by
    rw [hRh]
    have : (R[0]).toNat = 46 := by omega
    exact congrArg some (UInt8.toNat_inj.1 this))
  have pb2 : 0 ≤ (((R[0]).toNat : Nat) : Int) ∧ (((R[0]).toNat : Nat) : Int) ≤ 255 := by omega
  generalize (((R[0]).toNat : Nat) : Int) = p at ixp hp2 pb2
  clear pb hRh hp
  by_cases hx : R ≠ 32 :: u
  · rw [if_pos hx]
    have hne := bytes_ne hx
    by_cases ha : a = 1
    · exact rpr_n1xp1 k t _ _ a d d3 hm m0 m64 a64 c cb2.1 cb2.2 hc ha _ _ _ _ hRs (by omega) (by omega) p pb2.1 pb2.2 hp2 w rn dc ix dg slA slR ixp adN hne
    · exact rpr_n1xpn k t _ _ a d d3 hm m0 m64 a64 c cb2.1 cb2.2 hc (by omega) (hz (by omega)) _ _ _ _ hRs (by omega) (by omega) p pb2.1 pb2.2 hp2 w rn dc ix dg slA slR ixp adN hne
  rw [if_neg hx]
  have hx2 : R = 32 :: u := by simpa using hx
  rw [← hx2] at adN
  have hD := Sp.allD_isD (P := []) d dtk rfl
  have hD2 : Sp.allD A [] d = A ++ List.replicate (d - 0) 48 := by unfold Sp.allD; rw [List.append_nil]; rfl
  rw [hD2] at hD ⊢
  simp only
  have lA5 : A.length ≤ 500 := by omega
  have nb := fun w => rnumber_any ⟨(A ++ List.replicate (d - 0) 48).toArray⟩ _ (by rw [utoList_mk, List.length_append, List.length_replicate]; omega) (by rw [utoList_mk]; exact hD) rfl w
  rw [utoList_mk] at nb
  have nn := Sp.num_bound4 hD
  generalize Sp.numC 0 (A ++ List.replicate (d - 0) 48) = n at nb nn ⊢
  obtain ⟨⟨x, e⟩, hX⟩ : ∃ p, Sp.signC false n = p := ⟨_, rfl⟩
  rw [hX]
  by_cases ha : a = 1
  · exact rpr_n1gp1 k t _ _ a d d3 hm m0 m64 a64 c cb2.1 cb2.2 hc ha _ lA5 _ _ hRs (by omega) (by omega) p pb2.1 pb2.2 hp2 n x e nn.1 nn.2 hX w rn dc ix dg slA slR ixp adN nb
  · exact rpr_n1gpn k t _ _ a d d3 hm m0 m64 a64 c cb2.1 cb2.2 hc (by omega) (hz (by omega)) _ lA5 _ _ hRs (by omega) (by omega) p pb2.1 pb2.2 hp2 n x e nn.1 nn.2 hX w rn dc ix dg slA slR ixp adN nb

theorem rparse_d (k : Int) (t : ByteArray) (ρ u : List UInt8) (d : Nat) (d3 : d ≤ 10) (ht : t.data.toList = 45 :: ρ) (hl : ρ.length ≤ 63) (ul : u.length ≤ 10) (w : World)
    (rn : ∀ w : World, Calls Tryd.prog 12 #[.int .i64 k] w (Gives (.tuple #[.string ⟨u.toArray⟩, .int .i64 0]) w)) (dc : ∀ w : World, Calls Tryd.prog 14 #[.int .i64 k] w (Gives (.tuple #[.int .i64 (d : Int), .int .i64 0]) w)) :
    Calls Tryd.prog 19 #[.int .i64 k, .string t] w (Gives (.tuple #[.int .i64 (match Sp.o2 ρ d u with | none => ((0 : Int), (4 : Int)) | some D => Sp.signC true (Sp.numC 0 D)).1, .int .i64 (match Sp.o2 ρ d u with | none => ((0 : Int), (4 : Int)) | some D => Sp.signC true (Sp.numC 0 D)).2]) w) := by
  have hm : t.size = ρ.length + 1 := by rw [Lib.size_eq, ht]; rfl
  have m0 : 1 ≤ ρ.length + 1 := by omega
  have m64 : ρ.length + 1 ≤ 64 := by omega
  have ix := ubyte_of ht 0 (by simp)
  have sl := udrop_of ht 1 (by simp) 1 rfl
  have hr : (⟨ρ.toArray⟩ : ByteArray).data.toList = ρ := utoList_mk ρ
  have dg := fun w => udg_of hr (by omega) w
  have dle := Sp.dn_le ρ
  have dtk := Sp.dn_take ρ
  have slA := utake_of hr (Sp.dn ρ) dle
  have slR := udrop_of hr (Sp.dn ρ) dle _ rfl
  unfold Sp.o2
  by_cases a0 : Sp.dn ρ = 0
  · rw [if_pos (.inl a0)]
    exact rpr_noned k t _ _ _ _ d d3 hm m0 m64 (by omega) a0 w rn dc ix sl dg
  have h0' : 0 < ρ.length := by omega
  have hh : ρ.head? = some (ρ[0]) := by
    cases ρ with
    | nil => simp at h0'
    | cons c l => rfl
  have cb := (ρ[0]).toNat_lt
  by_cases hld : 1 < Sp.dn ρ ∧ ρ.head? = some 48
  · rw [if_pos (.inr hld)]
    have e : ρ[0] = 48 := by have := hld.2; rw [hh] at this; exact Option.some.inj this
    have ixr := ubyte_of hr 0 h0'
    rw [e] at ixr
    exact rpr_leadd k t _ _ _ _ d d3 hm m0 m64 (by omega) hld.1 w rn dc ix sl dg ixr
  rw [if_neg (by rintro (q | q); exact a0 q; exact hld q)]
  have hz : 1 < Sp.dn ρ → ¬ (((ρ[0]).toNat : Nat) : Int) = 48 := fun h e => hld ⟨h, by
    rw [hh]
    have : (ρ[0]).toNat = 48 := by omega
    exact congrArg some (UInt8.toNat_inj.1 this)⟩
  have cb2 : 0 ≤ (((ρ[0]).toNat : Nat) : Int) ∧ (((ρ[0]).toNat : Nat) : Int) ≤ 255 := by omega
  have ixr := ubyte_of hr 0 h0'
  clear cb hh hld
  generalize (((ρ[0]).toNat : Nat) : Int) = c at ixr hz cb2
  have e1 : ρ.drop (Sp.dn ρ + 1) = (ρ.drop (Sp.dn ρ)).drop 1 := by rw [List.drop_drop]
  have e2 := fun b : Nat => (show ρ.drop (Sp.dn ρ + 1 + b) = (ρ.drop (Sp.dn ρ)).drop (1 + b) by rw [List.drop_drop, Nat.add_assoc])
  rw [e1, e2 (Sp.dn ((ρ.drop (Sp.dn ρ)).drop 1))]
  clear e1 e2
  have lA : (ρ.take (Sp.dn ρ)).length ≤ 64 := by rw [List.length_take]; omega
  have lR : (ρ.drop (Sp.dn ρ)).length ≤ 64 := by rw [List.length_drop]; omega
  have a64 : Sp.dn ρ ≤ 64 := by omega
  generalize ρ.take (Sp.dn ρ) = A at slA dtk lA ⊢
  generalize ρ.drop (Sp.dn ρ) = R at slR lR ⊢
  generalize Sp.dn ρ = a at dg a0 hz slA slR a64
  have hRl : (⟨R.toArray⟩ : ByteArray).data.toList = R := utoList_mk R
  have hRs : (⟨R.toArray⟩ : ByteArray).size = R.length := by rw [Lib.size_eq, hRl]
  have adN : ∀ W, (Op.stringOp .add ⟨#[32]⟩ ⟨u.toArray⟩).run Tryd.prog W = .ok (.string ⟨(32 :: u).toArray⟩) W := add_run [32] u (by simp; omega)
  by_cases hR0 : R.length = 0
  · obtain rfl : R = [] := List.length_eq_zero_iff.1 hR0
    rw [if_neg (by simp), if_pos (by simp)]
    have hne := bytes_ne (a := []) (b := 32 :: u) (by simp)
    by_cases ha : a = 1
    · exact rpr_n0d1 k t _ _ _ a d d3 hm m0 m64 a64 ha _ _ _ hRs w rn dc ix sl dg slA slR adN hne
    · exact rpr_n0dn k t _ _ _ a d d3 hm m0 m64 a64 (by omega) c cb2.1 cb2.2 (hz (by omega)) _ _ _ hRs w rn dc ix sl dg ixr slA slR adN hne
  have hRp : 0 < R.length := by omega
  have hRh : R.head? = some (R[0]) := by
    cases R with
    | nil => simp at hRp
    | cons c l => rfl
  have pb := (R[0]).toNat_lt
  have ixp := ubyte_of hRl 0 hRp
  by_cases hp : R.head? = some 46
  · rw [if_pos hp]
    have e : R[0] = 46 := by have := hp; rw [hRh] at this; exact Option.some.inj this
    rw [e] at ixp
    have slV := udrop_of hRl 1 (by omega) 1 rfl
    have hVl : (⟨(R.drop 1).toArray⟩ : ByteArray).data.toList = R.drop 1 := utoList_mk _
    have lV : (R.drop 1).length = R.length - 1 := by rw [List.length_drop]
    have dg2 := fun w => udg_of hVl (by omega) w
    have ble := Sp.dn_le (R.drop 1)
    have bt := Sp.dn_take (R.drop 1)
    have slB := umid_of hRl (Sp.dn (R.drop 1)) (by omega)
    have slC := udrop_of hRl (1 + Sp.dn (R.drop 1)) (by omega) (1 + ((Sp.dn (R.drop 1) : Nat) : Int)) (by omega)
    have lP : ((R.drop 1).take (Sp.dn (R.drop 1))).length = Sp.dn (R.drop 1) := by rw [List.length_take]; omega
    generalize (R.drop 1).take (Sp.dn (R.drop 1)) = Pb at slB bt lP ⊢
    generalize Sp.dn (R.drop 1) = b at dg2 ble slB slC lP ⊢
    by_cases b0 : b = 0
    · rw [if_pos (.inl b0)]
      by_cases ha : a = 1
      · exact rpr_pk0d1 k t _ _ _ a d d3 hm m0 m64 a64 ha _ _ _ _ hRs (by omega) (by omega) b (by omega) b0 w rn dc ix sl dg slA slR ixp slV dg2
      · exact rpr_pk0dn k t _ _ _ a d d3 hm m0 m64 a64 (by omega) c cb2.1 cb2.2 (hz (by omega)) _ _ _ _ hRs (by omega) (by omega) b (by omega) b0 w rn dc ix sl dg ixr slA slR ixp slV dg2
    by_cases bd : d < b
    · rw [if_pos (.inr bd)]
      by_cases ha : a = 1
      · exact rpr_pkdd1 k t _ _ _ a d d3 hm m0 m64 a64 ha _ _ _ _ hRs (by omega) (by omega) b (by omega) bd w rn dc ix sl dg slA slR ixp slV dg2
      · exact rpr_pkddn k t _ _ _ a d d3 hm m0 m64 a64 (by omega) c cb2.1 cb2.2 (hz (by omega)) _ _ _ _ hRs (by omega) (by omega) b (by omega) bd w rn dc ix sl dg ixr slA slR ixp slV dg2
    rw [if_neg (by rintro (q | q); exact b0 q; exact bd q)]
    have adA := add_run A Pb (by omega)
    by_cases hx : R.drop (1 + b) ≠ 32 :: u
    · rw [if_pos hx]
      have hne := bytes_ne hx
      by_cases ha : a = 1
      · exact rpr_pxd1 k t _ _ _ a d d3 hm m0 m64 a64 ha _ _ _ _ hRs (by omega) (by omega) b (by omega) (by omega) (by omega) _ rfl _ _ _ _ w rn dc ix sl dg slA slR ixp slV dg2 slB adA slC adN hne
      · exact rpr_pxdn k t _ _ _ a d d3 hm m0 m64 a64 (by omega) c cb2.1 cb2.2 (hz (by omega)) _ _ _ _ hRs (by omega) (by omega) b (by omega) (by omega) (by omega) _ rfl _ _ _ _ w rn dc ix sl dg ixr slA slR ixp slV dg2 slB adA slC adN hne
    rw [if_neg hx]
    have hx2 : R.drop (1 + b) = 32 :: u := by simpa using hx
    rw [hx2] at slC
    have hD := Sp.allD_isD d dtk bt
    have hD2 : Sp.allD A Pb d = A ++ Pb ++ List.replicate (d - b) 48 := by unfold Sp.allD; rw [lP]
    rw [hD2] at hD ⊢
    simp only
    have lAP : (A ++ Pb).length ≤ 500 := by rw [List.length_append]; omega
    have nb := fun w => rnumber_any ⟨(A ++ Pb ++ List.replicate (d - b) 48).toArray⟩ _ (by rw [utoList_mk, List.length_append, List.length_replicate]; omega) (by rw [utoList_mk]; exact hD) rfl w
    rw [utoList_mk] at nb
    have nn := Sp.num_bound4 hD
    generalize Sp.numC 0 (A ++ Pb ++ List.replicate (d - b) 48) = n at nb nn ⊢
    obtain ⟨⟨x, e⟩, hX⟩ : ∃ p, Sp.signC true n = p := ⟨_, rfl⟩
    rw [hX]
    by_cases ha : a = 1
    · exact rpr_pgd1 k t _ _ _ a d d3 hm m0 m64 a64 ha _ _ _ _ hRs (by omega) (by omega) b (by omega) (by omega) (by omega) _ rfl _ _ _ lAP n x e nn.1 nn.2 hX w rn dc ix sl dg slA slR ixp slV dg2 slB adA slC adN nb
    · exact rpr_pgdn k t _ _ _ a d d3 hm m0 m64 a64 (by omega) c cb2.1 cb2.2 (hz (by omega)) _ _ _ _ hRs (by omega) (by omega) b (by omega) (by omega) (by omega) _ rfl _ _ _ lAP n x e nn.1 nn.2 hX w rn dc ix sl dg ixr slA slR ixp slV dg2 slB adA slC adN nb
  rw [if_neg hp]
  have hp2 : ¬ (((R[0]).toNat : Nat) : Int) = 46 := fun e => hp (by
    rw [hRh]
    have : (R[0]).toNat = 46 := by omega
    exact congrArg some (UInt8.toNat_inj.1 this))
  have pb2 : 0 ≤ (((R[0]).toNat : Nat) : Int) ∧ (((R[0]).toNat : Nat) : Int) ≤ 255 := by omega
  generalize (((R[0]).toNat : Nat) : Int) = p at ixp hp2 pb2
  clear pb hRh hp
  by_cases hx : R ≠ 32 :: u
  · rw [if_pos hx]
    have hne := bytes_ne hx
    by_cases ha : a = 1
    · exact rpr_n1xd1 k t _ _ _ a d d3 hm m0 m64 a64 ha _ _ _ _ hRs (by omega) (by omega) p pb2.1 pb2.2 hp2 w rn dc ix sl dg slA slR ixp adN hne
    · exact rpr_n1xdn k t _ _ _ a d d3 hm m0 m64 a64 (by omega) c cb2.1 cb2.2 (hz (by omega)) _ _ _ _ hRs (by omega) (by omega) p pb2.1 pb2.2 hp2 w rn dc ix sl dg ixr slA slR ixp adN hne
  rw [if_neg hx]
  have hx2 : R = 32 :: u := by simpa using hx
  rw [← hx2] at adN
  have hD := Sp.allD_isD (P := []) d dtk rfl
  have hD2 : Sp.allD A [] d = A ++ List.replicate (d - 0) 48 := by unfold Sp.allD; rw [List.append_nil]; rfl
  rw [hD2] at hD ⊢
  simp only
  have lA5 : A.length ≤ 500 := by omega
  have nb := fun w => rnumber_any ⟨(A ++ List.replicate (d - 0) 48).toArray⟩ _ (by rw [utoList_mk, List.length_append, List.length_replicate]; omega) (by rw [utoList_mk]; exact hD) rfl w
  rw [utoList_mk] at nb
  have nn := Sp.num_bound4 hD
  generalize Sp.numC 0 (A ++ List.replicate (d - 0) 48) = n at nb nn ⊢
  obtain ⟨⟨x, e⟩, hX⟩ : ∃ p, Sp.signC true n = p := ⟨_, rfl⟩
  rw [hX]
  by_cases ha : a = 1
  · exact rpr_n1gd1 k t _ _ _ a d d3 hm m0 m64 a64 ha _ lA5 _ _ hRs (by omega) (by omega) p pb2.1 pb2.2 hp2 n x e nn.1 nn.2 hX w rn dc ix sl dg slA slR ixp adN nb
  · exact rpr_n1gdn k t _ _ _ a d d3 hm m0 m64 a64 (by omega) c cb2.1 cb2.2 (hz (by omega)) _ lA5 _ _ hRs (by omega) (by omega) p pb2.1 pb2.2 hp2 n x e nn.1 nn.2 hX w rn dc ix sl dg ixr slA slR ixp adN nb

theorem rparse_any (k : Int) (t : ByteArray) (w : World) : Calls Tryd.prog 19 #[.int .i64 k, .string t] w (Gives (.tuple #[.int .i64 (Sp.parseR k t.data.toList).1, .int .i64 (Sp.parseR k t.data.toList).2]) w) := by
  by_cases h : 1 ≤ k ∧ k ≤ 5
  · have rn := fun w => rnamed h w
    have dc := fun w => rdeced h w
    have dk := decK_le k
    have ul := unitL_len k
    have hz : t.size = t.data.toList.length := Lib.size_eq t
    unfold Sp.parseR
    have h' : ¬ ¬ (1 ≤ k ∧ k ≤ 5) := by simpa using h
    rw [if_neg h']
    by_cases hl : 64 < t.data.toList.length
    · rw [if_pos hl]
      exact rpr_long k t _ _ hz hl rn w
    · rw [if_neg hl]
      generalize Sp.decK k = d at dc dk ⊢
      generalize Sp.unitL k = u at rn ul ⊢
      cases hL : t.data.toList with
      | nil =>
        have dg := fun w => udg_of hL (by simp) w
        have e : Sp.o2 (Lib.trimPrefix [] [45]) d u = none := rfl
        rw [e]
        exact rpr_empty k t _ d (by omega) (by rw [hz, hL]; rfl) w rn dc dg
      | cons c l =>
        rw [hL] at hl
        have hl2 : l.length ≤ 63 := by rw [List.length_cons] at hl; omega
        by_cases hc : c = 45
        · subst hc
          have e1 : Lib.hasPrefix (45 :: l) [45] = true := by simp [Lib.hasPrefix, List.isPrefixOf]
          have e2 : Lib.trimPrefix (45 :: l) [45] = l := by unfold Lib.trimPrefix; rw [e1]; rfl
          rw [e1, e2]
          exact rparse_d k t l u d (by omega) hL hl2 (by omega) w rn dc
        · have e1 : Lib.hasPrefix (c :: l) [45] = false := by
            unfold Lib.hasPrefix
            simp [List.isPrefixOf, Ne.symm hc]
          have e2 : Lib.trimPrefix (c :: l) [45] = c :: l := by unfold Lib.trimPrefix; rw [e1]; rfl
          rw [e1, e2]
          exact rparse_p k t (c :: l) u d (by omega) hL (by rw [List.length_cons]; omega) (by omega) (by simp) hc w rn dc
  · unfold Sp.parseR
    rw [if_pos h]
    exact rpr_bad k t h w
end Go.Proofs.YtgfjofdjicepiaaDoor
