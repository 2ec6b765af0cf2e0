/-
  Package units: Format, Parse, Date, ParseDate, for every input.
-/
import Derived.Test.YtgfjofdjicepiaaDoorUread
namespace Go.Proofs.YtgfjofdjicepiaaDoor
open Go.RowKit
set_option linter.unusedVariables false
set_option linter.unusedSimpArgs false
theorem padL_len (n : Int) (w : Nat) : (Sp.padL n w).length = (w - (Lib.itoa n).length) + (Lib.itoa n).length := by
  unfold Sp.padL
  rw [List.length_append, List.length_replicate]
theorem unitL_len (k : Int) : (Sp.unitL k).length ≤ 2 := by
  unfold Sp.unitL
  repeat' split
  all_goals simp
theorem decK_le (k : Int) : Sp.decK k ≤ 3 := by
  unfold Sp.decK
  repeat' split
  all_goals simp
theorem uformat_any (k n : Int) (n0 : -9223372036854775808 ≤ n) (n1 : n ≤ 9223372036854775807) (w : World) (ht : Lib.TabIs Tryd.prog w "internal/strconv.uint64pow10" .u64 Lib.pow10Tab) (K : KI w) :
    Calls Tryd.prog 15 #[.int .i64 k, .int .i64 n] w (Gives (.tuple #[.string ⟨(Sp.formatS k n).1.toArray⟩, .int .i64 (Sp.formatS k n).2]) w) := by
  unfold Sp.formatS
  by_cases h : 1 ≤ k ∧ k ≤ 5
  · rw [if_neg (by simpa using h)]
    by_cases hn : n < -1000000000000000 ∨ 1000000000000000 < n
    · rw [if_pos hn]
      exact ufmt_over k n h hn w
    · rw [if_neg hn]
      have hn' : -1000000000000000 ≤ n ∧ n ≤ 1000000000000000 := by omega
      have cl := fun W (B : Below w.heap.size w W) => (K.below B).at h.1 h.2
      have pl := padL_len n.natAbs (Sp.decK k + 1)
      have il := uitoa_len (n.natAbs : Int) (by omega) (by omega)
      have dk := decK_le k
      have ul := unitL_len k
      have pd := fun W (B : Below w.heap.size w W) => upad_any (n.natAbs : Int) ((Sp.decK k : Int) + 1) (by omega) (by omega) (by omega) (by omega) W (tab_below gPow ht B)
      have et : ((Sp.decK k : Int) + 1).toNat = Sp.decK k + 1 := by omega
      rw [et] at pd
      unfold Sp.fmtL
      simp only
      have pl1 : Sp.decK k + 1 ≤ (Sp.padL n.natAbs (Sp.decK k + 1)).length := by omega
      have pl2 : (Sp.padL n.natAbs (Sp.decK k + 1)).length ≤ 30 := by omega
      generalize Sp.padL n.natAbs (Sp.decK k + 1) = S at pd pl1 pl2 ⊢
      generalize Sp.decK k = d at cl dk pd pl1 ⊢
      generalize Sp.unitL k = U at cl ul ⊢
      have hm : (⟨S.toArray⟩ : ByteArray).size = S.length := by rw [Lib.size_eq, utoList_mk]
      have t1 := urun_take ⟨S.toArray⟩ (S.length - d) (by omega)
      have t2 := urun_drop ⟨S.toArray⟩ (S.length - d) (by omega) _ rfl
      rw [utoList_mk] at t1 t2
      have l1 : (S.take (S.length - d)).length ≤ 30 := by rw [List.length_take]; omega
      have l2 : (S.drop (S.length - d)).length ≤ 30 := by rw [List.length_drop]; omega
      generalize S.take (S.length - d) = T1 at t1 l1 ⊢
      generalize S.drop (S.length - d) = T2 at t2 l2 ⊢
      by_cases hs : n < 0
      · rw [if_pos hs]
        exact ufmt_neg k n (n.natAbs : Int) d ((d : Int) + 1) ((S.length - d : Nat) : Int) ⟨U.toArray⟩ ⟨S.toArray⟩ ⟨T1.toArray⟩ ⟨T2.toArray⟩ _ _ _ _ _ S.length hm (by omega) (by omega) (by omega) (by omega) (by omega) (by omega) rfl h.1 h.2 hn'.1 hn'.2 hs (by omega) w cl pd t1 t2
          (add_run [45] T1 (by simp; omega)) (add_run _ [46] (by simp; omega)) (add_run _ T2 (by simp; omega)) (add_run _ [32] (by simp; omega)) (add_run _ U (by simp; omega))
      · rw [if_neg hs]
        have en : (n.natAbs : Int) = n := by omega
        rw [en] at pd
        exact ufmt_pos k n d ((d : Int) + 1) ((S.length - d : Nat) : Int) ⟨U.toArray⟩ ⟨S.toArray⟩ ⟨T1.toArray⟩ ⟨T2.toArray⟩ _ _ _ _ _ S.length hm (by omega) (by omega) (by omega) (by omega) (by omega) (by omega) rfl h.1 h.2 hn'.1 hn'.2 (by omega) w cl pd t1 t2
          (add_run [] T1 (by simp; omega)) (add_run _ [46] (by simp; omega)) (add_run _ T2 (by simp; omega)) (add_run _ [32] (by simp; omega)) (add_run _ U (by simp; omega))
  · rw [if_pos h]
    exact ufmt_bad k n h w
theorem adS_all {l D : List UInt8} {d : Nat} (h : Sp.adS l d = some D) (hd : d ≤ 3) : D.all Sp.isD = true ∧ D.length ≤ l.length + 3 := by
  unfold Sp.adS at h
  split at h
  · exact absurd h (by simp)
  · rename_i hc
    obtain rfl := Option.some.inj h
    simp only [not_or, Bool.not_eq_false, not_and] at hc
    obtain ⟨h1, h2, h3⟩ := hc
    have w1 : (l.take (Sp.at1 46 l)).all Sp.isD = true := by
      unfold Sp.wholeB at h1
      rw [Bool.and_eq_true] at h1
      exact (Sp.digB_all h1.1).1
    have w2 : (l.drop (Sp.at1 46 l + 1)).all Sp.isD = true := by
      by_cases q : Sp.at1 46 l < l.length
      · exact (Sp.digB_all (h2 q)).1
      · rw [List.drop_eq_nil_of_le (by omega)]; rfl
    refine ⟨?_, ?_⟩
    · rw [List.all_append, List.all_append, w1, w2, Bool.and_self, Bool.true_and, List.all_eq_true]
      intro c hc
      rw [(List.mem_replicate.1 hc).2]
      decide
    · simp only [List.length_append, List.length_take, List.length_drop, List.length_replicate]
      omega
theorem bytes_ne {a b : List UInt8} (h : a ≠ b) : ((⟨a.toArray⟩ : ByteArray).toList == (⟨b.toArray⟩ : ByteArray).toList) = false := by
  rw [ByteArray.toList_eq, ByteArray.toList_eq, utoList_mk, utoList_mk]
  simpa using h
theorem uparse_any (k : Int) (t : ByteArray) (w : World) (K : KI w) :
    Calls Tryd.prog 18 #[.int .i64 k, .string t] w (Gives (.tuple #[.int .i64 (Sp.parseU k t.data.toList).1, .int .i64 (Sp.parseU k t.data.toList).2]) w) := by
  unfold Sp.parseU
  by_cases h : 1 ≤ k ∧ k ≤ 5
  · rw [if_neg (by simpa using h)]
    have hz : t.size = t.data.toList.length := Lib.size_eq t
    by_cases hl : 64 < t.data.toList.length
    · rw [if_pos hl]
      exact upr_long k t t.size rfl (by omega) h w
    · rw [if_neg hl]
      have cl := fun W (B : Below w.heap.size w W) => (K.below B).at h.1 h.2
      have dk := decK_le k
      have cp : ∀ w : World, Calls Tryd.prog 42 #[.string t, .string ⟨#[45]⟩] w fun e w' => e = .returned (.tuple #[.string ⟨(Lib.trimPrefix t.data.toList [45]).toArray⟩, .bool (Lib.hasPrefix t.data.toList [45])]) ∧ w' = w := fun w => Tryd.strings_CutPrefix t ⟨#[45]⟩ w
      have tl : (Lib.trimPrefix t.data.toList [45]).length ≤ 64 := by unfold Lib.trimPrefix; split <;> first | omega | (simp only [List.length_drop]; omega)
      generalize Lib.hasPrefix t.data.toList [45] = neg at cp ⊢
      generalize Lib.trimPrefix t.data.toList [45] = r at cp tl ⊢
      have ct := fun w => ucut_any 32 ⟨r.toArray⟩ (by rw [utoList_mk]; omega) w
      rw [utoList_mk] at ct
      unfold Sp.readS
      have l1 : (r.take (Sp.at1 32 r)).length ≤ 64 := by rw [List.length_take]; omega
      generalize r.take (Sp.at1 32 r) = x at ct l1 ⊢
      generalize r.drop (Sp.at1 32 r + 1) = y at ct ⊢
      generalize decide (Sp.at1 32 r < r.length) = fnd at ct
      generalize Sp.unitL k = U at cl ⊢
      generalize Sp.decK k = d at cl dk ⊢
      have ad := fun w => uad_any ⟨x.toArray⟩ d (by omega) (by rw [utoList_mk]; omega) w
      rw [utoList_mk] at ad
      cases hD : Sp.adS x d with
      | none =>
        rw [hD] at ad
        exact upr_two k d t _ _ _ _ _ fnd neg t.size rfl (by omega) h.1 h.2 w cl cp ct ad
      | some D =>
        rw [hD] at ad
        obtain ⟨da, dl⟩ := adS_all hD dk
        simp only
        by_cases hu : y ≠ U
        · rw [if_pos hu]
          exact upr_three k d t _ _ _ _ _ fnd neg t.size rfl (by omega) h.1 h.2 w cl cp ct ad (bytes_ne hu)
        · rw [if_neg hu]
          obtain rfl : y = U := by simpa using hu
          obtain ⟨⟨v, e⟩, hv⟩ : ∃ p, Sp.valS 0 D = p := ⟨_, rfl⟩
          have vl := fun w => uval_any ⟨D.toArray⟩ v e (by rw [utoList_mk]; omega) (by rw [utoList_mk]; exact da) (by rw [utoList_mk]; exact hv) w
          have vb := Sp.valS_bound D 0 da (by omega) (by omega)
          rw [hv] at vb ⊢
          unfold Sp.signS
          simp only at vb ⊢
          by_cases e0 : e = 0
          · subst e0
            rw [if_neg (by omega)]
            cases neg with
            | false => exact upr_five k d t _ _ _ _ fnd v t.size rfl (by omega) h.1 h.2 w cl cp ct ad vl
            | true =>
              simp only [if_true]
              by_cases v0 : v = 0
              · subst v0
                exact upr_six k d t _ _ _ _ fnd t.size rfl (by omega) h.1 h.2 w cl cp ct ad vl
              · rw [if_neg v0]
                exact upr_seven k d t _ _ _ _ fnd v _ v0 rfl vb.1 vb.2 t.size rfl (by omega) h.1 h.2 w cl cp ct ad vl
          · rw [if_pos e0]
            exact upr_four k d t _ _ _ _ fnd neg v e e0 t.size rfl (by omega) h.1 h.2 w cl cp ct ad vl
  · rw [if_pos h]
    exact upr_bad k t h w
theorem udate_any (k : Int) (w : World) (ht : Lib.TabIs Tryd.prog w "internal/strconv.uint64pow10" .u64 Lib.pow10Tab) :
    Calls Tryd.prog 29 #[.int .i64 k] w (Gives (.tuple #[.string ⟨(Sp.dateS k).1.toArray⟩, .int .i64 (Sp.dateS k).2]) w) := by
  unfold Sp.dateS
  by_cases h : 0 ≤ k ∧ k ≤ 100000
  · rw [if_neg (by omega)]
    unfold Sp.dayL
    have eq : k.tdiv 365 = k / 365 := Int.tdiv_eq_ediv_of_nonneg h.1
    have er : k.tmod 365 = k % 365 := Int.tmod_eq_emod_of_nonneg h.1
    have q0 : 0 ≤ k / 365 ∧ k / 365 ≤ 100000 := by omega
    have r0 : 0 ≤ k % 365 ∧ k % 365 ≤ 365 := by omega
    generalize k / 365 = q at eq q0 ⊢
    generalize k % 365 = r at er r0 ⊢
    have i1 := fun W (B : Below w.heap.size w W) => itoa_gives q (by omega) (by omega) W (tab_below gPow ht B) _ rfl
    have pd := fun W (B : Below w.heap.size w W) => upad_any (r + 1) 3 (by omega) (by omega) (by omega) (by omega) W (tab_below gPow ht B)
    have il := uitoa_len q (by omega) (by omega)
    have pl := padL_len (r + 1) 3
    have il2 := uitoa_len (r + 1) (by omega) (by omega)
    exact udate_good k q r _ _ _ _ _ h eq er rfl r0.1 r0.2 q0.1 q0.2 w i1 pd (add_run _ [45] (by simp; omega)) (add_run _ _ (by
      show (Lib.itoa q ++ [45]).length + (Sp.padL (r + 1) 3).length ≤ 1000
      rw [List.length_append, List.length_singleton]; omega))
  · rw [if_pos (by omega)]
    exact udate_bad k h w
theorem uparsedate_any (t : ByteArray) (hs : t.data.toList.length ≤ 900) (w : World) :
    Calls Tryd.prog 31 #[.string t] w (Gives (.tuple #[.int .i64 (Sp.dateR t.data.toList).1, .int .i64 (Sp.dateR t.data.toList).2]) w) := by
  have ct := fun w => ucut_any 45 t (by omega) w
  unfold Sp.dateR
  generalize hL : t.data.toList = L at ct hs ⊢
  have l1 : (L.take (Sp.at1 45 L)).length ≤ 900 := by rw [List.length_take]; omega
  have l2 : (L.drop (Sp.at1 45 L + 1)).length ≤ 900 := by rw [List.length_drop]; omega
  generalize L.take (Sp.at1 45 L) = x at ct l1 ⊢
  generalize L.drop (Sp.at1 45 L + 1) = y at ct l2 ⊢
  generalize decide (Sp.at1 45 L < L.length) = fnd at ct
  have iw := fun w => uwhole_any ⟨x.toArray⟩ (by rw [utoList_mk]; omega) w
  have idg := fun w => udig_any ⟨y.toArray⟩ (by rw [utoList_mk]; omega) w
  rw [utoList_mk] at iw idg
  have hm : (⟨x.toArray⟩ : ByteArray).size = x.length := by rw [Lib.size_eq, utoList_mk]
  have hq : (⟨y.toArray⟩ : ByteArray).size = y.length := by rw [Lib.size_eq, utoList_mk]
  cases hw : Sp.wholeB x with
  | false =>
    rw [hw] at iw
    rw [if_pos (.inl rfl)]
    exact upd_notwhole t _ _ fnd ct iw w
  | true =>
    rw [hw] at iw
    by_cases h4 : 4 < x.length
    · rw [if_pos (.inr (.inl h4))]
      exact upd_long t _ _ fnd _ hm (by omega) h4 ct iw w
    · cases hd : Sp.digB y with
      | false =>
        rw [hd] at idg
        rw [if_pos (.inr (.inr (.inl rfl)))]
        exact upd_notdig t _ _ fnd _ hm (by omega) (by omega) ct iw idg w
      | true =>
        rw [hd] at idg
        by_cases h3 : y.length = 3
        · rw [if_neg (by rintro (h | h | h | h); exact absurd h (by simp); exact h4 h; exact absurd h (by simp); exact h h3)]
          have xa : x.all Sp.isD = true := by
            unfold Sp.wholeB at hw
            rw [Bool.and_eq_true] at hw
            exact (Sp.digB_all hw.1).1
          have ya := (Sp.digB_all hd).1
          obtain ⟨⟨v, e⟩, hv⟩ : ∃ p, Sp.valS 0 x = p := ⟨_, rfl⟩
          obtain ⟨⟨z, g⟩, hz⟩ : ∃ p, Sp.valS 0 y = p := ⟨_, rfl⟩
          have v1 := fun w => uval_any ⟨x.toArray⟩ v e (by rw [utoList_mk]; omega) (by rw [utoList_mk]; exact xa) (by rw [utoList_mk]; exact hv) w
          have v2 := fun w => uval_any ⟨y.toArray⟩ z g (by rw [utoList_mk]; omega) (by rw [utoList_mk]; exact ya) (by rw [utoList_mk]; exact hz) w
          have vb := Sp.valS_bound x 0 xa (by omega) (by omega)
          have zb := Sp.valS_bound y 0 ya (by omega) (by omega)
          rw [hv] at vb ⊢
          rw [hz] at zb ⊢
          simp only at vb zb ⊢
          by_cases c1 : z < 1
          · rw [if_pos (.inl c1)]
            exact upd_range1 t _ _ fnd _ hm (by omega) (by omega) _ hq (by omega) h3 v z e g _ _ rfl rfl (by omega) (by omega) zb.1 zb.2 c1 ct iw idg v1 v2 w
          · by_cases c2 : 365 < z
            · rw [if_pos (.inr (.inl c2))]
              exact upd_range2 t _ _ fnd _ hm (by omega) (by omega) _ hq (by omega) h3 v z e g _ _ rfl rfl (by omega) (by omega) zb.1 zb.2 c2 ct iw idg v1 v2 w
            · by_cases c3 : 100000 < v * 365 + z - 1
              · rw [if_pos (.inr (.inr c3))]
                exact upd_range3 t _ _ fnd _ hm (by omega) (by omega) _ hq (by omega) h3 v z e g _ _ rfl rfl (by omega) (by omega) zb.1 zb.2 (by omega) (by omega) c3 ct iw idg v1 v2 w
              · rw [if_neg (by rintro (h | h | h); exact c1 h; exact c2 h; exact c3 h)]
                exact upd_good t _ _ fnd _ hm (by omega) (by omega) _ hq (by omega) h3 v z e g _ _ rfl rfl (by omega) (by omega) zb.1 zb.2 (by omega) (by omega) (by omega) ct iw idg v1 v2 w
        · rw [if_pos (.inr (.inr (.inr h3)))]
          exact upd_notthree t _ _ fnd _ hm (by omega) (by omega) _ hq (by omega) h3 ct iw idg w
end Go.Proofs.YtgfjofdjicepiaaDoor
