/-
  Layer 6: CodecRestores, the walk.
-/
import Derived.Test.YtcjhgihkofmhgaaCza
import Derived.Test.YtcjhgihkofmhgaaCzc
import Derived.Test.YtcjhgihkofmhgaaCzd
import Derived.Test.YtcjhgihkofmhgaaCfew
namespace Go.Proofs.Ytcjhgihkofmhgaa
open Go.RowKit
attribute [local go_sem ↓] Go.wp_at_zero Go.wp_at_succ
set_option linter.unusedVariables false
set_option linter.unusedSimpArgs false

theorem Lies.rng {w : World} {P : Nat → Prop} : ∀ {d : Nat} {t : Sp.Tr d} {v : Value}, Lies w P d t v → Sp.rng d t
  | 0, _, _, h => nomatch h
  | d + 1, t, v, h => by
    obtain ⟨s, A, cap, _, _, ⟨_, hn, _⟩, hel⟩ := h
    refine ⟨hn, fun u hu => ?_⟩
    obtain ⟨j, hj, rfl⟩ := List.getElem_of_mem hu
    obtain ⟨b, off, _, _, hc⟩ := hel (by omega)
    obtain ⟨c0, c1, c2, c3, _, _, _, _, hL⟩ := hc j hj
    exact hL.rng
/-- What was encoded is decoded, and no beginning. -/
theorem restores {d : Nat} {t : Sp.Tr d} (hc : Sp.checkS d t = 0) (hr : Sp.rng d t) :
    ∃ u : Sp.Tr 8, Sp.decS (Sp.encT d t) = .inr u ∧ Sp.eqT d 8 t u = true ∧ Sp.sameS d t 8 u = true ∧ 1 ≤ (Sp.encT d t).length ∧ (Sp.encT d t).length ≤ 4000 ∧ ∀ m, m < (Sp.encT d t).length → Sp.decS ((Sp.encT d t).take m) = .inl 17 := by
  obtain ⟨h1, h2⟩ := check_ok hc
  obtain ⟨u, hd, he⟩ := Sp.dec_enc d t 0 8 0 0 [] rfl hr h2 h1
  rw [List.append_nil] at hd
  have hS : Sp.decS (Sp.encT d t) = .inr u := by
    unfold Sp.decS
    rw [if_neg (by omega), hd]
    rfl
  refine ⟨u, hS, he, ?_, Sp.encT_pos h1, h2, fun m hm => ?_⟩
  · have e := Sp.eq_enc d 8 t u he
    have e2 := (Sp.decS_ok hS).2
    unfold Sp.sameS
    simp [hc, e2, e]
  · have hcut := Sp.dec_cut d t 0 8 0 0 m rfl hr h2 h1 hm
    unfold Sp.decS
    rw [if_neg (by rw [List.length_take]; omega), hcut]
set_option maxRecDepth 100000 in
set_option maxHeartbeats 4000000 in
theorem cres_as (q : Int) (q0 : 0 ≤ q) (q1 : q ≤ 65535) (D : Nat) (t : Sp.Tr D) (v : Value) (w : World) (hL : Lies w (· < w.heap.size) D t v) :
    Calls Try.prog 7 #[v, .int .u16 q] w (Gives (.bool true) w) := by
  obtain ⟨k, n, s, A, m, cap, rfl⟩ := hL.form
  obtain ⟨U, hU⟩ : ∃ U : World, w.alloc (Obj.cells #[.int .i64 k, .int .i64 n, .string s, .slice A m cap] 34) = U := ⟨_, rfl⟩
  have bU : Below w.heap.size w U := by rw [← hU]; exact (Below.refl w.heap.size w).alloc (Nat.le_refl _) _
  have zU : U.heap.size = w.heap.size + 1 := by rw [← hU]; simp
  have lU := hL.below bU
  have a0 : U.cell? ⟨w.heap.size, 0, none⟩ = some (.int .i64 k) := by rw [← hU]; simp [go_sem]
  have a1 : U.cell? ⟨w.heap.size, 1, none⟩ = some (.int .i64 n) := by rw [← hU]; simp [go_sem]
  have a2 : U.cell? ⟨w.heap.size, 2, none⟩ = some (.string s) := by rw [← hU]; simp [go_sem]
  have a3 : U.cell? ⟨w.heap.size, 3, none⟩ = some (.slice A m cap) := by rw [← hU]; simp [go_sem]
  have HR := hid hL.rng
  have HU := hid hU
  have BU := hid bU
  have LU := hid lU
  have K : Hid (∀ W', Below U.heap.size U W' → (W'.cell? ⟨w.heap.size, 0, none⟩ = some (.int .i64 k) ∧ W'.cell? ⟨w.heap.size, 1, none⟩ = some (.int .i64 n) ∧ W'.cell? ⟨w.heap.size, 2, none⟩ = some (.string s) ∧ W'.cell? ⟨w.heap.size, 3, none⟩ = some (.slice A m cap))) := hid fun W' B =>
    ⟨(B.cell (p := ⟨w.heap.size, 0, none⟩) (by simp; omega)).trans a0, (B.cell (p := ⟨w.heap.size, 1, none⟩) (by simp; omega)).trans a1, (B.cell (p := ⟨w.heap.size, 2, none⟩) (by simp; omega)).trans a2, (B.cell (p := ⟨w.heap.size, 3, none⟩) (by simp; omega)).trans a3⟩
  obtain ⟨r, hr⟩ : ∃ r, Sp.checkS D t = r := ⟨_, rfl⟩
  have HC := hid hr
  have few := few_any D t (.agg #[.int .i64 k, .int .i64 n, .string s, .slice A m cap]) U lU
  clear hL hU bU lU hr
  go_enter Try.func7, Try.ntmps7
  go_wp2_with fail
  rw [HU.out]
  refine few.mono ?_
  rintro _ u1 ⟨b, rfl, hb⟩
  have B1 := hid hb
  obtain ⟨c0, c1, c2, c3⟩ := K.out _ hb
  clear hb few a0 a1 a2 a3
  cases b
  · go_wp2_with (go_at_call 11; refine (awake_any _).mono ?_; rintro e w1 ⟨rfl, hb⟩)
    go_ret
    exact Gives.mk rfl (BU.out.trans ((B1.out.mono (by omega)).trans (hb.mono (by have := B1.out.size; omega))))
  · by_cases r0 : r = 0
    · subst r0
      obtain ⟨u, hS, hE, hA, l1, l4, hcut⟩ := restores HC.out HR.out
      have HS := hid hS
      have HE := hid hE
      have HA := hid hA
      have HL := hid (show 1 ≤ (Sp.encT D t).length ∧ (Sp.encT D t).length ≤ 4000 from ⟨l1, l4⟩)
      have HT := hid hcut
      clear hS hE hA l1 l4 hcut
      go_wp2_with fail
      refine (encode_good D t _ HC.out _ (LU.out.lift B1.out)).mono ?_
      rintro _ u2 ⟨v2, rfl, how, hb⟩
      obtain ⟨A2, cap2, rfl, hcap2, hbs2⟩ := how.form
      have S2 := hid hbs2
      have B2 := hid (B1.out.trans (hb.mono B1.out.size))
      obtain ⟨c0, c1, c2, c3⟩ := K.out _ B2.out
      clear hb how hbs2
      obtain ⟨L, hLe⟩ : ∃ L, Sp.encT D t = L := ⟨_, rfl⟩
      rw [hLe] at HS HL HT S2 hcap2 ⊢
      have f1 : (1 : Int) ≤ (L.length : Int) := by have := HL.out; omega
      have f2 : (L.length : Int) ≤ 4000 := by have := HL.out; omega
      clear hLe
      go_wp2_with fail
      have dc := decode_any L A2 cap2 hcap2 _ S2.out
      rw [HS.out] at dc
      refine dc.mono ?_
      rintro _ u3 ⟨hb, v3, rfl, hL3⟩
      obtain ⟨k3, n3, s3, A3, m3, cap3, rfl⟩ := hL3.form
      have B3 := hid (B2.out.trans (hb.mono B2.out.size))
      have S3 := hid (S2.out.below hb)
      obtain ⟨V, hV⟩ : ∃ V : World, u3.alloc (Obj.cells #[.int .i64 k3, .int .i64 n3, .string s3, .slice A3 m3 cap3] 34) = V := ⟨_, rfl⟩
      have bV : Below u3.heap.size u3 V := by rw [← hV]; exact (Below.refl _ _).alloc (Nat.le_refl _) _
      have zV : V.heap.size = u3.heap.size + 1 := by rw [← hV]; simp
      have y0 : V.cell? ⟨u3.heap.size, 0, none⟩ = some (.int .i64 k3) := by rw [← hV]; simp [go_sem]
      have y1 : V.cell? ⟨u3.heap.size, 1, none⟩ = some (.int .i64 n3) := by rw [← hV]; simp [go_sem]
      have y2 : V.cell? ⟨u3.heap.size, 2, none⟩ = some (.string s3) := by rw [← hV]; simp [go_sem]
      have y3 : V.cell? ⟨u3.heap.size, 3, none⟩ = some (.slice A3 m3 cap3) := by rw [← hV]; simp [go_sem]
      have HV := hid hV
      have BV := hid (B3.out.trans (bV.mono B3.out.size))
      have LV := hid (LU.out.below BV.out)
      have L3 := hid (hL3.below bV)
      have SV := hid (S3.out.below (bV.mono hb.size))
      have K2 : Hid (∀ W', Below V.heap.size V W' → ((W'.cell? ⟨w.heap.size, 0, none⟩ = some (.int .i64 k) ∧ W'.cell? ⟨w.heap.size, 1, none⟩ = some (.int .i64 n) ∧ W'.cell? ⟨w.heap.size, 2, none⟩ = some (.string s) ∧ W'.cell? ⟨w.heap.size, 3, none⟩ = some (.slice A m cap)) ∧
          (W'.cell? ⟨u3.heap.size, 0, none⟩ = some (.int .i64 k3) ∧ W'.cell? ⟨u3.heap.size, 1, none⟩ = some (.int .i64 n3) ∧ W'.cell? ⟨u3.heap.size, 2, none⟩ = some (.string s3) ∧ W'.cell? ⟨u3.heap.size, 3, none⟩ = some (.slice A3 m3 cap3)))) := hid fun W' B =>
        ⟨K.out _ (BV.out.trans (B.mono BV.out.size)), (B.cell (p := ⟨u3.heap.size, 0, none⟩) (by simp; omega)).trans y0, (B.cell (p := ⟨u3.heap.size, 1, none⟩) (by simp; omega)).trans y1, (B.cell (p := ⟨u3.heap.size, 2, none⟩) (by simp; omega)).trans y2, (B.cell (p := ⟨u3.heap.size, 3, none⟩) (by simp; omega)).trans y3⟩
      obtain ⟨x0, x1, x2, x3⟩ := K.out _ BV.out
      have z3 : w.heap.size < u3.heap.size := by have := B3.out.size; omega
      have z23 := hb.size
      clear hb hL3 dc hV bV S2 S3 c0 c1 c2 c3
      have f3 : ((L.length : Int) == 0) = false := by simp; intro e; rw [e] at f1; simp at f1
      have f5 : ¬ (L.length : Int) = 0 := by omega
      have f4 : decide ((4000 : Int) < (L.length : Int)) = false := by simp; omega
      go_upto_region 7 with fail
      rw [HV.out]
      go_wp2_with fail
      have eq := equal_any D 8 t u _ _ V LV.out L3.out
      rw [HE.out] at eq
      refine eq.mono ?_
      rintro _ u4 ⟨rfl, hb⟩
      have B4 := hid hb
      clear hb eq x0 x1 x2 x3 y0 y1 y2 y3
      obtain ⟨⟨x0, x1, x2, x3⟩, y0, y1, y2, y3⟩ := K2.out _ B4.out
      go_wp2_with fail
      have sm := same_any D t (.agg #[.int .i64 k, .int .i64 n, .string s, .slice A m cap]) 8 u (.agg #[.int .i64 k3, .int .i64 n3, .string s3, .slice A3 m3 cap3]) u4 (P := fun _ => True) ((LV.out.below B4.out).weak fun _ _ _ => trivial) ((L3.out.below B4.out).weak fun _ _ _ => trivial)
      rw [HA.out] at sm
      refine sm.mono ?_
      rintro _ u5 ⟨rfl, hb⟩
      have B5 := hid (B4.out.trans (hb.mono B4.out.size))
      clear hb sm x0 x1 x2 x3 y0 y1 y2 y3 B4
      obtain ⟨p, rfl⟩ : ∃ p : Nat, q = (p : Int) := ⟨q.toNat, by omega⟩
      have er : ((p : Int).tmod (L.length : Int)) = ((p % L.length : Nat) : Int) := by
        rw [Int.tmod_eq_emod_of_nonneg (by omega)]
        omega
      have hp : p % L.length < L.length := Nat.mod_lt _ (by omega)
      have wt : wrap64 (p : Int) = (p : Int) := by unfold wrap64; omega
      generalize p % L.length = j at er hp
      have sl := fun W => slice_to A2 L.length cap2 j (by omega) W
      have hj := hid hp
      have hc17 := HT.out j hp
      clear q0 q1 hp
      go_wp2_with fail
      have hlen : (L.take j).length = j := by have := hj.out; simp; omega
      have dc := decode_any (L.take j) A2 cap2 (by have := hj.out; omega) u5 (((SV.out.below (B5.out.mono (by omega))).own).take (Nat.le_of_lt hj.out))
      rw [hlen, hc17] at dc
      refine dc.mono ?_
      rintro _ u6 ⟨hb, _, rfl⟩
      have B6 := hid (B5.out.trans (hb.mono B5.out.size))
      clear hb dc sl
      go_wp2_with (go_at_call 11; refine (awake_any _).mono ?_; rintro e u7 ⟨rfl, hb⟩)
      go_ret
      have hb2 : Below u6.heap.size u6 u7 := ((Below.refl _ _).alloc (Nat.le_refl _) _).trans (hb.mono (by simp))
      exact Gives.mk rfl (BU.out.trans ((BV.out.trans ((B6.out.trans (hb2.mono B6.out.size)).mono BV.out.size)).mono (by omega)))
    · have e1 : (r != 0) = true := by simpa using r0
      go_wp2_with fail
      refine (encode_bad D t _ r HC.out r0 _ (LU.out.lift B1.out)).mono ?_
      rintro _ u2 ⟨rfl, hb⟩
      have B2 := hid (B1.out.trans (hb.mono B1.out.size))
      clear hb
      go_wp2_with (go_at_call 11; refine (awake_any _).mono ?_; rintro e w1 ⟨rfl, hb⟩)
      go_ret
      exact Gives.mk rfl (BU.out.trans ((B2.out.mono (by omega)).trans (hb.mono (by have := B2.out.size; omega))))
end Go.Proofs.Ytcjhgihkofmhgaa
