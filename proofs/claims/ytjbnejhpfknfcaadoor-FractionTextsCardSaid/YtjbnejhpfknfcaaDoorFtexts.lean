/-
  FractionTexts: the walk, and put together.
-/
import Derived.Test.YtjbnejhpfknfcaaDoorFlaw0
import Derived.Test.YtjbnejhpfknfcaaDoorFtxa
import Derived.Test.YtjbnejhpfknfcaaDoorFtxt
import Derived.Test.YtjbnejhpfknfcaaDoorFawake
namespace Go.Proofs.YtjbnejhpfknfcaaDoor
open Go.RowKit
set_option linter.unusedVariables false
set_option linter.unusedSimpArgs false
set_option maxRecDepth 100000 in
set_option maxHeartbeats 2000000 in
theorem ftexts_big (n d : Int) (t : ByteArray) (m : Nat) (hm : t.size = m) (hz : 100 < m) (w : World)
    (aw : ∀ W, Below w.heap.size w W → Calls Tryd.prog 11 #[] W (Gives (.bool true) W)) :
    Calls Tryd.prog 6 #[.agg #[.int .i64 n, .int .i64 d], .string t] w (Gives (.bool true) w) := by
  have hz' : decide (100 < (m : Int)) = true := by simp; omega
  go_enter Tryd.func6, Tryd.ntmps6
  go_wp2_with fail
  refine (aw _ (by repeat' (first | (with_reducible exact Below.refl _ _) | (with_reducible refine Below.alloc ?_ ?_ _) | (with_reducible refine Below.setCell ?_ ?_ _) | (with_reducible refine Below.drew ?_) | (with_reducible refine Below.trans ?_ (Below.mono (by assumption) ?_)) | (simp; done) | (simp; omega) | omega))).mono ?_; rintro _ u1 ⟨rfl, hb⟩
  have BN : Below w.heap.size w u1 := by repeat' (first | (with_reducible exact Below.refl _ _) | (with_reducible refine Below.alloc ?_ ?_ _) | (with_reducible refine Below.setCell ?_ ?_ _) | (with_reducible refine Below.drew ?_) | (with_reducible refine Below.trans ?_ (Below.mono (by assumption) ?_)) | (simp; done) | (simp; omega) | omega)
  clear hb
  go_wp2_with fail
  refine (aw _ BN).mono ?_; rintro _ u2 ⟨rfl, hb⟩
  have BN2 : Below w.heap.size w u2 := BN.trans (hb.mono BN.size)
  clear hb BN
  go_wp2_with fail
  go_ret
  exact Gives.mk rfl BN2
set_option maxRecDepth 100000 in
set_option maxHeartbeats 4000000 in
theorem ftexts_walk (n d lo hi g x y j e : Int) (t T : ByteArray) (m : Nat) (hm : t.size = m) (hz : m ≤ 100) (w : World)
    (aw : ∀ W, Below w.heap.size w W → Calls Tryd.prog 11 #[] W (Gives (.bool true) W))
    (tx1 : ∀ W, Below w.heap.size w W → Calls Tryd.prog 37 #[.agg #[.int .i64 n, .int .i64 d]] W (Gives (.tuple #[.string T, .int .i64 e]) W))
    (tx2 : ∀ W, Below w.heap.size w W → Calls Tryd.prog 38 #[.agg #[.int .i64 n, .int .i64 d]] W (Gives (.tuple #[.string T, .int .i64 e]) W))
    (p1 : ∀ w : World, Calls Tryd.prog 39 #[.string t] w (Gives (.tuple #[.agg #[.int .i64 lo, .int .i64 hi], .int .i64 g]) w)) (p2 : ∀ w : World, Calls Tryd.prog 40 #[.string t] w (Gives (.tuple #[.agg #[.int .i64 lo, .int .i64 hi], .int .i64 g]) w))
    (p3 : ∀ w : World, Calls Tryd.prog 39 #[.string T] w (Gives (.tuple #[.agg #[.int .i64 x, .int .i64 y], .int .i64 j]) w))
    (sm1 : ∀ w : World, Calls Tryd.prog 16 #[.agg #[.int .i64 lo, .int .i64 hi], .agg #[.int .i64 lo, .int .i64 hi]] w (Gives (.bool true) w)) (sm2 : ∀ w : World, Calls Tryd.prog 16 #[.agg #[.int .i64 n, .int .i64 d], .agg #[.int .i64 n, .int .i64 d]] w (Gives (.bool true) w))
    (hback : ¬ e = 0 ∨ (e = 0 ∧ j = 0 ∧ x = n ∧ y = d)) :
    Calls Tryd.prog 6 #[.agg #[.int .i64 n, .int .i64 d], .string t] w (Gives (.bool true) w) := by
  have hz' : decide (100 < (m : Int)) = false := by simp; omega
  go_enter Tryd.func6, Tryd.ntmps6
  go_wp2_with fail
  refine (aw _ (by repeat' (first | (with_reducible exact Below.refl _ _) | (with_reducible refine Below.alloc ?_ ?_ _) | (with_reducible refine Below.setCell ?_ ?_ _) | (with_reducible refine Below.drew ?_) | (with_reducible refine Below.trans ?_ (Below.mono (by assumption) ?_)) | (simp; done) | (simp; omega) | omega))).mono ?_; rintro _ u1 ⟨rfl, hb⟩
  have BN : Below w.heap.size w u1 := by repeat' (first | (with_reducible exact Below.refl _ _) | (with_reducible refine Below.alloc ?_ ?_ _) | (with_reducible refine Below.setCell ?_ ?_ _) | (with_reducible refine Below.drew ?_) | (with_reducible refine Below.trans ?_ (Below.mono (by assumption) ?_)) | (simp; done) | (simp; omega) | omega)
  have pz : w.heap.size < (u1).heap.size := Nat.lt_of_lt_of_le (show w.heap.size < _ from (by first | assumption | (simp; done) | (simp; omega) | (dsimp only; omega) | omega)) hb.size; have p0 : (u1).cell? ⟨w.heap.size, 0, none⟩ = some (.int .i64 n) := (hb.cell (p := ⟨w.heap.size, 0, none⟩) (by first | assumption | (simp; done) | (simp; omega) | (dsimp only; omega) | omega)).trans (by first | assumption | (simp [go_sem]; done) | (simp [go_sem, *]; done)); have p1 : (u1).cell? ⟨w.heap.size, 1, none⟩ = some (.int .i64 d) := (hb.cell (p := ⟨w.heap.size, 1, none⟩) (by first | assumption | (simp; done) | (simp; omega) | (dsimp only; omega) | omega)).trans (by first | assumption | (simp [go_sem]; done) | (simp [go_sem, *]; done)); have pf : ∀ o, (u1).frozen? ⟨w.heap.size, o, none⟩ = false := fun o => (hb.frozen (p := ⟨w.heap.size, o, none⟩) (by first | assumption | (simp; done) | (simp; omega) | (dsimp only; omega) | omega)).trans (by first | (simp [go_sem]; done) | (simp [*]; done))
  have Ff : FB w.heap.size n d u1 := ⟨pz, p0, p1⟩
  clear pz p0 p1 pf
  have B0W := hid BN
  clear hb aw BN
  have f_0 := Ff.2.1
  have f_1 := Ff.2.2
  go_upto_region 4 with (go_at_call 37; (with_reducible refine (tx1 _ B0W.out).mono ?_); rintro _ u2 ⟨rfl, hb⟩)
  clear f_0 f_1
  replace Ff := Ff.below hb
  have B1W := hid (B0W.out.trans (hb.mono B0W.out.size))
  clear hb B0W u1
  have f_0 := Ff.2.1
  have f_1 := Ff.2.2
  go_upto_region 5 with (go_at_call 38; (with_reducible refine (tx2 _ B1W.out).mono ?_); rintro _ u3 ⟨rfl, hb⟩)
  clear f_0 f_1
  replace Ff := Ff.below hb
  have B2W := hid (B1W.out.trans (hb.mono B1W.out.size))
  clear hb B1W u2
  go_upto_region 6 with (go_at_call 39; (with_reducible refine (p1 _).mono ?_); rintro _ u ⟨rfl, hb⟩)
  have Fa : FB u.heap.size lo hi (u.alloc (Obj.cells #[.int .i64 lo, .int .i64 hi] 23)) := ⟨by simp, by simp [go_sem], by simp [go_sem]⟩
  have BW : Below u3.heap.size u3 (u.alloc (Obj.cells #[.int .i64 lo, .int .i64 hi] 23)) := Below.alloc hb hb.size _
  clear hb
  replace Ff := Ff.below BW
  have B3W := hid (B2W.out.trans (BW.mono B2W.out.size))
  clear BW B2W
  generalize (u.alloc (Obj.cells #[.int .i64 lo, .int .i64 hi] 23)) = v3 at Fa Ff B3W ⊢
  generalize u.heap.size = ka at Fa ⊢
  clear u u3
  go_upto_region 7 with (go_at_call 40; (with_reducible refine (p2 _).mono ?_); rintro _ u ⟨rfl, hb⟩)
  have Fb : FB u.heap.size lo hi (u.alloc (Obj.cells #[.int .i64 lo, .int .i64 hi] 23)) := ⟨by simp, by simp [go_sem], by simp [go_sem]⟩
  have BW : Below v3.heap.size v3 (u.alloc (Obj.cells #[.int .i64 lo, .int .i64 hi] 23)) := Below.alloc hb hb.size _
  clear hb
  replace Ff := Ff.below BW
  replace Fa := Fa.below BW
  have B4W := hid (B3W.out.trans (BW.mono B3W.out.size))
  clear BW B3W
  generalize (u.alloc (Obj.cells #[.int .i64 lo, .int .i64 hi] 23)) = v4 at Fa Fb Ff B4W ⊢
  generalize u.heap.size = kb at Fb ⊢
  clear u v3
  have a_0 := Fa.2.1
  have a_1 := Fa.2.2
  have b_0 := Fb.2.1
  have b_1 := Fb.2.2
  go_upto_region 9 with (go_at_call 16; (with_reducible refine (sm1 _).mono ?_); rintro _ u ⟨rfl, hb⟩)
  replace Ff := Ff.below hb
  have B5W := hid (B4W.out.trans (hb.mono B4W.out.size))
  clear hb B4W a_0 a_1 b_0 b_1 Fa Fb v4
  go_upto_region 10 with (go_at_call 39; (with_reducible refine (p3 _).mono ?_); rintro _ v ⟨rfl, hb⟩)
  have Fc : FB v.heap.size x y (v.alloc (Obj.cells #[.int .i64 x, .int .i64 y] 23)) := ⟨by simp, by simp [go_sem], by simp [go_sem]⟩
  have BW : Below u.heap.size u (v.alloc (Obj.cells #[.int .i64 x, .int .i64 y] 23)) := Below.alloc hb hb.size _
  clear hb
  replace Ff := Ff.below BW
  have B6W := hid (B5W.out.trans (BW.mono B5W.out.size))
  clear BW B5W
  generalize (v.alloc (Obj.cells #[.int .i64 x, .int .i64 y] 23)) = v6 at Fc Ff B6W ⊢
  generalize v.heap.size = kc at Fc ⊢
  clear v u
  have f_0 := Ff.2.1
  have f_1 := Ff.2.2
  have c_0 := Fc.2.1
  have c_1 := Fc.2.2
  rcases hback with he | ⟨rfl, rfl, rfl, rfl⟩
  · have hb1 : (e != 0) = true := by simpa using he
    clear he
    go_wp2_with fail
    go_ret
    exact Gives.mk rfl B6W.out
  · go_wp2_with (go_at_call 16; (with_reducible refine (sm2 _).mono ?_); rintro _ u ⟨rfl, hb⟩; have BY := hid (B6W.out.trans (hb.mono B6W.out.size)); clear hb)
    go_ret
    exact Gives.mk rfl BY.out
theorem ftexts_as (n d : Int) (n0 : -9223372036854775808 ≤ n) (n1 : n ≤ 9223372036854775807) (d0 : -9223372036854775808 ≤ d) (d1 : d ≤ 9223372036854775807) (t : ByteArray) (w : World) (ht : Lib.TabIs Tryd.prog w "internal/strconv.uint64pow10" .u64 Lib.pow10Tab) :
    Calls Tryd.prog 6 #[.agg #[.int .i64 n, .int .i64 d], .string t] w (Gives (.bool true) w) := by
  by_cases hb : 100 < t.size
  · exact ftexts_big n d t t.size rfl hb w (fun W h => fawake_any W (tab_below gPow ht h))
  · have hs : t.data.toList.length ≤ 1000 := by rw [← Lib.size_eq]; omega
    obtain ⟨⟨lo, hi, g⟩, hp⟩ : ∃ p, Sp.parseS t.data.toList = p := ⟨_, rfl⟩
    obtain ⟨⟨x, y, j⟩, hq⟩ : ∃ p, Sp.parseS (Sp.textS n d).1 = p := ⟨_, rfl⟩
    have el := toList_mk (Sp.textS n d).1
    have hT : (Sp.textS n d).1.length ≤ 1000 := by
      have h1 := itoa_size n n0 n1
      have h2 := itoa_size d d0 d1
      rw [Lib.size_eq, toList_mk] at h1 h2
      unfold Sp.textS
      split
      · simp
      · split
        · exact h1
        · have a := itoa_len n n0 n1
          have b := itoa_len d d0 d1
          simp only [List.length_append, List.length_singleton]
          omega
    have hback : ¬ (Sp.textS n d).2 = 0 ∨ ((Sp.textS n d).2 = 0 ∧ j = 0 ∧ x = n ∧ y = d) := by
      by_cases c : Sp.fchk n d = 0
      · have h := Sp.text_back c
        rw [hq] at h
        simp only [Prod.mk.injEq] at h
        refine .inr ⟨?_, h.2.2, h.1, h.2.1⟩
        unfold Sp.textS
        rw [if_neg (by omega)]
        split <;> rfl
      · refine .inl ?_
        unfold Sp.textS
        rw [if_pos c]
        exact c
    exact ftexts_walk n d lo hi g x y j (Sp.textS n d).2 t ⟨(Sp.textS n d).1.toArray⟩ t.size rfl (by omega) w (fun W h => fawake_any W (tab_below gPow ht h))
      (fun W h => ftext_any n d n0 n1 d0 d1 W (tab_below gPow ht h)) (fun W h => rtext_any n d n0 n1 d0 d1 W (tab_below gPow ht h))
      (fun w => fparse_any t hs lo hi g hp w) (fun w => rparse_any t hs lo hi g hp w) (fun w => fparse_any _ (by rw [el]; exact hT) x y j (by rw [el]; exact hq) w)
      (fun w => rsame_true lo hi w) (fun w => rsame_true n d w) hback
end Go.Proofs.YtjbnejhpfknfcaaDoor
