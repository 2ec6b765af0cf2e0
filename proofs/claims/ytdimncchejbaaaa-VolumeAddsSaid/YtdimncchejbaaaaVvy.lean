/-
  Layer 14: VolumeAdds: the walk for every input.
-/
import Derived.Test.YtdimncchejbaaaaVvx
namespace Go.Proofs.Ytdimncchejbaaaa
open Go.RowKit
set_option linter.unusedVariables false
set_option linter.unusedSimpArgs false
/-- A span's box. -/
structure SpanAt (w : World) (g : Nat) (lo hi : Int) : Prop where
  lt : g < w.heap.size
  c0 : w.cell? ⟨g, 0, none⟩ = some (.int .i64 lo)
  c1 : w.cell? ⟨g, 1, none⟩ = some (.int .i64 hi)
theorem SpanAt.below {w w' : World} {g : Nat} {d x : Int} (h : SpanAt w g d x) (hb : Below w.heap.size w w') : SpanAt w' g d x :=
  ⟨Nat.lt_of_lt_of_le h.lt hb.size, (hb.cell (p := ⟨g, 0, none⟩) h.lt).trans h.c0, (hb.cell (p := ⟨g, 1, none⟩) h.lt).trans h.c1⟩
theorem spanAt_new (w : World) (d x : Int) : SpanAt (w.alloc (Obj.cells #[.int .i64 d, .int .i64 x] 32)) w.heap.size d x := ⟨by simp, by simp [go_sem], by simp [go_sem]⟩
/-- The boxes of the law's parameters: a curve, a stem, three heights. -/
structure CU (w W : World) (A : Option Addr) (n cap : Nat) (f : Int) (A' : Option Addr) (n' cap' : Nat) (d x a b c : Int) : Prop where
  bl : Below w.heap.size w W
  cu : CurAt W w.heap.size A n cap f A' n' cap'
  st : StemAt W (w.heap.size + 1) d x
  g0 : W.cell? ⟨w.heap.size + 1 + 1, 0, none⟩ = some (.int .i64 a)
  g1 : W.cell? ⟨w.heap.size + 1 + 1, 1, none⟩ = some (.int .i64 b)
  g2 : W.cell? ⟨w.heap.size + 1 + 1, 2, none⟩ = some (.int .i64 c)
  gl : w.heap.size + 1 + 1 < W.heap.size
theorem CU.new (w : World) (A : Option Addr) (n cap : Nat) (f : Int) (A' : Option Addr) (n' cap' : Nat) (d x a b c : Int) :
    CU w (((w.alloc (.cells #[.slice A n cap, .int .i64 f, .slice A' n' cap'] 24)).alloc (.cells #[.int .i64 d, .int .i64 x] 26)).alloc (.cells #[.int .i64 a, .int .i64 b, .int .i64 c] 50)) A n cap f A' n' cap' d x a b c :=
  ⟨bthen (balloc _ _) (bthen (balloc _ _) (balloc _ _)), (curAt_new w A A' n cap n' cap' f).below (bthen (balloc _ _) (balloc _ _)), by
    have h := (stemAt_new (w.alloc (.cells #[.slice A n cap, .int .i64 f, .slice A' n' cap'] 24)) d x).below (balloc _ (.cells #[.int .i64 a, .int .i64 b, .int .i64 c] 50))
    have e : (w.alloc (.cells #[.slice A n cap, .int .i64 f, .slice A' n' cap'] 24)).heap.size = w.heap.size + 1 := by simp
    rw [e] at h
    exact h, by simp [go_sem], by simp [go_sem], by simp [go_sem], by simp⟩
theorem CU.below {w W W' : World} {A A' : Option Addr} {n cap n' cap' : Nat} {f d x a b c : Int} (h : CU w W A n cap f A' n' cap' d x a b c) (hb : Below W.heap.size W W') : CU w W' A n cap f A' n' cap' d x a b c :=
  ⟨bthen h.bl hb, h.cu.below hb, h.st.below hb, (hb.cell (p := ⟨w.heap.size + 1 + 1, 0, none⟩) h.gl).trans h.g0, (hb.cell (p := ⟨w.heap.size + 1 + 1, 1, none⟩) h.gl).trans h.g1, (hb.cell (p := ⟨w.heap.size + 1 + 1, 2, none⟩) h.gl).trans h.g2, Nat.lt_of_lt_of_le h.gl hb.size⟩
set_option maxRecDepth 100000 in
set_option maxHeartbeats 4000000 in
theorem vadds_any (d x a b c : Int) (d0 : -9223372036854775808 ≤ d) (d1 : d ≤ 9223372036854775807) (x0 : -9223372036854775808 ≤ x) (x1 : x ≤ 9223372036854775807) (a0 : -9223372036854775808 ≤ a) (a1 : a ≤ 9223372036854775807) (b0 : -9223372036854775808 ≤ b) (b1 : b ≤ 9223372036854775807) (c0 : -9223372036854775808 ≤ c) (c1 : c ≤ 9223372036854775807)
    (A A' : Option Addr) (cap cap' : Nat) (h t : List Sp.Pd) (f : Int) (w : World) (bf : -9223372036854775808 ≤ f ∧ f ≤ 9223372036854775807) (hz : PcSized h) (tz : PcSized t) (hT : Pcs w A h) (tT : Pcs w A' t) :
    Calls Try.prog 8 #[.agg #[.slice A h.length cap, .int .i64 f, .slice A' t.length cap'], .agg #[.int .i64 d, .int .i64 x], .agg #[.int .i64 a, .int .i64 b, .int .i64 c]] w (Gives (.bool true) w) := by
  have AW := hid vawake_any
  have VB := CU.new w A h.length cap f A' t.length cap' d x a b c
  generalize hU : ((w.alloc (Obj.cells #[.slice A h.length cap, .int .i64 f, .slice A' t.length cap'] 24)).alloc (.cells #[.int .i64 d, .int .i64 x] 26)).alloc (.cells #[.int .i64 a, .int .i64 b, .int .i64 c] 50) = U at VB
  have FE := hid (r14few_any A A' cap cap' h t f U hz tz (hT.below VB.bl) (tT.below VB.bl))
  generalize (fewS h 3000 && fewS t 3000) = BB at FE
  obtain ⟨⟨lo, hi, e⟩, he⟩ : ∃ z, Sp.secS h f t d x a c = z := ⟨_, rfl⟩
  have SE := hid (fun (u v l1 h1 e1 : Int) (hq : Sp.secS h f t d x u v = (l1, h1, e1)) W (hb : Below w.heap.size w W) => vsec_any A A' cap cap' h t f d x u v l1 h1 e1 W hz tz (hT.below hb) (tT.below hb) hq)
  have HQ := hid he
  have HU := hid hU
  have HV := hid VB
  have k0 := VB.cu.c0
  have k1 := VB.cu.c1
  have k2 := VB.cu.c2
  have kl := VB.cu.lt
  clear hz tz hT tT hU VB he d0 d1 x0 x1 bf
  go_enter Try.func8, Try.ntmps8
  go_upto_region 1 with fail
  rw [HU.out]
  go_wp2_with fail
  refine FE.out.mono ?_
  rintro _ w5 ⟨rfl, hb⟩
  have V5 := hid (HV.out.below hb)
  clear hb k0 k1 k2 kl
  cases BB
  · skip
    go_wp2_with fail
    refine (AW.out _).mono ?_
    rintro _ w20 ⟨rfl, hb⟩
    have B20 := hid hb
    clear hb
    go_wp2_with fail
    go_ret
    exact Gives.mk rfl (bthen V5.out.bl B20.out)
  · skip
    have k0 := V5.out.cu.c0
    have k1 := V5.out.cu.c1
    have k2 := V5.out.cu.c2
    have kl := V5.out.cu.lt
    have s0 := V5.out.st.c0
    have s1 := V5.out.st.c1
    have sl := V5.out.st.lt
    have t0 := V5.out.g0
    have t1 := V5.out.g1
    have t2 := V5.out.g2
    have tl := V5.out.gl
    by_cases g1 : a < 0
    · have f1 : decide (a < 0) = true := decide_eq_true g1
      go_wp2_with fail
      refine (AW.out _).mono ?_
      rintro _ w20 ⟨rfl, hb⟩
      have B20 := hid hb
      clear hb
      go_wp2_with fail
      go_ret
      exact Gives.mk rfl (bthen V5.out.bl B20.out)
    · have f1 : decide (a < 0) = false := decide_eq_false g1
      by_cases g2 : b < a
      · have f2 : decide (b < a) = true := decide_eq_true g2
        go_wp2_with fail
        refine (AW.out _).mono ?_
        rintro _ w20 ⟨rfl, hb⟩
        have B20 := hid hb
        clear hb
        go_wp2_with fail
        go_ret
        exact Gives.mk rfl (bthen V5.out.bl B20.out)
      · have f2 : decide (b < a) = false := decide_eq_false g2
        by_cases g3 : c < b
        · have f3 : decide (c < b) = true := decide_eq_true g3
          go_wp2_with fail
          refine (AW.out _).mono ?_
          rintro _ w20 ⟨rfl, hb⟩
          have B20 := hid hb
          clear hb
          go_wp2_with fail
          go_ret
          exact Gives.mk rfl (bthen V5.out.bl B20.out)
        · have f3 : decide (c < b) = false := decide_eq_false g3
          by_cases g4 : 1000 < c
          · have f4 : decide (1000 < c) = true := decide_eq_true g4
            go_wp2_with fail
            refine (AW.out _).mono ?_
            rintro _ w20 ⟨rfl, hb⟩
            have B20 := hid hb
            clear hb
            go_wp2_with fail
            go_ret
            exact Gives.mk rfl (bthen V5.out.bl B20.out)
          · have f4 : decide (1000 < c) = false := decide_eq_false g4
            have wc : wrap64 (c - a) = c - a := pw64 _ (by omega)
            by_cases g5 : 120 < c - a
            · have f5 : decide (120 < c - a) = true := decide_eq_true g5
              go_wp2_with fail
              refine (AW.out _).mono ?_
              rintro _ w20 ⟨rfl, hb⟩
              have B20 := hid hb
              clear hb
              go_wp2_with fail
              go_ret
              exact Gives.mk rfl (bthen V5.out.bl B20.out)
            · have f5 : decide (120 < c - a) = false := decide_eq_false g5
              have S1 := hid (SE.out a c lo hi e HQ.out w5 V5.out.bl)
              have G := hid (show a ≤ b ∧ b ≤ c ∧ c ≤ 1000 from ⟨by omega, by omega, by omega⟩)
              clear g1 g2 g3 g4 g5 a0 a1 b0 b1 c0 c1
              go_wp2_with fail
              refine S1.out.mono ?_
              rintro _ w6 ⟨rfl, hb⟩
              have V6 := hid (V5.out.below hb)
              have V6a := hid (V6.out.below (balloc w6 (Obj.cells #[.int .i64 lo, .int .i64 hi] 32)))
              clear hb k0 k1 k2 kl s0 s1 sl t0 t1 t2 tl
              by_cases ce : e = 0
              · subst ce
                obtain ⟨lo1, hi1, lo2, hi2, e1, e2, e3, e4, r1, r2, r3, r4, r5, r6⟩ := Sp.sec_adds HQ.out G.out.1 G.out.2.1 G.out.2.2
                have S2 := hid (SE.out a b lo1 hi1 0 e1)
                have S3 := hid (SE.out b c lo2 hi2 0 e2)
                have AD := hid (fun W => iadd_any lo1 hi1 lo2 hi2 _ _ _ e3 W)
                have WI := hid (fun W => iwithin_any lo hi (lo1 + lo2) (hi1 + hi2) W)
                rw [e4] at WI
                obtain ⟨sl1, hs1⟩ : ∃ z, lo1 + lo2 = z := ⟨_, rfl⟩
                obtain ⟨sh1, hs2⟩ : ∃ z, hi1 + hi2 = z := ⟨_, rfl⟩
                rw [hs1] at AD WI r1
                rw [hs2] at AD WI r2
                have wl : wrap64 (lo - 1) = lo - 1 := pw64 _ (by omega)
                have wh : wrap64 (hi + 1) = hi + 1 := pw64 _ (by omega)
                have f6 : decide (lo - 1 ≤ sl1) = true := decide_eq_true r1
                have f7 : decide (sh1 ≤ hi + 1) = true := decide_eq_true r2
                clear e1 e2 e3 e4 r1 r2 r3 r4 r5 r6 hs1 hs2 HQ S1 f1 f2 f3 f4 f5 wc
                have k0 := V6.out.cu.c0
                have k1 := V6.out.cu.c1
                have k2 := V6.out.cu.c2
                have kl := V6.out.cu.lt
                have s0 := V6.out.st.c0
                have s1 := V6.out.st.c1
                have sl := V6.out.st.lt
                have t0 := V6.out.g0
                have t1 := V6.out.g1
                have t2 := V6.out.g2
                have tl := V6.out.gl
                have n1 : ¬ w.heap.size = w6.heap.size := by omega
                have n2 : ¬ w.heap.size + 1 = w6.heap.size := by omega
                have n3 : ¬ w.heap.size + 1 + 1 = w6.heap.size := by omega
                go_wp2_with fail
                refine (S2.out _ V6a.out.bl).mono ?_
                rintro _ w7 ⟨rfl, hb⟩
                have A7 := hid ((spanAt_new w6 lo hi).below hb)
                have V7 := hid (V6a.out.below hb)
                have V7a := hid (V7.out.below (balloc w7 (Obj.cells #[.int .i64 lo1, .int .i64 hi1] 32)))
                have A7a := hid (A7.out.below (balloc w7 (Obj.cells #[.int .i64 lo1, .int .i64 hi1] 32)))
                clear hb k0 k1 k2 kl s0 s1 sl t0 t1 t2 tl n1 n2 n3
                have k0 := V7.out.cu.c0
                have k1 := V7.out.cu.c1
                have k2 := V7.out.cu.c2
                have kl := V7.out.cu.lt
                have s0 := V7.out.st.c0
                have s1 := V7.out.st.c1
                have sl := V7.out.st.lt
                have t0 := V7.out.g0
                have t1 := V7.out.g1
                have t2 := V7.out.g2
                have tl := V7.out.gl
                have n1 : ¬ w.heap.size = w7.heap.size := by omega
                have n2 : ¬ w.heap.size + 1 = w7.heap.size := by omega
                have n3 : ¬ w.heap.size + 1 + 1 = w7.heap.size := by omega
                go_wp2_with fail
                refine (S3.out _ V7a.out.bl).mono ?_
                rintro _ w8 ⟨rfl, hb⟩
                have A8 := hid (A7a.out.below hb)
                have B8 := hid ((spanAt_new w7 lo1 hi1).below hb)
                have V8 := hid (V7a.out.below hb)
                have V8a := hid (V8.out.bl)
                have T8 := hid (balloc w8 (Obj.cells #[.int .i64 lo2, .int .i64 hi2] 32))
                clear hb k0 k1 k2 kl s0 s1 sl t0 t1 t2 tl n1 n2 n3
                have b0 := B8.out.c0
                have b1 := B8.out.c1
                have bl := B8.out.lt
                have bn : ¬ w7.heap.size = w8.heap.size := by omega
                go_wp2_with fail
                refine (AD.out _).mono ?_
                rintro _ w9 ⟨rfl, hb⟩
                have A9 := hid ((A8.out.below T8.out).below hb)
                have T9 := hid (bthen V8a.out (bthen T8.out hb))
                clear hb b0 b1 bl bn
                have a0 := A9.out.c0
                have a1 := A9.out.c1
                have al := A9.out.lt
                have an : ¬ w6.heap.size = w9.heap.size := by omega
                go_wp2_with fail
                refine (WI.out _).mono ?_
                rintro _ w10 ⟨rfl, hb⟩
                have A10 := hid ((A9.out.below (balloc w9 (Obj.cells #[.int .i64 sl1, .int .i64 sh1] 32))).below hb)
                have B10 := hid ((spanAt_new w9 sl1 sh1).below hb)
                have T10 := hid (bthen T9.out (bthen (balloc w9 (Obj.cells #[.int .i64 sl1, .int .i64 sh1] 32)) hb))
                clear hb a0 a1 al an
                have a0 := A10.out.c0
                have a1 := A10.out.c1
                have al := A10.out.lt
                have b0 := B10.out.c0
                have b1 := B10.out.c1
                have bl := B10.out.lt
                go_wp2_with fail
                refine (AW.out _).mono ?_
                rintro _ w20 ⟨rfl, hb⟩
                have B20 := hid hb
                clear hb
                go_wp2_with fail
                go_ret
                exact Gives.mk rfl (bthen T10.out B20.out)
              · have hn : (e == 0) = false := by simpa using ce
                go_wp2_with fail
                refine (AW.out _).mono ?_
                rintro _ w20 ⟨rfl, hb⟩
                have B20 := hid hb
                clear hb
                go_wp2_with fail
                go_ret
                exact Gives.mk rfl (bthen V6a.out.bl B20.out)
end Go.Proofs.Ytdimncchejbaaaa
