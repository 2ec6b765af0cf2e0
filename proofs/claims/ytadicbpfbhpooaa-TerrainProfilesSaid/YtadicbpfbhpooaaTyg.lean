/-
  Layer 15: Profile of couperef15, by contract.
-/
import Derived.Test.YtadicbpfbhpooaaTyf
import Derived.Test.YtadicbpfbhpooaaTp
namespace Go.Proofs.Ytadicbpfbhpooaa
open Go.RowKit
set_option linter.unusedVariables false
set_option linter.unusedSimpArgs false
set_option maxRecDepth 100000 in
set_option maxHeartbeats 4000000 in
theorem rpro_walk (A : Option Addr) (cap : Nat) (c r k : Int) (z : List Int) (fx fy tx ty s : Int) (E0 E : Int) (O1 O2 : Bool) (X Y mx my ax ay : Int) (N : Nat) (g : Int → Int × Int) (w : World)
    (hX : tx - fx = X) (hY : ty - fy = Y) (hmx : X.tmod s = mx) (hmy : Y.tmod s = my) (hax : X.tdiv s = ax) (hay : Y.tdiv s = ay) (hN : (s + 1).toNat = N)
    (hE : (if E0 ≠ 0 then E0 else if O1 = false then 2 else if O2 = false then 2 else if s < 1 then 2 else if 64 < s then 2 else if ¬ (mx = 0 ∧ my = 0) then 1 else 0) = E)
    (PB : E0 = 0 → O1 = true → O2 = true → (0 ≤ fx ∧ fx ≤ 100000) ∧ (0 ≤ fy ∧ fy ≤ 100000) ∧ (0 ≤ tx ∧ tx ≤ 100000) ∧ (0 ≤ ty ∧ ty ≤ 100000))
    (CK : ∀ W, Below w.heap.size w W → Calls Try.prog 16 #[.agg #[.int .i64 c, .int .i64 r, .int .i64 k, .slice A z.length cap]] W (Gives (.int .i64 E0) W))
    (C1 : E0 = 0 → ∀ W, Calls Try.prog 43 #[.agg #[.int .i64 c, .int .i64 r, .int .i64 k, .slice A z.length cap], .agg #[.int .i64 fx, .int .i64 fy]] W (Gives (.bool O1) W))
    (C2 : E0 = 0 → ∀ W, Calls Try.prog 43 #[.agg #[.int .i64 c, .int .i64 r, .int .i64 k, .slice A z.length cap], .agg #[.int .i64 tx, .int .i64 ty]] W (Gives (.bool O2) W))
    (HG : E0 = 0 → O1 = true → O2 = true → 1 ≤ s → mx = 0 → my = 0 → ∀ j : Int, 0 ≤ j → j ≤ s → (0 ≤ fx + ax * j ∧ fx + ax * j ≤ 100000) ∧ (0 ≤ fy + ay * j ∧ fy + ay * j ≤ 100000) ∧ ∀ W, Below w.heap.size w W → Calls Try.prog 44 #[.agg #[.int .i64 c, .int .i64 r, .int .i64 k, .slice A z.length cap], .agg #[.int .i64 (fx + ax * j), .int .i64 (fy + ay * j)]] W (Gives (.agg #[.int .i64 (g j).1, .int .i64 (g j).2]) W)) :
    Calls Try.prog 18 #[.agg #[.int .i64 c, .int .i64 r, .int .i64 k, .slice A z.length cap], .agg #[.int .i64 fx, .int .i64 fy], .agg #[.int .i64 tx, .int .i64 ty], .int .i64 s] w (FlPost w E (Sp.tabF g N)) := by
  obtain ⟨U, hU⟩ : ∃ U, ((w.alloc (Obj.cells #[.int .i64 c, .int .i64 r, .int .i64 k, .slice A z.length cap] 24)).alloc (Obj.cells #[.int .i64 (fx), .int .i64 (fy)] 26)).alloc (Obj.cells #[.int .i64 (tx), .int .i64 (ty)] 26) = U := ⟨_, rfl⟩
  have T0 : TrAt U w.heap.size c r k A z.length cap := by rw [← hU]; exact (trAt_new w c r k A z.length cap).below (bthen (balloc _ _) (balloc _ _))
  have b0 : Below w.heap.size w U := by rw [← hU]; exact bthen (balloc _ _) (bthen (balloc _ _) (balloc _ _))
  have p0 : U.cell? ⟨w.heap.size + 1, 0, none⟩ = some (.int .i64 fx) := by rw [← hU]; simp [go_sem]
  have p1 : U.cell? ⟨w.heap.size + 1, 1, none⟩ = some (.int .i64 fy) := by rw [← hU]; simp [go_sem]
  have r0 : U.cell? ⟨w.heap.size + 1 + 1, 0, none⟩ = some (.int .i64 tx) := by rw [← hU]; simp [go_sem]
  have r1 : U.cell? ⟨w.heap.size + 1 + 1, 1, none⟩ = some (.int .i64 ty) := by rw [← hU]; simp [go_sem]
  have rz : w.heap.size + 1 + 1 < U.heap.size := by rw [← hU]; simp
  have pz : w.heap.size + 1 < U.heap.size := Nat.lt_of_succ_lt rz
  have KK := hid (fun (W : World) (hb : Below U.heap.size U W) => (⟨bthen b0 hb, T0.below hb, (hb.cell (p := ⟨w.heap.size + 1, 0, none⟩) pz).trans p0, (hb.cell (p := ⟨w.heap.size + 1, 1, none⟩) pz).trans p1, (hb.cell (p := ⟨w.heap.size + 1 + 1, 0, none⟩) rz).trans r0, (hb.cell (p := ⟨w.heap.size + 1 + 1, 1, none⟩) rz).trans r1, Nat.lt_of_lt_of_le rz hb.size, hb.size⟩ : Below w.heap.size w W ∧ TrAt W w.heap.size c r k A z.length cap ∧ W.cell? ⟨w.heap.size + 1, 0, none⟩ = some (.int .i64 fx) ∧ W.cell? ⟨w.heap.size + 1, 1, none⟩ = some (.int .i64 fy) ∧ W.cell? ⟨w.heap.size + 1 + 1, 0, none⟩ = some (.int .i64 tx) ∧ W.cell? ⟨w.heap.size + 1 + 1, 1, none⟩ = some (.int .i64 ty) ∧ w.heap.size + 1 + 1 < W.heap.size ∧ U.heap.size ≤ W.heap.size))
  have CK1 := hid (CK U b0)
  have HC1 := hid C1
  have HC2 := hid C2
  have HU := hid hU
  have HE := hid hE
  have HGG := hid HG
  have HPB := hid PB
  have HN := hid hN
  have HAX := hid hax
  have HAY := hid hay
  have HMX := hid hmx
  have HMY := hid hmy
  have HX := hid hX
  have HY := hid hY
  have c0 := T0.c0
  have c1 := T0.c1
  have c2 := T0.c2
  have c3 := T0.c3
  have cl := T0.lt
  clear CK C1 C2 HG PB hU T0 b0 hE hN hax hay hmx hmy hX hY
  go_enter Try.func18, Try.ntmps18
  go_upto_region 1 with fail
  rw [HU.out]
  go_wp2_with fail
  refine CK1.out.mono ?_
  rintro _ w5 ⟨rfl, hb⟩
  have B5 := hid hb
  clear hb c0 c1 c2 c3 cl p0 p1 r0 r1 rz pz
  by_cases cE : E0 = 0
  · subst cE
    have CO1 := hid (HC1.out (by first | rfl | trivial))
    have CO2 := hid (HC2.out (by first | rfl | trivial))
    obtain ⟨kb, kt, p0, p1, r0, r1, rz, -⟩ := KK.out _ B5.out
    have pz : w.heap.size + 1 < w5.heap.size := Nat.lt_of_succ_lt rz
    have c0 := kt.c0
    have c1 := kt.c1
    have c2 := kt.c2
    have c3 := kt.c3
    have cl := kt.lt
    clear kb kt r0 r1 HC1 HC2
    go_wp2_with fail
    refine (CO1.out _).mono ?_
    rintro _ w6 ⟨rfl, hb⟩
    have B6 := hid (bthen B5.out hb)
    clear hb c0 c1 c2 c3 cl p0 p1 rz pz
    cases O1
    · have hn := HE.out
      simp at hn
      subst hn
      obtain ⟨kb, -⟩ := KK.out _ B6.out
      have KB := hid kb
      clear kb HGG KK HPB
      go_wp2_with fail
      refine bodyPost_ret (v := .tuple #[.slice none 0 0, .int .i64 2]) (by simp [results, Try.results18, go_sem]) rfl ?_
      exact ⟨KB.out, .inl ⟨by decide, rfl⟩⟩
    obtain ⟨kb, kt, p0, p1, r0, r1, rz, -⟩ := KK.out _ B6.out
    have pz : w.heap.size + 1 < w6.heap.size := Nat.lt_of_succ_lt rz
    have c0 := kt.c0
    have c1 := kt.c1
    have c2 := kt.c2
    have c3 := kt.c3
    have cl := kt.lt
    clear kb kt p0 p1
    go_wp2_with fail
    refine (CO2.out _).mono ?_
    rintro _ w7 ⟨rfl, hb⟩
    have B7 := hid (bthen B6.out hb)
    clear hb c0 c1 c2 c3 cl r0 r1 rz pz
    cases O2
    · have hn := HE.out
      simp at hn
      subst hn
      obtain ⟨kb, -⟩ := KK.out _ B7.out
      have KB := hid kb
      clear kb HGG KK HPB
      go_wp2_with fail
      refine bodyPost_ret (v := .tuple #[.slice none 0 0, .int .i64 2]) (by simp [results, Try.results18, go_sem]) rfl ?_
      exact ⟨KB.out, .inl ⟨by decide, rfl⟩⟩
    by_cases l1 : s < 1
    · have d1 : decide (s < 1) = true := decide_eq_true l1
      have hn := HE.out
      simp [l1] at hn
      subst hn
      obtain ⟨kb, -⟩ := KK.out _ B7.out
      have KB := hid kb
      clear kb HGG KK HPB l1
      go_wp2_with fail
      refine bodyPost_ret (v := .tuple #[.slice none 0 0, .int .i64 2]) (by simp [results, Try.results18, go_sem]) rfl ?_
      exact ⟨KB.out, .inl ⟨by decide, rfl⟩⟩
    have d1 : decide (s < 1) = false := decide_eq_false l1
    by_cases l2 : 64 < s
    · have d2 : decide (64 < s) = true := decide_eq_true l2
      have hn := HE.out
      simp [l1, l2] at hn
      subst hn
      obtain ⟨kb, -⟩ := KK.out _ B7.out
      have KB := hid kb
      clear kb HGG KK HPB l1 l2
      go_wp2_with fail
      refine bodyPost_ret (v := .tuple #[.slice none 0 0, .int .i64 2]) (by simp [results, Try.results18, go_sem]) rfl ?_
      exact ⟨KB.out, .inl ⟨by decide, rfl⟩⟩
    · have d2 : decide (64 < s) = false := decide_eq_false l2
      have HE2 := hid (show (if ¬ (mx = 0 ∧ my = 0) then 1 else 0) = E by have hn := HE.out; rw [if_neg (by decide), if_neg (by decide), if_neg (by decide), if_neg l1, if_neg l2] at hn; exact hn)
      obtain ⟨⟨fx0, fx1⟩, ⟨fy0, fy1⟩, ⟨tx0, tx1⟩, ty0, ty1⟩ := HPB.out (by first | rfl | trivial) (by first | rfl | trivial) (by first | rfl | trivial)
      have XB := hid (show -100000 ≤ X ∧ X ≤ 100000 by rw [← HX.out]; omega)
      have YB := hid (show -100000 ≤ Y ∧ Y ≤ 100000 by rw [← HY.out]; omega)
      have FX := hid (And.intro fx0 fx1)
      have FY := hid (And.intro fy0 fy1)
      have HS := hid (show 1 ≤ s ∧ s ≤ 64 by omega)
      have sz : ¬ s = 0 := by omega
      have sy : (s == 0) = false := by simp; omega
      have yx : wrap64 X = X := pw64 _ (by have := XB.out; omega)
      have yy : wrap64 Y = Y := pw64 _ (by have := YB.out; omega)
      have vx : IntKind.i64.wrap X = X := pi64 _ (by have := XB.out; omega)
      have vy : IntKind.i64.wrap Y = Y := pi64 _ (by have := YB.out; omega)
      have hx := HX.out
      have hy := HY.out
      obtain ⟨kb, kt, p0, p1, r0, r1, rz, -⟩ := KK.out _ B7.out
      have pz : w.heap.size + 1 < w7.heap.size := Nat.lt_of_succ_lt rz
      clear kb kt fx0 fx1 fy0 fy1 tx0 tx1 ty0 ty1 HPB HE l1 l2
      have mxb : -100000 ≤ mx ∧ mx ≤ 100000 := by
        rw [← HMX.out]
        exact Sp.tmod_b HS.out
      have myb : -100000 ≤ my ∧ my ≤ 100000 := by
        rw [← HMY.out]
        exact Sp.tmod_b HS.out
      have hmx := HMX.out
      have hmy := HMY.out
      have zx : IntKind.i64.wrap mx = mx := pi64 _ (by omega)
      have zy : IntKind.i64.wrap my = my := pi64 _ (by omega)
      clear mxb myb
      by_cases m1 : mx = 0
      · by_cases m2 : my = 0
        · have f1 : (mx == 0) = true := by simpa using m1
          have f1b : (mx != 0) = false := by rw [bne, f1]; rfl
          have f2 : (my == 0) = true := by simpa using m2
          have f2b : (my != 0) = false := by rw [bne, f2]; rfl
          have hn := HE2.out
          rw [if_neg (fun q => q ⟨m1, m2⟩)] at hn
          have HE3 := hid hn
          have HG2 := hid (HGG.out (by first | rfl | trivial) (by first | rfl | trivial) (by first | rfl | trivial) HS.out.1 m1 m2)
          have NB := hid (show (N : Int) = s + 1 by rw [← HN.out]; have := HS.out; omega)
          have ws : wrap64 (s + 1) = s + 1 := pw64 _ (by have := HS.out; omega)
          have axb := hid (show -100000 ≤ ax ∧ ax ≤ 100000 by rw [← HAX.out]; exact Sp.tdiv_b HS.out XB.out)
          have ayb := hid (show -100000 ≤ ay ∧ ay ≤ 100000 by rw [← HAY.out]; exact Sp.tdiv_b HS.out YB.out)
          clear hn HE2 HGG m1 m2
          go_wp2_with fail
          clear p0 p1 r0 r1 rz pz
          go_loopw [12, 11] (fun t u wr => ∃ j : Nat, t = .int .i64 (j : Int) ∧ j ≤ N ∧ OwnF wr U.heap.size u (Sp.tabF g j) ∧ Below U.heap.size U wr) (fun t _ _ => (s + 1 - intOf t).toNat)
          case atStart => exact ⟨0, rfl, Nat.zero_le _, OwnF.nil _ _, B7.out⟩
          case round =>
            obtain ⟨j, rfl, hj, hO, hB⟩ := hrel
            have HO := hid hO
            have HBB := hid hB
            obtain ⟨A1, q1, e1, -, -⟩ := hO.form
            subst e1
            clear hO hB hmx hmy zx zy f1 f2 f1b f2b sy ws d1 d2
            by_cases hlt : (j : Int) < s + 1
            · obtain ⟨g1, g2, g3⟩ := HG2.out (j : Int) (Int.natCast_nonneg j) (by omega)
              have h1 := FX.out
              have h2 := FY.out
              have hax := HAX.out
              have hay := HAY.out
              have s1 := HS.out
              have a1 := axb.out
              have a2 := ayb.out
              obtain ⟨P, hP⟩ : ∃ P, ax * (j : Int) = P := ⟨_, rfl⟩
              obtain ⟨Q, hQ⟩ : ∃ Q, ay * (j : Int) = Q := ⟨_, rfl⟩
              rw [hP] at g1
              rw [hQ] at g2
              simp only [hP, hQ] at g3
              have EQ := hid (show (j : Int) + 1 = ((j + 1 : Nat) : Int) by rw [Int.natCast_add]; rfl)
              have HJ := hid (show j + 1 ≤ N by have := NB.out; omega)
              have HM := hid (pmeas2 (s + 1) j hlt)
              have ll : Hid ((Sp.tabF g j).length ≤ 4000) := hid (by rw [Sp.tabF_len]; have := HS.out; omega)
              have ej : wrap64 ((j : Int) + 1) = (j : Int) + 1 := jwrap (Int.natCast_nonneg j) (by omega)
              have x1 : IntKind.i64.wrap ax = ax := pi64 _ (by omega)
              have x2 : IntKind.i64.wrap ay = ay := pi64 _ (by omega)
              have x3 : wrap64 P = P := pw64 _ (by omega)
              have x4 : wrap64 Q = Q := pw64 _ (by omega)
              have x5 : wrap64 (fx + P) = fx + P := pw64 _ (by omega)
              have x6 : wrap64 (fy + Q) = fy + Q := pw64 _ (by omega)
              have sn := Sp.tabF_snoc g j
              obtain ⟨⟨n, d⟩, hg⟩ : ∃ q, g (j : Int) = q := ⟨_, rfl⟩
              rw [hg] at sn
              simp only [hg] at g3
              have SN := hid sn
              have HT3 := hid g3
              have v3 : IntKind.i64.wrap P = P := pi64 _ (by omega)
              have v4 : IntKind.i64.wrap Q = Q := pi64 _ (by omega)
              have v5 : IntKind.i64.wrap (fx + P) = fx + P := pi64 _ (by omega)
              have v6 : IntKind.i64.wrap (fy + Q) = fy + Q := pi64 _ (by omega)
              have BD := hid (show Below U.heap.size U wr.drew from HBB.out.drew)
              have HO2 := hid (HO.out.below (Below.refl _ _).drew)
              obtain ⟨kb, kt, p0, p1, r0, r1, rz, rs⟩ := KK.out _ HBB.out
              have c0 := kt.c0
              have c1 := kt.c1
              have c2 := kt.c2
              have c3 := kt.c3
              have cl := kt.lt
              have pz : w.heap.size + 1 < wr.heap.size := Nat.lt_of_succ_lt rz
              have s0 : ¬ s = 0 := sz
              have sy : (s == 0) = false := by simpa using sz
              clear g1 g2 g3 h1 h2 s1 a1 a2 hg sn kb kt rs
              have hle : decide ((j : Int) ≤ s) = true := decide_eq_true (Int.le_of_lt_add_one hlt)
              go_wp2_with fail
              clear hlt
              refine wp_region_float_tail 27 (.slice A1 (Sp.tabF g j).length q1) (by rfl) (by kernel_rfl) (fun _ _ _ h => h) (.inl ⟨rfl, fun _ => rfl⟩) ?_
              simp only [addE, List.take_succ_cons, List.take_zero, List.drop_succ_cons, List.drop_zero]
              repeat still_step
              try refine wpStill_nil ?_
              refine (show ∀ (K : Act → World → Prop) a, K a wr.drew → K a { wr with drawn := wr.drawn + 1 } from fun K a h => h) _ _ ?_
              clear p0 p1 pz rz r0 r1 c0 c1 c2 c3 cl
              generalize wr.drew = V at BD HO2 ⊢
              go_wp2_with (first
                | (go_at_call 44; refine (HT3.out _ (KK.out _ BD.out).1).mono ?_; rintro _ w8 ⟨rfl, hb⟩; have HB8 := hid hb; have gb8 : U.heap.size ≤ (w8.alloc (Obj.cells #[.int .i64 n, .int .i64 d] 30)).heap.size := (by have h1 := BD.out.size; have h2 := hb.size; simp; omega); clear hb)
                | (at_builtin; refine appF rfl _ _ rfl U.heap.size _ (Sp.tabF g j) rfl ((HO2.out.below HB8.out).below (balloc _ _)) w8.heap.size rfl n d (by simp [go_sem]) (by simp [go_sem]) ll gb8 ?_; intro v9 w9 how hgr))
              have HOW := hid how
              have GR := hid hgr
              have OL := hid (fun g h => ownF_lt HO2.out (g := g) h)
              clear how hgr
              go_roundw
              case rel =>
                refine ⟨j + 1, i64_eq (by first | exact EQ.out | exact ej.trans EQ.out), HJ.out, by rw [SN.out]; exact HOW.out, ?_⟩
                exact (bthen (bthen BD.out HB8.out) (balloc _ _)).grown GR.out gb8 (fun b e => (OL.out b e).1)
              case measure => first | exact HM.out | (rw [ej]; exact HM.out)
            · have i1 : decide ((j : Int) ≤ s) = false := decide_eq_false (fun q => hlt (Int.lt_add_one_of_le q))
              obtain rfl : j = N := by have h1 := NB.out; have h2 := hj; have h3 := hlt; clear vx vy yx yy; omega
              obtain ⟨A3, q4, e3, -, F3⟩ := HO.out.form
              injection e3 with h1 h2 h3
              subst h1 h3
              have F4 := hid F3
              have E0 := hid (show E = 0 from HE3.out.symm)
              obtain ⟨kb, -⟩ := KK.out _ HBB.out
              have KB := hid kb
              clear h2 F3 kb hlt
              go_wp2_with fail
              refine bodyPost_ret (v := .tuple #[.slice A1 (Sp.tabF g j).length q1, .int .i64 0]) (by simp [results, Try.results18, go_sem]) rfl ?_
              exact ⟨KB.out, .inr ⟨E0.out, A1, q1, rfl, F4.out⟩⟩
        · have f1 : (mx == 0) = true := by simpa using m1
          have f1b : (mx != 0) = false := by rw [bne, f1]; rfl
          have f2 : (my == 0) = false := by simpa using m2
          have f2b : (my != 0) = true := by rw [bne, f2]; rfl
          have hn := HE2.out
          rw [if_pos (fun q => m2 q.2)] at hn
          subst hn
          obtain ⟨kb, -⟩ := KK.out _ B7.out
          have KB := hid kb
          clear HE2 HGG m1 m2 kb
          go_wp2_with fail
          refine bodyPost_ret (v := .tuple #[.slice none 0 0, .int .i64 1]) (by simp [results, Try.results18, go_sem]) rfl ?_
          exact ⟨KB.out, .inl ⟨by decide, rfl⟩⟩
      · have f1 : (mx == 0) = false := by simpa using m1
        have f1b : (mx != 0) = true := by rw [bne, f1]; rfl
        have hn := HE2.out
        rw [if_pos (fun q => m1 q.1)] at hn
        subst hn
        obtain ⟨kb, -⟩ := KK.out _ B7.out
        have KB := hid kb
        clear HE2 HGG m1 kb
        go_wp2_with fail
        refine bodyPost_ret (v := .tuple #[.slice none 0 0, .int .i64 1]) (by simp [results, Try.results18, go_sem]) rfl ?_
        exact ⟨KB.out, .inl ⟨by decide, rfl⟩⟩
  · have hn : (E0 == 0) = false := by simpa using cE
    have hE := HE.out
    rw [if_pos cE] at hE
    subst hE
    obtain ⟨kb, -⟩ := KK.out _ B5.out
    have KB := hid kb
    clear kb HE HGG HPB KK HC1 HC2
    go_wp2_with fail
    refine bodyPost_ret (v := .tuple #[.slice none 0 0, .int .i64 E0]) (by simp [results, Try.results18, go_sem]) rfl ?_
    exact ⟨KB.out, .inl ⟨cE, rfl⟩⟩
theorem Sp.pts_two (c r k : Int) (z : List Int) (fx fy tx ty : Int) : Sp.ptsE c r k z [(fx, fy), (tx, ty)] = if Sp.terE c r k z ≠ 0 then Sp.terE c r k z else if Sp.onB c r k fx fy = false then 2 else if Sp.onB c r k tx ty = false then 2 else 0 := by
  unfold Sp.ptsE Sp.onB
  by_cases h : Sp.terE c r k z = 0
  · rw [if_neg (fun q => q h), if_neg (fun q => q h)]
    unfold Sp.onE
    simp only
    unfold Sp.onE
    simp only
    cases (decide (0 ≤ fx) && decide (fx ≤ (c - 1) * k)) <;> cases (decide (0 ≤ fy) && decide (fy ≤ (r - 1) * k)) <;> cases (decide (0 ≤ tx) && decide (tx ≤ (c - 1) * k)) <;> cases (decide (0 ≤ ty) && decide (ty ≤ (r - 1) * k)) <;> simp [Sp.onE]
  · rw [if_pos h, if_pos h]
theorem Sp.onB_in {c r k px py : Int} (h : Sp.onB c r k px py = true) : (0 ≤ px ∧ px ≤ (c - 1) * k) ∧ (0 ≤ py ∧ py ≤ (r - 1) * k) := by
  unfold Sp.onB at h
  simp at h
  exact h
theorem rProfile_any (A : Option Addr) (cap : Nat) (c r k : Int) (z : List Int) (fx fy tx ty s : Int) (w : World) (hl : z.length ≤ 140737488355328) (hT : Ints w A z) :
    Calls Try.prog 18 #[.agg #[.int .i64 c, .int .i64 r, .int .i64 k, .slice A z.length cap], .agg #[.int .i64 fx, .int .i64 fy], .agg #[.int .i64 tx, .int .i64 ty], .int .i64 s] w (FlPost w (Sp.proE c r k z fx fy tx ty s) (Sp.proL c r k z fx fy tx ty s)) := by
  refine rpro_walk A cap c r k z fx fy tx ty s (Sp.terE c r k z) _ (Sp.onB c r k fx fy) (Sp.onB c r k tx ty) _ _ _ _ _ _ _ (Sp.proG z c r k fx fy ((tx - fx).tdiv s) ((ty - fy).tdiv s)) w rfl rfl rfl rfl rfl rfl rfl ?_ ?_ (fun W hb => rcheck_any A cap c r k z W hl (hT.below hb)) ?_ ?_ ?_
  · unfold Sp.proE
    rw [Sp.pts_two]
    by_cases h : Sp.terE c r k z = 0
    · have e1 : (decide (1 ≤ s) && decide (s ≤ 64)) = false ↔ (s < 1 ∨ 64 < s) := by simp; omega
      by_cases a : s < 1
      · have e2 := e1.2 (.inl a)
        cases Sp.onB c r k fx fy <;> cases Sp.onB c r k tx ty <;> simp only [h, a, e2] <;> simp
      · by_cases b : 64 < s
        · have e2 := e1.2 (.inr b)
          cases Sp.onB c r k fx fy <;> cases Sp.onB c r k tx ty <;> simp only [h, a, b, e2] <;> simp
        · have e2 : ¬ (decide (1 ≤ s) && decide (s ≤ 64)) = false := fun q => by rcases e1.1 q with q | q <;> omega
          cases Sp.onB c r k fx fy <;> cases Sp.onB c r k tx ty <;> simp only [h, a, b, e2] <;> simp
    · simp [h]
  · intro h o1 o2
    obtain ⟨g1, g2, g3, -⟩ := Sp.terE_zero h
    have h1 := Sp.onB_in o1
    have h2 := Sp.onB_in o2
    have b1 : (c - 1) * k ≤ 15 * 1000 := Int.mul_le_mul (by omega) g3.2 (by omega) (by omega)
    have b2 : (r - 1) * k ≤ 15 * 1000 := Int.mul_le_mul (by omega) g3.2 (by omega) (by omega)
    omega
  · intro h W
    obtain ⟨g1, g2, g3, -⟩ := Sp.terE_zero h
    exact ron_any A cap c r k z fx fy W g1 g2 g3
  · intro h W
    obtain ⟨g1, g2, g3, -⟩ := Sp.terE_zero h
    exact ron_any A cap c r k z tx ty W g1 g2 g3
  · intro h o1 o2 hs e1 e2 j j0 j1
    obtain ⟨g1, g2, g3, g4, g5⟩ := Sp.terE_zero h
    obtain ⟨h1, h2⟩ := Sp.onB_in o1
    obtain ⟨h3, h4⟩ := Sp.onB_in o2
    have b1 : (c - 1) * k ≤ 15 * 1000 := Int.mul_le_mul (by omega) g3.2 (by omega) (by omega)
    have b2 : (r - 1) * k ≤ 15 * 1000 := Int.mul_le_mul (by omega) g3.2 (by omega) (by omega)
    have s1 := Sp.step_in h1 h3 (Sp.even_line e1) j0 j1
    have s2 := Sp.step_in h2 h4 (Sp.even_line e2) j0 j1
    refine ⟨by omega, by omega, fun W hb => ?_⟩
    exact rheight_any A cap c r k z _ _ _ _ (Sp.hgt z c r k (fx + (tx - fx).tdiv s * j) (fy + (ty - fy).tdiv s * j)).2.2 W g1 g2 g3 g4 g5 s1.1 s1.2 s2.1 s2.2 (hT.below hb) rfl
end Go.Proofs.Ytadicbpfbhpooaa
