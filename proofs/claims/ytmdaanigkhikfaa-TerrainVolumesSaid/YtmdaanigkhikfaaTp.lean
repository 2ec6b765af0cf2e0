/-
  Layer 15: Profile of package terrain, by contract.
-/
import Derived.Test.YtmdaanigkhikfaaQtb
import Derived.Test.YtmdaanigkhikfaaFlo
namespace Go.Proofs.Ytmdaanigkhikfaa
open Go.RowKit
set_option linter.unusedVariables false
set_option linter.unusedSimpArgs false
namespace Sp
/-- The height at the step i of a line. -/
def proG (z : List Int) (c r k fx fy ax ay : Int) (i : Int) : Int × Int := ((hgt z c r k (fx + ax * i) (fy + ay * i)).1, (hgt z c r k (fx + ax * i) (fy + ay * i)).2.1)
def tabF (g : Int → Int × Int) (n : Nat) : List (Int × Int) := (List.range n).map (fun k : Nat => g (k : Int))
theorem tabF_len (g : Int → Int × Int) (n : Nat) : (tabF g n).length = n := by simp [tabF]
theorem tabF_snoc (g : Int → Int × Int) (n : Nat) : tabF g (n + 1) = tabF g n ++ [g (n : Int)] := by simp [tabF, List.range_succ]
/-- The error of Profile. -/
def proE (c r k : Int) (z : List Int) (fx fy tx ty s : Int) : Int :=
  if ptsE c r k z [(fx, fy), (tx, ty)] ≠ 0 then ptsE c r k z [(fx, fy), (tx, ty)] else if (decide (1 ≤ s) && decide (s ≤ 64)) = false then 2 else if ¬ ((tx - fx).tmod s = 0 ∧ (ty - fy).tmod s = 0) then 1 else 0
/-- The heights that Profile answers. -/
def proL (c r k : Int) (z : List Int) (fx fy tx ty s : Int) : List (Int × Int) := tabF (proG z c r k fx fy ((tx - fx).tdiv s) ((ty - fy).tdiv s)) (s + 1).toNat
theorem ptsE_two {c r k : Int} {z : List Int} {fx fy tx ty : Int} (h : ptsE c r k z [(fx, fy), (tx, ty)] = 0) : terE c r k z = 0 ∧ ((0 ≤ fx ∧ fx ≤ (c - 1) * k) ∧ (0 ≤ fy ∧ fy ≤ (r - 1) * k)) ∧ ((0 ≤ tx ∧ tx ≤ (c - 1) * k) ∧ (0 ≤ ty ∧ ty ≤ (r - 1) * k)) := by
  unfold ptsE at h
  by_cases c0 : terE c r k z = 0
  · rw [if_neg (fun q => q c0)] at h
    unfold onE at h
    by_cases c1 : (decide (0 ≤ fx) && decide (fx ≤ (c - 1) * k)) = false
    · rw [if_pos c1] at h; exact absurd h (by decide)
    · rw [if_neg c1] at h
      by_cases c2 : (decide (0 ≤ fy) && decide (fy ≤ (r - 1) * k)) = false
      · rw [if_pos c2] at h; exact absurd h (by decide)
      · rw [if_neg c2] at h
        unfold onE at h
        by_cases c3 : (decide (0 ≤ tx) && decide (tx ≤ (c - 1) * k)) = false
        · rw [if_pos c3] at h; exact absurd h (by decide)
        · rw [if_neg c3] at h
          by_cases c4 : (decide (0 ≤ ty) && decide (ty ≤ (r - 1) * k)) = false
          · rw [if_pos c4] at h; exact absurd h (by decide)
          · simp at c1 c2 c3 c4
            exact ⟨c0, ⟨c1, c2⟩, c3, c4⟩
  · rw [if_pos c0] at h; exact absurd h c0
/-- A step of an even line lies between its ends. -/
theorem step_in {f t a s j M : Int} (h0 : 0 ≤ f ∧ f ≤ M) (h1 : 0 ≤ t ∧ t ≤ M) (he : a * s = t - f) (j0 : 0 ≤ j) (j1 : j ≤ s) : 0 ≤ f + a * j ∧ f + a * j ≤ M := by
  by_cases c : 0 ≤ a
  · have p0 : 0 ≤ a * j := Int.mul_nonneg c j0
    have p1 : a * j ≤ a * s := Int.mul_le_mul_of_nonneg_left j1 c
    omega
  · have p0 : a * j ≤ 0 := Int.mul_nonpos_of_nonpos_of_nonneg (by omega) j0
    have p1 : a * s ≤ a * j := Int.mul_le_mul_of_nonpos_left (by omega) j1
    omega
theorem even_line {x s : Int} (h : x.tmod s = 0) : x.tdiv s * s = x := by
  have := Int.mul_tdiv_add_tmod x s
  rw [h, Int.mul_comm] at this
  omega
theorem tmod_b {x s : Int} (h : 1 ≤ s ∧ s ≤ 64) : -100000 ≤ x.tmod s ∧ x.tmod s ≤ 100000 := by
  have h1 := Int.tmod_lt_of_pos x (show 0 < s by omega)
  have h2 := Int.tmod_lt_of_pos (-x) (show 0 < s by omega)
  rw [Int.neg_tmod] at h2
  omega
theorem tdiv_b {x s : Int} (h : 1 ≤ s ∧ s ≤ 64) (hx : -100000 ≤ x ∧ x ≤ 100000) : -100000 ≤ x.tdiv s ∧ x.tdiv s ≤ 100000 := by
  have k : ∀ y : Int, 0 ≤ y → 0 ≤ y.tdiv s ∧ y.tdiv s ≤ y := fun y hy => ⟨Int.tdiv_nonneg hy (by omega), by rw [Int.tdiv_eq_ediv_of_nonneg hy]; exact Int.ediv_le_self _ hy⟩
  by_cases c : 0 ≤ x
  · have := k x c; omega
  · have := k (-x) (by omega)
    rw [Int.neg_tdiv] at this
    omega
end Sp
/-- A list of fractions and an error are answered. -/
def FlPost (w : World) (E : Int) (L : List (Int × Int)) (e : Ending) (w' : World) : Prop :=
  Below w.heap.size w w' ∧ ((E ≠ 0 ∧ e = .returned (.tuple #[.slice none 0 0, .int .i64 E])) ∨ (E = 0 ∧ ∃ A cap, e = .returned (.tuple #[.slice A L.length cap, .int .i64 0]) ∧ Frs w' A L))
theorem pmeas2 (n : Int) (j : Nat) (h : (j : Int) < n) : (n - intOf (.int .i64 ((j : Int) + 1))).toNat < (n - intOf (.int .i64 (j : Int))).toNat := by simp [intOf]; omega
set_option maxRecDepth 100000 in
set_option maxHeartbeats 4000000 in
theorem tpro_walk (A : Option Addr) (cap : Nat) (c r k : Int) (z : List Int) (fx fy tx ty s : Int) (E0 E : Int) (X Y mx my ax ay : Int) (N : Nat) (g : Int → Int × Int) (w : World)
    (hX : tx - fx = X) (hY : ty - fy = Y) (hmx : X.tmod s = mx) (hmy : Y.tmod s = my) (hax : X.tdiv s = ax) (hay : Y.tdiv s = ay) (hN : (s + 1).toNat = N)
    (hE : (if E0 ≠ 0 then E0 else if (decide (1 ≤ s) && decide (s ≤ 64)) = false then 2 else if ¬ (mx = 0 ∧ my = 0) then 1 else 0) = E)
    (PB : E0 = 0 → (0 ≤ fx ∧ fx ≤ 100000) ∧ (0 ≤ fy ∧ fy ≤ 100000) ∧ (0 ≤ tx ∧ tx ≤ 100000) ∧ (0 ≤ ty ∧ ty ≤ 100000))
    (CK : ∀ P cp W, Below w.heap.size w W → Pts W P [(fx, fy), (tx, ty)] → Calls Try.prog 41 #[.agg #[.int .i64 c, .int .i64 r, .int .i64 k, .slice A z.length cap], .slice P 2 cp] W (Gives (.int .i64 E0) W))
    (HG : E0 = 0 → mx = 0 → my = 0 → ∀ j : Int, 0 ≤ j → j ≤ s → (0 ≤ fx + ax * j ∧ fx + ax * j ≤ 100000) ∧ (0 ≤ fy + ay * j ∧ fy + ay * j ≤ 100000) ∧ ∀ W, Below w.heap.size w W → Calls Try.prog 42 #[.agg #[.int .i64 c, .int .i64 r, .int .i64 k, .slice A z.length cap], .agg #[.int .i64 (fx + ax * j), .int .i64 (fy + ay * j)]] W (Gives (.agg #[.int .i64 (g j).1, .int .i64 (g j).2]) W)) :
    Calls Try.prog 17 #[.agg #[.int .i64 c, .int .i64 r, .int .i64 k, .slice A z.length cap], .agg #[.int .i64 fx, .int .i64 fy], .agg #[.int .i64 tx, .int .i64 ty], .int .i64 s] w (FlPost w E (Sp.tabF g N)) := by
  obtain ⟨U, hU⟩ : ∃ U, ((w.alloc (Obj.cells #[.int .i64 c, .int .i64 r, .int .i64 k, .slice A z.length cap] 24)).alloc (Obj.cells #[.int .i64 (fx), .int .i64 (fy)] 26)).alloc (Obj.cells #[.int .i64 (tx), .int .i64 (ty)] 26) = U := ⟨_, rfl⟩
  have T0 : TrAt U w.heap.size c r k A z.length cap := by rw [← hU]; exact (trAt_new w c r k A z.length cap).below (bthen (balloc _ _) (balloc _ _))
  have b0 : Below w.heap.size w U := by rw [← hU]; exact bthen (balloc _ _) (bthen (balloc _ _) (balloc _ _))
  have p0 : U.cell? ⟨w.heap.size + 1, 0, none⟩ = some (.int .i64 fx) := by rw [← hU]; simp [go_sem]
  have p1 : U.cell? ⟨w.heap.size + 1, 1, none⟩ = some (.int .i64 fy) := by rw [← hU]; simp [go_sem]
  have r0 : U.cell? ⟨w.heap.size + 1 + 1, 0, none⟩ = some (.int .i64 tx) := by rw [← hU]; simp [go_sem]
  have r1 : U.cell? ⟨w.heap.size + 1 + 1, 1, none⟩ = some (.int .i64 ty) := by rw [← hU]; simp [go_sem]
  have rz : w.heap.size + 1 + 1 < U.heap.size := by rw [← hU]; simp
  have pz : w.heap.size + 1 < U.heap.size := Nat.lt_of_succ_lt rz
  have bV : Below U.heap.size U (U.alloc (.cells #[.int .i64 fx, .int .i64 fy, .int .i64 tx, .int .i64 ty] 26)) := balloc _ _
  have hP : Pts (U.alloc (.cells #[.int .i64 fx, .int .i64 fy, .int .i64 tx, .int .i64 ty] 26)) (some ⟨U.heap.size, 0, none⟩) [(fx, fy), (tx, ty)] := fun _ => ⟨U.heap.size, 0, rfl, by simp, fun j hj => by
    match j, hj with
    | 0, _ => exact ⟨by simp [go_sem], by simp [go_sem]⟩
    | 1, _ => exact ⟨by simp [go_sem], by simp [go_sem]⟩⟩
  have KK := hid (fun (W : World) (hb : Below U.heap.size U W) => (⟨bthen b0 hb, T0.below hb, (hb.cell (p := ⟨w.heap.size + 1, 0, none⟩) pz).trans p0, (hb.cell (p := ⟨w.heap.size + 1, 1, none⟩) pz).trans p1, (hb.cell (p := ⟨w.heap.size + 1 + 1, 0, none⟩) rz).trans r0, (hb.cell (p := ⟨w.heap.size + 1 + 1, 1, none⟩) rz).trans r1, Nat.lt_of_lt_of_le rz hb.size, hb.size⟩ : Below w.heap.size w W ∧ TrAt W w.heap.size c r k A z.length cap ∧ W.cell? ⟨w.heap.size + 1, 0, none⟩ = some (.int .i64 fx) ∧ W.cell? ⟨w.heap.size + 1, 1, none⟩ = some (.int .i64 fy) ∧ W.cell? ⟨w.heap.size + 1 + 1, 0, none⟩ = some (.int .i64 tx) ∧ W.cell? ⟨w.heap.size + 1 + 1, 1, none⟩ = some (.int .i64 ty) ∧ w.heap.size + 1 + 1 < W.heap.size ∧ U.heap.size ≤ W.heap.size))
  have CK1 := hid (CK _ 2 _ (bthen b0 bV) hP)
  have W1 := hid (fun W => twithin_any s 1 64 W)
  obtain ⟨B1, hB1⟩ : ∃ B, (decide (1 ≤ s) && decide (s ≤ 64)) = B := ⟨_, rfl⟩
  rw [hB1] at W1 hE
  have HU := hid hU
  have BV := hid bV
  have H1 := hid hB1
  have HE := hid hE
  have HGG := hid HG
  have HPB := hid PB
  have HN := hid hN
  have HAX := hid hax
  have HAY := hid hay
  have HMX := hid hmx
  have HMY := hid hmy
  have HX := hid hX
  have HY := hid hY
  have c0 := T0.c0
  have c1 := T0.c1
  have c2 := T0.c2
  have c3 := T0.c3
  have cl := T0.lt
  clear CK HG PB hU T0 b0 bV hP hE hB1 hN hax hay hmx hmy hX hY
  go_enter Try.func17, Try.ntmps17
  go_upto_region 1 with fail
  rw [HU.out]
  go_wp2_with fail
  refine CK1.out.mono ?_
  rintro _ w5 ⟨rfl, hb⟩
  have B5 := hid (bthen BV.out hb)
  clear hb c0 c1 c2 c3 cl p0 p1 r0 r1 rz pz BV
  by_cases cE : E0 = 0
  · subst cE
    have hn := HE.out
    simp only [ne_eq, not_true_eq_false, if_false] at hn
    have HE2 := hid hn
    obtain ⟨⟨fx0, fx1⟩, ⟨fy0, fy1⟩, ⟨tx0, tx1⟩, ty0, ty1⟩ := HPB.out rfl
    have XB := hid (show -100000 ≤ X ∧ X ≤ 100000 by rw [← HX.out]; omega)
    have YB := hid (show -100000 ≤ Y ∧ Y ≤ 100000 by rw [← HY.out]; omega)
    have FX := hid (And.intro fx0 fx1)
    have FY := hid (And.intro fy0 fy1)
    clear hn HE fx0 fx1 fy0 fy1 tx0 tx1 ty0 ty1 HPB
    go_wp2_with fail
    refine (W1.out _).mono ?_
    rintro _ w6 ⟨rfl, hb⟩
    have B6 := hid (bthen B5.out hb)
    clear hb
    cases B1
    · have hn := HE2.out
      simp only [if_true] at hn
      subst hn
      obtain ⟨kb, -⟩ := KK.out _ B6.out
      have KB := hid kb
      clear kb HE2 HGG KK
      go_wp2_with fail
      refine bodyPost_ret (v := .tuple #[.slice none 0 0, .int .i64 2]) (by simp [results, Try.results17, go_sem]) rfl ?_
      exact ⟨KB.out, .inl ⟨by decide, rfl⟩⟩
    · have hs := H1.out
      simp at hs
      have sz : ¬ s = 0 := by omega
      have sy : (s == 0) = false := by simp; omega
      have yx : wrap64 X = X := pw64 _ (by have := XB.out; omega)
      have yy : wrap64 Y = Y := pw64 _ (by have := YB.out; omega)
      have hx := HX.out
      have hy := HY.out
      obtain ⟨kb, kt, p0, p1, r0, r1, rz, -⟩ := KK.out _ B6.out
      have pz : w.heap.size + 1 < w6.heap.size := Nat.lt_of_succ_lt rz
      have HS := hid hs
      clear kb kt hs
      go_wp2_with fail
      go_still (by rfl)
      refine (show ∀ (K : Act → World → Prop) a, K a w6.drew → K a { w6 with drawn := w6.drawn + 1 } from fun K a h => h) _ _ ?_
      have B7 := hid B6.out.drew
      clear p0 p1 r0 r1 rz pz
      generalize w6.drew = V at B7 ⊢
      have mxb : -100000 ≤ mx ∧ mx ≤ 100000 := by
        rw [← HMX.out]
        exact Sp.tmod_b HS.out
      have myb : -100000 ≤ my ∧ my ≤ 100000 := by
        rw [← HMY.out]
        exact Sp.tmod_b HS.out
      have hmx := HMX.out
      have hmy := HMY.out
      have zx : IntKind.i64.wrap mx = mx := pi64 _ (by omega)
      have zy : IntKind.i64.wrap my = my := pi64 _ (by omega)
      have vx : IntKind.i64.wrap X = X := pi64 _ (by have := XB.out; omega)
      have vy : IntKind.i64.wrap Y = Y := pi64 _ (by have := YB.out; omega)
      simp only [vx, vy]
      clear mxb myb hx hy
      by_cases m1 : mx = 0
      · by_cases m2 : my = 0
        · have f1 : (mx == 0) = true := by simpa using m1
          have f1b : (mx != 0) = false := by rw [bne, f1]; rfl
          have f2 : (my == 0) = true := by simpa using m2
          have f2b : (my != 0) = false := by rw [bne, f2]; rfl
          have hn := HE2.out
          rw [if_neg (by decide), if_neg (fun q => q ⟨m1, m2⟩)] at hn
          have HE3 := hid hn
          have HG2 := hid (HGG.out (by first | rfl | trivial) m1 m2)
          have NB := hid (show (N : Int) = s + 1 by rw [← HN.out]; have := HS.out; omega)
          have ws : wrap64 (s + 1) = s + 1 := pw64 _ (by have := HS.out; omega)
          have axb := hid (show -100000 ≤ ax ∧ ax ≤ 100000 by rw [← HAX.out]; exact Sp.tdiv_b HS.out XB.out)
          have ayb := hid (show -100000 ≤ ay ∧ ay ≤ 100000 by rw [← HAY.out]; exact Sp.tdiv_b HS.out YB.out)
          clear hn HE2 HGG m1 m2
          go_wp2_with fail
          simp only [ws]
          go_loopw [48, 13] (fun t u wr => ∃ j : Nat, t = .int .i64 (j : Int) ∧ j ≤ N ∧ OwnF wr U.heap.size u (Sp.tabF g j) ∧ Below U.heap.size U wr) (fun t _ _ => (s + 1 - intOf t).toNat)
          case atStart => exact ⟨0, rfl, Nat.zero_le _, OwnF.nil _ _, B7.out⟩
          case round =>
            obtain ⟨j, rfl, hj, hO, hB⟩ := hrel
            have HO := hid hO
            have HBB := hid hB
            obtain ⟨A1, q1, e1, -, -⟩ := hO.form
            subst e1
            clear hO hB hmx hmy zx zy f1 f2 f1b f2b sy ws yx yy vx vy
            by_cases hlt : (j : Int) < s + 1
            · obtain ⟨g1, g2, g3⟩ := HG2.out (j : Int) (Int.natCast_nonneg j) (by omega)
              have h1 := FX.out
              have h2 := FY.out
              have hax := HAX.out
              have hay := HAY.out
              have s1 := HS.out
              have a1 := axb.out
              have a2 := ayb.out
              obtain ⟨P, hP⟩ : ∃ P, ax * (j : Int) = P := ⟨_, rfl⟩
              obtain ⟨Q, hQ⟩ : ∃ Q, ay * (j : Int) = Q := ⟨_, rfl⟩
              rw [hP] at g1
              rw [hQ] at g2
              simp only [hP, hQ] at g3
              have EQ := hid (show (j : Int) + 1 = ((j + 1 : Nat) : Int) by rw [Int.natCast_add]; rfl)
              have HJ := hid (show j + 1 ≤ N by have := NB.out; omega)
              have HM := hid (pmeas2 (s + 1) j hlt)
              have ll : Hid ((Sp.tabF g j).length ≤ 4000) := hid (by rw [Sp.tabF_len]; have := HS.out; omega)
              have ej : wrap64 ((j : Int) + 1) = (j : Int) + 1 := jwrap (Int.natCast_nonneg j) (by omega)
              have x1 : IntKind.i64.wrap ax = ax := pi64 _ (by omega)
              have x2 : IntKind.i64.wrap ay = ay := pi64 _ (by omega)
              have x3 : wrap64 P = P := pw64 _ (by omega)
              have x4 : wrap64 Q = Q := pw64 _ (by omega)
              have x5 : wrap64 (fx + P) = fx + P := pw64 _ (by omega)
              have x6 : wrap64 (fy + Q) = fy + Q := pw64 _ (by omega)
              have sn := Sp.tabF_snoc g j
              obtain ⟨⟨n, d⟩, hg⟩ : ∃ q, g (j : Int) = q := ⟨_, rfl⟩
              rw [hg] at sn
              simp only [hg] at g3
              have SN := hid sn
              have HT3 := hid g3
              have v3 : IntKind.i64.wrap P = P := pi64 _ (by omega)
              have v4 : IntKind.i64.wrap Q = Q := pi64 _ (by omega)
              have v5 : IntKind.i64.wrap (fx + P) = fx + P := pi64 _ (by omega)
              have v6 : IntKind.i64.wrap (fy + Q) = fy + Q := pi64 _ (by omega)
              have BD := hid (show Below U.heap.size U wr.drew from HBB.out.drew)
              have HO2 := hid (HO.out.below (Below.refl _ _).drew)
              obtain ⟨kb, kt, p0, p1, -, -, rz, rs⟩ := KK.out _ HBB.out
              have c0 := kt.c0
              have c1 := kt.c1
              have c2 := kt.c2
              have c3 := kt.c3
              have cl := kt.lt
              have pz : w.heap.size + 1 < wr.heap.size := Nat.lt_of_succ_lt rz
              have s0 : ¬ s = 0 := sz
              have sy : (s == 0) = false := by simpa using sz
              clear g1 g2 g3 h1 h2 s1 a1 a2 hg sn kb kt rz rs
              go_wp2_with fail
              clear hlt
              refine wp_region_float_tail 19 (.slice A1 (Sp.tabF g j).length q1) (by rfl) (by kernel_rfl) (fun _ _ _ h => h) (.inl ⟨rfl, fun _ => rfl⟩) ?_
              simp only [addE, List.take_succ_cons, List.take_zero, List.drop_succ_cons, List.drop_zero]
              repeat still_step
              try refine wpStill_nil ?_
              refine (show ∀ (K : Act → World → Prop) a, K a wr.drew → K a { wr with drawn := wr.drawn + 1 } from fun K a h => h) _ _ ?_
              clear p0 p1 pz c0 c1 c2 c3 cl
              generalize wr.drew = V at BD HO2 ⊢
              go_wp2_with (first
                | (go_at_call 42; refine (HT3.out _ (KK.out _ BD.out).1).mono ?_; rintro _ w8 ⟨rfl, hb⟩; have HB8 := hid hb; have gb8 : U.heap.size ≤ (w8.alloc (Obj.cells #[.int .i64 n, .int .i64 d] 30)).heap.size := (by have h1 := BD.out.size; have h2 := hb.size; simp; omega); clear hb)
                | (at_builtin; refine appF rfl _ _ rfl U.heap.size _ (Sp.tabF g j) rfl ((HO2.out.below HB8.out).below (balloc _ _)) w8.heap.size rfl n d (by simp [go_sem]) (by simp [go_sem]) ll gb8 ?_; intro v9 w9 how hgr))
              have HOW := hid how
              have GR := hid hgr
              have OL := hid (fun g h => ownF_lt HO2.out (g := g) h)
              clear how hgr
              go_roundw
              case rel =>
                refine ⟨j + 1, i64_eq (by first | exact EQ.out | exact ej.trans EQ.out), HJ.out, by rw [SN.out]; exact HOW.out, ?_⟩
                exact (bthen (bthen BD.out HB8.out) (balloc _ _)).grown GR.out gb8 (fun b e => (OL.out b e).1)
              case measure => first | exact HM.out | (rw [ej]; exact HM.out)
            · have i1 : ¬ (j : Int) < s + 1 := hlt
              obtain rfl : j = N := by have := NB.out; omega
              obtain ⟨A3, q4, e3, -, F3⟩ := HO.out.form
              injection e3 with h1 h2 h3
              subst h1 h3
              have F4 := hid F3
              have E0 := hid (show E = 0 from HE3.out.symm)
              obtain ⟨kb, -⟩ := KK.out _ HBB.out
              have KB := hid kb
              clear h2 F3 kb hlt
              go_wp2_with fail
              refine bodyPost_ret (v := .tuple #[.slice A1 (Sp.tabF g j).length q1, .int .i64 0]) (by simp [results, Try.results17, go_sem]) rfl ?_
              exact ⟨KB.out, .inr ⟨E0.out, A1, q1, rfl, F4.out⟩⟩
        · have f1 : (mx == 0) = true := by simpa using m1
          have f1b : (mx != 0) = false := by rw [bne, f1]; rfl
          have f2 : (my == 0) = false := by simpa using m2
          have f2b : (my != 0) = true := by rw [bne, f2]; rfl
          have hn := HE2.out
          rw [if_neg (by decide), if_pos (fun q => m2 q.2)] at hn
          subst hn
          obtain ⟨kb, -⟩ := KK.out _ B7.out
          have KB := hid kb
          clear HE2 HGG m1 m2 kb
          go_wp2_with fail
          refine bodyPost_ret (v := .tuple #[.slice none 0 0, .int .i64 1]) (by simp [results, Try.results17, go_sem]) rfl ?_
          exact ⟨KB.out, .inl ⟨by decide, rfl⟩⟩
      · have f1 : (mx == 0) = false := by simpa using m1
        have f1b : (mx != 0) = true := by rw [bne, f1]; rfl
        have hn := HE2.out
        rw [if_neg (by decide), if_pos (fun q => m1 q.1)] at hn
        subst hn
        obtain ⟨kb, -⟩ := KK.out _ B7.out
        have KB := hid kb
        clear HE2 HGG m1 kb
        go_wp2_with fail
        refine bodyPost_ret (v := .tuple #[.slice none 0 0, .int .i64 1]) (by simp [results, Try.results17, go_sem]) rfl ?_
        exact ⟨KB.out, .inl ⟨by decide, rfl⟩⟩
  · have hn : (E0 == 0) = false := by simpa using cE
    have hE := HE.out
    rw [if_pos cE] at hE
    subst hE
    obtain ⟨kb, -⟩ := KK.out _ B5.out
    have KB := hid kb
    clear kb HE HGG HPB KK
    go_wp2_with fail
    refine bodyPost_ret (v := .tuple #[.slice none 0 0, .int .i64 E0]) (by simp [results, Try.results17, go_sem]) rfl ?_
    exact ⟨KB.out, .inl ⟨cE, rfl⟩⟩
theorem tProfile_any (A : Option Addr) (cap : Nat) (c r k : Int) (z : List Int) (fx fy tx ty s : Int) (w : World) (hl : z.length ≤ 140737488355328) (hT : Ints w A z) :
    Calls Try.prog 17 #[.agg #[.int .i64 c, .int .i64 r, .int .i64 k, .slice A z.length cap], .agg #[.int .i64 fx, .int .i64 fy], .agg #[.int .i64 tx, .int .i64 ty], .int .i64 s] w (FlPost w (Sp.proE c r k z fx fy tx ty s) (Sp.proL c r k z fx fy tx ty s)) := by
  refine tpro_walk A cap c r k z fx fy tx ty s (Sp.ptsE c r k z [(fx, fy), (tx, ty)]) _ _ _ _ _ _ _ _ (Sp.proG z c r k fx fy ((tx - fx).tdiv s) ((ty - fy).tdiv s)) w rfl rfl rfl rfl rfl rfl rfl rfl ?_ ?_ ?_
  · intro h
    obtain ⟨h0, ⟨h1, h2⟩, h3, h4⟩ := Sp.ptsE_two h
    obtain ⟨g1, g2, g3, -⟩ := Sp.terE_zero h0
    have b1 : (c - 1) * k ≤ 15 * 1000 := Int.mul_le_mul (by omega) g3.2 (by omega) (by omega)
    have b2 : (r - 1) * k ≤ 15 * 1000 := Int.mul_le_mul (by omega) g3.2 (by omega) (by omega)
    omega
  · intro P cp W hb hP
    exact tcheckpts_any A cap c r k z P cp [(fx, fy), (tx, ty)] W hl (by simp) (hT.below hb) hP
  · intro h e1 e2 j j0 j1
    obtain ⟨h0, ⟨h1, h2⟩, h3, h4⟩ := Sp.ptsE_two h
    obtain ⟨g1, g2, g3, g4, g5⟩ := Sp.terE_zero h0
    have b1 : (c - 1) * k ≤ 15 * 1000 := Int.mul_le_mul (by omega) g3.2 (by omega) (by omega)
    have b2 : (r - 1) * k ≤ 15 * 1000 := Int.mul_le_mul (by omega) g3.2 (by omega) (by omega)
    have s1 := Sp.step_in h1 h3 (Sp.even_line e1) j0 j1
    have s2 := Sp.step_in h2 h4 (Sp.even_line e2) j0 j1
    refine ⟨by omega, by omega, fun W hb => ?_⟩
    exact theight_any A cap c r k z _ _ _ _ (Sp.hgt z c r k (fx + (tx - fx).tdiv s * j) (fy + (ty - fy).tdiv s * j)).2.2 W g1 g2 g3 g4 g5 s1.1 s1.2 s2.1 s2.2 (hT.below hb) rfl
end Go.Proofs.Ytmdaanigkhikfaa
