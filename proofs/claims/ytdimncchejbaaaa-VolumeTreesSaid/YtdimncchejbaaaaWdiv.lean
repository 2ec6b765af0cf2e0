/-
  math/bits.Div64 by a contract: quotient and remainder of a number of 128 bits.
-/
import Derived.Test.YtdimncchejbaaaaWcode
import Derived.Test.YtdimncchejbaaaaShelf
import Derived.Laws.Bits64b
import Derived.Deep.QuietTactic
import Derived.BigQuiet
import Derived.Deep.DeepCutAuto
import Derived.Deep.CutBlock
import Derived.Outline
namespace Go.Proofs.Ytdimncchejbaaaa
open Go.RowKit
set_option linter.unusedVariables false

theorem below_drewN {w : World} (n : Nat) : Below w.heap.size w (w.drewN n) := by
  induction n with
  | zero => exact Below.refl _ _
  | succ n ih => exact ⟨ih.os, ih.tape, ih.output, ih.size, ih.block⟩
set_option maxRecDepth 10000 in
theorem div64_small (lo y : Int) (l0 : 0 ≤ lo) (l1 : lo < 18446744073709551616) (y0 : 0 < y) (y1 : y < 18446744073709551616) (w : World) :
    Calls Try.prog 115 #[.int .u64 0, .int .u64 lo, .int .u64 y] w (Gives (.tuple #[.int .u64 (lo / y), .int .u64 (lo % y)]) w) := by
  have hy : 1 ≤ y := y0
  have g : (y == 0) = false := by simp; omega
  have g2 : decide (y ≤ 0) = false := by simp; omega
  have hq : lo / y ≤ lo := Int.ediv_le_self _ l0
  have hq0 : 0 ≤ lo / y := Int.ediv_nonneg l0 (by omega)
  go_enter Try.func115, Try.ntmps115
  go_wp2
  go_quiet (fail)
  go_wp2
  go_ret2
  exact Gives.mk rfl (below_drewN _)

/-- What the first loop leaves; what the second one does. -/
def Slot (q : Int) (v : Value) : Prop := v = .int .u64 q
def Round (U u Y y1 : Int) (v v' : Value) : Prop := ∃ q r : Int, v = .int .u64 q ∧ v' = .int .u64 r ∧ r < 4294967296 ∧ Ld.Guess U u Y y1 q r

set_option maxRecDepth 10000 in
set_option maxHeartbeats 1000000 in
theorem div64_pre (hi lo y s : Int) (h0 : 1 ≤ hi) (h1 : hi < y) (l0 : 0 ≤ lo) (l1 : lo < 18446744073709551616) (yy : y < 18446744073709551616) (s0 : 0 ≤ s) (s1 : s ≤ 63) (w : World)
    (hlz : ∀ w, Calls Try.prog 116 #[.int .u64 y] w fun e w' => e = .returned (.int .i64 s) ∧ w = w')
    (Y U L u1 u0 y1 y0 q r Q1 : Int) (eY : IntKind.u64.wrap (y * 2 ^ s.toNat) = Y) (e1 : Y / 4294967296 = y1) (e0 : bits .and .u64 Y 4294967295 = y0)
    (eU : bits .or .u64 (IntKind.u64.wrap (hi * 2 ^ s.toNat)) (lo / 2 ^ (64 - s).toNat) = U) (eL : IntKind.u64.wrap (lo * 2 ^ s.toNat) = L) (f1 : L / 4294967296 = u1) (f0 : bits .and .u64 L 4294967295 = u0)
    (d1 : Ld.Digit U u1 Y y1 y0) (eq : IntKind.u64.wrap (U.tdiv y1) = q) (er : IntKind.u64.wrap (U - IntKind.u64.wrap (q * y1)) = r) (hg : Ld.Guess U u1 Y y1 q r) (hr : r < 4294967296)
    (hQ1 : (U * 4294967296 + u1) / Y = Q1) (Q10 : 0 ≤ Q1) (Q11 : Q1 < 4294967296)
    (R1 q2 r2 Q0 R0 : Int) (eR1 : IntKind.u64.wrap (IntKind.u64.wrap (IntKind.u64.wrap (U * 4294967296) + u1) - IntKind.u64.wrap (Q1 * Y)) = R1)
    (d2 : Ld.Digit R1 u0 Y y1 y0) (eq2 : IntKind.u64.wrap (R1.tdiv y1) = q2) (er2 : IntKind.u64.wrap (R1 - IntKind.u64.wrap (q2 * y1)) = r2) (hg2 : Ld.Guess R1 u0 Y y1 q2 r2) (hr2 : r2 < 4294967296)
    (hQ0 : (R1 * 4294967296 + u0) / Y = Q0) (Q00 : 0 ≤ Q0) (Q01 : Q0 < 4294967296)
    (eR0 : IntKind.u64.wrap (IntKind.u64.wrap (IntKind.u64.wrap (R1 * 4294967296) + u0) - IntKind.u64.wrap (Q0 * Y)) = R0) :
    Calls Try.prog 115 #[.int .u64 hi, .int .u64 lo, .int .u64 y] w (Gives (.tuple #[.int .u64 (Q1 * 4294967296 + Q0), .int .u64 (R0 / 2 ^ s.toNat)]) w) := by
  have g : (y == 0) = false := by simp; omega
  have g2 : decide (y ≤ hi) = false := by simp; omega
  have g3 : (hi == 0) = false := by simp; omega
  have by1 : 2147483648 ≤ y1 := d1.b1
  have by1' : y1 < 4294967296 := d1.b1'
  have by0 : 0 ≤ y0 := d1.b0
  have by0' : y0 < 4294967296 := d1.b0'
  have bu : 0 ≤ u1 := d1.bu
  have bu' : u1 < 4294967296 := d1.bu'
  have bv : 0 ≤ u0 := d2.bu
  have bv' : u0 < 4294967296 := d2.bu'
  have HQ := hid hQ1; clear hQ1
  have HQ0 := hid hQ0; clear hQ0
  go_enter Try.func115, Try.ntmps115
  go_upto_block 0 with (go_at_call 116; refine (hlz _).mono ?_; rintro e w' ⟨rfl, rfl⟩)
  go_cut [15] (fun q wx => Slot Q1 q ∧ wx = w)
  case first =>
    clear eY e1 e0 eU eL f1 f0 eq er eR1 eq2 er2 eR0
    go_wp2
    go_loop [15, 16] (fun v v' => Round U u1 Y y1 v v') (fun v _ => (intOf v).toNat)
    case atStart => exact ⟨q, r, rfl, rfl, hr, hg⟩
    case round =>
      obtain ⟨a, b, rfl, rfl, hb, G⟩ := hrel
      have a0 : 0 ≤ a := G.1
      have a1 : a ≤ 8589934591 := G.2.1
      have b0 : 0 ≤ b := G.2.2.1
      have GH := hid G; clear G
      by_cases c1 : 4294967296 ≤ a
      · have hdn := Ld.Guess.down d1 GH.out hb (Or.inl c1)
        have DH := hid hdn.2
        by_cases c2 : 4294967296 ≤ b + y1
        · go_wp2
          go_meet
          have := Ld.Guess.fin d1 DH.out (Or.inl c2)
          refine ⟨?_, rfl⟩
          unfold Slot
          rw [this, HQ.out]
        · go_wp2
          go_round
          case rel => exact ⟨a - 1, b + y1, rfl, rfl, by omega, DH.out⟩
          case measure => simp [intOf]; omega
      · have hp := Ld.prod_lt a0 (by omega : a < 4294967296) by0 by0'
        obtain ⟨p, hpe⟩ : ∃ p, p = a * y0 := ⟨_, rfl⟩
        have hpe' : a * y0 = p := hpe.symm
        have p0 : 0 ≤ p := by rw [hpe]; exact hp.1
        have p1 : p ≤ 18446744065119617025 := by rw [hpe]; exact hp.2
        have HP := hid hpe; clear hpe hp
        by_cases c3 : 4294967296 * b + u1 < p
        · have hdn := Ld.Guess.down d1 GH.out hb (Or.inr (by rw [← HP.out]; exact c3))
          have DH := hid hdn.2
          have a2 : 1 ≤ a := hdn.1
          clear hdn
          by_cases c2 : 4294967296 ≤ b + y1
          · go_wp2
            go_meet
            have := Ld.Guess.fin d1 DH.out (Or.inl c2)
            refine ⟨?_, rfl⟩
            unfold Slot
            rw [this, HQ.out]
          · go_wp2
            go_round
            case rel => exact ⟨a - 1, b + y1, rfl, rfl, by omega, DH.out⟩
            case measure => simp [intOf]; omega
        · go_wp2
          go_meet
          have := Ld.Guess.fin d1 GH.out (Or.inr (by rw [← HP.out]; omega))
          refine ⟨?_, rfl⟩
          unfold Slot
          rw [this, HQ.out]
  case rest =>
    obtain ⟨hs, rfl⟩ := hcut
    unfold Slot at hs
    subst hs
    clear eU eL f1 f0 eq er
    go_upto_block 2 with fail
    go_cut [18] (fun q wx => Slot Q0 q ∧ wx = wc)
    case first =>
      clear eY e1 e0 eR1 eq2 er2 eR0
      go_wp2
      go_loop [18, 16] (fun v v' => Round R1 u0 Y y1 v v') (fun v _ => (intOf v).toNat)
      case atStart => exact ⟨q2, r2, rfl, rfl, hr2, hg2⟩
      case round =>
        obtain ⟨a, b, rfl, rfl, hb, G⟩ := hrel
        have a0 : 0 ≤ a := G.1
        have a1 : a ≤ 8589934591 := G.2.1
        have b0 : 0 ≤ b := G.2.2.1
        have GH := hid G; clear G
        by_cases c1 : 4294967296 ≤ a
        · have hdn := Ld.Guess.down d2 GH.out hb (Or.inl c1)
          have DH := hid hdn.2
          by_cases c2 : 4294967296 ≤ b + y1
          · go_wp2
            go_meet
            have := Ld.Guess.fin d2 DH.out (Or.inl c2)
            refine ⟨?_, rfl⟩
            unfold Slot
            rw [this, HQ0.out]
          · go_wp2
            go_round
            case rel => exact ⟨a - 1, b + y1, rfl, rfl, by omega, DH.out⟩
            case measure => simp [intOf]; omega
        · have hp := Ld.prod_lt a0 (by omega : a < 4294967296) by0 by0'
          obtain ⟨p, hpe⟩ : ∃ p, p = a * y0 := ⟨_, rfl⟩
          have hpe' : a * y0 = p := hpe.symm
          have p0 : 0 ≤ p := by rw [hpe]; exact hp.1
          have p1 : p ≤ 18446744065119617025 := by rw [hpe]; exact hp.2
          have HP := hid hpe; clear hpe hp
          by_cases c3 : 4294967296 * b + u0 < p
          · have hdn := Ld.Guess.down d2 GH.out hb (Or.inr (by rw [← HP.out]; exact c3))
            have DH := hid hdn.2
            have a2 : 1 ≤ a := hdn.1
            clear hdn
            by_cases c2 : 4294967296 ≤ b + y1
            · go_wp2
              go_meet
              have := Ld.Guess.fin d2 DH.out (Or.inl c2)
              refine ⟨?_, rfl⟩
              unfold Slot
              rw [this, HQ0.out]
            · go_wp2
              go_round
              case rel => exact ⟨a - 1, b + y1, rfl, rfl, by omega, DH.out⟩
              case measure => simp [intOf]; omega
          · go_wp2
            go_meet
            have := Ld.Guess.fin d2 GH.out (Or.inr (by rw [← HP.out]; omega))
            refine ⟨?_, rfl⟩
            unfold Slot
            rw [this, HQ0.out]
    case rest =>
      obtain ⟨hs, rfl⟩ := hcut
      unfold Slot at hs
      subst hs
      go_wp2
      go_ret2
      exact Gives.mk rfl (Below.refl _ _)
theorem mask32 {a : Int} (h0 : 0 ≤ a) (h1 : a < 18446744073709551616) : bits .and .u64 a 4294967295 = a % 4294967296 := by
  obtain ⟨n, rfl⟩ := Int.eq_ofNat_of_zero_le h0
  have h := bits_and_u64_nat n 4294967295 (by omega) (by omega)
  have e : n &&& 4294967295 = n % 4294967296 := Nat.and_two_pow_sub_one_eq_mod n 32
  rw [e] at h
  exact h.trans (by omega)
theorem pow_cast (s : Nat) : ((2 ^ s : Nat) : Int) = (2 : Int) ^ s := by simp
theorem div64_big (hi lo y s : Nat) (h0 : 1 ≤ hi) (h1 : hi < y) (l1 : lo < 18446744073709551616) (hs : s ≤ 63) (n0 : 9223372036854775808 ≤ y * 2 ^ s) (n1 : y * 2 ^ s < 18446744073709551616) (w : World)
    (hlz : ∀ w, Calls Try.prog 116 #[.int .u64 y] w fun e w' => e = .returned (.int .i64 (s : Int)) ∧ w = w') :
    Calls Try.prog 115 #[.int .u64 hi, .int .u64 lo, .int .u64 y] w (Gives (.tuple #[.int .u64 ((hi * 18446744073709551616 + lo) / y), .int .u64 ((hi * 18446744073709551616 + lo) % y)]) w) := by
  have yy : y < 18446744073709551616 := Nat.lt_of_le_of_lt (Nat.le_mul_of_pos_right _ (Nat.two_pow_pos s)) n1
  have hU := Ld.un32_lt (s := s) h1 l1 (by omega)
  have hor := Ld.or_part (hi := hi) (s := s) l1 (by omega)
  have hhs : hi * 2 ^ s < 18446744073709551616 := Nat.lt_of_le_of_lt (Nat.le_add_right _ _) (Nat.lt_trans hU n1)
  obtain ⟨U, eUn⟩ : ∃ U, U = hi * 2 ^ s + lo / 2 ^ (64 - s) := ⟨_, rfl⟩
  obtain ⟨L, eLn⟩ : ∃ L, L = lo * 2 ^ s % 18446744073709551616 := ⟨_, rfl⟩
  obtain ⟨u1, hu1⟩ : ∃ u, u = L / 4294967296 := ⟨_, rfl⟩
  obtain ⟨u0, hu0⟩ : ∃ u, u = L % 4294967296 := ⟨_, rfl⟩
  have wh := Ld.whole (y := y) (show s ≤ 64 by omega) (by omega) eUn eLn hu1 hu0
  obtain ⟨Y, eYn⟩ : ∃ Y, Y = y * 2 ^ s := ⟨_, rfl⟩
  rw [← eUn] at hor hU
  rw [← eYn] at wh hU n0 n1
  have d1 : Ld.Digit (U : Int) (u1 : Int) (Y : Int) ((Y : Int) / 4294967296) ((Y : Int) % 4294967296) := by
    constructor <;> omega
  obtain ⟨Q10, Q11, R10, R11, RE⟩ := d1.quot
  obtain ⟨hg, hr⟩ := d1.start
  have d2 : Ld.Digit (((U : Int) * 4294967296 + u1) % Y) (u0 : Int) (Y : Int) ((Y : Int) / 4294967296) ((Y : Int) % 4294967296) := by
    constructor <;> omega
  obtain ⟨Q00, Q01, R00, R01, RE0⟩ := d2.quot
  obtain ⟨hg2, hr2⟩ := d2.start
  obtain ⟨y1, hy1⟩ : ∃ z : Int, z = (Y : Int) / 4294967296 := ⟨_, rfl⟩
  obtain ⟨y0, hy0⟩ : ∃ z : Int, z = (Y : Int) % 4294967296 := ⟨_, rfl⟩
  rw [← hy1, ← hy0] at d1 d2
  rw [← hy1] at hg hr hg2 hr2
  have f1 : IntKind.u64.wrap ((y : Int) * 2 ^ (s : Int).toNat) = (Y : Int) := by
    rw [IntKind.wrap_u64, Int.toNat_natCast, ← pow_cast, ← Int.natCast_mul, ← eYn]; omega
  have f2 : bits .and .u64 (Y : Int) 4294967295 = y0 := by rw [mask32 (by omega) (by omega), hy0]
  have f3 : bits .or .u64 (IntKind.u64.wrap ((hi : Int) * 2 ^ (s : Int).toNat)) ((lo : Int) / 2 ^ ((64 : Int) - (s : Int)).toNat) = (U : Int) := by
    rw [IntKind.wrap_u64, Int.toNat_natCast, ← pow_cast, ← Int.natCast_mul]
    have e3 : ((64 : Int) - s).toNat = 64 - s := by omega
    rw [e3, ← pow_cast, ← Int.natCast_ediv]
    have e4 : ((hi * 2 ^ s : Nat) : Int) % 18446744073709551616 = ((hi * 2 ^ s : Nat) : Int) := by omega
    rw [e4, bits_or_u64_nat _ _ hhs (Nat.lt_of_le_of_lt (Nat.div_le_self _ _) l1), hor]
  have f4 : IntKind.u64.wrap ((lo : Int) * 2 ^ (s : Int).toNat) = (L : Int) := by
    rw [IntKind.wrap_u64, Int.toNat_natCast, ← pow_cast, ← Int.natCast_mul]; omega
  have f5 : (L : Int) / 4294967296 = (u1 : Int) := by omega
  have f6 : bits .and .u64 (L : Int) 4294967295 = (u0 : Int) := by rw [mask32 (by omega) (by omega)]; omega
  obtain ⟨Q1, hQ1⟩ : ∃ z : Int, ((U : Int) * 4294967296 + u1) / Y = z := ⟨_, rfl⟩
  obtain ⟨R1, hR1⟩ : ∃ z : Int, ((U : Int) * 4294967296 + u1) % Y = z := ⟨_, rfl⟩
  rw [hR1] at d2 hg2 hr2 R10 R11 RE Q00 Q01 R00 R01 RE0
  rw [hQ1] at Q10 Q11 RE
  obtain ⟨Q0, hQ0⟩ : ∃ z : Int, (R1 * 4294967296 + u0) / Y = z := ⟨_, rfl⟩
  obtain ⟨R0, hR0⟩ : ∃ z : Int, (R1 * 4294967296 + u0) % Y = z := ⟨_, rfl⟩
  rw [hQ0] at Q00 Q01 RE0
  rw [hR0] at R00 R01 RE0
  obtain ⟨q, hq⟩ : ∃ z : Int, (U : Int) / y1 = z := ⟨_, rfl⟩
  obtain ⟨q2, hq2⟩ : ∃ z : Int, R1 / y1 = z := ⟨_, rfl⟩
  rw [hq] at hg hr
  rw [hq2] at hg2 hr2
  have f7 : IntKind.u64.wrap ((U : Int).tdiv y1) = q := by
    have := hg.1; have := hg.2.1
    rw [Int.tdiv_eq_ediv_of_nonneg (by omega), hq, IntKind.wrap_u64]; omega
  have f8 : IntKind.u64.wrap ((U : Int) - IntKind.u64.wrap (q * y1)) = (U : Int) - q * y1 := by
    have := hg.2.2.1
    rw [IntKind.wrap_u64, IntKind.wrap_u64]; omega
  have f9 : IntKind.u64.wrap (IntKind.u64.wrap (IntKind.u64.wrap ((U : Int) * 4294967296) + u1) - IntKind.u64.wrap (Q1 * Y)) = R1 := by
    simp only [IntKind.wrap_u64]; omega
  have f10 : IntKind.u64.wrap (R1.tdiv y1) = q2 := by
    have := hg2.1; have := hg2.2.1
    rw [Int.tdiv_eq_ediv_of_nonneg R10, hq2, IntKind.wrap_u64]; omega
  have f11 : IntKind.u64.wrap (R1 - IntKind.u64.wrap (q2 * y1)) = R1 - q2 * y1 := by
    have := hg2.2.2.1
    rw [IntKind.wrap_u64, IntKind.wrap_u64]; omega
  have f12 : IntKind.u64.wrap (IntKind.u64.wrap (IntKind.u64.wrap (R1 * 4294967296) + u0) - IntKind.u64.wrap (Q0 * Y)) = R0 := by
    simp only [IntKind.wrap_u64]; omega
  have i0 : (1 : Int) ≤ hi := by omega
  have i1 : (hi : Int) < y := by omega
  have i2 : (0 : Int) ≤ lo := by omega
  have i3 : (lo : Int) < 18446744073709551616 := by omega
  have i4 : (y : Int) < 18446744073709551616 := by omega
  have i5 : (0 : Int) ≤ s := by omega
  have i6 : (s : Int) ≤ 63 := by omega
  have c1 : ((hi : Int) * 18446744073709551616 + lo) / y = Q1 * 4294967296 + Q0 := by
    have := congrArg (fun n : Nat => (n : Int)) wh.1
    simp only [Int.natCast_ediv, Int.natCast_add, Int.natCast_mul, Int.natCast_emod, Int.cast_ofNat_Int] at this
    rw [hQ1, hR1, hQ0] at this
    exact this.symm
  have c2 : ((hi : Int) * 18446744073709551616 + lo) % y = R0 / 2 ^ (s : Int).toNat := by
    have := congrArg (fun n : Nat => (n : Int)) wh.2
    simp only [Int.natCast_ediv, Int.natCast_add, Int.natCast_mul, Int.natCast_emod, Int.cast_ofNat_Int] at this
    rw [hR1, hR0, pow_cast] at this
    rw [Int.toNat_natCast]
    exact this.symm
  have key := div64_pre (hi : Int) lo y s i0 i1 i2 i3 i4 i5 i6 w hlz Y U L u1 u0 y1 y0 q _ Q1 f1 hy1.symm f2 f3 f4 f5 f6 d1 f7 f8 hg hr hQ1 Q10 Q11 R1 q2 _ Q0 R0 f9 d2 f10 f11 hg2 hr2 hQ0 Q00 Q01 f12
  refine key.mono fun e w' h => ?_
  rw [c1, c2]
  exact h

theorem norm_shift {y : Nat} (h0 : 0 < y) (h1 : y < 18446744073709551616) :
    Lib.bitLen y ≤ 64 ∧ 64 - Lib.bitLen y ≤ 63 ∧ 9223372036854775808 ≤ y * 2 ^ (64 - Lib.bitLen y) ∧ y * 2 ^ (64 - Lib.bitLen y) < 18446744073709551616 := by
  have hb : 1 ≤ Lib.bitLen y ∧ 2 ^ (Lib.bitLen y - 1) ≤ y ∧ y < 2 ^ Lib.bitLen y := Lib.bitLenAux_bounds 64 y (Nat.lt_of_lt_of_eq h1 (by decide)) (by omega)
  obtain ⟨p1, b3, b1⟩ := hb
  have p2 : Lib.bitLen y ≤ 64 := by
    apply Nat.le_of_not_lt; intro hc
    have : 2 ^ 64 ≤ 2 ^ (Lib.bitLen y - 1) := Nat.pow_le_pow_right (by omega) (by omega)
    have e : (2 : Nat) ^ 64 = 18446744073709551616 := by decide
    omega
  generalize Lib.bitLen y = k at *
  refine ⟨p2, by omega, ?_, ?_⟩
  · have h := Nat.mul_le_mul_right (2 ^ (64 - k)) b3
    rw [← Nat.pow_add] at h
    have e : k - 1 + (64 - k) = 63 := by omega
    rw [e] at h
    have e2 : (2 : Nat) ^ 63 = 9223372036854775808 := by decide
    omega
  · have h := Nat.mul_lt_mul_of_pos_right b1 (Nat.two_pow_pos (64 - k))
    rw [← Nat.pow_add] at h
    have e : k + (64 - k) = 64 := by omega
    rw [e] at h
    have e2 : (2 : Nat) ^ 64 = 18446744073709551616 := by decide
    omega
theorem div64_any (hi lo y : Int) (h0 : 0 ≤ hi) (h1 : hi < y) (l0 : 0 ≤ lo) (l1 : lo < 18446744073709551616) (y1 : y < 18446744073709551616) (w : World) :
    Calls Try.prog 115 #[.int .u64 hi, .int .u64 lo, .int .u64 y] w (Gives (.tuple #[.int .u64 ((hi * 18446744073709551616 + lo) / y), .int .u64 ((hi * 18446744073709551616 + lo) % y)]) w) := by
  by_cases hz : hi = 0
  · subst hz
    refine (div64_small lo y l0 l1 (by omega) y1 w).mono fun e w' h => ?_
    rw [Int.zero_mul, Int.zero_add]
    exact h
  · obtain ⟨hi, rfl⟩ := Int.eq_ofNat_of_zero_le h0
    obtain ⟨lo, rfl⟩ := Int.eq_ofNat_of_zero_le l0
    obtain ⟨y, rfl⟩ := Int.eq_ofNat_of_zero_le (show 0 ≤ y by omega)
    obtain ⟨n0, n1, n2, n3⟩ := norm_shift (y := y) (by omega) (by omega)
    refine div64_big hi lo y (64 - Lib.bitLen y) (by omega) (by omega) (by omega) n1 n2 n3 w fun w => ?_
    refine (Try.bits_LeadingZeros64 (y : Int) w (by omega) (by omega)).mono fun e w' h => ?_
    obtain ⟨he, hw⟩ := h
    refine ⟨?_, hw.symm⟩
    rw [he, Int.toNat_natCast]
    have : ((64 : Int) - (Lib.bitLen y : Int)) = ((64 - Lib.bitLen y : Nat) : Int) := by omega
    rw [this]
end Go.Proofs.Ytdimncchejbaaaa
