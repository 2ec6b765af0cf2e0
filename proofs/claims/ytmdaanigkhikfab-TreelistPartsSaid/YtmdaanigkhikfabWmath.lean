/-
  Plain mathematics for the layer 'wide': integers as a sign and two halves of 64 bits; what each call is to answer; long division by halves of 32 bits. No Go in sight.
-/
import Derived.WalkKit
import Derived.Lib.ItoaNum
namespace Go.Proofs.Ytmdaanigkhikfab
set_option linter.unusedVariables false

/-! ### long division: one digit -/
namespace Ld
theorem step_up {U u Y y1 y0 q r : Nat} (hY : Y = y1 * 4294967296 + y0) (hU : q * y1 + r = U) (h : q * y0 > 4294967296 * r + u) :
    U * 4294967296 + u < q * Y := by
  subst hY; subst hU
  have : q * (y1 * 4294967296 + y0) = (q * y1) * 4294967296 + q * y0 := by rw [Nat.mul_add, Nat.mul_assoc]
  rw [this]
  generalize q * y1 = a at *
  generalize q * y0 = b at *
  omega
theorem step_dn {U u Y y1 y0 q r : Nat} (hY : Y = y1 * 4294967296 + y0) (hU : q * y1 + r = U) (h : q * y0 ≤ 4294967296 * r + u) :
    q * Y ≤ U * 4294967296 + u := by
  subst hY; subst hU
  have : q * (y1 * 4294967296 + y0) = (q * y1) * 4294967296 + q * y0 := by rw [Nat.mul_add, Nat.mul_assoc]
  rw [this]
  generalize q * y1 = a at *
  generalize q * y0 = b at *
  omega
theorem q_lt {U Y y1 y0 q r : Nat} (hY : Y = y1 * 4294967296 + y0) (h0 : y0 < 4294967296) (hU : q * y1 + r = U) (hlt : U < Y) (hr : 4294967296 ≤ r) :
    q < 4294967296 := by
  subst hY; subst hU
  apply Nat.lt_of_not_le
  intro h
  have := Nat.mul_le_mul_right y1 h
  generalize q * y1 = a at *
  omega
theorem step_brk {U u Y y1 y0 q r : Nat} (hY : Y = y1 * 4294967296 + y0) (h0 : y0 < 4294967296) (hU : q * y1 + r = U) (hlt : U < Y) (hr : 4294967296 ≤ r) :
    q * Y ≤ U * 4294967296 + u := by
  have hq := q_lt hY h0 hU hlt hr
  refine step_dn hY hU ?_
  have : q * y0 ≤ 4294967296 * y0 := Nat.mul_le_mul_right _ (by omega)
  have : 4294967296 * y0 ≤ 4294967296 * r := Nat.mul_le_mul_left _ (by omega)
  omega
theorem quot_lt {U u Y : Nat} (hlt : U < Y) (hu : u < 4294967296) : (U * 4294967296 + u) / Y < 4294967296 := by
  rw [Nat.div_lt_iff_lt_mul (by omega)]
  have : (U + 1) * 4294967296 ≤ Y * 4294967296 := Nat.mul_le_mul_right _ hlt
  rw [Nat.mul_comm 4294967296 Y]; omega
theorem quot_le_first {U u Y y1 y0 : Nat} (hY : Y = y1 * 4294967296 + y0) (hy : 0 < y1) (hu : u < 4294967296) :
    (U * 4294967296 + u) / Y ≤ U / y1 := by
  rw [Nat.le_div_iff_mul_le hy]
  have h := Nat.div_mul_le_self (U * 4294967296 + u) Y
  generalize (U * 4294967296 + u) / Y = q at *
  subst hY
  have : q * (y1 * 4294967296 + y0) = (q * y1) * 4294967296 + q * y0 := by rw [Nat.mul_add, Nat.mul_assoc]
  rw [this] at h
  generalize q * y1 = a at *
  generalize q * y0 = b at *
  omega
theorem lt_of_mul {q N Y : Nat} (h : N < q * Y) : N / Y < q := by
  have hY : 0 < Y := by
    rcases Nat.eq_zero_or_pos Y with h0 | h0
    · subst h0; simp at h
    · exact h0
  rwa [Nat.div_lt_iff_lt_mul hY]
theorem le_of_mul {q N Y : Nat} (hY : 0 < Y) (h : q * Y ≤ N) : q ≤ N / Y := by
  rwa [Nat.le_div_iff_mul_le hY]
/-- Two digits put together. -/
theorem two_digits {A u1 u0 Y : Nat} (hY : 0 < Y) :
    (A * 18446744073709551616 + (u1 * 4294967296 + u0)) / Y
      = (A * 4294967296 + u1) / Y * 4294967296 + (((A * 4294967296 + u1) % Y) * 4294967296 + u0) / Y
    ∧ (A * 18446744073709551616 + (u1 * 4294967296 + u0)) % Y = (((A * 4294967296 + u1) % Y) * 4294967296 + u0) % Y := by
  have e : A * 18446744073709551616 + (u1 * 4294967296 + u0)
      = Y * ((A * 4294967296 + u1) / Y * 4294967296) + (((A * 4294967296 + u1) % Y) * 4294967296 + u0) := by
    have h := Nat.div_add_mod (A * 4294967296 + u1) Y
    generalize (A * 4294967296 + u1) / Y = q at *
    generalize (A * 4294967296 + u1) % Y = r at *
    have : Y * (q * 4294967296) = (Y * q) * 4294967296 := by rw [Nat.mul_assoc]
    rw [this]
    generalize Y * q = a at *
    omega
  rw [e]
  constructor
  · rw [Nat.mul_add_div hY]
  · rw [Nat.mul_add_mod]
end Ld

/-! ### integers as a sign and two halves -/
structure Wd where
  neg : Bool
  hi : Int
  lo : Int
deriving DecidableEq
namespace Wd
def mag (w : Wd) : Int := w.hi * 18446744073709551616 + w.lo
def sv (neg : Bool) (m : Int) : Int := if neg = true then -m else m
def toInt (w : Wd) : Int := sv w.neg w.mag
def ofInt (n : Int) : Wd := ⟨decide (n < 0), (n.natAbs : Int) / 18446744073709551616, (n.natAbs : Int) % 18446744073709551616⟩
def zero : Wd := ⟨false, 0, 0⟩
def chk (w : Wd) : Int := if 9223372036854775808 ≤ w.hi then 2 else if w.neg = true ∧ w.hi = 0 ∧ w.lo = 0 then 3 else 0
/-- The halves fit into 64 bits. -/
def Fits (w : Wd) : Prop := (0 ≤ w.hi ∧ w.hi < 18446744073709551616) ∧ (0 ≤ w.lo ∧ w.lo < 18446744073709551616)
/-- The sign is taken away from 0. -/
def mk' (neg : Bool) (hi lo : Int) : Wd := ⟨neg && !(decide (hi = 0 ∧ lo = 0)), hi, lo⟩

theorem zero_eq : ofInt 0 = zero := rfl
theorem mk'_eq (neg : Bool) (hi lo : Int) (h0 : 0 ≤ hi) (l0 : 0 ≤ lo) (h : lo < 18446744073709551616) : mk' neg hi lo = ofInt (sv neg (hi * 18446744073709551616 + lo)) := by
  unfold mk' ofInt sv
  cases neg
  · simp
    refine ⟨by omega, by omega, by omega⟩
  · simp
    refine ⟨?_, by omega, by omega⟩
    rw [Bool.eq_iff_iff]; simp; omega
theorem ofInt_toInt (w : Wd) (h : chk w = 0) (hf : Fits w) : ofInt w.toInt = w := by
  obtain ⟨n, hi, lo⟩ := w
  obtain ⟨⟨h0, h1⟩, ⟨l0, l1⟩⟩ := hf
  simp only at h0 h1 l0 l1
  have := mk'_eq n hi lo h0 l0 l1
  unfold toInt mag
  simp only
  rw [← this]
  unfold chk at h
  simp only at h
  split at h
  · simp at h
  · split at h
    · simp at h
    · rename_i h1 h2
      unfold mk'
      congr 1
      cases n
      · rfl
      · simp at h2 ⊢; omega
theorem chk_ofInt (n : Int) (h : n.natAbs < 170141183460469231731687303715884105728) : chk (ofInt n) = 0 := by
  unfold chk ofInt
  simp only
  rw [if_neg (by omega), if_neg]
  simp; omega
theorem toInt_ofInt (n : Int) : (ofInt n).toInt = n := by
  unfold toInt ofInt mag sv
  by_cases h : n < 0
  · simp [h]; omega
  · simp [h]; omega
theorem toInt_lt (w : Wd) (h : chk w = 0) (hf : Fits w) : w.toInt.natAbs < 170141183460469231731687303715884105728 := by
  obtain ⟨n, hi, lo⟩ := w
  obtain ⟨⟨h0, h1⟩, ⟨l0, l1⟩⟩ := hf
  unfold chk at h
  unfold toInt mag sv
  simp only at *
  split at h
  · simp at h
  · split <;> omega
theorem mag_ofInt (n : Int) : (ofInt n).mag = n.natAbs := by unfold mag ofInt; simp only; omega
theorem mag_nonneg (w : Wd) (hf : Fits w) : 0 ≤ w.mag := by
  obtain ⟨⟨h0, h1⟩, ⟨l0, l1⟩⟩ := hf
  unfold mag; omega
theorem mag_toInt (w : Wd) (hf : Fits w) : (w.toInt.natAbs : Int) = w.mag := by
  have := mag_nonneg w hf
  unfold toInt sv; split <;> omega
theorem fits_ofInt (n : Int) (h : n.natAbs < 340282366920938463463374607431768211456) : Fits (ofInt n) := by
  unfold Fits ofInt; simp only; omega
theorem fits_zero : Fits zero := by unfold Fits zero; simp
theorem toInt_neg (w : Wd) (h : chk w = 0) (hf : Fits w) : w.neg = decide (w.toInt < 0) := by
  rw [← ofInt_toInt w h hf, toInt_ofInt]; rfl

/-- Up to the limit the integer, beyond it the error. -/
def lim (n : Int) : Wd × Int := if n.natAbs < 170141183460469231731687303715884105728 then (ofInt n, 0) else (zero, 8)
def addS (v w : Wd) : Wd × Int := if chk v ≠ 0 then (zero, chk v) else if chk w ≠ 0 then (zero, chk w) else lim (v.toInt + w.toInt)
def subS (v w : Wd) : Wd × Int := if chk v ≠ 0 then (zero, chk v) else if chk w ≠ 0 then (zero, chk w) else lim (v.toInt - w.toInt)
def negS (v : Wd) : Wd × Int := if chk v ≠ 0 then (zero, chk v) else (ofInt (-v.toInt), 0)
def timesS (v : Wd) (a : Int) : Wd × Int := if chk v ≠ 0 then (zero, chk v) else lim (v.toInt * a)
def cmpI (a b : Int) : Int := if a < b then -1 else if a = b then 0 else 1
def cmpS (v w : Wd) : Int := if chk v ≠ 0 ∨ chk w ≠ 0 then 0 else cmpI v.toInt w.toInt
def intS (w : Wd) : Int × Int := if chk w ≠ 0 then (0, chk w) else if -9223372036854775808 ≤ w.toInt ∧ w.toInt ≤ 9223372036854775807 then (w.toInt, 0) else (0, 8)
def divS (w : Wd) (d : Int) : Wd × Int × Int := if chk w ≠ 0 then (zero, 0, chk w) else if d = 0 then (zero, 0, 18) else (ofInt (w.toInt.fdiv d), w.toInt.fmod d, 0)
def gcdS (w : Wd) (a : Int) : Int × Int := if chk w ≠ 0 then (0, chk w) else if Int.gcd w.mag a < 9223372036854775808 then ((Int.gcd w.mag a : Nat), 0) else (0, 8)
/-- The sum of the products, from left to right. -/
def dotGo : Int → List Int → List Int → Wd × Int
  | s, x :: xs, y :: ys => if (s + x * y).natAbs < 170141183460469231731687303715884105728 then dotGo (s + x * y) xs ys else (zero, 8)
  | s, _, _ => (ofInt s, 0)
theorem fdiv_of {n d q r : Int} (h : r + d * q = n) (hr : (0 < d ∧ 0 ≤ r ∧ r < d) ∨ (d < 0 ∧ d < r ∧ r ≤ 0)) : n.fdiv d = q ∧ n.fmod d = r := by
  rcases hr with ⟨hd, h0, h1⟩ | ⟨hd, h0, h1⟩
  · exact (Int.fdiv_fmod_unique hd).2 ⟨h, h0, h1⟩
  · exact (Int.fdiv_fmod_unique' hd).2 ⟨h, h0, h1⟩
/-- Quotient and remainder of the magnitudes, rounded down. -/
theorem div_up {n d : Int} {q r : Nat} (hm : n.natAbs = d.natAbs * q + r) (hr : r < d.natAbs) (h0 : r ≠ 0) (hs : decide (n < 0) ≠ decide (d < 0)) :
    n.fdiv d = -((q : Int) + 1) ∧ n.fmod d = if d < 0 then -((d.natAbs : Int) - r) else (d.natAbs : Int) - r := by
  have hp : (d.natAbs : Int) * q = ((d.natAbs * q : Nat) : Int) := by simp
  generalize hp' : d.natAbs * q = p at *
  by_cases hd : d < 0
  · have hn : ¬ n < 0 := by simpa [hd] using hs
    have e : (d.natAbs : Int) = -d := by omega
    rw [e] at hp
    rw [if_pos hd]
    refine fdiv_of ?_ (Or.inr ⟨hd, by omega, by omega⟩)
    rw [Int.mul_neg, Int.mul_add, Int.mul_one]
    rw [Int.neg_mul] at hp
    omega
  · have hn : n < 0 := by simpa [hd] using hs
    have e : (d.natAbs : Int) = d := by omega
    rw [e] at hp
    rw [if_neg hd]
    refine fdiv_of ?_ (Or.inl ⟨by omega, by omega, by omega⟩)
    rw [Int.mul_neg, Int.mul_add, Int.mul_one]
    omega
theorem div_same {n d : Int} {q r : Nat} (hm : n.natAbs = d.natAbs * q + r) (hr : r < d.natAbs) (hs : decide (n < 0) = decide (d < 0)) :
    n.fdiv d = (q : Int) ∧ n.fmod d = if d < 0 then -(r : Int) else (r : Int) := by
  have hp : (d.natAbs : Int) * q = ((d.natAbs * q : Nat) : Int) := by simp
  generalize hp' : d.natAbs * q = p at *
  by_cases hd : d < 0
  · have hn : n < 0 := by simpa [hd] using hs
    have e : (d.natAbs : Int) = -d := by omega
    rw [e] at hp
    rw [if_pos hd]
    refine fdiv_of ?_ (Or.inr ⟨hd, by omega, by omega⟩)
    rw [Int.neg_mul] at hp
    omega
  · have hn : ¬ n < 0 := by simpa [hd] using hs
    have e : (d.natAbs : Int) = d := by omega
    rw [e] at hp
    rw [if_neg hd]
    exact fdiv_of (by omega) (Or.inl ⟨by omega, by omega, by omega⟩)
theorem div_exact {n d : Int} {q : Nat} (hm : n.natAbs = d.natAbs * q) (hd0 : d ≠ 0) (hs : decide (n < 0) ≠ decide (d < 0)) :
    n.fdiv d = -(q : Int) ∧ n.fmod d = 0 := by
  have hp : (d.natAbs : Int) * q = ((d.natAbs * q : Nat) : Int) := by simp
  generalize hp' : d.natAbs * q = p at *
  by_cases hd : d < 0
  · have hn : ¬ n < 0 := by simpa [hd] using hs
    have e : (d.natAbs : Int) = -d := by omega
    rw [e, Int.neg_mul] at hp
    refine fdiv_of ?_ (Or.inr ⟨hd, by omega, by omega⟩)
    rw [Int.mul_neg]; omega
  · have hn : n < 0 := by simpa [hd] using hs
    have e : (d.natAbs : Int) = d := by omega
    rw [e] at hp
    refine fdiv_of ?_ (Or.inl ⟨by omega, by omega, by omega⟩)
    rw [Int.mul_neg]; omega
theorem mag_div_lt {m D : Nat} (h : m < 170141183460469231731687303715884105728) (hD : 0 < D) : m / D < 170141183460469231731687303715884105728 :=
  Nat.lt_of_le_of_lt (Nat.div_le_self _ _) h
/-- The quotient of the halves: first the upper one, then what is left of it before the lower one. -/
theorem halves {hi lo D : Nat} (hD : 0 < D) (hl : lo < 18446744073709551616) :
    (hi * 18446744073709551616 + lo) / D = hi / D * 18446744073709551616 + (hi % D * 18446744073709551616 + lo) / D
    ∧ (hi * 18446744073709551616 + lo) % D = (hi % D * 18446744073709551616 + lo) % D := by
  have e : hi * 18446744073709551616 + lo = D * (hi / D * 18446744073709551616) + (hi % D * 18446744073709551616 + lo) := by
    have h := Nat.div_add_mod hi D
    generalize hi / D = q at *
    generalize hi % D = r at *
    rw [← Nat.mul_assoc]
    generalize D * q = a at *
    omega
  rw [e]
  constructor
  · rw [Nat.mul_add_div hD]
  · rw [Nat.mul_add_mod]
theorem half_lt {r lo D : Nat} (hr : r < D) (hl : lo < 18446744073709551616) : (r * 18446744073709551616 + lo) / D < 18446744073709551616 := by
  rw [Nat.div_lt_iff_lt_mul (by omega)]
  have : (r + 1) * 18446744073709551616 ≤ D * 18446744073709551616 := Nat.mul_le_mul_right _ hr
  rw [Nat.mul_comm 18446744073709551616 D]; omega
end Wd
namespace Ld
theorem norm {hi lo s : Nat} (hs : s ≤ 64) :
    (hi * 18446744073709551616 + lo) * 2 ^ s = (hi * 2 ^ s + lo / 2 ^ (64 - s)) * 18446744073709551616 + lo * 2 ^ s % 18446744073709551616 := by
  have e : (18446744073709551616 : Nat) = 2 ^ (64 - s) * 2 ^ s := by rw [← Nat.pow_add, Nat.sub_add_cancel hs]
  have h1 : lo * 2 ^ s / 18446744073709551616 = lo / 2 ^ (64 - s) := by
    rw [e, Nat.mul_div_mul_right _ _ (Nat.two_pow_pos s)]
  have h2 := Nat.div_add_mod (lo * 2 ^ s) 18446744073709551616
  rw [h1] at h2
  rw [Nat.add_mul, Nat.add_mul, Nat.mul_right_comm hi]
  generalize hi * 2 ^ s = a at *
  generalize lo / 2 ^ (64 - s) = b at *
  generalize lo * 2 ^ s = c at *
  omega
theorem un32_lt {hi lo y s : Nat} (h : hi < y) (hl : lo < 18446744073709551616) (hs : s ≤ 64) :
    hi * 2 ^ s + lo / 2 ^ (64 - s) < y * 2 ^ s := by
  have e : (18446744073709551616 : Nat) = 2 ^ (64 - s) * 2 ^ s := by rw [← Nat.pow_add, Nat.sub_add_cancel hs]
  have h1 : lo / 2 ^ (64 - s) < 2 ^ s := by
    rw [Nat.div_lt_iff_lt_mul (Nat.two_pow_pos _), Nat.mul_comm, ← e]; exact hl
  have h2 : (hi + 1) * 2 ^ s ≤ y * 2 ^ s := Nat.mul_le_mul_right _ h
  rw [Nat.add_mul, Nat.one_mul] at h2
  omega
theorem or_part {hi lo s : Nat} (hl : lo < 18446744073709551616) (hs : s ≤ 64) : (hi * 2 ^ s) ||| (lo / 2 ^ (64 - s)) = hi * 2 ^ s + lo / 2 ^ (64 - s) := by
  have e : (18446744073709551616 : Nat) = 2 ^ (64 - s) * 2 ^ s := by rw [← Nat.pow_add, Nat.sub_add_cancel hs]
  have h1 : lo / 2 ^ (64 - s) < 2 ^ s := by
    rw [Nat.div_lt_iff_lt_mul (Nat.two_pow_pos _), Nat.mul_comm, ← e]; exact hl
  rw [Nat.mul_comm hi, Nat.two_pow_add_eq_or_of_lt h1]
/-- The whole division: normed, two digits, the rest taken back. -/
theorem whole {hi lo y s un32 un10 u1 u0 : Nat} (hs : s ≤ 64) (hy : 0 < y)
    (h32 : un32 = hi * 2 ^ s + lo / 2 ^ (64 - s)) (h10 : un10 = lo * 2 ^ s % 18446744073709551616) (hu1 : u1 = un10 / 4294967296) (hu0 : u0 = un10 % 4294967296) :
    (un32 * 4294967296 + u1) / (y * 2 ^ s) * 4294967296 + (((un32 * 4294967296 + u1) % (y * 2 ^ s)) * 4294967296 + u0) / (y * 2 ^ s) = (hi * 18446744073709551616 + lo) / y
    ∧ ((((un32 * 4294967296 + u1) % (y * 2 ^ s)) * 4294967296 + u0) % (y * 2 ^ s)) / 2 ^ s = (hi * 18446744073709551616 + lo) % y := by
  have hY : 0 < y * 2 ^ s := Nat.mul_pos hy (Nat.two_pow_pos s)
  have t := two_digits (A := un32) (u1 := u1) (u0 := u0) hY
  have hN := norm (hi := hi) (lo := lo) hs
  rw [← h32, ← h10] at hN
  have hu : u1 * 4294967296 + u0 = un10 := by omega
  rw [hu, ← hN, Nat.mul_div_mul_right _ _ (Nat.two_pow_pos s), Nat.mul_mod_mul_right] at t
  refine ⟨t.1.symm, ?_⟩
  rw [← t.2, Nat.mul_div_cancel _ (Nat.two_pow_pos s)]
end Ld
namespace Wd
open Lib (decDigits)
/-- What is done of a number's digits: the last ones stand in 'acc', before them stand those of m. -/
def Dg (n m : Nat) (acc : List UInt8) : Prop := (acc = [] ∧ m = n) ∨ (acc ≠ [] ∧ m = n / 10 ^ acc.length ∧ decDigits n = (if m = 0 then [] else decDigits m) ++ acc)
theorem Dg.start (n : Nat) : Dg n n [] := Or.inl ⟨rfl, rfl⟩
theorem Dg.step {n m : Nat} {acc : List UInt8} (h : Dg n m acc) (hm : acc = [] ∨ m ≠ 0) : Dg n (m / 10) (UInt8.ofNat (48 + m % 10) :: acc) := by
  have key : decDigits m = (if m / 10 = 0 then [] else decDigits (m / 10)) ++ [UInt8.ofNat (48 + m % 10)] := by
    rw [decDigits]
    by_cases h1 : m < 10
    · rw [dif_pos h1, if_pos (by omega), Nat.mod_eq_of_lt h1]; rfl
    · rw [dif_neg h1, if_neg (by omega)]
  rcases h with ⟨rfl, rfl⟩ | ⟨h1, h2, h3⟩
  · refine Or.inr ⟨by simp, by simp, key⟩
  · have hm0 : m ≠ 0 := by
      rcases hm with h | h
      · exact absurd h h1
      · exact h
    refine Or.inr ⟨by simp, ?_, ?_⟩
    · rw [h2, List.length_cons, Nat.pow_succ, Nat.div_div_eq_div_mul]
    · rw [h3, if_neg hm0, key, List.append_assoc]; rfl
theorem Dg.done {n : Nat} {acc : List UInt8} (h : Dg n 0 acc) (ha : acc ≠ []) : acc = decDigits n := by
  rcases h with ⟨h1, _⟩ | ⟨_, _, h3⟩
  · exact absurd h1 ha
  · rw [h3, if_pos rfl]; rfl
/-- Fewer than 40 digits. -/
theorem Dg.len {n m : Nat} {acc : List UInt8} (h : Dg n m acc) (hn : n < 170141183460469231731687303715884105728) (hm : acc = [] ∨ m ≠ 0) : acc.length < 39 := by
  rcases h with ⟨rfl, _⟩ | ⟨h1, h2, _⟩
  · simp
  · have hm0 : m ≠ 0 := by
      rcases hm with h | h
      · exact absurd h h1
      · exact h
    apply Nat.lt_of_not_le
    intro hk
    have : n / 10 ^ acc.length = 0 := by
      apply Nat.div_eq_of_lt
      have : 10 ^ 39 ≤ 10 ^ acc.length := Nat.pow_le_pow_right (by omega) hk
      have e : (10 : Nat) ^ 39 = 1000000000000000000000000000000000000000 := by decide
      omega
    omega
end Wd
namespace Wd
/-- One step of the division bit by bit. -/
theorem bit_step {m d i : Nat} (hd : 0 < d) :
    m / 2 ^ i = 2 * (m / 2 ^ (i + 1)) + m / 2 ^ i % 2
    ∧ (d ≤ 2 * (m / 2 ^ (i + 1) % d) + m / 2 ^ i % 2 → m / 2 ^ i / d = 2 * (m / 2 ^ (i + 1) / d) + 1 ∧ m / 2 ^ i % d = 2 * (m / 2 ^ (i + 1) % d) + m / 2 ^ i % 2 - d)
    ∧ (2 * (m / 2 ^ (i + 1) % d) + m / 2 ^ i % 2 < d → m / 2 ^ i / d = 2 * (m / 2 ^ (i + 1) / d) ∧ m / 2 ^ i % d = 2 * (m / 2 ^ (i + 1) % d) + m / 2 ^ i % 2) := by
  have e : m / 2 ^ (i + 1) = m / 2 ^ i / 2 := by rw [Nat.pow_succ, Nat.div_div_eq_div_mul]
  rw [e]
  generalize m / 2 ^ i = M
  have h := Nat.div_add_mod (M / 2) d
  have hlt := Nat.mod_lt (M / 2) hd
  generalize M / 2 / d = q at *
  generalize hr : M / 2 % d = r at *
  have hM : M = 2 * (M / 2) + M % 2 := by omega
  generalize hb : M % 2 = b at *
  have hb2 : b < 2 := by omega
  refine ⟨hM, fun hle => ?_, fun hlt2 => ?_⟩
  · have eM : M = d * (2 * q + 1) + (2 * r + b - d) := by
      rw [Nat.mul_add, Nat.mul_one, Nat.mul_left_comm]
      generalize d * q = a at *
      omega
    have h2 : 2 * r + b - d < d := by omega
    constructor
    · rw [eM, Nat.mul_add_div hd, Nat.div_eq_of_lt h2]
    · rw [eM, Nat.mul_add_mod, Nat.mod_eq_of_lt h2]
  · have eM : M = d * (2 * q) + (2 * r + b) := by
      rw [Nat.mul_left_comm]
      generalize d * q = a at *
      omega
    constructor
    · rw [eM, Nat.mul_add_div hd, Nat.div_eq_of_lt hlt2]; rfl
    · rw [eM, Nat.mul_add_mod, Nat.mod_eq_of_lt hlt2]
/-- Which half a bit lies in. -/
theorem bit_hi {hi lo i : Nat} (hl : lo < 18446744073709551616) (h : 64 ≤ i) : (hi * 18446744073709551616 + lo) / 2 ^ i = hi / 2 ^ (i - 64) := by
  have e : (2 : Nat) ^ i = 18446744073709551616 * 2 ^ (i - 64) := by
    have : (18446744073709551616 : Nat) = 2 ^ 64 := by decide
    rw [this, ← Nat.pow_add, Nat.add_sub_cancel' h]
  rw [e, ← Nat.div_div_eq_div_mul]
  congr 1; omega
theorem bit_lo {hi lo i : Nat} (h : i < 64) : (hi * 18446744073709551616 + lo) / 2 ^ i % 2 = lo / 2 ^ i % 2 := by
  have e : hi * 18446744073709551616 = (hi * 2 ^ (64 - i - 1) * 2) * 2 ^ i := by
    have : (18446744073709551616 : Nat) = 2 ^ (64 - i - 1) * 2 * 2 ^ i := by
      rw [← Nat.pow_succ, ← Nat.pow_add]
      have : 64 - i - 1 + 1 + i = 64 := by omega
      rw [this]
    rw [Nat.mul_assoc, Nat.mul_assoc, ← Nat.mul_assoc (2 ^ (64 - i - 1)), ← this]
  rw [e, Nat.add_comm, Nat.add_mul_div_right _ _ (Nat.two_pow_pos i)]
  omega
theorem shl_halves {Q : Nat} (h : Q < 170141183460469231731687303715884105728) :
    2 * Q / 18446744073709551616 = 2 * (Q / 18446744073709551616) + Q % 18446744073709551616 / 9223372036854775808
    ∧ 2 * Q % 18446744073709551616 = 2 * (Q % 18446744073709551616) % 18446744073709551616
    ∧ (2 * Q + 1) / 18446744073709551616 = 2 * Q / 18446744073709551616
    ∧ (2 * Q + 1) % 18446744073709551616 = 2 * Q % 18446744073709551616 + 1 := by omega

/-! ### four parts of 32 bits -/
/-- The value of four parts, the lowest one first. -/
def v4 (a b c d : Nat) : Nat := a + b * 4294967296 + c * 18446744073709551616 + d * 79228162514264337593543950336
theorem v4_parts (hi lo : Nat) : v4 (lo % 4294967296) (lo / 4294967296) (hi % 4294967296) (hi / 4294967296) = hi * 18446744073709551616 + lo := by unfold v4; omega
theorem v4_halves {a b c d : Nat} (ha : a < 4294967296) (hb : b < 4294967296) (hc : c < 4294967296) (hd : d < 4294967296) :
    d * 4294967296 + c = v4 a b c d / 18446744073709551616 ∧ b * 4294967296 + a = v4 a b c d % 18446744073709551616 := by unfold v4; omega
theorem plus4 {a b c d a' b' c' d' s0 s1 s2 s3 : Nat} (h0 : s0 = a + a') (h1 : s1 = b + b' + s0 / 4294967296) (h2 : s2 = c + c' + s1 / 4294967296) (h3 : s3 = d + d' + s2 / 4294967296)
    (hs : v4 a b c d + v4 a' b' c' d' < 340282366920938463463374607431768211456) :
    v4 (s0 % 4294967296) (s1 % 4294967296) (s2 % 4294967296) (s3 % 4294967296) = v4 a b c d + v4 a' b' c' d' := by
  unfold v4 at *; omega
theorem minus4 {a b c d a' b' c' d' s0 s1 s2 s3 : Nat} (ha : a' < 4294967296) (hb : b' < 4294967296) (hc : c' < 4294967296) (hd : d' < 4294967296)
    (pa : a < 4294967296) (pb : b < 4294967296) (pc : c < 4294967296) (pd : d < 4294967296)
    (h0 : s0 = a + 4294967296 - a') (h1 : s1 = b + 4294967296 - b' - (1 - s0 / 4294967296)) (h2 : s2 = c + 4294967296 - c' - (1 - s1 / 4294967296)) (h3 : s3 = d + 4294967296 - d' - (1 - s2 / 4294967296))
    (hs : v4 a' b' c' d' ≤ v4 a b c d) :
    v4 (s0 % 4294967296) (s1 % 4294967296) (s2 % 4294967296) (s3 % 4294967296) = v4 a b c d - v4 a' b' c' d' := by
  unfold v4 at *; omega
end Wd
namespace Ld
/-- The guess of a digit, on its way down to the quotient: at a round's head. -/
def Guess (U u Y y1 : Int) (q r : Int) : Prop := 0 ≤ q ∧ q ≤ 8589934591 ∧ 0 ≤ r ∧ q * y1 + r = U ∧ (U * 4294967296 + u) / Y ≤ q
/-- What is given of the numbers of one digit. -/
structure Digit (U u Y y1 y0 : Int) : Prop where
  hY : Y = y1 * 4294967296 + y0
  b1 : 2147483648 ≤ y1
  b1' : y1 < 4294967296
  b0 : 0 ≤ y0
  b0' : y0 < 4294967296
  bU : 0 ≤ U
  lt : U < Y
  bu : 0 ≤ u
  bu' : u < 4294967296
theorem mul_split (q y1 y0 : Int) : q * (y1 * 4294967296 + y0) = (q * y1) * 4294967296 + q * y0 := by rw [Int.mul_add, Int.mul_assoc]
theorem Digit.start {U u Y y1 y0 : Int} (d : Digit U u Y y1 y0) : Guess U u Y y1 (U / y1) (U - U / y1 * y1) ∧ U - U / y1 * y1 < 4294967296 := by
  obtain ⟨hY, b1, b1', b0, b0', bU, lt, bu, bu'⟩ := d
  have hm := Int.emod_add_mul_ediv U y1
  have h0 := Int.emod_nonneg U (show y1 ≠ 0 by omega)
  have h1 := Int.emod_lt_of_pos U (show 0 < y1 by omega)
  have hq : 0 ≤ U / y1 := Int.ediv_nonneg bU (by omega)
  have hq2 : U / y1 < 8589934592 := by
    rw [Int.ediv_lt_iff_lt_mul (by omega)]
    omega
  have e : U / y1 * y1 = y1 * (U / y1) := Int.mul_comm _ _
  refine ⟨⟨hq, by omega, by omega, by omega, ?_⟩, by omega⟩
  rw [Int.le_ediv_iff_mul_le (by omega)]
  have hk : (U * 4294967296 + u) / Y * Y ≤ U * 4294967296 + u := Int.ediv_mul_le _ (by omega)
  have hp : 0 ≤ (U * 4294967296 + u) / Y := Int.ediv_nonneg (by omega) (by omega)
  generalize (U * 4294967296 + u) / Y = q at *
  subst hY
  have h2 := mul_split q y1 y0
  have h3 : 0 ≤ q * y0 := Int.mul_nonneg hp b0
  generalize q * y1 = a at *
  generalize q * y0 = b at *
  omega
theorem Guess.down {U u Y y1 y0 q r : Int} (d : Digit U u Y y1 y0) (g : Guess U u Y y1 q r) (hr : r < 4294967296) (h : 4294967296 ≤ q ∨ 4294967296 * r + u < q * y0) :
    1 ≤ q ∧ Guess U u Y y1 (q - 1) (r + y1) := by
  obtain ⟨hY, b1, b1', b0, b0', bU, lt, bu, bu'⟩ := d
  obtain ⟨g0, g1, g2, g3, g4⟩ := g
  have e : (q - 1) * y1 = q * y1 - y1 := by rw [Int.sub_mul, Int.one_mul]
  have hq0 : 0 ≤ (U * 4294967296 + u) / Y := Int.ediv_nonneg (by omega) (by omega)
  have key : (U * 4294967296 + u) / Y < q := by
    rcases h with h | h
    · have : (U * 4294967296 + u) / Y < 4294967296 := by rw [Int.ediv_lt_iff_lt_mul (by omega)]; omega
      omega
    · rw [Int.ediv_lt_iff_lt_mul (by omega), hY, mul_split]; omega
  exact ⟨by omega, by omega, by omega, by omega, by omega, by omega⟩
theorem Guess.fin {U u Y y1 y0 q r : Int} (d : Digit U u Y y1 y0) (g : Guess U u Y y1 q r) (h : 4294967296 ≤ r ∨ q * y0 ≤ 4294967296 * r + u) :
    q = (U * 4294967296 + u) / Y := by
  obtain ⟨hY, b1, b1', b0, b0', bU, lt, bu, bu'⟩ := d
  obtain ⟨g0, g1, g2, g3, g4⟩ := g
  have key : q ≤ (U * 4294967296 + u) / Y := by
    rw [Int.le_ediv_iff_mul_le (by omega)]
    have h2 := mul_split q y1 y0
    rw [hY, h2]
    rcases h with h | h
    · have hq : q < 4294967296 := by
        apply Int.lt_of_not_ge
        intro hc
        have : 4294967296 * y1 ≤ q * y1 := Int.mul_le_mul_of_nonneg_right hc (by omega)
        omega
      have : q * y0 ≤ 4294967296 * y0 := Int.mul_le_mul_of_nonneg_right (by omega) b0
      omega
    · omega
  omega
theorem Digit.quot {U u Y y1 y0 : Int} (d : Digit U u Y y1 y0) : 0 ≤ (U * 4294967296 + u) / Y ∧ (U * 4294967296 + u) / Y < 4294967296 ∧ 0 ≤ (U * 4294967296 + u) % Y ∧ (U * 4294967296 + u) % Y < Y ∧ U * 4294967296 + u - (U * 4294967296 + u) / Y * Y = (U * 4294967296 + u) % Y := by
  obtain ⟨hY, b1, b1', b0, b0', bU, lt, bu, bu'⟩ := d
  have hq0 : 0 ≤ (U * 4294967296 + u) / Y := Int.ediv_nonneg (by omega) (by omega)
  have hq1 : (U * 4294967296 + u) / Y < 4294967296 := by
    rw [Int.ediv_lt_iff_lt_mul (by omega)]; omega
  have hm := Int.emod_add_mul_ediv (U * 4294967296 + u) Y
  have e := Int.mul_comm Y ((U * 4294967296 + u) / Y)
  exact ⟨hq0, hq1, Int.emod_nonneg _ (by omega), Int.emod_lt_of_pos _ (by omega), by omega⟩
theorem prod_lt {a b : Int} (ha : 0 ≤ a) (ha' : a < 4294967296) (hb : 0 ≤ b) (hb' : b < 4294967296) : 0 ≤ a * b ∧ a * b ≤ 18446744065119617025 := by
  refine ⟨Int.mul_nonneg ha hb, ?_⟩
  have : a * b ≤ 4294967295 * 4294967295 := Int.mul_le_mul (by omega) (by omega) hb (by omega)
  omega
end Ld
end Go.Proofs.Ytmdaanigkhikfab
