/-
  Plain mathematics of layer 6: checksums as sums over bits; no Go in sight.
-/
namespace Go.Proofs.Ytcjhgihkofmhgaa
set_option linter.unusedVariables false
namespace Sp
def poly : Nat := 3988292384
def crcBit (r : Nat) : Nat := if r % 2 = 1 then (r / 2) ^^^ poly else r / 2
def crcBits : Nat → Nat → Nat
  | 0, r => r
  | k + 1, r => crcBits k (crcBit r)
def crcByte (r x : Nat) : Nat := crcBits 8 (r ^^^ x)
def crcL : Nat → List UInt8 → Nat
  | r, [] => r
  | r, c :: l => crcL (crcByte r c.toNat) l
theorem crcL_cons (r : Nat) (c : UInt8) (l : List UInt8) : crcL r (c :: l) = crcL (crcByte r c.toNat) l := rfl
theorem crcL_nil (r : Nat) : crcL r [] = r := rfl
def not32 (r : Nat) : Nat := 4294967295 - r
def updS (s : Nat) (l : List UInt8) : Nat := not32 (crcL (not32 s) l)
theorem poly_val : poly = 3988292384 := rfl
theorem poly_lt : poly < 4294967296 := by rw [poly_val]; omega
theorem crcBit_lt {r : Nat} (h : r < 4294967296) : crcBit r < 4294967296 := by
  unfold crcBit
  split
  · have h1 : r / 2 < 2 ^ 32 := by omega
    have h2 : poly < 2 ^ 32 := poly_lt
    exact Nat.xor_lt_two_pow h1 h2
  · omega
theorem crcBits_lt : ∀ (k : Nat) {r : Nat}, r < 4294967296 → crcBits k r < 4294967296
  | 0, r, h => h
  | k + 1, r, h => crcBits_lt k (crcBit_lt h)
theorem xor_lt32 {a b : Nat} (ha : a < 4294967296) (hb : b < 4294967296) : a ^^^ b < 4294967296 := Nat.xor_lt_two_pow (n := 32) ha hb
theorem crcByte_lt {r x : Nat} (h : r < 4294967296) (hx : x < 256) : crcByte r x < 4294967296 := crcBits_lt 8 (xor_lt32 h (by omega))
theorem crcL_lt : ∀ (l : List UInt8) {r : Nat}, r < 4294967296 → crcL r l < 4294967296
  | [], r, h => h
  | c :: l, r, h => crcL_lt l (crcByte_lt h c.toNat_lt)
theorem crcL_append : ∀ (a b : List UInt8) (r : Nat), crcL r (a ++ b) = crcL (crcL r a) b
  | [], b, r => rfl
  | c :: a, b, r => crcL_append a b _
theorem not32_lt (r : Nat) : not32 r < 4294967296 := by unfold not32; omega
theorem not32_not32 {r : Nat} (h : r < 4294967296) : not32 (not32 r) = r := by unfold not32; omega
theorem updS_lt (s : Nat) (l : List UInt8) : updS s l < 4294967296 := not32_lt _
/-- Bytes that come in two parts. -/
theorem updS_append (s : Nat) (a b : List UInt8) : updS (updS s a) b = updS s (a ++ b) := by
  unfold updS
  rw [not32_not32 (crcL_lt a (not32_lt s)), crcL_append]
theorem crcL_step {l : List UInt8} {k r : Nat} (h : k < l.length) : crcL r (l.drop k) = crcL (crcByte r (l[k]).toNat) (l.drop (k + 1)) := by
  rw [List.drop_eq_getElem_cons h]
  rfl
theorem xor_mod2 (a b : Nat) : (a ^^^ b) % 2 = (a % 2 + b % 2) % 2 := by
  have h := Nat.xor_mod_two_pow (a := a) (b := b) (n := 1)
  simp only [Nat.pow_one] at h
  rw [h]
  rcases Nat.mod_two_eq_zero_or_one a with p | p <;> rcases Nat.mod_two_eq_zero_or_one b with q | q <;> rw [p, q] <;> decide
theorem xor_div2 (a b : Nat) : (a ^^^ b) / 2 = a / 2 ^^^ b / 2 := by
  have h := Nat.xor_div_two_pow (a := a) (b := b) (n := 1)
  simpa using h
theorem xor_four (a b c d : Nat) : (a ^^^ b) ^^^ (c ^^^ d) = (a ^^^ c) ^^^ (b ^^^ d) := by
  rw [Nat.xor_assoc, Nat.xor_assoc, ← Nat.xor_assoc b c d, Nat.xor_comm b c, Nat.xor_assoc c b d]
/-- One bit is linear. -/
theorem crcBit_xor (a b : Nat) : crcBit (a ^^^ b) = crcBit a ^^^ crcBit b := by
  unfold crcBit
  rw [xor_mod2, xor_div2]
  rcases Nat.mod_two_eq_zero_or_one a with p | p <;> rcases Nat.mod_two_eq_zero_or_one b with q | q <;> rw [p, q]
  · simp
  · simp [Nat.xor_assoc]
  · rw [if_pos (by decide), if_pos rfl, if_neg (by decide), Nat.xor_assoc, Nat.xor_assoc, Nat.xor_comm poly]
  · rw [if_neg (by decide), if_pos rfl, if_pos rfl, xor_four, Nat.xor_self, Nat.xor_zero]
theorem crcBits_xor : ∀ (k a b : Nat), crcBits k (a ^^^ b) = crcBits k a ^^^ crcBits k b
  | 0, a, b => rfl
  | k + 1, a, b => by
    unfold crcBits
    rw [crcBit_xor, crcBits_xor k]
theorem crcByte_xor (a b x y : Nat) : crcByte (a ^^^ b) (x ^^^ y) = crcByte a x ^^^ crcByte b y := by
  unfold crcByte
  rw [xor_four, crcBits_xor]
/-- The exclusive or of two lists. -/
def xorL : List UInt8 → List UInt8 → List UInt8
  | c :: l, d :: m => (c ^^^ d) :: xorL l m
  | _, _ => []
theorem crcL_xor : ∀ (l m : List UInt8) (a b : Nat), l.length = m.length → crcL (a ^^^ b) (xorL l m) = crcL a l ^^^ crcL b m
  | [], [], a, b, _ => rfl
  | [], d :: m, a, b, h => by simp at h
  | c :: l, [], a, b, h => by simp at h
  | c :: l, d :: m, a, b, h => by
    have e : xorL (c :: l) (d :: m) = (c ^^^ d) :: xorL l m := rfl
    rw [e, crcL_cons, crcL_cons, crcL_cons, UInt8.toNat_xor, crcByte_xor]
    exact crcL_xor l m _ _ (by simpa using h)
theorem xorL_len : ∀ (l m : List UInt8), l.length = m.length → (xorL l m).length = l.length
  | [], [], _ => rfl
  | [], d :: m, h => by simp at h
  | c :: l, [], h => by simp at h
  | c :: l, d :: m, h => by
    simp only [xorL, List.length_cons]
    rw [xorL_len l m (by simpa using h)]
theorem ones_sub {r : Nat} (h : r < 4294967296) : 4294967295 - r = 4294967295 ^^^ r := by
  apply Nat.eq_of_testBit_eq
  intro i
  have h32 : r < 2 ^ 32 := h
  rw [Nat.testBit_xor, show (4294967295 : Nat) = 2 ^ 32 - 1 by decide, Nat.testBit_two_pow_sub_one, show 2 ^ 32 - 1 - r = 2 ^ 32 - (r + 1) by omega, Nat.testBit_two_pow_sub_succ h32]
  by_cases hi : i < 32
  · simp [hi]
  · have : r.testBit i = false := Nat.testBit_lt_two_pow (Nat.lt_of_lt_of_le h32 (Nat.pow_le_pow_right (by decide) (by omega)))
    simp [hi, this]
/-- The checksum of the exclusive or of three lists. -/
theorem upd_three (l m n : List UInt8) (h1 : l.length = m.length) (h2 : l.length = n.length) : updS 0 (xorL (xorL l m) n) = updS 0 l ^^^ updS 0 m ^^^ updS 0 n := by
  have z : not32 0 = 4294967295 := rfl
  have e : (4294967295 : Nat) = (4294967295 ^^^ 4294967295) ^^^ 4294967295 := by decide
  have hx : crcL 4294967295 (xorL (xorL l m) n) = crcL 4294967295 l ^^^ crcL 4294967295 m ^^^ crcL 4294967295 n := by
    conv => lhs; rw [e]
    rw [crcL_xor _ _ _ _ (by rw [xorL_len l m h1]; exact h2), crcL_xor _ _ _ _ h1]
  unfold updS
  rw [z, hx]
  have a := crcL_lt l (r := 4294967295) (by omega)
  have b := crcL_lt m (r := 4294967295) (by omega)
  have c := crcL_lt n (r := 4294967295) (by omega)
  generalize crcL 4294967295 l = x at a ⊢
  generalize crcL 4294967295 m = y at b ⊢
  generalize crcL 4294967295 n = w at c ⊢
  unfold not32
  rw [ones_sub (xor_lt32 (xor_lt32 a b) c), ones_sub a, ones_sub b, ones_sub c, xor_four 4294967295 x 4294967295 y, xor_four _ _ 4294967295 w, ← e]
/-- A register that is not 0 stays so. -/
theorem crcBit_pos {r : Nat} (h : r < 4294967296) (h0 : r ≠ 0) : crcBit r ≠ 0 := by
  unfold crcBit
  split
  · intro e
    have e2 : r / 2 = poly := by
      have h3 : (r / 2 ^^^ poly) ^^^ poly = 0 ^^^ poly := by rw [e]
      rw [Nat.xor_assoc, Nat.xor_self, Nat.xor_zero, Nat.zero_xor] at h3
      exact h3
    rw [poly_val] at e2
    omega
  · omega
theorem crcBits_pos : ∀ (k : Nat) {r : Nat}, r < 4294967296 → r ≠ 0 → crcBits k r ≠ 0
  | 0, r, _, h => h
  | k + 1, r, hl, h => crcBits_pos k (crcBit_lt hl) (crcBit_pos hl h)
theorem crcBits_add : ∀ (j k r : Nat), crcBits (j + k) r = crcBits k (crcBits j r)
  | 0, k, r => by rw [Nat.zero_add]; rfl
  | j + 1, k, r => by
    rw [Nat.add_right_comm]
    exact crcBits_add j k _
theorem crcBits_zero : ∀ k, crcBits k 0 = 0
  | 0 => rfl
  | k + 1 => crcBits_zero k
theorem crcBits_shift : ∀ (k b : Nat), crcBits k (b * 2 ^ k) = b
  | 0, b => by simp [crcBits]
  | k + 1, b => by
    unfold crcBits crcBit
    rw [Nat.pow_succ, ← Nat.mul_assoc, if_neg (by omega), Nat.mul_div_cancel _ (by decide)]
    exact crcBits_shift k b
/-- Two bytes at a time: the second one is pushed 8 bits up. -/
theorem push8 (a b : Nat) : crcBits 8 a ^^^ b = crcBits 8 (a ^^^ b * 256) := by
  rw [crcBits_xor]
  have := crcBits_shift 8 b
  rw [show (2 : Nat) ^ 8 = 256 by decide] at this
  rw [this]
theorem crcByte_0 (r : Nat) : crcByte r (0 : UInt8).toNat = crcBits 8 r := by
  unfold crcByte
  rw [show (0 : UInt8).toNat = 0 from rfl, Nat.xor_zero]
theorem crcByte0 : crcByte 0 (0 : UInt8).toNat = 0 := by rw [crcByte_0, crcBits_zero]
theorem crcL_zeros : ∀ k, crcL 0 (List.replicate k 0) = 0
  | 0 => rfl
  | k + 1 => by
    rw [List.replicate_succ, crcL_cons, crcByte0]
    exact crcL_zeros k
theorem crcL_pos : ∀ (k : Nat) {r : Nat}, r < 4294967296 → r ≠ 0 → crcL r (List.replicate k 0) ≠ 0
  | 0, r, _, h => h
  | k + 1, r, hl, h => by
    rw [List.replicate_succ, crcL_cons, crcByte_0]
    exact crcL_pos k (crcBits_lt 8 hl) (crcBits_pos 8 hl h)
/-- Four bytes: all 32 bits of them at once. -/
theorem crcL_four (x0 x1 x2 x3 : UInt8) : crcL 0 [x0, x1, x2, x3] = crcBits 32 (x0.toNat ^^^ x1.toNat * 256 ^^^ x2.toNat * 65536 ^^^ x3.toNat * 16777216) := by
  rw [crcL_cons, crcL_cons, crcL_cons, crcL_cons, crcL_nil]
  unfold crcByte
  rw [Nat.zero_xor]
  rw [push8 x0.toNat, ← crcBits_add, show 8 + 8 = 16 by rfl]
  have p16 : ∀ a b : Nat, crcBits 16 a ^^^ b = crcBits 16 (a ^^^ b * 65536) := fun a b => by
    rw [crcBits_xor]
    have := crcBits_shift 16 b
    rw [show (2 : Nat) ^ 16 = 65536 by decide] at this
    rw [this]
  have p24 : ∀ a b : Nat, crcBits 24 a ^^^ b = crcBits 24 (a ^^^ b * 16777216) := fun a b => by
    rw [crcBits_xor]
    have := crcBits_shift 24 b
    rw [show (2 : Nat) ^ 24 = 16777216 by decide] at this
    rw [this]
  rw [p16, ← crcBits_add, show 16 + 8 = 24 by rfl, p24, ← crcBits_add]
theorem four_pos {x0 x1 x2 x3 : Nat} (h0 : x0 < 256) (h1 : x1 < 256) (h2 : x2 < 256) (h3 : x3 < 256) (h : ¬ (x0 = 0 ∧ x1 = 0 ∧ x2 = 0 ∧ x3 = 0)) :
    (x0 ^^^ x1 * 256 ^^^ x2 * 65536 ^^^ x3 * 16777216) ≠ 0 ∧ (x0 ^^^ x1 * 256 ^^^ x2 * 65536 ^^^ x3 * 16777216) < 4294967296 := by
  refine ⟨fun e => h ?_, xor_lt32 (xor_lt32 (xor_lt32 (by omega) (by omega)) (by omega)) (by omega)⟩
  have e3 : (x0 ^^^ x1 * 256 ^^^ x2 * 65536) = x3 * 16777216 := by
    have := congrArg (· ^^^ x3 * 16777216) e
    simp only [Nat.xor_assoc, Nat.xor_self, Nat.xor_zero, Nat.zero_xor] at this
    simp only [Nat.xor_assoc]
    exact this
  have l3 : (x0 ^^^ x1 * 256 ^^^ x2 * 65536) < 2 ^ 24 := Nat.xor_lt_two_pow (Nat.xor_lt_two_pow (by omega) (by omega)) (by omega)
  have z3 : x3 = 0 := by omega
  have e2 : (x0 ^^^ x1 * 256) = x2 * 65536 := by
    have e4 : (x0 ^^^ x1 * 256 ^^^ x2 * 65536) = 0 := by omega
    have := congrArg (· ^^^ x2 * 65536) e4
    simp only [Nat.xor_assoc, Nat.xor_self, Nat.xor_zero, Nat.zero_xor] at this
    exact this
  have l2 : (x0 ^^^ x1 * 256) < 2 ^ 16 := Nat.xor_lt_two_pow (by omega) (by omega)
  have z2 : x2 = 0 := by omega
  have e1 : x0 = x1 * 256 := by
    have e4 : (x0 ^^^ x1 * 256) = 0 := by omega
    have := congrArg (· ^^^ x1 * 256) e4
    simp only [Nat.xor_assoc, Nat.xor_self, Nat.xor_zero, Nat.zero_xor] at this
    exact this
  omega
/-- A change within four bytes. -/
theorem burst_pos (k n : Nat) (x0 x1 x2 x3 : UInt8) (h : ¬ (x0 = 0 ∧ x1 = 0 ∧ x2 = 0 ∧ x3 = 0)) : crcL 0 (List.replicate k 0 ++ [x0, x1, x2, x3] ++ List.replicate n 0) ≠ 0 := by
  rw [crcL_append, crcL_append, crcL_zeros, crcL_four]
  have hz : ∀ x : UInt8, x.toNat = 0 → x = 0 := fun x e => UInt8.toNat_inj.1 (by rw [e]; rfl)
  obtain ⟨p, q⟩ := four_pos x0.toNat_lt x1.toNat_lt x2.toNat_lt x3.toNat_lt (fun ⟨a, b, c, d⟩ => h ⟨hz _ a, hz _ b, hz _ c, hz _ d⟩)
  exact crcL_pos n (crcBits_lt 32 q) (crcBits_pos 32 q p)
end Sp
end Go.Proofs.Ytcjhgihkofmhgaa
