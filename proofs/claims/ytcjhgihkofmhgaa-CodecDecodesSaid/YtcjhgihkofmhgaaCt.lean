/-
  Plain mathematics of layer 6: data as trees, their encodings, both ways; no Go in sight.
-/
import Derived.Test.YtcjhgihkofmhgaaCn
namespace Go.Proofs.Ytcjhgihkofmhgaa
set_option linter.unusedVariables false
namespace Sp
/-- A datum of at most d levels: its kind, its int, its text, its list. -/
@[reducible] def Tr : Nat → Type
  | 0 => Unit
  | d + 1 => Int × Int × List UInt8 × List (Tr d)
def form {d : Nat} (t : Tr (d + 1)) : Prop := (t.1 = 1 ∨ t.2.1 = 0) ∧ (t.1 = 2 ∨ t.2.2.1 = []) ∧ (t.1 = 3 ∨ t.2.2.2 = [])
instance {d : Nat} (t : Tr (d + 1)) : Decidable (form t) := by
  unfold form
  have : Decidable (t.2.2.2 = []) := decidable_of_iff (t.2.2.2.length = 0) List.length_eq_zero_iff
  infer_instance
/-- The int that stands behind the kind. -/
def num {d : Nat} (t : Tr (d + 1)) : Int := if t.1 = 2 then (t.2.2.1.length : Int) else if t.1 = 3 then (t.2.2.2.length : Int) else t.2.1
def own {d : Nat} (t : Tr (d + 1)) : Nat := 1 + (putS (num t)).length + t.2.2.1.length
def loopC {α : Type} (f : α → Nat → Nat → Int × Nat × Nat) : List α → Nat → Nat → Int × Nat × Nat
  | [], c, z => (0, c, z)
  | t :: l, c, z => if (f t c z).1 ≠ 0 then f t c z else loopC f l (f t c z).2.1 (f t c z).2.2
theorem loopC_cons {α : Type} (f : α → Nat → Nat → Int × Nat × Nat) (t : α) (l : List α) (c z : Nat) :
    loopC f (t :: l) c z = if (f t c z).1 ≠ 0 then f t c z else loopC f l (f t c z).2.1 (f t c z).2.2 := rfl
/-- The check: the error, how many data, how many bytes. -/
def chkT : (d : Nat) → Tr d → Nat → Nat → Nat → Int × Nat × Nat
  | 0, _, _, c, z => (1, c, z)
  | d + 1, t, i, c, z =>
    if ¬ ((1 : Int) ≤ t.1 ∧ t.1 ≤ 3) then (1, c, z)
    else if ¬ form t then (3, c, z)
    else if 7 < i ∨ 500 < c + 1 then (8, c + 1, z)
    else loopC (fun u c z => chkT d u (i + 1) c z) t.2.2.2 (c + 1) (z + own t)
def encT : (d : Nat) → Tr d → List UInt8
  | 0, _ => []
  | d + 1, t => UInt8.ofNat t.1.toNat ::
    (if t.1 = 1 then putS t.2.1 else if t.1 = 2 then putS t.2.2.1.length ++ t.2.2.1 else putS t.2.2.2.length ++ (t.2.2.2.map (encT d)).flatten)
theorem encT_succ (d : Nat) (t : Tr (d + 1)) : encT (d + 1) t = UInt8.ofNat t.1.toNat ::
    (if t.1 = 1 then putS t.2.1 else if t.1 = 2 then putS t.2.2.1.length ++ t.2.2.1 else putS t.2.2.2.length ++ (t.2.2.2.map (encT d)).flatten) := rfl
def intL (L : List UInt8) : Sum Int (Int × List UInt8) := if (getL L).2.2 ≠ 0 then .inl (getL L).2.2 else .inr ((getL L).1, L.drop (getL L).2.1)
def textL (L : List UInt8) : Sum Int (List UInt8 × List UInt8) :=
  if (getL L).2.2 ≠ 0 then .inl (getL L).2.2
  else if (getL L).1 < 0 then .inl 3
  else if 4000 < (getL L).1 then .inl 8
  else if ((L.drop (getL L).2.1).length : Int) < (getL L).1 then .inl 17
  else .inr ((L.drop (getL L).2.1).take (getL L).1.toNat, (L.drop (getL L).2.1).drop (getL L).1.toNat)
def loopD {α : Type} (f : List UInt8 → Nat → Sum Int (α × List UInt8 × Nat)) : Nat → List UInt8 → Nat → Sum Int (List α × List UInt8 × Nat)
  | 0, L, c => .inr ([], L, c)
  | n + 1, L, c => match f L c with
    | .inl e => .inl e
    | .inr (t, L1, c1) => match loopD f n L1 c1 with
      | .inl e => .inl e
      | .inr (ts, L2, c2) => .inr (t :: ts, L2, c2)
/-- The list of a datum. -/
def listL {α : Type} (f : List UInt8 → Nat → Sum Int (α × List UInt8 × Nat)) (L : List UInt8) (c : Nat) : Sum Int (List α × List UInt8 × Nat) :=
  match intL L with
  | .inl e => .inl e
  | .inr (n, L1) => if n < 0 then .inl 3 else loopD f n.toNat L1 c
/-- What is behind the kind. -/
def bodyL {d : Nat} (f : List UInt8 → Nat → Sum Int (Tr d × List UInt8 × Nat)) (k : Int) (L : List UInt8) (c : Nat) : Sum Int (Tr (d + 1) × List UInt8 × Nat) :=
  if k = 1 then match intL L with
    | .inl e => .inl e
    | .inr (n, L1) => .inr (((1, n, [], []) : Int × Int × List UInt8 × List (Tr d)), L1, c)
  else if k = 2 then match textL L with
    | .inl e => .inl e
    | .inr (s, L1) => .inr (((2, 0, s, []) : Int × Int × List UInt8 × List (Tr d)), L1, c)
  else match listL f L c with
    | .inl e => .inl e
    | .inr (l, L1, c1) => .inr (((3, 0, [], l) : Int × Int × List UInt8 × List (Tr d)), L1, c1)
/-- A datum is read, of at most d levels, behind c data. -/
def decT : (d : Nat) → List UInt8 → Nat → Sum Int (Tr d × List UInt8 × Nat)
  | 0, [], c => .inl 17
  | 0, x :: L, c => if ¬ (1 ≤ x.toNat ∧ x.toNat ≤ 3) then .inl 1 else .inl 8
  | d + 1, [], c => .inl 17
  | d + 1, x :: L, c =>
    if ¬ (1 ≤ x.toNat ∧ x.toNat ≤ 3) then .inl 1
    else if 500 < c + 1 then .inl 8
    else bodyL (decT d) x.toNat L (c + 1)
def all2 {α β : Type} (f : α → β → Bool) : List α → List β → Bool
  | [], [] => true
  | a :: l, b :: m => f a b && all2 f l m
  | _, _ => false
def eqT : (d e : Nat) → Tr d → Tr e → Bool
  | d + 1, e + 1, t, u => decide (t.1 = u.1) && decide (t.2.1 = u.2.1) && decide (t.2.2.1 = u.2.2.1) && all2 (eqT d e) t.2.2.2 u.2.2.2
  | _, _, _, _ => false
theorem all2_len {α β : Type} {f : α → β → Bool} : ∀ {l : List α} {m : List β}, all2 f l m = true → l.length = m.length
  | [], [], _ => rfl
  | a :: l, [], h => by simp [all2] at h
  | [], b :: m, h => by simp [all2] at h
  | a :: l, b :: m, h => by
    simp only [all2, Bool.and_eq_true] at h
    simp [all2_len h.2]

/- Encodings and checks. -/
def sizes {α : Type} (g : α → Nat) : List α → Nat
  | [] => 0
  | t :: l => g t + sizes g l
theorem loopC_size {α : Type} {f : α → Nat → Nat → Int × Nat × Nat} {g : α → Nat} : ∀ {l : List α} {c z : Nat}, (∀ t ∈ l, ∀ c z, (f t c z).1 = 0 → (f t c z).2.2 = z + g t) →
    (loopC f l c z).1 = 0 → (loopC f l c z).2.2 = z + sizes g l
  | [], c, z, _, _ => rfl
  | t :: l, c, z, hf, h => by
    unfold loopC at h ⊢
    by_cases e : (f t c z).1 = 0
    · rw [if_neg (by simpa using e)] at h ⊢
      rw [loopC_size (fun u hu => hf u (List.mem_cons_of_mem _ hu)) h, hf t List.mem_cons_self c z e]
      show z + g t + sizes g l = z + (g t + sizes g l)
      omega
    · rw [if_pos e] at h
      exact absurd h e
theorem sizes_flat {α : Type} (g : α → List UInt8) : ∀ l : List α, ((l.map g).flatten).length = sizes (fun t => (g t).length) l
  | [] => rfl
  | t :: l => by
    simp only [List.map_cons, List.flatten_cons, List.length_append, sizes]
    rw [sizes_flat g l]
theorem encT_len {d : Nat} (t : Tr (d + 1)) (hk : (1 : Int) ≤ t.1 ∧ t.1 ≤ 3) (hf : form t) : (encT (d + 1) t).length = own t + sizes (fun u => (encT d u).length) t.2.2.2 := by
  obtain ⟨k, n, s, l⟩ := t
  unfold form at hf
  rw [encT_succ]
  unfold own num
  simp only at hk hf ⊢
  by_cases k1 : k = 1
  · subst k1
    simp only [if_true]
    obtain ⟨_, hs, hl⟩ := hf
    have s0 : s = [] := by rcases hs with h | h; exact absurd h (by decide); exact h
    have l0 : l = [] := by rcases hl with h | h; exact absurd h (by decide); exact h
    subst s0 l0
    rw [if_neg (by decide), if_neg (by decide)]
    simp [sizes]
    omega
  · by_cases k2 : k = 2
    · subst k2
      rw [if_neg (by decide), if_pos rfl, if_pos rfl]
      obtain ⟨_, _, hl⟩ := hf
      have l0 : l = [] := by rcases hl with h | h; exact absurd h (by decide); exact h
      subst l0
      simp [sizes]
      omega
    · obtain rfl : k = 3 := by omega
      rw [if_neg (by decide), if_neg (by decide), if_neg (by decide), if_pos rfl]
      obtain ⟨_, hs, _⟩ := hf
      have s0 : s = [] := by rcases hs with h | h; exact absurd h (by decide); exact h
      subst s0
      simp only [List.length_cons, List.length_append, sizes_flat, List.length_nil]
      omega
theorem chkT_size : ∀ (d : Nat) (t : Tr d) (i c z : Nat), (chkT d t i c z).1 = 0 → (chkT d t i c z).2.2 = z + (encT d t).length
  | 0, t, i, c, z, h => by simp [chkT] at h
  | d + 1, t, i, c, z, h => by
    unfold chkT at h ⊢
    by_cases k : (1 : Int) ≤ t.1 ∧ t.1 ≤ 3
    · rw [if_neg (by simpa using k)] at h ⊢
      by_cases f : form t
      · rw [if_neg (by simpa using f)] at h ⊢
        by_cases b : 7 < i ∨ 500 < c + 1
        · rw [if_pos b] at h; simp at h
        · rw [if_neg b] at h ⊢
          rw [loopC_size (g := fun u => (encT d u).length) (fun u _ c z hu => chkT_size d u (i + 1) c z hu) h, encT_len t k f]
          omega
      · rw [if_pos f] at h; simp at h
    · rw [if_pos k] at h; simp at h
theorem loopC_zero {α : Type} {f : α → Nat → Nat → Int × Nat × Nat} : ∀ {l : List α} {c z : Nat}, (∀ t ∈ l, ∀ c z z', (f t c z).1 = (f t c z').1 ∧ (f t c z).2.1 = (f t c z').2.1) →
    ∀ z', (loopC f l c z).1 = (loopC f l c z').1 ∧ (loopC f l c z).2.1 = (loopC f l c z').2.1
  | [], c, z, _, z' => ⟨rfl, rfl⟩
  | t :: l, c, z, hf, z' => by
    have h := hf t List.mem_cons_self c z z'
    unfold loopC
    by_cases e : (f t c z).1 = 0
    · have e' : (f t c z').1 = 0 := by rw [← h.1]; exact e
      rw [if_neg (by simpa using e), if_neg (by simpa using e'), h.2]
      exact loopC_zero (fun u hu => hf u (List.mem_cons_of_mem _ hu)) _
    · have e' : (f t c z').1 ≠ 0 := by rw [← h.1]; exact e
      rw [if_pos e, if_pos e']
      exact h
/-- The error and the count do not ask for the bytes. -/
theorem chkT_zero : ∀ (d : Nat) (t : Tr d) (i c z z' : Nat), (chkT d t i c z).1 = (chkT d t i c z').1 ∧ (chkT d t i c z).2.1 = (chkT d t i c z').2.1
  | 0, t, i, c, z, z' => ⟨rfl, rfl⟩
  | d + 1, t, i, c, z, z' => by
    unfold chkT
    split
    · exact ⟨rfl, rfl⟩
    · split
      · exact ⟨rfl, rfl⟩
      · split
        · exact ⟨rfl, rfl⟩
        · have h := loopC_zero (f := fun u c z => chkT d u (i + 1) c z) (l := t.2.2.2) (c := c + 1) (z := z + own t) (fun u _ c z z' => chkT_zero d u (i + 1) c z z') (z' + own t)
          exact h
end Sp
end Go.Proofs.Ytcjhgihkofmhgaa
