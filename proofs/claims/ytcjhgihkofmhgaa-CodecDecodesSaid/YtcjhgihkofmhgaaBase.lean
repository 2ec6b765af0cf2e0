/-
  What the walks of every layer share: answers, worlds, slices of bytes that came in, rows of the call's own.
-/
import Derived.Test.YtcjhgihkofmhgaaProg
import Derived.WalkKit
import Derived.Handy
import Derived.Laws.OwnMore
import Derived.Laws.Rows
import Derived.Deep.Draws
namespace Go.Proofs.Ytcjhgihkofmhgaa
open Go.RowKit
set_option linter.unusedVariables false

theorem hid {p : Prop} (h : p) : Hid p := h
/-- A call answers a value and turns nothing that was there. -/
def Gives (v : Value) (w : World) (e : Ending) (w' : World) : Prop := e = .returned v ∧ Below w.heap.size w w'
theorem Gives.mk {v v' : Value} {w w' : World} (h : v = v') (b : Below w.heap.size w w') : Gives v w (.returned v') w' := ⟨by rw [h], b⟩
theorem i64_eq {a b : Int} (h : a = b) : Value.int .i64 a = .int .i64 b := by rw [h]
theorem u64_eq {a b : Int} (h : a = b) : Value.int .u64 a = .int .u64 b := by rw [h]
theorem u32_eq {a b : Int} (h : a = b) : Value.int .u32 a = .int .u32 b := by rw [h]
theorem ret_i64 {a b : Int} (h : a = b) : Ending.returned (.int .i64 a) = .returned (.int .i64 b) := by rw [h]
theorem ret_u64 {a b : Int} (h : a = b) : Ending.returned (.int .u64 a) = .returned (.int .u64 b) := by rw [h]
theorem ret_u32 {a b : Int} (h : a = b) : Ending.returned (.int .u32 a) = .returned (.int .u32 b) := by rw [h]
theorem ret_bool {a b : Bool} (h : a = b) : Ending.returned (.bool a) = .returned (.bool b) := by rw [h]
theorem bool_eq {a b : Bool} (h : a = b) : Value.bool a = .bool b := by rw [h]
theorem ret_i3 {a b c a' b' c' : Int} (h1 : a = a') (h2 : b = b') (h3 : c = c') : Ending.returned (.tuple #[.int .i64 a, .int .i64 b, .int .i64 c]) = .returned (.tuple #[.int .i64 a', .int .i64 b', .int .i64 c']) := by rw [h1, h2, h3]
theorem ret_i2 {a b a' b' : Int} (h1 : a = a') (h2 : b = b') : Ending.returned (.tuple #[.int .i64 a, .int .i64 b]) = .returned (.tuple #[.int .i64 a', .int .i64 b']) := by rw [h1, h2]
theorem below_dn {B : Nat} {a w : World} (h : Below B a w) (n : Nat) : Below B a (w.drewN n) := h.trans ⟨rfl, rfl, rfl, Nat.le_refl _, fun _ _ => rfl⟩
theorem below_of_grown {w w' : World} (h : w.grownBy w' none) : Below w.heap.size w w' := ⟨h.os, h.tape, h.output, h.size, fun k hk => h.block k hk (by simp)⟩
theorem grown_of_below {w w' : World} (h : Below w.heap.size w w') (r : Option Nat) : w.grownBy w' r := ⟨h.os, h.tape, h.output, h.size, fun k hk _ => h.block k hk⟩

/-- From w to w': what was there stays, but for the row r; the row is r' then: the old one or one that was made. -/
def Ow (w w' : World) (r r' : Option Nat) : Prop := w.grownBy w' r ∧ (r' = r ∨ ∀ g, r' = some g → w.heap.size ≤ g)
theorem Ow.refl (w : World) (r : Option Nat) : Ow w w r r := ⟨World.grownBy.refl w r, .inl rfl⟩
theorem Ow.trans {w w1 w2 : World} {r r1 r2 : Option Nat} (h : Ow w w1 r r1) (k : Ow w1 w2 r1 r2) : Ow w w2 r r2 := by
  refine ⟨⟨k.1.os.trans h.1.os, k.1.tape.trans h.1.tape, k.1.output.trans h.1.output, Nat.le_trans h.1.size k.1.size, fun i hi hne => ?_⟩, ?_⟩
  · refine (k.1.block i (Nat.lt_of_lt_of_le hi h.1.size) ?_).trans (h.1.block i hi hne)
    rcases h.2 with e | e
    · rw [e]; exact hne
    · intro c
      have := e i c.symm
      omega
  · rcases k.2 with e | e
    · rw [e]; exact h.2
    · exact .inr fun g hg => Nat.le_trans h.1.size (e g hg)
theorem Ow.below {w w1 w2 : World} {r r1 : Option Nat} (h : Ow w w1 r r1) (k : Below w1.heap.size w1 w2) : Ow w w2 r r1 := h.trans ⟨grown_of_below k r1, .inl rfl⟩
theorem Ow.alloc {w w1 : World} {r r1 : Option Nat} (h : Ow w w1 r r1) (o : Obj) : Ow w (w1.alloc o) r r1 := h.below ((Below.refl _ _).alloc (Nat.le_refl _) o)
theorem Ow.made {w w1 : World} {r' : Option Nat} (h : Below w.heap.size w w1) (hr : ∀ g, r' = some g → w.heap.size ≤ g) (r : Option Nat) : Ow w w1 r r' := ⟨grown_of_below h r, .inr hr⟩
theorem Ow.to_below {w w1 : World} {r' : Option Nat} (h : Ow w w1 none r') : Below w.heap.size w w1 := below_of_grown h.1
theorem Ow.of_append {w w1 : World} {v v' : Value} (h : w.grownBy w1 v.ownBlock) (e : v'.ownBlock = v.ownBlock ∨ v'.ownBlock = some w.heap.size) : Ow w w1 v.ownBlock v'.ownBlock := by
  refine ⟨h, ?_⟩
  rcases e with e | e
  · exact .inl e
  · exact .inr fun g hg => by rw [e] at hg; injection hg with hg; omega
/-- A block that is not the row stays. -/
theorem Ow.block {w w1 : World} {r r' : Option Nat} (h : Ow w w1 r r') {k : Nat} (hk : k < w.heap.size) (hne : some k ≠ r) : w1.heap[k]? = w.heap[k]? := h.1.block k hk hne
theorem Ow.cell {w w1 : World} {r r' : Option Nat} (h : Ow w w1 r r') {a : Addr} (hk : a.block < w.heap.size) (hne : some a.block ≠ r) : w1.cell? a = w.cell? a := World.cell?_of_block (h.1.block _ hk hne)
theorem Ow.frozen {w w1 : World} {r r' : Option Nat} (h : Ow w w1 r r') {a : Addr} (hk : a.block < w.heap.size) (hne : some a.block ≠ r) : w1.frozen? a = w.frozen? a := World.frozen?_of_block (h.1.block _ hk hne)
theorem Ow.size {w w1 : World} {r r' : Option Nat} (h : Ow w w1 r r') : w.heap.size ≤ w1.heap.size := h.1.size
theorem Ow.under {w w1 : World} {r r' : Option Nat} {B : Nat} (h : Ow w w1 r r') (hB : B ≤ w.heap.size) (hr : ∀ g, r = some g → B ≤ g) : Below B w w1 :=
  ⟨h.1.os, h.1.tape, h.1.output, h.1.size, fun k hk => h.1.block k (by omega) (fun c => by have := hr k c.symm; omega)⟩

/-- The bytes that a list stands for in memory. -/
def byt (L : List UInt8) : List Value := L.map fun c => Value.int .u8 (c.toNat : Int)
theorem byt_len (L : List UInt8) : (byt L).length = L.length := by unfold byt; simp
theorem byt_append (L M : List UInt8) : byt (L ++ M) = byt L ++ byt M := by unfold byt; simp
theorem byt_one (c : UInt8) : byt [c] = [Value.int .u8 (c.toNat : Int)] := rfl
theorem byt_get (L : List UInt8) (j : Nat) (h : j < L.length) : (byt L)[j]? = some (.int .u8 ((L[j]).toNat : Int)) := by unfold byt; simp [h]
theorem byt_cell {L : List UInt8} : ∀ u ∈ byt L, u.oneCell' = true := by
  intro u hu
  unfold byt at hu
  obtain ⟨c, _, rfl⟩ := List.mem_map.1 hu
  rfl
/-- A slice of bytes below block B reads as a list. -/
structure Bs (w : World) (B : Nat) (A : Option Addr) (L : List UInt8) : Prop where
  at_ : 0 < L.length → ∃ b off, A = some ⟨b, off, none⟩ ∧ b < B ∧ ∀ j, (h : j < L.length) → w.cell? ⟨b, off + j, none⟩ = some (.int .u8 ((L[j]).toNat : Int))
theorem Bs.nil (w : World) (B : Nat) (A : Option Addr) : Bs w B A [] := ⟨fun h => absurd h (by simp)⟩
theorem Bs.below {w w' : World} {B : Nat} {A : Option Addr} {L : List UInt8} (h : Bs w B A L) (hb : Below B w w') : Bs w' B A L :=
  ⟨fun h0 => by
    obtain ⟨b, off, e, lt, hc⟩ := h.at_ h0
    exact ⟨b, off, e, lt, fun j hj => (hb.cell (p := ⟨b, off + j, none⟩) lt).trans (hc j hj)⟩⟩
theorem Bs.more {w : World} {B B' : Nat} {A : Option Addr} {L : List UInt8} (h : Bs w B A L) (hB : B ≤ B') : Bs w B' A L :=
  ⟨fun h0 => by
    obtain ⟨b, off, e, lt, hc⟩ := h.at_ h0
    exact ⟨b, off, e, by omega, hc⟩⟩
/-- A cut keeps what it reads; where it begins, the model asks the capacity. -/
theorem Bs.cut {w : World} {B : Nat} {A : Option Addr} {L : List UInt8} (h : Bs w B A L) {k m cap : Nat} (hk : k ≤ m) (hm : m ≤ L.length) (hc : L.length ≤ cap) :
    Bs w B (if cap = k then A else A.map (·.add k)) ((L.take m).drop k) := by
  refine ⟨fun h0 => ?_⟩
  have hl : ((L.take m).drop k).length = m - k := by simp; omega
  rw [hl] at h0
  obtain ⟨b, off, rfl, lt, hcell⟩ := h.at_ (by omega)
  rw [if_neg (by omega)]
  refine ⟨b, off + k, by by_cases hk0 : k = 0 <;> simp [Addr.add, hk0], lt, fun j hj => ?_⟩
  have h1 := hcell (k + j) (by rw [hl] at hj; omega)
  rw [Nat.add_assoc, h1]
  simp
theorem slice_from (A : Option Addr) (n cap k : Nat) (hk : k ≤ n) (W : World) :
    (Instr.slice 22 (.slice A n cap) (some (.int .i64 (k : Int))) none none).run Try.prog W = .ok (.slice (if cap = k then A else A.map (·.add k)) (n - k) (cap - k)) W := by
  rw [run_slice_l W 22 A n cap Try.underlying22 .i64 (k : Int) (by omega) (by omega)]
  have hs : (sizeOf (Try.prog.elem 22)).run Try.prog W = .ok 1 W := by kernel_rfl
  rw [hs]
  simp [Result.andThen, sliced]
theorem slice_both (A : Option Addr) (n cap k m : Nat) (hk : k ≤ m) (hm : m ≤ cap) (W : World) :
    (Instr.slice 22 (.slice A n cap) (some (.int .i64 (k : Int))) (some (.int .i64 (m : Int))) none).run Try.prog W = .ok (.slice (if cap = k then A else A.map (·.add k)) (m - k) (cap - k)) W := by
  rw [run_slice_lh W 22 A n cap Try.underlying22 .i64 .i64 (k : Int) (m : Int) (by omega) (by omega) (by omega)]
  have hs : (sizeOf (Try.prog.elem 22)).run Try.prog W = .ok 1 W := by kernel_rfl
  rw [hs]
  simp [Result.andThen, sliced]
/-- A row of bytes that the call owns. -/
def OwnB (w : World) (base : Nat) (v : Value) (L : List UInt8) : Prop := w.ownsRow base 5 1 v L.length (byt L)
theorem OwnB.nil (w : World) (base : Nat) : OwnB w base (.slice none 0 0) [] := w.ownsRow_nil base 5 1
theorem OwnB.alloc {w : World} {base : Nat} {v : Value} {L : List UInt8} (h : OwnB w base v L) (o : Obj) : OwnB (w.alloc o) base v L := World.ownsRow.alloc h o
/-- What it is as a slice. -/
theorem OwnB.form {w : World} {base : Nat} {v : Value} {L : List UInt8} (h : OwnB w base v L) : ∃ A cap, v = .slice A L.length cap ∧ L.length ≤ cap ∧ Bs w w.heap.size A L := by
  rcases h.2 with ⟨rfl, h0⟩ | ⟨g, cap, cur, rfl, hb, hg, hn, hm, hs, ht⟩
  · have e : L = [] := List.eq_nil_of_length_eq_zero h0
    subst e
    exact ⟨none, 0, rfl, Nat.le_refl _, Bs.nil _ _ _⟩
  · refine ⟨some ⟨g, 0, none⟩, cap, rfl, hn, ⟨fun _ => ⟨g, 0, rfl, (Array.getElem?_eq_some_iff.1 hg).1, fun j hj => ?_⟩⟩⟩
    have hc := World.ownsRow.cells h (g := g) rfl j _ (byt_get L j hj)
    have e : (⟨g, 0, none⟩ : Addr).add j = ⟨g, 0 + j, none⟩ := by by_cases j0 : j = 0 <;> simp [Addr.add, j0]
    rw [← e]
    exact hc
theorem OwnB.kept {w w' : World} {base : Nat} {v : Value} {L : List UInt8} {r : Option Nat} (h : OwnB w base v L) (hg : w.grownBy w' r) (hne : v.ownBlock = none ∨ v.ownBlock ≠ r) : OwnB w' base v L := World.ownsRow.kept h hg hne
theorem OwnB.below {w w' : World} {base : Nat} {v : Value} {L : List UInt8} (h : OwnB w base v L) (hb : Below w.heap.size w w') : OwnB w' base v L :=
  h.kept (grown_of_below hb none) (by cases v.ownBlock <;> simp)
theorem OwnB.base_le {w : World} {base : Nat} {v : Value} {L : List UInt8} (h : OwnB w base v L) {g : Nat} (hg : v.ownBlock = some g) : base ≤ g ∧ g < w.heap.size := World.ownsRow.lt h g hg
end Go.Proofs.Ytcjhgihkofmhgaa
