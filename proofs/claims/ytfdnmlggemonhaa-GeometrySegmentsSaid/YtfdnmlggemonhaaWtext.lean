/-
  The exported functions of package wide, each by a contract: texts.
-/
import Derived.Test.YtfdnmlggemonhaaWquo
namespace Go.Proofs.Ytfdnmlggemonhaa
open Go.RowKit
set_option linter.unusedVariables false

/-- The buffer of 40 bytes: what its cells hold; the last ones are the digits so far. -/
def Buf (wr : World) (b : Nat) (c : Nat → Int) (p : Nat) (acc : List UInt8) : Prop :=
  (∀ j, j < 40 → wr.cell? ⟨b, j, none⟩ = some (.int .u8 (c j))) ∧ (∀ o, wr.frozen? ⟨b, o, none⟩ = false) ∧ acc.length ≤ 39 ∧ p = 40 - acc.length
    ∧ ∀ j, j < acc.length → c (p + j) = ((acc.getD j 0).toNat : Int)
/-- At the head of a round of Text. -/
def TextRel (w : World) (n : Bool) (N : Nat) (v4 v5 v6 : Value) (wr : World) : Prop :=
  ∃ (acc : List UInt8) (m p : Nat) (hi lo : Int) (c : Nat → Int), v4 = .int .i64 (p : Int) ∧ v5 = .int .u64 hi ∧ v6 = .int .u64 lo ∧ (0 ≤ hi ∧ hi < 9223372036854775808 ∧ 0 ≤ lo ∧ lo < 18446744073709551616
    ∧ hi * 18446744073709551616 + lo = (m : Int)) ∧ Wd.Dg N m acc ∧ Buf wr (w.heap.size + 1 + 1) c p acc ∧ Below w.heap.size w wr ∧ w.heap.size + 1 + 1 < wr.heap.size ∧ wr.cell? ⟨w.heap.size, 0, none⟩ = some (.bool n)
theorem Buf.step {wr w1 : World} {b p : Nat} {c : Nat → Int} {acc : List UInt8} {d : Nat} (h : Buf wr b c p acc) (hb : Below wr.heap.size wr w1) (hs : b < wr.heap.size) (hd : d < 10) (hl : acc.length < 39) :
    Buf (w1.setCell ⟨b, p - 1, none⟩ (.int .u8 (48 + (d : Int)))) b (fun j => if j = p - 1 then 48 + (d : Int) else c j) (p - 1) (UInt8.ofNat (48 + d) :: acc) := by
  obtain ⟨h1, h2, h3, h4, h5⟩ := h
  refine ⟨fun j hj => ?_, fun o => ?_, by simp; omega, by simp; omega, fun j hj => ?_⟩
  · have old : w1.cell? ⟨b, j, none⟩ = some (.int .u8 (c j)) := (hb.cell (p := ⟨b, j, none⟩) hs).trans (h1 j hj)
    by_cases e : j = p - 1
    · subst e
      simp only [if_true]
      rw [World.cell?_setCell_same' _ _ _ (by rw [old]; rfl)]
    · simp only [if_neg e]
      exact (World.cell?_setCell_other w1 _ _ _ (by intro hc; apply e; exact ((Addr.mk.inj hc).2.1).symm)).trans old
  · rw [World.frozen?_setCell]
    exact (hb.frozen (p := ⟨b, o, none⟩) hs).trans (h2 o)
  · cases j with
    | zero =>
      have e : (UInt8.ofNat (48 + d)).toNat = 48 + d := by
        rw [UInt8.toNat_ofNat']; omega
      simp only [List.getD_cons_zero, Nat.add_zero, if_true, e]
      omega
    | succ j =>
      simp only [List.getD_cons_succ]
      have := h5 j (by simpa using hj)
      have e1 : p - 1 + (j + 1) = p + j := by omega
      rw [e1, if_neg (by omega)]
      exact this

/-- The box of the argument still holds its sign behind a call and a store into the buffer. -/
theorem cell_over {w wr w1 : World} {n : Bool} {q : Nat} {v : Value} (hn : wr.cell? ⟨w.heap.size, 0, none⟩ = some (.bool n)) (hb : Below wr.heap.size wr w1) (hs : w.heap.size < wr.heap.size) :
    (w1.setCell ⟨w.heap.size + 1 + 1, q, none⟩ v).cell? ⟨w.heap.size, 0, none⟩ = some (.bool n) := by
  refine (World.cell?_setCell_other w1 _ _ _ (by intro hc; have := (Addr.mk.inj hc).1; omega)).trans ?_
  exact (hb.cell (p := ⟨w.heap.size, 0, none⟩) hs).trans hn
theorem push_all : ∀ (acc : List UInt8) (r : ByteArray), (acc.map (fun x => ((x.toNat : Nat) : Int))).foldl (fun r n => r.push (UInt8.ofNat n.toNat)) r = ⟨(r.data.toList ++ acc).toArray⟩ := by
  intro acc
  induction acc with
  | nil => intro r; simp
  | cons a acc ih =>
    intro r
    simp only [List.map_cons, List.foldl_cons]
    rw [ih]
    simp [ByteArray.push]
end Go.Proofs.Ytfdnmlggemonhaa
