/-
  The functions of package couperef01, each by a contract: product.
-/
import Derived.Test.YtfdnmlggemonhaaWref
import Derived.Test.YtfdnmlggemonhaaWtext
import Derived.Deep.DeepCutAuto
import Derived.Deep.QuietTactic
import Derived.BigQuiet
namespace Go.Proofs.Ytfdnmlggemonhaa
open Go.RowKit
set_option linter.unusedVariables false
set_option linter.unusedSimpArgs false

/-- What the rows of the product that are done add up to. -/
def rowSum (r0 r1 r2 r3 : Int) : Nat → Int
  | 0 => 0
  | 1 => r0
  | 2 => r0 + r1 * 4294967296
  | 3 => r0 + r1 * 4294967296 + r2 * 18446744073709551616
  | _ => r0 + r1 * 4294967296 + r2 * 18446744073709551616 + r3 * 79228162514264337593543950336

/-- At the head of a row of the product: what the six parts hold. -/
def ProdRel (w : World) (p0 p1 p2 p3 q0 q1 r0 r1 r2 r3 : Int) (v8 : Value) (wr : World) : Prop :=
  ∃ (i : Nat) (o0 o1 o2 o3 o4 o5 : Int), v8 = .int .i64 (i : Int) ∧ i ≤ 4 ∧ ((0 ≤ o0 ∧ o0 ≤ 4294967295) ∧ (0 ≤ o1 ∧ o1 ≤ 4294967295) ∧ (0 ≤ o2 ∧ o2 ≤ 4294967295) ∧ (0 ≤ o3 ∧ o3 ≤ 4294967295) ∧ (0 ≤ o4 ∧ o4 ≤ 4294967295) ∧ (0 ≤ o5 ∧ o5 ≤ 4294967295)) ∧ o0 + o1 * 4294967296 + o2 * 18446744073709551616 + o3 * 79228162514264337593543950336 + o4 * 340282366920938463463374607431768211456 + o5 * 1461501637330902918203684832716283019655932542976 = rowSum r0 r1 r2 r3 i ∧
    (wr.cell? ⟨w.heap.size + 1 + 1 + 1, 0, none⟩ = some (.int .u64 p0) ∧ wr.cell? ⟨w.heap.size + 1 + 1 + 1, 1, none⟩ = some (.int .u64 p1) ∧ wr.cell? ⟨w.heap.size + 1 + 1 + 1, 2, none⟩ = some (.int .u64 p2) ∧ wr.cell? ⟨w.heap.size + 1 + 1 + 1, 3, none⟩ = some (.int .u64 p3)) ∧
    (wr.cell? ⟨w.heap.size + 1 + 1 + 1 + 1, 0, none⟩ = some (.int .u64 q0) ∧ wr.cell? ⟨w.heap.size + 1 + 1 + 1 + 1, 1, none⟩ = some (.int .u64 q1)) ∧
    (wr.cell? ⟨w.heap.size + 1 + 1 + 1 + 1 + 1, 0, none⟩ = some (.int .u64 o0) ∧ wr.cell? ⟨w.heap.size + 1 + 1 + 1 + 1 + 1, 1, none⟩ = some (.int .u64 o1) ∧ wr.cell? ⟨w.heap.size + 1 + 1 + 1 + 1 + 1, 2, none⟩ = some (.int .u64 o2) ∧ wr.cell? ⟨w.heap.size + 1 + 1 + 1 + 1 + 1, 3, none⟩ = some (.int .u64 o3) ∧ wr.cell? ⟨w.heap.size + 1 + 1 + 1 + 1 + 1, 4, none⟩ = some (.int .u64 o4) ∧ wr.cell? ⟨w.heap.size + 1 + 1 + 1 + 1 + 1, 5, none⟩ = some (.int .u64 o5) ∧ ∀ o, wr.frozen? ⟨w.heap.size + 1 + 1 + 1 + 1 + 1, o, none⟩ = false) ∧
    (wr.cell? ⟨w.heap.size + 1, 0, none⟩ = some (.int .u64 0) ∧ wr.cell? ⟨w.heap.size + 1, 1, none⟩ = some (.int .u64 0) ∧ wr.cell? ⟨w.heap.size + 1, 2, none⟩ = some (.int .u64 0) ∧ wr.cell? ⟨w.heap.size + 1, 3, none⟩ = some (.int .u64 0) ∧ wr.cell? ⟨w.heap.size + 1, 4, none⟩ = some (.int .u64 0) ∧ wr.cell? ⟨w.heap.size + 1, 5, none⟩ = some (.int .u64 0) ∧ ∀ o, wr.frozen? ⟨w.heap.size + 1, o, none⟩ = false) ∧ w.heap.size + 1 + 1 + 1 + 1 + 1 < wr.heap.size ∧ Below w.heap.size w wr

/-- A row: the sums digit by digit, with what is carried, add the row to the six parts; nothing is carried out of them. -/
theorem row0 (o0 o1 o2 o3 o4 o5 x00 x01 n0 c0 n1 c1 n2 c2 n3 c3 n4 c4 n5 c5 V : Int) (ho0 : 0 ≤ o0 ∧ o0 ≤ 4294967295) (ho1 : 0 ≤ o1 ∧ o1 ≤ 4294967295) (ho2 : 0 ≤ o2 ∧ o2 ≤ 4294967295) (ho3 : 0 ≤ o3 ∧ o3 ≤ 4294967295) (ho4 : 0 ≤ o4 ∧ o4 ≤ 4294967295) (ho5 : 0 ≤ o5 ∧ o5 ≤ 4294967295) (hx0 : 0 ≤ x00 ∧ x00 ≤ 18446744065119617025) (hx1 : 0 ≤ x01 ∧ x01 ≤ 18446744065119617025)
    (m0 : (o0 + x00) % 4294967296 = n0) (k0 : (o0 + x00) / 4294967296 = c0) (m1 : (o1 + x01 + c0) % 4294967296 = n1) (k1 : (o1 + x01 + c0) / 4294967296 = c1) (m2 : (o2 + c1) % 4294967296 = n2) (k2 : (o2 + c1) / 4294967296 = c2) (m3 : (o3 + c2) % 4294967296 = n3) (k3 : (o3 + c2) / 4294967296 = c3) (m4 : (o4 + c3) % 4294967296 = n4) (k4 : (o4 + c3) / 4294967296 = c4) (m5 : (o5 + c4) % 4294967296 = n5) (k5 : (o5 + c4) / 4294967296 = c5)
    (hv : o0 + o1 * 4294967296 + o2 * 18446744073709551616 + o3 * 79228162514264337593543950336 + o4 * 340282366920938463463374607431768211456 + o5 * 1461501637330902918203684832716283019655932542976 = V) (ht : V + (x00 + x01 * 4294967296) * 1 < 6277101735386680763835789423207666416102355444464034512896) :
    ((0 ≤ n0 ∧ n0 ≤ 4294967295) ∧ (0 ≤ n1 ∧ n1 ≤ 4294967295) ∧ (0 ≤ n2 ∧ n2 ≤ 4294967295) ∧ (0 ≤ n3 ∧ n3 ≤ 4294967295) ∧ (0 ≤ n4 ∧ n4 ≤ 4294967295) ∧ (0 ≤ n5 ∧ n5 ≤ 4294967295)) ∧ n0 + n1 * 4294967296 + n2 * 18446744073709551616 + n3 * 79228162514264337593543950336 + n4 * 340282366920938463463374607431768211456 + n5 * 1461501637330902918203684832716283019655932542976 = V + (x00 + x01 * 4294967296) * 1 := by
  have s0 : o0 + x00 = n0 + c0 * 4294967296 ∧ 0 ≤ n0 ∧ n0 ≤ 4294967295 ∧ 0 ≤ c0 := by omega
  have s1 : o1 + x01 + c0 = n1 + c1 * 4294967296 ∧ 0 ≤ n1 ∧ n1 ≤ 4294967295 ∧ 0 ≤ c1 := by omega
  have s2 : o2 + c1 = n2 + c2 * 4294967296 ∧ 0 ≤ n2 ∧ n2 ≤ 4294967295 ∧ 0 ≤ c2 := by omega
  have s3 : o3 + c2 = n3 + c3 * 4294967296 ∧ 0 ≤ n3 ∧ n3 ≤ 4294967295 ∧ 0 ≤ c3 := by omega
  have s4 : o4 + c3 = n4 + c4 * 4294967296 ∧ 0 ≤ n4 ∧ n4 ≤ 4294967295 ∧ 0 ≤ c4 := by omega
  have s5 : o5 + c4 = n5 + c5 * 4294967296 ∧ 0 ≤ n5 ∧ n5 ≤ 4294967295 ∧ 0 ≤ c5 := by omega
  clear m0 k0
  clear m1 k1
  clear m2 k2
  clear m3 k3
  clear m4 k4
  clear m5 k5
  obtain ⟨e0, l0, u0, z0⟩ := s0
  obtain ⟨e1, l1, u1, z1⟩ := s1
  obtain ⟨e2, l2, u2, z2⟩ := s2
  obtain ⟨e3, l3, u3, z3⟩ := s3
  obtain ⟨e4, l4, u4, z4⟩ := s4
  obtain ⟨e5, l5, u5, z5⟩ := s5
  have big : n0 + n1 * 4294967296 + n2 * 18446744073709551616 + n3 * 79228162514264337593543950336 + n4 * 340282366920938463463374607431768211456 + n5 * 1461501637330902918203684832716283019655932542976 + c5 * 6277101735386680763835789423207666416102355444464034512896 = V + (x00 + x01 * 4294967296) * 1 := by omega
  have nn : 0 ≤ n0 + n1 * 4294967296 + n2 * 18446744073709551616 + n3 * 79228162514264337593543950336 + n4 * 340282366920938463463374607431768211456 + n5 * 1461501637330902918203684832716283019655932542976 := by omega
  have c0 : c5 = 0 := by omega
  rw [c0] at big
  exact ⟨⟨⟨l0, u0⟩, ⟨l1, u1⟩, ⟨l2, u2⟩, ⟨l3, u3⟩, ⟨l4, u4⟩, ⟨l5, u5⟩⟩, by omega⟩
theorem row1 (o0 o1 o2 o3 o4 o5 x10 x11 n1 c1 n2 c2 n3 c3 n4 c4 n5 c5 V : Int) (ho0 : 0 ≤ o0 ∧ o0 ≤ 4294967295) (ho1 : 0 ≤ o1 ∧ o1 ≤ 4294967295) (ho2 : 0 ≤ o2 ∧ o2 ≤ 4294967295) (ho3 : 0 ≤ o3 ∧ o3 ≤ 4294967295) (ho4 : 0 ≤ o4 ∧ o4 ≤ 4294967295) (ho5 : 0 ≤ o5 ∧ o5 ≤ 4294967295) (hx0 : 0 ≤ x10 ∧ x10 ≤ 18446744065119617025) (hx1 : 0 ≤ x11 ∧ x11 ≤ 18446744065119617025)
    (m1 : (o1 + x10) % 4294967296 = n1) (k1 : (o1 + x10) / 4294967296 = c1) (m2 : (o2 + x11 + c1) % 4294967296 = n2) (k2 : (o2 + x11 + c1) / 4294967296 = c2) (m3 : (o3 + c2) % 4294967296 = n3) (k3 : (o3 + c2) / 4294967296 = c3) (m4 : (o4 + c3) % 4294967296 = n4) (k4 : (o4 + c3) / 4294967296 = c4) (m5 : (o5 + c4) % 4294967296 = n5) (k5 : (o5 + c4) / 4294967296 = c5)
    (hv : o0 + o1 * 4294967296 + o2 * 18446744073709551616 + o3 * 79228162514264337593543950336 + o4 * 340282366920938463463374607431768211456 + o5 * 1461501637330902918203684832716283019655932542976 = V) (ht : V + (x10 + x11 * 4294967296) * 4294967296 < 6277101735386680763835789423207666416102355444464034512896) :
    ((0 ≤ n1 ∧ n1 ≤ 4294967295) ∧ (0 ≤ n2 ∧ n2 ≤ 4294967295) ∧ (0 ≤ n3 ∧ n3 ≤ 4294967295) ∧ (0 ≤ n4 ∧ n4 ≤ 4294967295) ∧ (0 ≤ n5 ∧ n5 ≤ 4294967295)) ∧ o0 + n1 * 4294967296 + n2 * 18446744073709551616 + n3 * 79228162514264337593543950336 + n4 * 340282366920938463463374607431768211456 + n5 * 1461501637330902918203684832716283019655932542976 = V + (x10 + x11 * 4294967296) * 4294967296 := by
  have s1 : o1 + x10 = n1 + c1 * 4294967296 ∧ 0 ≤ n1 ∧ n1 ≤ 4294967295 ∧ 0 ≤ c1 := by omega
  have s2 : o2 + x11 + c1 = n2 + c2 * 4294967296 ∧ 0 ≤ n2 ∧ n2 ≤ 4294967295 ∧ 0 ≤ c2 := by omega
  have s3 : o3 + c2 = n3 + c3 * 4294967296 ∧ 0 ≤ n3 ∧ n3 ≤ 4294967295 ∧ 0 ≤ c3 := by omega
  have s4 : o4 + c3 = n4 + c4 * 4294967296 ∧ 0 ≤ n4 ∧ n4 ≤ 4294967295 ∧ 0 ≤ c4 := by omega
  have s5 : o5 + c4 = n5 + c5 * 4294967296 ∧ 0 ≤ n5 ∧ n5 ≤ 4294967295 ∧ 0 ≤ c5 := by omega
  clear m1 k1
  clear m2 k2
  clear m3 k3
  clear m4 k4
  clear m5 k5
  obtain ⟨e1, l1, u1, z1⟩ := s1
  obtain ⟨e2, l2, u2, z2⟩ := s2
  obtain ⟨e3, l3, u3, z3⟩ := s3
  obtain ⟨e4, l4, u4, z4⟩ := s4
  obtain ⟨e5, l5, u5, z5⟩ := s5
  have big : o0 + n1 * 4294967296 + n2 * 18446744073709551616 + n3 * 79228162514264337593543950336 + n4 * 340282366920938463463374607431768211456 + n5 * 1461501637330902918203684832716283019655932542976 + c5 * 6277101735386680763835789423207666416102355444464034512896 = V + (x10 + x11 * 4294967296) * 4294967296 := by omega
  have nn : 0 ≤ o0 + n1 * 4294967296 + n2 * 18446744073709551616 + n3 * 79228162514264337593543950336 + n4 * 340282366920938463463374607431768211456 + n5 * 1461501637330902918203684832716283019655932542976 := by omega
  have c0 : c5 = 0 := by omega
  rw [c0] at big
  exact ⟨⟨⟨l1, u1⟩, ⟨l2, u2⟩, ⟨l3, u3⟩, ⟨l4, u4⟩, ⟨l5, u5⟩⟩, by omega⟩
theorem row2 (o0 o1 o2 o3 o4 o5 x20 x21 n2 c2 n3 c3 n4 c4 n5 c5 V : Int) (ho0 : 0 ≤ o0 ∧ o0 ≤ 4294967295) (ho1 : 0 ≤ o1 ∧ o1 ≤ 4294967295) (ho2 : 0 ≤ o2 ∧ o2 ≤ 4294967295) (ho3 : 0 ≤ o3 ∧ o3 ≤ 4294967295) (ho4 : 0 ≤ o4 ∧ o4 ≤ 4294967295) (ho5 : 0 ≤ o5 ∧ o5 ≤ 4294967295) (hx0 : 0 ≤ x20 ∧ x20 ≤ 18446744065119617025) (hx1 : 0 ≤ x21 ∧ x21 ≤ 18446744065119617025)
    (m2 : (o2 + x20) % 4294967296 = n2) (k2 : (o2 + x20) / 4294967296 = c2) (m3 : (o3 + x21 + c2) % 4294967296 = n3) (k3 : (o3 + x21 + c2) / 4294967296 = c3) (m4 : (o4 + c3) % 4294967296 = n4) (k4 : (o4 + c3) / 4294967296 = c4) (m5 : (o5 + c4) % 4294967296 = n5) (k5 : (o5 + c4) / 4294967296 = c5)
    (hv : o0 + o1 * 4294967296 + o2 * 18446744073709551616 + o3 * 79228162514264337593543950336 + o4 * 340282366920938463463374607431768211456 + o5 * 1461501637330902918203684832716283019655932542976 = V) (ht : V + (x20 + x21 * 4294967296) * 18446744073709551616 < 6277101735386680763835789423207666416102355444464034512896) :
    ((0 ≤ n2 ∧ n2 ≤ 4294967295) ∧ (0 ≤ n3 ∧ n3 ≤ 4294967295) ∧ (0 ≤ n4 ∧ n4 ≤ 4294967295) ∧ (0 ≤ n5 ∧ n5 ≤ 4294967295)) ∧ o0 + o1 * 4294967296 + n2 * 18446744073709551616 + n3 * 79228162514264337593543950336 + n4 * 340282366920938463463374607431768211456 + n5 * 1461501637330902918203684832716283019655932542976 = V + (x20 + x21 * 4294967296) * 18446744073709551616 := by
  have s2 : o2 + x20 = n2 + c2 * 4294967296 ∧ 0 ≤ n2 ∧ n2 ≤ 4294967295 ∧ 0 ≤ c2 := by omega
  have s3 : o3 + x21 + c2 = n3 + c3 * 4294967296 ∧ 0 ≤ n3 ∧ n3 ≤ 4294967295 ∧ 0 ≤ c3 := by omega
  have s4 : o4 + c3 = n4 + c4 * 4294967296 ∧ 0 ≤ n4 ∧ n4 ≤ 4294967295 ∧ 0 ≤ c4 := by omega
  have s5 : o5 + c4 = n5 + c5 * 4294967296 ∧ 0 ≤ n5 ∧ n5 ≤ 4294967295 ∧ 0 ≤ c5 := by omega
  clear m2 k2
  clear m3 k3
  clear m4 k4
  clear m5 k5
  obtain ⟨e2, l2, u2, z2⟩ := s2
  obtain ⟨e3, l3, u3, z3⟩ := s3
  obtain ⟨e4, l4, u4, z4⟩ := s4
  obtain ⟨e5, l5, u5, z5⟩ := s5
  have big : o0 + o1 * 4294967296 + n2 * 18446744073709551616 + n3 * 79228162514264337593543950336 + n4 * 340282366920938463463374607431768211456 + n5 * 1461501637330902918203684832716283019655932542976 + c5 * 6277101735386680763835789423207666416102355444464034512896 = V + (x20 + x21 * 4294967296) * 18446744073709551616 := by omega
  have nn : 0 ≤ o0 + o1 * 4294967296 + n2 * 18446744073709551616 + n3 * 79228162514264337593543950336 + n4 * 340282366920938463463374607431768211456 + n5 * 1461501637330902918203684832716283019655932542976 := by omega
  have c0 : c5 = 0 := by omega
  rw [c0] at big
  exact ⟨⟨⟨l2, u2⟩, ⟨l3, u3⟩, ⟨l4, u4⟩, ⟨l5, u5⟩⟩, by omega⟩
theorem row3 (o0 o1 o2 o3 o4 o5 x30 x31 n3 c3 n4 c4 n5 c5 V : Int) (ho0 : 0 ≤ o0 ∧ o0 ≤ 4294967295) (ho1 : 0 ≤ o1 ∧ o1 ≤ 4294967295) (ho2 : 0 ≤ o2 ∧ o2 ≤ 4294967295) (ho3 : 0 ≤ o3 ∧ o3 ≤ 4294967295) (ho4 : 0 ≤ o4 ∧ o4 ≤ 4294967295) (ho5 : 0 ≤ o5 ∧ o5 ≤ 4294967295) (hx0 : 0 ≤ x30 ∧ x30 ≤ 18446744065119617025) (hx1 : 0 ≤ x31 ∧ x31 ≤ 18446744065119617025)
    (m3 : (o3 + x30) % 4294967296 = n3) (k3 : (o3 + x30) / 4294967296 = c3) (m4 : (o4 + x31 + c3) % 4294967296 = n4) (k4 : (o4 + x31 + c3) / 4294967296 = c4) (m5 : (o5 + c4) % 4294967296 = n5) (k5 : (o5 + c4) / 4294967296 = c5)
    (hv : o0 + o1 * 4294967296 + o2 * 18446744073709551616 + o3 * 79228162514264337593543950336 + o4 * 340282366920938463463374607431768211456 + o5 * 1461501637330902918203684832716283019655932542976 = V) (ht : V + (x30 + x31 * 4294967296) * 79228162514264337593543950336 < 6277101735386680763835789423207666416102355444464034512896) :
    ((0 ≤ n3 ∧ n3 ≤ 4294967295) ∧ (0 ≤ n4 ∧ n4 ≤ 4294967295) ∧ (0 ≤ n5 ∧ n5 ≤ 4294967295)) ∧ o0 + o1 * 4294967296 + o2 * 18446744073709551616 + n3 * 79228162514264337593543950336 + n4 * 340282366920938463463374607431768211456 + n5 * 1461501637330902918203684832716283019655932542976 = V + (x30 + x31 * 4294967296) * 79228162514264337593543950336 := by
  have s3 : o3 + x30 = n3 + c3 * 4294967296 ∧ 0 ≤ n3 ∧ n3 ≤ 4294967295 ∧ 0 ≤ c3 := by omega
  have s4 : o4 + x31 + c3 = n4 + c4 * 4294967296 ∧ 0 ≤ n4 ∧ n4 ≤ 4294967295 ∧ 0 ≤ c4 := by omega
  have s5 : o5 + c4 = n5 + c5 * 4294967296 ∧ 0 ≤ n5 ∧ n5 ≤ 4294967295 ∧ 0 ≤ c5 := by omega
  clear m3 k3
  clear m4 k4
  clear m5 k5
  obtain ⟨e3, l3, u3, z3⟩ := s3
  obtain ⟨e4, l4, u4, z4⟩ := s4
  obtain ⟨e5, l5, u5, z5⟩ := s5
  have big : o0 + o1 * 4294967296 + o2 * 18446744073709551616 + n3 * 79228162514264337593543950336 + n4 * 340282366920938463463374607431768211456 + n5 * 1461501637330902918203684832716283019655932542976 + c5 * 6277101735386680763835789423207666416102355444464034512896 = V + (x30 + x31 * 4294967296) * 79228162514264337593543950336 := by omega
  have nn : 0 ≤ o0 + o1 * 4294967296 + o2 * 18446744073709551616 + n3 * 79228162514264337593543950336 + n4 * 340282366920938463463374607431768211456 + n5 * 1461501637330902918203684832716283019655932542976 := by omega
  have c0 : c5 = 0 := by omega
  rw [c0] at big
  exact ⟨⟨⟨l3, u3⟩, ⟨l4, u4⟩, ⟨l5, u5⟩⟩, by omega⟩

set_option maxRecDepth 100000 in
set_option maxHeartbeats 8000000 in
theorem product_walk (n1 : Bool) (h l n p0 p1 p2 p3 q0 q1 x00 x01 x10 x11 x20 x21 x30 x31 z0 z1 z2 z3 z4 z5 : Int) (w : World)
    (pv : ∀ w : World, Calls Try.prog 105 #[.int .u64 h, .int .u64 l] w fun e w' => e = .returned (.agg #[.int .u64 p0, .int .u64 p1, .int .u64 p2, .int .u64 p3]) ∧ w' = w.alloc (.cells #[.int .u64 p0, .int .u64 p1, .int .u64 p2, .int .u64 p3] 114))
    (nn0 : 0 ≤ n) (nn1 : n < 18446744073709551616) (eq0 : n % 4294967296 = q0) (eq1 : n / 4294967296 = q1)
    (e00 : p0 * q0 = x00) (lx00 : 0 ≤ x00) (ux00 : x00 ≤ 18446744065119617025) (e01 : p0 * q1 = x01) (lx01 : 0 ≤ x01) (ux01 : x01 ≤ 18446744065119617025) (e10 : p1 * q0 = x10) (lx10 : 0 ≤ x10) (ux10 : x10 ≤ 18446744065119617025) (e11 : p1 * q1 = x11) (lx11 : 0 ≤ x11) (ux11 : x11 ≤ 18446744065119617025) (e20 : p2 * q0 = x20) (lx20 : 0 ≤ x20) (ux20 : x20 ≤ 18446744065119617025) (e21 : p2 * q1 = x21) (lx21 : 0 ≤ x21) (ux21 : x21 ≤ 18446744065119617025) (e30 : p3 * q0 = x30) (lx30 : 0 ≤ x30) (ux30 : x30 ≤ 18446744065119617025) (e31 : p3 * q1 = x31) (lx31 : 0 ≤ x31) (ux31 : x31 ≤ 18446744065119617025)
    (ht : (x00 + x01 * 4294967296) + (x10 + x11 * 4294967296) * 4294967296 + (x20 + x21 * 4294967296) * 18446744073709551616 + (x30 + x31 * 4294967296) * 79228162514264337593543950336 < 6277101735386680763835789423207666416102355444464034512896)
    (hz : ∀ o0 o1 o2 o3 o4 o5 : Int, ((0 ≤ o0 ∧ o0 ≤ 4294967295) ∧ (0 ≤ o1 ∧ o1 ≤ 4294967295) ∧ (0 ≤ o2 ∧ o2 ≤ 4294967295) ∧ (0 ≤ o3 ∧ o3 ≤ 4294967295) ∧ (0 ≤ o4 ∧ o4 ≤ 4294967295) ∧ (0 ≤ o5 ∧ o5 ≤ 4294967295)) → o0 + o1 * 4294967296 + o2 * 18446744073709551616 + o3 * 79228162514264337593543950336 + o4 * 340282366920938463463374607431768211456 + o5 * 1461501637330902918203684832716283019655932542976 = (x00 + x01 * 4294967296) + (x10 + x11 * 4294967296) * 4294967296 + (x20 + x21 * 4294967296) * 18446744073709551616 + (x30 + x31 * 4294967296) * 79228162514264337593543950336 → o0 = z0 ∧ o1 = z1 ∧ o2 = z2 ∧ o3 = z3 ∧ o4 = z4 ∧ o5 = z5) :
    Calls Try.prog 101 #[.agg #[.bool n1, .int .u64 h, .int .u64 l], .int .u64 n] w (Gives (.agg #[.int .u64 z0, .int .u64 z1, .int .u64 z2, .int .u64 z3, .int .u64 z4, .int .u64 z5]) w) := by
  have HT := hid ht
  have HZ := hid hz
  clear ht hz
  have HX := hid (show (0 ≤ x00 ∧ x00 ≤ 18446744065119617025) ∧ (0 ≤ x01 ∧ x01 ≤ 18446744065119617025) ∧ (0 ≤ x10 ∧ x10 ≤ 18446744065119617025) ∧ (0 ≤ x11 ∧ x11 ≤ 18446744065119617025) ∧ (0 ≤ x20 ∧ x20 ≤ 18446744065119617025) ∧ (0 ≤ x21 ∧ x21 ≤ 18446744065119617025) ∧ (0 ≤ x30 ∧ x30 ≤ 18446744065119617025) ∧ (0 ≤ x31 ∧ x31 ≤ 18446744065119617025) from ⟨⟨lx00, ux00⟩, ⟨lx01, ux01⟩, ⟨lx10, ux10⟩, ⟨lx11, ux11⟩, ⟨lx20, ux20⟩, ⟨lx21, ux21⟩, ⟨lx30, ux30⟩, ⟨lx31, ux31⟩⟩)
  have y2 : w.heap.size < w.heap.size + 1 + 1 := by omega
  have y3 : w.heap.size < w.heap.size + 1 + 1 + 1 := by omega
  have y4 : w.heap.size < w.heap.size + 1 + 1 + 1 + 1 := by omega
  have y5 : w.heap.size < w.heap.size + 1 + 1 + 1 + 1 + 1 := by omega
  go_enter Try.func101, Try.ntmps101
  go_wp2_with (go_at_call 105; refine (pv _).mono ?_; rintro e w' ⟨rfl, rfl⟩)
  clear eq0 eq1
  go_loopw [8] (fun v8 wr => ProdRel w p0 p1 p2 p3 q0 q1 (x00 + x01 * 4294967296) (x10 + x11 * 4294967296) (x20 + x21 * 4294967296) (x30 + x31 * 4294967296) v8 wr) (fun v8 _ => (4 - intOf v8).toNat)
  case atStart =>
    refine ⟨0, 0, 0, 0, 0, 0, 0, rfl, by omega, by omega, rfl, ⟨?_, ?_, ?_, ?_⟩, ⟨?_, ?_⟩, ⟨?_, ?_, ?_, ?_, ?_, ?_, ?_⟩, ⟨?_, ?_, ?_, ?_, ?_, ?_, ?_⟩, ?_, by repeat' (first | (with_reducible exact Below.refl _ _) | (with_reducible refine Below.alloc ?_ ?_ _) | (with_reducible refine Below.setCell ?_ ?_ _) | (with_reducible refine Below.drew ?_) | (with_reducible refine Below.trans ?_ (Below.mono (by assumption) ?_)) | (simp; done) | (simp; omega) | omega)⟩
    all_goals first | (simp [go_sem]; done) | (simp; omega) | omega
  case round =>
    obtain ⟨i, o0, o1, o2, o3, o4, o5, rfl, hi, ho, hv, ⟨p0c, p1c, p2c, p3c⟩, ⟨q0c, q1c⟩, ⟨o0c, o1c, o2c, o3c, o4c, o5c, ofr⟩, ⟨r0c, r1c, r2c, r3c, r4c, r5c, rfr⟩, hsz, hB⟩ := hrel
    obtain ⟨⟨o0l, o0u⟩, ⟨o1l, o1u⟩, ⟨o2l, o2u⟩, ⟨o3l, o3u⟩, ⟨o4l, o4u⟩, ⟨o5l, o5u⟩⟩ := ho
    have HO := hid (show (0 ≤ o0 ∧ o0 ≤ 4294967295) ∧ (0 ≤ o1 ∧ o1 ≤ 4294967295) ∧ (0 ≤ o2 ∧ o2 ≤ 4294967295) ∧ (0 ≤ o3 ∧ o3 ≤ 4294967295) ∧ (0 ≤ o4 ∧ o4 ≤ 4294967295) ∧ (0 ≤ o5 ∧ o5 ≤ 4294967295) from ⟨⟨o0l, o0u⟩, ⟨o1l, o1u⟩, ⟨o2l, o2u⟩, ⟨o3l, o3u⟩, ⟨o4l, o4u⟩, ⟨o5l, o5u⟩⟩)
    have HV := hid hv
    have HB := hid hB
    clear hv hB
    have hcs : i = 0 ∨ i = 1 ∨ i = 2 ∨ i = 3 ∨ i = 4 := by omega
    rcases hcs with rfl | rfl | rfl | rfl | rfl
    · clear e10 lx10 ux10 e11 lx11 ux11 e20 lx20 ux20 e21 lx21 ux21 e30 lx30 ux30 e31 lx31 ux31
      obtain ⟨n0, m0⟩ : ∃ z, (o0 + x00) % 4294967296 = z := ⟨_, rfl⟩
      obtain ⟨c0, k0⟩ : ∃ z, (o0 + x00) / 4294967296 = z := ⟨_, rfl⟩
      have n0l : 0 ≤ n0 := by omega
      have n0u : n0 ≤ 4294967295 := by omega
      have c0l : 0 ≤ c0 := by omega
      have c0u : c0 ≤ 4294967295 := by omega
      obtain ⟨n1, m1⟩ : ∃ z, (o1 + x01 + c0) % 4294967296 = z := ⟨_, rfl⟩
      obtain ⟨c1, k1⟩ : ∃ z, (o1 + x01 + c0) / 4294967296 = z := ⟨_, rfl⟩
      have n1l : 0 ≤ n1 := by omega
      have n1u : n1 ≤ 4294967295 := by omega
      have c1l : 0 ≤ c1 := by omega
      have c1u : c1 ≤ 4294967295 := by omega
      obtain ⟨n2, m2⟩ : ∃ z, (o2 + c1) % 4294967296 = z := ⟨_, rfl⟩
      obtain ⟨c2, k2⟩ : ∃ z, (o2 + c1) / 4294967296 = z := ⟨_, rfl⟩
      have n2l : 0 ≤ n2 := by omega
      have n2u : n2 ≤ 4294967295 := by omega
      have c2l : 0 ≤ c2 := by omega
      have c2u : c2 ≤ 4294967295 := by omega
      obtain ⟨n3, m3⟩ : ∃ z, (o3 + c2) % 4294967296 = z := ⟨_, rfl⟩
      obtain ⟨c3, k3⟩ : ∃ z, (o3 + c2) / 4294967296 = z := ⟨_, rfl⟩
      have n3l : 0 ≤ n3 := by omega
      have n3u : n3 ≤ 4294967295 := by omega
      have c3l : 0 ≤ c3 := by omega
      have c3u : c3 ≤ 4294967295 := by omega
      obtain ⟨n4, m4⟩ : ∃ z, (o4 + c3) % 4294967296 = z := ⟨_, rfl⟩
      obtain ⟨c4, k4⟩ : ∃ z, (o4 + c3) / 4294967296 = z := ⟨_, rfl⟩
      have n4l : 0 ≤ n4 := by omega
      have n4u : n4 ≤ 4294967295 := by omega
      have c4l : 0 ≤ c4 := by omega
      have c4u : c4 ≤ 4294967295 := by omega
      obtain ⟨n5, m5⟩ : ∃ z, (o5 + c4) % 4294967296 = z := ⟨_, rfl⟩
      obtain ⟨c5, k5⟩ : ∃ z, (o5 + c4) / 4294967296 = z := ⟨_, rfl⟩
      have n5l : 0 ≤ n5 := by omega
      have n5u : n5 ≤ 4294967295 := by omega
      have c5l : 0 ≤ c5 := by omega
      have c5u : c5 ≤ 4294967295 := by omega
      have HM := hid (show (o0 + x00) % 4294967296 = n0 ∧ (o0 + x00) / 4294967296 = c0 ∧ (o1 + x01 + c0) % 4294967296 = n1 ∧ (o1 + x01 + c0) / 4294967296 = c1 ∧ (o2 + c1) % 4294967296 = n2 ∧ (o2 + c1) / 4294967296 = c2 ∧ (o3 + c2) % 4294967296 = n3 ∧ (o3 + c2) / 4294967296 = c3 ∧ (o4 + c3) % 4294967296 = n4 ∧ (o4 + c3) / 4294967296 = c4 ∧ (o5 + c4) % 4294967296 = n5 ∧ (o5 + c4) / 4294967296 = c5 from ⟨m0, k0, m1, k1, m2, k2, m3, k3, m4, k4, m5, k5⟩)
      go_wp2_with fail
      refine wp_loop_rounds 3 ?_
      rw [rounds_succ]
      go_wp2
      go_quiet (fail)
      go_wp2
      rw [rounds_succ]
      go_wp2
      go_quiet (fail)
      go_wp2
      rw [rounds_succ]
      go_wp2
      refine wp_loop_rounds 5 ?_
      rw [rounds_succ]
      go_wp2
      rw [rounds_succ]
      go_wp2
      rw [rounds_succ]
      go_wp2
      rw [rounds_succ]
      go_wp2
      rw [rounds_succ]
      go_wp2
      go_roundw
      case rel =>
        obtain ⟨m0, k0, m1, k1, m2, k2, m3, k3, m4, k4, m5, k5⟩ := HM.out
        obtain ⟨ho0, ho1, ho2, ho3, ho4, ho5⟩ := HO.out
        obtain ⟨hx00, hx01, hx10, hx11, hx20, hx21, hx30, hx31⟩ := HX.out
        have tt := HT.out
        have BB := HB.out
        have RW := row0 o0 o1 o2 o3 o4 o5 x00 x01 n0 c0 n1 c1 n2 c2 n3 c3 n4 c4 n5 c5 _ ho0 ho1 ho2 ho3 ho4 ho5 hx00 hx01 m0 k0 m1 k1 m2 k2 m3 k3 m4 k4 m5 k5 HV.out (by simp only [rowSum]; omega)
        obtain ⟨⟨⟨_, _⟩, ⟨_, _⟩, ⟨_, _⟩, ⟨_, _⟩, ⟨_, _⟩, ⟨_, _⟩⟩, RV⟩ := RW
        refine ⟨1, n0, n1, n2, n3, n4, n5, by go_num, by omega, ⟨⟨n0l, n0u⟩, ⟨n1l, n1u⟩, ⟨n2l, n2u⟩, ⟨n3l, n3u⟩, ⟨n4l, n4u⟩, ⟨n5l, n5u⟩⟩, ?_, ⟨?_, ?_, ?_, ?_⟩, ⟨?_, ?_⟩, ⟨?_, ?_, ?_, ?_, ?_, ?_, ?_⟩, ⟨?_, ?_, ?_, ?_, ?_, ?_, ?_⟩, ?_, by (repeat' (first | (with_reducible assumption) | (with_reducible refine Below.setCell ?_ ?_ _) | (with_reducible refine (Below.trans ?_ ((below_drewN _).mono ?_))) | (simp; done) | (simp; omega) | omega))⟩
        · rw [RV]; simp only [rowSum] <;> omega
        all_goals first | (simp [go_sem]; done) | (simp [go_sem, *]; done) | (simp; omega) | omega
      case measure => simp [intOf]
    · clear e00 lx00 ux00 e01 lx01 ux01 e20 lx20 ux20 e21 lx21 ux21 e30 lx30 ux30 e31 lx31 ux31
      obtain ⟨n1, m1⟩ : ∃ z, (o1 + x10) % 4294967296 = z := ⟨_, rfl⟩
      obtain ⟨c1, k1⟩ : ∃ z, (o1 + x10) / 4294967296 = z := ⟨_, rfl⟩
      have n1l : 0 ≤ n1 := by omega
      have n1u : n1 ≤ 4294967295 := by omega
      have c1l : 0 ≤ c1 := by omega
      have c1u : c1 ≤ 4294967295 := by omega
      obtain ⟨n2, m2⟩ : ∃ z, (o2 + x11 + c1) % 4294967296 = z := ⟨_, rfl⟩
      obtain ⟨c2, k2⟩ : ∃ z, (o2 + x11 + c1) / 4294967296 = z := ⟨_, rfl⟩
      have n2l : 0 ≤ n2 := by omega
      have n2u : n2 ≤ 4294967295 := by omega
      have c2l : 0 ≤ c2 := by omega
      have c2u : c2 ≤ 4294967295 := by omega
      obtain ⟨n3, m3⟩ : ∃ z, (o3 + c2) % 4294967296 = z := ⟨_, rfl⟩
      obtain ⟨c3, k3⟩ : ∃ z, (o3 + c2) / 4294967296 = z := ⟨_, rfl⟩
      have n3l : 0 ≤ n3 := by omega
      have n3u : n3 ≤ 4294967295 := by omega
      have c3l : 0 ≤ c3 := by omega
      have c3u : c3 ≤ 4294967295 := by omega
      obtain ⟨n4, m4⟩ : ∃ z, (o4 + c3) % 4294967296 = z := ⟨_, rfl⟩
      obtain ⟨c4, k4⟩ : ∃ z, (o4 + c3) / 4294967296 = z := ⟨_, rfl⟩
      have n4l : 0 ≤ n4 := by omega
      have n4u : n4 ≤ 4294967295 := by omega
      have c4l : 0 ≤ c4 := by omega
      have c4u : c4 ≤ 4294967295 := by omega
      obtain ⟨n5, m5⟩ : ∃ z, (o5 + c4) % 4294967296 = z := ⟨_, rfl⟩
      obtain ⟨c5, k5⟩ : ∃ z, (o5 + c4) / 4294967296 = z := ⟨_, rfl⟩
      have n5l : 0 ≤ n5 := by omega
      have n5u : n5 ≤ 4294967295 := by omega
      have c5l : 0 ≤ c5 := by omega
      have c5u : c5 ≤ 4294967295 := by omega
      have HM := hid (show (o1 + x10) % 4294967296 = n1 ∧ (o1 + x10) / 4294967296 = c1 ∧ (o2 + x11 + c1) % 4294967296 = n2 ∧ (o2 + x11 + c1) / 4294967296 = c2 ∧ (o3 + c2) % 4294967296 = n3 ∧ (o3 + c2) / 4294967296 = c3 ∧ (o4 + c3) % 4294967296 = n4 ∧ (o4 + c3) / 4294967296 = c4 ∧ (o5 + c4) % 4294967296 = n5 ∧ (o5 + c4) / 4294967296 = c5 from ⟨m1, k1, m2, k2, m3, k3, m4, k4, m5, k5⟩)
      go_wp2_with fail
      refine wp_loop_rounds 3 ?_
      rw [rounds_succ]
      go_wp2
      go_quiet (fail)
      go_wp2
      rw [rounds_succ]
      go_wp2
      go_quiet (fail)
      go_wp2
      rw [rounds_succ]
      go_wp2
      refine wp_loop_rounds 4 ?_
      rw [rounds_succ]
      go_wp2
      rw [rounds_succ]
      go_wp2
      rw [rounds_succ]
      go_wp2
      rw [rounds_succ]
      go_wp2
      go_roundw
      case rel =>
        obtain ⟨m1, k1, m2, k2, m3, k3, m4, k4, m5, k5⟩ := HM.out
        obtain ⟨ho0, ho1, ho2, ho3, ho4, ho5⟩ := HO.out
        obtain ⟨hx00, hx01, hx10, hx11, hx20, hx21, hx30, hx31⟩ := HX.out
        have tt := HT.out
        have BB := HB.out
        have RW := row1 o0 o1 o2 o3 o4 o5 x10 x11 n1 c1 n2 c2 n3 c3 n4 c4 n5 c5 _ ho0 ho1 ho2 ho3 ho4 ho5 hx10 hx11 m1 k1 m2 k2 m3 k3 m4 k4 m5 k5 HV.out (by simp only [rowSum]; omega)
        obtain ⟨⟨⟨_, _⟩, ⟨_, _⟩, ⟨_, _⟩, ⟨_, _⟩, ⟨_, _⟩⟩, RV⟩ := RW
        refine ⟨2, o0, n1, n2, n3, n4, n5, by go_num, by omega, ⟨⟨o0l, o0u⟩, ⟨n1l, n1u⟩, ⟨n2l, n2u⟩, ⟨n3l, n3u⟩, ⟨n4l, n4u⟩, ⟨n5l, n5u⟩⟩, ?_, ⟨?_, ?_, ?_, ?_⟩, ⟨?_, ?_⟩, ⟨?_, ?_, ?_, ?_, ?_, ?_, ?_⟩, ⟨?_, ?_, ?_, ?_, ?_, ?_, ?_⟩, ?_, by (repeat' (first | (with_reducible assumption) | (with_reducible refine Below.setCell ?_ ?_ _) | (with_reducible refine (Below.trans ?_ ((below_drewN _).mono ?_))) | (simp; done) | (simp; omega) | omega))⟩
        · rw [RV]; simp only [rowSum] <;> omega
        all_goals first | (simp [go_sem]; done) | (simp [go_sem, *]; done) | (simp; omega) | omega
      case measure => simp [intOf]
    · clear e00 lx00 ux00 e01 lx01 ux01 e10 lx10 ux10 e11 lx11 ux11 e30 lx30 ux30 e31 lx31 ux31
      obtain ⟨n2, m2⟩ : ∃ z, (o2 + x20) % 4294967296 = z := ⟨_, rfl⟩
      obtain ⟨c2, k2⟩ : ∃ z, (o2 + x20) / 4294967296 = z := ⟨_, rfl⟩
      have n2l : 0 ≤ n2 := by omega
      have n2u : n2 ≤ 4294967295 := by omega
      have c2l : 0 ≤ c2 := by omega
      have c2u : c2 ≤ 4294967295 := by omega
      obtain ⟨n3, m3⟩ : ∃ z, (o3 + x21 + c2) % 4294967296 = z := ⟨_, rfl⟩
      obtain ⟨c3, k3⟩ : ∃ z, (o3 + x21 + c2) / 4294967296 = z := ⟨_, rfl⟩
      have n3l : 0 ≤ n3 := by omega
      have n3u : n3 ≤ 4294967295 := by omega
      have c3l : 0 ≤ c3 := by omega
      have c3u : c3 ≤ 4294967295 := by omega
      obtain ⟨n4, m4⟩ : ∃ z, (o4 + c3) % 4294967296 = z := ⟨_, rfl⟩
      obtain ⟨c4, k4⟩ : ∃ z, (o4 + c3) / 4294967296 = z := ⟨_, rfl⟩
      have n4l : 0 ≤ n4 := by omega
      have n4u : n4 ≤ 4294967295 := by omega
      have c4l : 0 ≤ c4 := by omega
      have c4u : c4 ≤ 4294967295 := by omega
      obtain ⟨n5, m5⟩ : ∃ z, (o5 + c4) % 4294967296 = z := ⟨_, rfl⟩
      obtain ⟨c5, k5⟩ : ∃ z, (o5 + c4) / 4294967296 = z := ⟨_, rfl⟩
      have n5l : 0 ≤ n5 := by omega
      have n5u : n5 ≤ 4294967295 := by omega
      have c5l : 0 ≤ c5 := by omega
      have c5u : c5 ≤ 4294967295 := by omega
      have HM := hid (show (o2 + x20) % 4294967296 = n2 ∧ (o2 + x20) / 4294967296 = c2 ∧ (o3 + x21 + c2) % 4294967296 = n3 ∧ (o3 + x21 + c2) / 4294967296 = c3 ∧ (o4 + c3) % 4294967296 = n4 ∧ (o4 + c3) / 4294967296 = c4 ∧ (o5 + c4) % 4294967296 = n5 ∧ (o5 + c4) / 4294967296 = c5 from ⟨m2, k2, m3, k3, m4, k4, m5, k5⟩)
      go_wp2_with fail
      refine wp_loop_rounds 3 ?_
      rw [rounds_succ]
      go_wp2
      go_quiet (fail)
      go_wp2
      rw [rounds_succ]
      go_wp2
      go_quiet (fail)
      go_wp2
      rw [rounds_succ]
      go_wp2
      refine wp_loop_rounds 3 ?_
      rw [rounds_succ]
      go_wp2
      rw [rounds_succ]
      go_wp2
      rw [rounds_succ]
      go_wp2
      go_roundw
      case rel =>
        obtain ⟨m2, k2, m3, k3, m4, k4, m5, k5⟩ := HM.out
        obtain ⟨ho0, ho1, ho2, ho3, ho4, ho5⟩ := HO.out
        obtain ⟨hx00, hx01, hx10, hx11, hx20, hx21, hx30, hx31⟩ := HX.out
        have tt := HT.out
        have BB := HB.out
        have RW := row2 o0 o1 o2 o3 o4 o5 x20 x21 n2 c2 n3 c3 n4 c4 n5 c5 _ ho0 ho1 ho2 ho3 ho4 ho5 hx20 hx21 m2 k2 m3 k3 m4 k4 m5 k5 HV.out (by simp only [rowSum]; omega)
        obtain ⟨⟨⟨_, _⟩, ⟨_, _⟩, ⟨_, _⟩, ⟨_, _⟩⟩, RV⟩ := RW
        refine ⟨3, o0, o1, n2, n3, n4, n5, by go_num, by omega, ⟨⟨o0l, o0u⟩, ⟨o1l, o1u⟩, ⟨n2l, n2u⟩, ⟨n3l, n3u⟩, ⟨n4l, n4u⟩, ⟨n5l, n5u⟩⟩, ?_, ⟨?_, ?_, ?_, ?_⟩, ⟨?_, ?_⟩, ⟨?_, ?_, ?_, ?_, ?_, ?_, ?_⟩, ⟨?_, ?_, ?_, ?_, ?_, ?_, ?_⟩, ?_, by (repeat' (first | (with_reducible assumption) | (with_reducible refine Below.setCell ?_ ?_ _) | (with_reducible refine (Below.trans ?_ ((below_drewN _).mono ?_))) | (simp; done) | (simp; omega) | omega))⟩
        · rw [RV]; simp only [rowSum] <;> omega
        all_goals first | (simp [go_sem]; done) | (simp [go_sem, *]; done) | (simp; omega) | omega
      case measure => simp [intOf]
    · clear e00 lx00 ux00 e01 lx01 ux01 e10 lx10 ux10 e11 lx11 ux11 e20 lx20 ux20 e21 lx21 ux21
      obtain ⟨n3, m3⟩ : ∃ z, (o3 + x30) % 4294967296 = z := ⟨_, rfl⟩
      obtain ⟨c3, k3⟩ : ∃ z, (o3 + x30) / 4294967296 = z := ⟨_, rfl⟩
      have n3l : 0 ≤ n3 := by omega
      have n3u : n3 ≤ 4294967295 := by omega
      have c3l : 0 ≤ c3 := by omega
      have c3u : c3 ≤ 4294967295 := by omega
      obtain ⟨n4, m4⟩ : ∃ z, (o4 + x31 + c3) % 4294967296 = z := ⟨_, rfl⟩
      obtain ⟨c4, k4⟩ : ∃ z, (o4 + x31 + c3) / 4294967296 = z := ⟨_, rfl⟩
      have n4l : 0 ≤ n4 := by omega
      have n4u : n4 ≤ 4294967295 := by omega
      have c4l : 0 ≤ c4 := by omega
      have c4u : c4 ≤ 4294967295 := by omega
      obtain ⟨n5, m5⟩ : ∃ z, (o5 + c4) % 4294967296 = z := ⟨_, rfl⟩
      obtain ⟨c5, k5⟩ : ∃ z, (o5 + c4) / 4294967296 = z := ⟨_, rfl⟩
      have n5l : 0 ≤ n5 := by omega
      have n5u : n5 ≤ 4294967295 := by omega
      have c5l : 0 ≤ c5 := by omega
      have c5u : c5 ≤ 4294967295 := by omega
      have HM := hid (show (o3 + x30) % 4294967296 = n3 ∧ (o3 + x30) / 4294967296 = c3 ∧ (o4 + x31 + c3) % 4294967296 = n4 ∧ (o4 + x31 + c3) / 4294967296 = c4 ∧ (o5 + c4) % 4294967296 = n5 ∧ (o5 + c4) / 4294967296 = c5 from ⟨m3, k3, m4, k4, m5, k5⟩)
      go_wp2_with fail
      refine wp_loop_rounds 3 ?_
      rw [rounds_succ]
      go_wp2
      go_quiet (fail)
      go_wp2
      rw [rounds_succ]
      go_wp2
      go_quiet (fail)
      go_wp2
      rw [rounds_succ]
      go_wp2
      refine wp_loop_rounds 2 ?_
      rw [rounds_succ]
      go_wp2
      rw [rounds_succ]
      go_wp2
      go_roundw
      case rel =>
        obtain ⟨m3, k3, m4, k4, m5, k5⟩ := HM.out
        obtain ⟨ho0, ho1, ho2, ho3, ho4, ho5⟩ := HO.out
        obtain ⟨hx00, hx01, hx10, hx11, hx20, hx21, hx30, hx31⟩ := HX.out
        have tt := HT.out
        have BB := HB.out
        have RW := row3 o0 o1 o2 o3 o4 o5 x30 x31 n3 c3 n4 c4 n5 c5 _ ho0 ho1 ho2 ho3 ho4 ho5 hx30 hx31 m3 k3 m4 k4 m5 k5 HV.out (by simp only [rowSum]; omega)
        obtain ⟨⟨⟨_, _⟩, ⟨_, _⟩, ⟨_, _⟩⟩, RV⟩ := RW
        refine ⟨4, o0, o1, o2, n3, n4, n5, by go_num, by omega, ⟨⟨o0l, o0u⟩, ⟨o1l, o1u⟩, ⟨o2l, o2u⟩, ⟨n3l, n3u⟩, ⟨n4l, n4u⟩, ⟨n5l, n5u⟩⟩, ?_, ⟨?_, ?_, ?_, ?_⟩, ⟨?_, ?_⟩, ⟨?_, ?_, ?_, ?_, ?_, ?_, ?_⟩, ⟨?_, ?_, ?_, ?_, ?_, ?_, ?_⟩, ?_, by (repeat' (first | (with_reducible assumption) | (with_reducible refine Below.setCell ?_ ?_ _) | (with_reducible refine (Below.trans ?_ ((below_drewN _).mono ?_))) | (simp; done) | (simp; omega) | omega))⟩
        · rw [RV]; simp only [rowSum] <;> omega
        all_goals first | (simp [go_sem]; done) | (simp [go_sem, *]; done) | (simp; omega) | omega
      case measure => simp [intOf]
    · have zz := HZ.out o0 o1 o2 o3 o4 o5 HO.out (by have := HV.out; simp only [rowSum] at this; omega)
      obtain ⟨rfl, rfl, rfl, rfl, rfl, rfl⟩ := zz
      go_wp2
      refine bodyPost_ret (v := .agg #[.int .u64 o0, .int .u64 o1, .int .u64 o2, .int .u64 o3, .int .u64 o4, .int .u64 o5]) (by simp [results, Try.results101, go_sem, r0c, r1c, r2c, r3c, r4c, r5c]) rfl ?_
      have BB := HB.out
      exact Gives.mk rfl (by repeat' (first | (with_reducible exact Below.refl _ _) | (with_reducible refine Below.alloc ?_ ?_ _) | (with_reducible refine Below.setCell ?_ ?_ _) | (with_reducible refine Below.drew ?_) | (with_reducible refine Below.trans ?_ (Below.mono (by assumption) ?_)) | (simp; done) | (simp; omega) | omega))
end Go.Proofs.Ytfdnmlggemonhaa
