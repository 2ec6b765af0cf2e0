/-
  The exported functions of package wide, each by a contract: texts.
-/
import Derived.Test.YthfnblifefnfmaaWquo
namespace Go.Proofs.Ythfnblifefnfmaa
open Go.RowKit
set_option linter.unusedVariables false

/-- The buffer of 40 bytes: what its cells hold; the last ones are the digits so far. -/
def Buf (wr : World) (b : Nat) (c : Nat → Int) (p : Nat) (acc : List UInt8) : Prop :=
  (∀ j, j < 40 → wr.cell? ⟨b, j, none⟩ = some (.int .u8 (c j))) ∧ (∀ o, wr.frozen? ⟨b, o, none⟩ = false) ∧ acc.length ≤ 39 ∧ p = 40 - acc.length
    ∧ ∀ j, j < acc.length → c (p + j) = ((acc.getD j 0).toNat : Int)
/-- At the head of a round of Text. -/
def TextRel (w : World) (n : Bool) (N : Nat) (v4 v5 v6 : Value) (wr : World) : Prop :=
  ∃ (acc : List UInt8) (m p : Nat) (hi lo : Int) (c : Nat → Int), v4 = .int .i64 (p : Int) ∧ v5 = .int .u64 hi ∧ v6 = .int .u64 lo ∧ (0 ≤ hi ∧ hi < 9223372036854775808 ∧ 0 ≤ lo ∧ lo < 18446744073709551616
    ∧ hi * 18446744073709551616 + lo = (m : Int)) ∧ Wd.Dg N m acc ∧ Buf wr (w.heap.size + 1 + 1) c p acc ∧ Below w.heap.size w wr ∧ w.heap.size + 1 + 1 < wr.heap.size ∧ wr.cell? ⟨w.heap.size, 0, none⟩ = some (.bool n)
theorem Buf.step {wr w1 : World} {b p : Nat} {c : Nat → Int} {acc : List UInt8} {d : Nat} (h : Buf wr b c p acc) (hb : Below wr.heap.size wr w1) (hs : b < wr.heap.size) (hd : d < 10) (hl : acc.length < 39) :
    Buf (w1.setCell ⟨b, p - 1, none⟩ (.int .u8 (48 + (d : Int)))) b (fun j => if j = p - 1 then 48 + (d : Int) else c j) (p - 1) (UInt8.ofNat (48 + d) :: acc) := by
  obtain ⟨h1, h2, h3, h4, h5⟩ := h
  refine ⟨fun j hj => ?_, fun o => ?_, by simp; omega, by simp; omega, fun j hj => ?_⟩
  · have old : w1.cell? ⟨b, j, none⟩ = some (.int .u8 (c j)) := (hb.cell (p := ⟨b, j, none⟩) hs).trans (h1 j hj)
    by_cases e : j = p - 1
    · subst e
      simp only [if_true]
      rw [World.cell?_setCell_same' _ _ _ (by rw [old]; rfl)]
    · simp only [if_neg e]
      exact (World.cell?_setCell_other w1 _ _ _ (by intro hc; apply e; exact ((Addr.mk.inj hc).2.1).symm)).trans old
  · rw [World.frozen?_setCell]
    exact (hb.frozen (p := ⟨b, o, none⟩) hs).trans (h2 o)
  · cases j with
    | zero =>
      have e : (UInt8.ofNat (48 + d)).toNat = 48 + d := by
        rw [UInt8.toNat_ofNat']; omega
      simp only [List.getD_cons_zero, Nat.add_zero, if_true, e]
      omega
    | succ j =>
      simp only [List.getD_cons_succ]
      have := h5 j (by simpa using hj)
      have e1 : p - 1 + (j + 1) = p + j := by omega
      rw [e1, if_neg (by omega)]
      exact this

/-- The box of the argument still holds its sign behind a call and a store into the buffer. -/
theorem cell_over {w wr w1 : World} {n : Bool} {q : Nat} {v : Value} (hn : wr.cell? ⟨w.heap.size, 0, none⟩ = some (.bool n)) (hb : Below wr.heap.size wr w1) (hs : w.heap.size < wr.heap.size) :
    (w1.setCell ⟨w.heap.size + 1 + 1, q, none⟩ v).cell? ⟨w.heap.size, 0, none⟩ = some (.bool n) := by
  refine (World.cell?_setCell_other w1 _ _ _ (by intro hc; have := (Addr.mk.inj hc).1; omega)).trans ?_
  exact (hb.cell (p := ⟨w.heap.size, 0, none⟩) hs).trans hn
theorem push_all : ∀ (acc : List UInt8) (r : ByteArray), (acc.map (fun x => ((x.toNat : Nat) : Int))).foldl (fun r n => r.push (UInt8.ofNat n.toNat)) r = ⟨(r.data.toList ++ acc).toArray⟩ := by
  intro acc
  induction acc with
  | nil => intro r; simp
  | cons a acc ih =>
    intro r
    simp only [List.map_cons, List.foldl_cons]
    rw [ih]
    simp [ByteArray.push]
theorem text_core {wr : World} {b p len : Nat} {acc : List UInt8} (el : len = acc.length) (h : ∀ j, j < acc.length → wr.cell? ⟨b, p + j, none⟩ = some (.int .u8 ((acc.getD j 0).toNat : Int))) :
    (convert 53 9 (.slice (some ⟨b, p, none⟩) len len)).run Try.prog wr = .ok (.string ⟨acc.toArray⟩) wr := by
  subst el
  rw [run_convert_bytes_string wr 53 9 5 _ _ _ Try.underlying53 Try.underlying5 Try.underlying9]
  have hl := run_loadCells (w := wr) (P := Try.prog) ⟨b, p, none⟩ acc.length (fun j => Value.int .u8 ((acc.getD j 0).toNat : Int)) (fun j hj => by
    have := h j hj
    by_cases j0 : j = 0
    · subst j0; first | exact this | (simp [Addr.add]; done) | (simpa [Addr.add] using this)
    · first | exact this | (simp [Addr.add, j0]; done) | (simpa [Addr.add, j0] using this))
  have em : List.map (fun j => Value.int .u8 ((acc.getD j 0).toNat : Int)) (List.range acc.length) = (acc.map (fun x => ((x.toNat : Nat) : Int))).map (Value.int .u8) := by
    apply List.ext_getElem
    · simp
    · intro i h1 h2
      simp at h1
      simp [List.getElem?_eq_getElem h1]
  rw [em] at hl
  rw [run_bytesToString wr _ _ _ _ hl, push_all]
  simp
/-- The text of the buffer from p on. -/
theorem Buf.text {wr : World} {b p : Nat} {c : Nat → Int} {acc : List UInt8} (h : Buf wr b c p acc) :
    (convert 53 9 (.slice (some ⟨b, p, none⟩) (40 - p) (40 - p))).run Try.prog wr = .ok (.string ⟨acc.toArray⟩) wr := by
  obtain ⟨h1, h2, h3, h4, h5⟩ := h
  refine text_core (by omega) fun j hj => ?_
  rw [h1 (p + j) (by omega), h5 j hj]
/-- The same, a sign put before it. -/
theorem Buf.text' {wr : World} {b p q : Nat} {c : Nat → Int} {acc : List UInt8} (h : Buf wr b c p acc) (hq : q + 1 = p) :
    (convert 53 9 (.slice (some ⟨b, q, none⟩) (40 - q) (40 - q))).run Try.prog (wr.setCell ⟨b, q, none⟩ (.int .u8 45)) = .ok (.string ⟨(45 :: acc).toArray⟩) (wr.setCell ⟨b, q, none⟩ (.int .u8 45)) := by
  obtain ⟨h1, h2, h3, h4, h5⟩ := h
  refine text_core (by simp; omega) fun j hj => ?_
  cases j with
  | zero => exact World.cell?_setCell_same' _ _ _ (by rw [h1 q (by omega)]; rfl)
  | succ j =>
    refine (World.cell?_setCell_other wr _ _ _ (by intro hc; have := (Addr.mk.inj hc).2.1; omega)).trans ?_
    have e : q + (j + 1) = p + j := by omega
    have hj' : j < acc.length := by simpa using hj
    rw [e, h1 (p + j) (by omega), h5 j hj']
    rfl
set_option maxRecDepth 100000 in
set_option maxHeartbeats 1000000 in
theorem text_walk (n : Bool) (h l : Int) (b0 : 0 ≤ h) (b1 : h < 9223372036854775808) (b2 : 0 ≤ l) (b3 : l < 18446744073709551616) (N : Nat) (hN : h * 18446744073709551616 + l = (N : Int)) (S : ByteArray) (hNb : N < 170141183460469231731687303715884105728) (hS : S = ⟨((if n = true then [45] else []) ++ Lib.decDigits N).toArray⟩) (w : World)
    (ck : ∀ w : World, Calls Try.prog 10 #[.agg #[.bool n, .int .u64 h, .int .u64 l]] w fun e w' => e = .returned (.int .i64 0) ∧ w' = w.alloc (Obj.cells #[.bool n, .int .u64 h, .int .u64 l] 24))
    (dv : Hid (∀ hi lo a b r : Int, 0 ≤ hi → hi < 18446744073709551616 → 0 ≤ lo → lo < 18446744073709551616 → (hi * 18446744073709551616 + lo) / 10 / 18446744073709551616 = a → (hi * 18446744073709551616 + lo) / 10 % 18446744073709551616 = b → (hi * 18446744073709551616 + lo) % 10 = r → ∀ w : World, Calls Try.prog 42 #[.int .u64 hi, .int .u64 lo, .int .u64 10] w (Gives (.tuple #[.int .u64 a, .int .u64 b, .int .u64 r]) w))) :
    Calls Try.prog 14 #[.agg #[.bool n, .int .u64 h, .int .u64 l]] w (Gives (.string S) w) := by
  have HN := hid hN
  have HS := hid hS
  have HNb := hid hNb
  clear hN hS hNb
  have hmk : ∀ w, (Instr.makeSlice 53 (.int .i64 40) (.int .i64 40)).run Try.prog w = .ok (.slice (some ⟨w.heap.size, 0, none⟩) 40 40) (w.alloc (.cells (Array.replicate 40 (.int .u8 0)) 5)) := fun _ => by kernel_rfl
  go_enter Try.func14, Try.ntmps14
  go_wp2_with (go_at_call 10; refine (ck _).mono ?_; rintro e w' ⟨rfl, rfl⟩)
  go_quiet (fail)
  go_wp2_with fail
  go_loopw [4, 5, 6] (fun v4 v5 v6 wr => TextRel w n N v4 v5 v6 wr) (fun v4 _ _ _ => (intOf v4).toNat)
  case atStart =>
    refine ⟨[], N, 40, h, l, fun _ => 0, rfl, rfl, rfl, ⟨b0, b1, b2, b3, HN.out⟩, Wd.Dg.start N, ⟨fun j hj => ?_, fun o => by simp [go_sem], by simp, rfl, fun j hj => by simp at hj⟩, ?_, by simp, by simp [go_sem]⟩
    · simp [go_sem, hj]
    · refine Below.trans ?_ ((below_drewN _).mono ?_)
      · repeat' (first | (with_reducible exact Below.refl _ _) | (with_reducible refine Below.alloc ?_ ?_ _) | (with_reducible refine Below.setCell ?_ ?_ _) | (with_reducible refine Below.drew ?_) | (with_reducible refine Below.trans ?_ (Below.mono (by assumption) ?_)) | (simp; done) | (simp; omega) | omega)
      · simp; omega
  case round =>
    obtain ⟨acc, m, p, hi, lo, c, rfl, rfl, rfl, ⟨c0, c1, c2, c3, hm⟩, hD, hbuf, hB, hsz, hn⟩ := hrel
    have HM := hid hm
    have HD := hid hD
    have HB := hid hbuf
    have hp := hbuf.2.2.2.1
    have hl39 := hbuf.2.2.1
    have HP := hid hp
    clear hm hD hbuf hp
    by_cases go : acc = [] ∨ m ≠ 0
    · have len := Wd.Dg.len HD.out HNb.out go
      obtain ⟨a', ha'⟩ : ∃ x, (hi * 18446744073709551616 + lo) / 10 / 18446744073709551616 = x := ⟨_, rfl⟩
      obtain ⟨b', hb'⟩ : ∃ x, (hi * 18446744073709551616 + lo) / 10 % 18446744073709551616 = x := ⟨_, rfl⟩
      obtain ⟨d, hd⟩ : ∃ d : Nat, m % 10 = d := ⟨_, rfl⟩
      have hd10 : d < 10 := by omega
      have hr : (hi * 18446744073709551616 + lo) % 10 = (d : Int) := by have := HM.out; omega
      have ds := dv.out hi lo a' b' (d : Int) c0 (by omega) c2 c3 ha' hb' hr
      have p1 : 1 ≤ p := by have := HP.out; omega
      have p40 : p ≤ 40 := by have := HP.out; omega
      have hm2 : a' * 18446744073709551616 + b' = ((m / 10 : Nat) : Int) := by have := HM.out; omega
      have ba : 0 ≤ a' ∧ a' < 9223372036854775808 ∧ 0 ≤ b' ∧ b' < 18446744073709551616 := by have := HM.out; omega
      have BA := hid ba
      have HM2 := hid hm2
      have HDd := hid hd
      have HR := hid hr
      have LEN := hid len
      have ST := hid (Wd.Dg.step HD.out go)
      rw [hd] at ST
      have cellp : wr.cell? ⟨w.heap.size + 1 + 1, p - 1, none⟩ = some (.int .u8 (c (p - 1))) := HB.out.1 (p - 1) (by omega)
      have frp := HB.out.2.1
      have HD10 := hid hd10
      have hdi : (d : Int) < 10 := by omega
      clear ha' hb' hd hr hm2 ba len hd10
      by_cases ha : acc = []
      · have e40 : p = 40 := by rw [HP.out, ha]; rfl
        subst e40
        clear go ha
        go_wp2_with (go_at_call 42; refine (ds _).mono ?_; rintro e w1 ⟨rfl, hb⟩; have x0 : w1.cell? ⟨w.heap.size + 1 + 1, 39, none⟩ = some (.int .u8 (c (39))) := (hb.cell (p := ⟨w.heap.size + 1 + 1, 39, none⟩) hsz).trans cellp; have xf : ∀ o, w1.frozen? ⟨w.heap.size + 1 + 1, o, none⟩ = false := fun o => (hb.frozen (p := ⟨w.heap.size + 1 + 1, o, none⟩) hsz).trans (frp o))
        go_roundw
        case rel =>
          have hz1 : wr.heap.size ≤ w1.heap.size := hb.size
          exact ⟨UInt8.ofNat (48 + d) :: acc, m / 10, 39, a', b', (fun j => if j = 40 - 1 then 48 + (d : Int) else c j), by go_num, rfl, rfl, ⟨BA.out.1, BA.out.2.1, BA.out.2.2.1, BA.out.2.2.2, HM2.out⟩, ST.out, Buf.step HB.out hb hsz HD10.out LEN.out, by repeat' (first | (with_reducible exact Below.refl _ _) | (with_reducible refine Below.alloc ?_ ?_ _) | (with_reducible refine Below.setCell ?_ ?_ _) | (with_reducible refine Below.drew ?_) | (with_reducible refine Below.trans ?_ (Below.mono (by assumption) ?_)) | (simp; done) | (simp; omega) | omega), by (simp; omega), cell_over hn hb (by omega)⟩
        case measure => simp [intOf]
      · have gp : ((p : Int) == 40) = false := by
          have h0 : acc.length ≠ 0 := fun h => ha (List.eq_nil_of_length_eq_zero h)
          have := HP.out
          simp; omega
        have hm0 : m ≠ 0 := go.resolve_left ha
        have orf : (bits .or .u64 hi lo != 0) = true := by
          rw [or_zero c0 (by omega) c2 c3]
          have := HM.out
          simp; omega
        clear go ha hm0
        go_wp2_with (go_at_call 42; refine (ds _).mono ?_; rintro e w1 ⟨rfl, hb⟩; have x0 : w1.cell? ⟨w.heap.size + 1 + 1, p - 1, none⟩ = some (.int .u8 (c (p - 1))) := (hb.cell (p := ⟨w.heap.size + 1 + 1, p - 1, none⟩) hsz).trans cellp; have xf : ∀ o, w1.frozen? ⟨w.heap.size + 1 + 1, o, none⟩ = false := fun o => (hb.frozen (p := ⟨w.heap.size + 1 + 1, o, none⟩) hsz).trans (frp o))
        go_roundw
        case rel =>
          have hz1 : wr.heap.size ≤ w1.heap.size := hb.size
          exact ⟨UInt8.ofNat (48 + d) :: acc, m / 10, p - 1, a', b', (fun j => if j = p - 1 then 48 + (d : Int) else c j), by go_num, rfl, rfl, ⟨BA.out.1, BA.out.2.1, BA.out.2.2.1, BA.out.2.2.2, HM2.out⟩, ST.out, Buf.step HB.out hb hsz HD10.out LEN.out, by repeat' (first | (with_reducible exact Below.refl _ _) | (with_reducible refine Below.alloc ?_ ?_ _) | (with_reducible refine Below.setCell ?_ ?_ _) | (with_reducible refine Below.drew ?_) | (with_reducible refine Below.trans ?_ (Below.mono (by assumption) ?_)) | (simp; done) | (simp; omega) | omega), by (simp; omega), cell_over hn hb (by omega)⟩
        case measure => simp [intOf]; omega
    · have ha : acc ≠ [] := fun h => go (Or.inl h)
      have hm0 : m = 0 := Classical.byContradiction fun h => go (Or.inr h)
      subst hm0
      have fin := Wd.Dg.done HD.out ha
      have h0 : acc.length ≠ 0 := fun h => ha (List.eq_nil_of_length_eq_zero h)
      have gp : ((p : Int) == 40) = false := by
        have := HP.out
        simp; omega
      have orf : (bits .or .u64 hi lo != 0) = false := by
        rw [or_zero c0 (by omega) c2 c3]
        have := HM.out
        simp; omega
      have p1 : 1 ≤ p := by have := HP.out; omega
      have p39 : p ≤ 39 := by have := HP.out; omega
      have SS := HS.out
      rw [← fin] at SS
      clear go ha h0 fin
      cases n
      · have e : S = ⟨acc.toArray⟩ := by rw [SS]; simp
        subst e
        have tx := HB.out.text
        have p40 : (40 : Int) - p = ((40 - p : Nat) : Int) := by omega
        clear SS
        go_wp2
        go_ret
        exact Gives.mk rfl (by repeat' (first | (with_reducible exact Below.refl _ _) | (with_reducible refine Below.alloc ?_ ?_ _) | (with_reducible refine Below.setCell ?_ ?_ _) | (with_reducible refine Below.drew ?_) | (with_reducible refine Below.trans ?_ (Below.mono (by assumption) ?_)) | (simp; done) | (simp; omega) | omega))
      · have e : S = ⟨(45 :: acc).toArray⟩ := by rw [SS]; simp
        subst e
        obtain ⟨q, hq⟩ : ∃ q, p = q + 1 := ⟨p - 1, by omega⟩
        subst hq
        have tx := HB.out.text' (q := q) rfl
        have cellp : wr.cell? ⟨w.heap.size + 1 + 1, q, none⟩ = some (.int .u8 (c q)) := HB.out.1 q (by omega)
        have frp := HB.out.2.1
        clear SS
        go_wp2
        go_ret
        exact Gives.mk rfl (by repeat' (first | (with_reducible exact Below.refl _ _) | (with_reducible refine Below.alloc ?_ ?_ _) | (with_reducible refine Below.setCell ?_ ?_ _) | (with_reducible refine Below.drew ?_) | (with_reducible refine Below.trans ?_ (Below.mono (by assumption) ?_)) | (simp; done) | (simp; omega) | omega))

/-- Of a valid integer: its decimal numeral. -/
theorem text_any (n : Bool) (h l : Int) (F : Wd.Fits ⟨n, h, l⟩) (hc : Wd.chk ⟨n, h, l⟩ = 0) (S : ByteArray) (hS : S = ⟨(Lib.itoa (Wd.toInt ⟨n, h, l⟩)).toArray⟩) (w : World) :
    Calls Try.prog 14 #[.agg #[.bool n, .int .u64 h, .int .u64 l]] w (Gives (.string S) w) := by
  have F' := F
  obtain ⟨⟨b0, b1⟩, ⟨b2, b3⟩⟩ := F
  simp only at b0 b1 b2 b3
  have hh := chk_of hc
  have ck := fun w => check_any n h l w
  rw [hc] at ck
  obtain ⟨N, hN⟩ : ∃ N : Nat, h * 18446744073709551616 + l = (N : Int) := ⟨(h * 18446744073709551616 + l).toNat, by omega⟩
  have sg := Wd.toInt_neg _ hc F'
  simp only at sg
  have hT : Wd.toInt ⟨n, h, l⟩ = Wd.sv n (N : Int) := by rw [← hN]; rfl
  rw [hT] at hS sg
  refine text_walk n h l b0 hh b2 b3 N hN S (by omega) ?_ w ck (hid fun hi lo a b r c0 c1 c2 c3 ha hb hr w => divide_any hi lo 10 c0 c1 c2 c3 (by omega) (by omega) a b r ha hb hr w)
  rw [hS]
  unfold Lib.itoa
  cases n
  · rw [if_neg (by simpa using sg)]
    simp [Wd.sv]
  · rw [if_pos (by simpa using sg.symm)]
    simp [Wd.sv]
end Go.Proofs.Ythfnblifefnfmaa
