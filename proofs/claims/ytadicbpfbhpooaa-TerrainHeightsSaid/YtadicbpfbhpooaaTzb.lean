/-
  Layer 15: the walk of TerrainHeights.
-/
import Derived.Test.YtadicbpfbhpooaaTyf
import Derived.Test.YtadicbpfbhpooaaTw
import Derived.Test.YtadicbpfbhpooaaTpar
import Derived.Deep.RegionHeld3
namespace Go.Proofs.Ytadicbpfbhpooaa
open Go.RowKit
set_option linter.unusedVariables false
set_option linter.unusedSimpArgs false
set_option maxRecDepth 100000 in
set_option maxHeartbeats 4000000 in
theorem thei_walk (A : Option Addr) (cap : Nat) (c r k : Int) (z : List Int) (px py n d e E : Int) (F : Bool) (w : World)
    (AW : ∀ W, Calls Try.prog 12 #[] W (Gives (.bool true) W))
    (FW : ∀ W, Calls Try.prog 11 #[.agg #[.int .i64 c, .int .i64 r, .int .i64 k, .slice A z.length cap]] W (Gives (.bool F) W))
    (R1 : ∀ W, Below w.heap.size w W → Calls Try.prog 13 #[.agg #[.int .i64 c, .int .i64 r, .int .i64 k, .slice A z.length cap], .agg #[.int .i64 px, .int .i64 py]] W (Gives (.tuple #[.agg #[.int .i64 n, .int .i64 d], .int .i64 e]) W))
    (R2 : ∀ W, Below w.heap.size w W → Calls Try.prog 14 #[.agg #[.int .i64 c, .int .i64 r, .int .i64 k, .slice A z.length cap], .agg #[.int .i64 px, .int .i64 py]] W (Gives (.tuple #[.agg #[.int .i64 n, .int .i64 d], .int .i64 e]) W))
    (C1 : ∀ W, Below w.heap.size w W → Calls Try.prog 15 #[.agg #[.int .i64 c, .int .i64 r, .int .i64 k, .slice A z.length cap]] W (Gives (.int .i64 E) W))
    (C2 : ∀ W, Below w.heap.size w W → Calls Try.prog 16 #[.agg #[.int .i64 c, .int .i64 r, .int .i64 k, .slice A z.length cap]] W (Gives (.int .i64 E) W)) :
    Calls Try.prog 3 #[.agg #[.int .i64 c, .int .i64 r, .int .i64 k, .slice A z.length cap], .agg #[.int .i64 px, .int .i64 py]] w (Gives (.bool true) w) := by
  obtain ⟨U, hU⟩ : ∃ U, (w.alloc (Obj.cells #[.int .i64 c, .int .i64 r, .int .i64 k, .slice A z.length cap] 24)).alloc (.cells #[.int .i64 px, .int .i64 py] 26) = U := ⟨_, rfl⟩
  have T0 : TrAt U w.heap.size c r k A z.length cap := by rw [← hU]; exact (trAt_new w c r k A z.length cap).below (balloc _ _)
  have b0 : Below w.heap.size w U := by rw [← hU]; exact bthen (balloc _ _) (balloc _ _)
  have p0 : U.cell? ⟨w.heap.size + 1, 0, none⟩ = some (.int .i64 px) := by rw [← hU]; simp [go_sem]
  have p1 : U.cell? ⟨w.heap.size + 1, 1, none⟩ = some (.int .i64 py) := by rw [← hU]; simp [go_sem]
  have pz : w.heap.size + 1 < U.heap.size := by rw [← hU]; simp
  have KK := hid (fun (W : World) (hb : Below U.heap.size U W) => (⟨bthen b0 hb, T0.below hb, (hb.cell (p := ⟨w.heap.size + 1, 0, none⟩) pz).trans p0, (hb.cell (p := ⟨w.heap.size + 1, 1, none⟩) pz).trans p1, Nat.lt_of_lt_of_le pz hb.size⟩ : Below w.heap.size w W ∧ TrAt W w.heap.size c r k A z.length cap ∧ W.cell? ⟨w.heap.size + 1, 0, none⟩ = some (.int .i64 px) ∧ W.cell? ⟨w.heap.size + 1, 1, none⟩ = some (.int .i64 py) ∧ w.heap.size + 1 < W.heap.size))
  have HAW := hid AW
  have HFW := hid FW
  have H1 := hid R1
  have H2 := hid R2
  have H3 := hid C1
  have H4 := hid C2
  have HU := hid hU
  have k0 := T0.c0
  have k1 := T0.c1
  have k2 := T0.c2
  have k3 := T0.c3
  have kl := T0.lt
  have BU := hid b0
  clear hU b0 T0 AW FW R1 R2 C1 C2 p0 p1 pz
  go_enter Try.func3, Try.ntmps3
  go_upto_region 1 with fail
  rw [HU.out]
  go_wp2_with fail
  refine (HFW.out _).mono ?_
  rintro _ w5 ⟨rfl, hb⟩
  have B5 := hid hb
  clear hb k0 k1 k2 k3 kl
  cases F
  · go_wp2_with fail
    refine (HAW.out _).mono ?_
    rintro _ w6 ⟨rfl, hb⟩
    have B6 := hid (bthen B5.out hb)
    clear hb
    go_wp2_with fail
    go_ret
    exact Gives.mk rfl (KK.out _ B6.out).1
  · obtain ⟨kb, kt, p0, p1, pz⟩ := KK.out _ B5.out
    have k0 := kt.c0
    have k1 := kt.c1
    have k2 := kt.c2
    have k3 := kt.c3
    have kl := kt.lt
    have R5 := hid (H1.out _ kb)
    clear kb kt
    go_wp2_with fail
    refine R5.out.mono ?_
    rintro _ w6 ⟨rfl, hb⟩
    have B6 := hid (bthen B5.out (bthen hb (balloc w6 (Obj.cells #[.int .i64 n, .int .i64 d] 30))))
    clear hb k0 k1 k2 k3 kl p0 p1 pz
    obtain ⟨V6, hV6⟩ : ∃ V6, w6.alloc (Obj.cells #[.int .i64 n, .int .i64 d] 30) = V6 := ⟨_, rfl⟩
    have f0 : V6.cell? ⟨w6.heap.size, 0, none⟩ = some (.int .i64 n) := by rw [← hV6]; simp [go_sem]
    have f1 : V6.cell? ⟨w6.heap.size, 1, none⟩ = some (.int .i64 d) := by rw [← hV6]; simp [go_sem]
    have fz : w6.heap.size < V6.heap.size := by rw [← hV6]; simp
    have HV6 := hid hV6
    rw [hV6] at B6
    clear hV6
    obtain ⟨kb, kt, p0, p1, pz⟩ := KK.out _ B6.out
    have k0 := kt.c0
    have k1 := kt.c1
    have k2 := kt.c2
    have k3 := kt.c3
    have kl := kt.lt
    have R6 := hid (H2.out _ kb)
    clear kb kt
    go_upto_region 4 with fail
    rw [HV6.out]
    go_wp2_with fail
    refine R6.out.mono ?_
    rintro _ w7 ⟨rfl, hb⟩
    have f2 := (hb.cell (p := ⟨w6.heap.size, 0, none⟩) fz).trans f0
    have f3 := (hb.cell (p := ⟨w6.heap.size, 1, none⟩) fz).trans f1
    have fz2 := Nat.lt_of_lt_of_le fz hb.size
    obtain ⟨V7, hV7⟩ : ∃ V7, w7.alloc (Obj.cells #[.int .i64 n, .int .i64 d] 30) = V7 := ⟨_, rfl⟩
    have kb7 : Below w7.heap.size w7 V7 := by rw [← hV7]; exact balloc _ _
    have B7 := hid (bthen B6.out (bthen hb kb7))
    have e0 : V7.cell? ⟨w7.heap.size, 0, none⟩ = some (.int .i64 n) := by rw [← hV7]; simp [go_sem]
    have e1 : V7.cell? ⟨w7.heap.size, 1, none⟩ = some (.int .i64 d) := by rw [← hV7]; simp [go_sem]
    have ez : w7.heap.size < V7.heap.size := by rw [← hV7]; simp
    have f4 := (kb7.cell (p := ⟨w6.heap.size, 0, none⟩) fz2).trans f2
    have f5 := (kb7.cell (p := ⟨w6.heap.size, 1, none⟩) fz2).trans f3
    have fz3 := Nat.lt_of_lt_of_le fz2 kb7.size
    have HV7 := hid hV7
    clear hb k0 k1 k2 k3 kl p0 p1 pz f0 f1 fz f2 f3 fz2 hV7 kb7
    have KV := hid (fun (W : World) (hb : Below V7.heap.size V7 W) => (⟨hb, (KK.out W (bthen B7.out hb)).2.1.c0, (KK.out W (bthen B7.out hb)).2.1.c1, (KK.out W (bthen B7.out hb)).2.1.c2, (KK.out W (bthen B7.out hb)).2.1.c3, (hb.cell (p := ⟨w6.heap.size, 0, none⟩) fz3).trans f4, (hb.cell (p := ⟨w6.heap.size, 1, none⟩) fz3).trans f5, (hb.cell (p := ⟨w7.heap.size, 0, none⟩) ez).trans e0, (hb.cell (p := ⟨w7.heap.size, 1, none⟩) ez).trans e1⟩ :
      Below V7.heap.size V7 W ∧ W.cell? ⟨w.heap.size, 0, none⟩ = some (.int .i64 c) ∧ W.cell? ⟨w.heap.size, 1, none⟩ = some (.int .i64 r) ∧ W.cell? ⟨w.heap.size, 2, none⟩ = some (.int .i64 k) ∧ W.cell? ⟨w.heap.size, 3, none⟩ = some (.slice A z.length cap) ∧ W.cell? ⟨w6.heap.size, 0, none⟩ = some (.int .i64 n) ∧ W.cell? ⟨w6.heap.size, 1, none⟩ = some (.int .i64 d) ∧ W.cell? ⟨w7.heap.size, 0, none⟩ = some (.int .i64 n) ∧ W.cell? ⟨w7.heap.size, 1, none⟩ = some (.int .i64 d)))
    have D3 := hid (fun (W : World) (hb : Below V7.heap.size V7 W) => H3.out W (KK.out W (bthen B7.out hb)).1)
    have D4 := hid (fun (W : World) (hb : Below V7.heap.size V7 W) => H4.out W (KK.out W (bthen B7.out hb)).1)
    have DZ := hid (fun (W : World) (hb : Below V7.heap.size V7 W) => (KK.out W (bthen B7.out hb)).1)
    have vz : w.heap.size < V7.heap.size := (KK.out _ B7.out).2.1.lt
    clear f4 f5 fz3 e0 e1 ez H1 H2 H3 H4 KK B5 B6 B7 R5 R6 HFW
    go_upto_region 5 with fail
    rw [HV7.out]
    go_region_held3 (fun w' => Below V7.heap.size V7 w' ∧ w'.cell? ⟨w.heap.size, 0, none⟩ = some (.int .i64 c) ∧ w'.cell? ⟨w.heap.size, 1, none⟩ = some (.int .i64 r) ∧ w'.cell? ⟨w.heap.size, 2, none⟩ = some (.int .i64 k) ∧ w'.cell? ⟨w.heap.size, 3, none⟩ = some (.slice A z.length cap) ∧ w'.cell? ⟨w6.heap.size, 0, none⟩ = some (.int .i64 n) ∧ w'.cell? ⟨w6.heap.size, 1, none⟩ = some (.int .i64 d) ∧ w'.cell? ⟨w7.heap.size, 0, none⟩ = some (.int .i64 n) ∧ w'.cell? ⟨w7.heap.size, 1, none⟩ = some (.int .i64 d)) ((exact KV.out _ (by repeat' (first | (with_reducible exact Below.refl _ _) | (with_reducible refine Below.alloc ?_ ?_ _) | (with_reducible refine Below.setCell ?_ ?_ _) | (with_reducible refine Below.drew ?_) | (with_reducible refine Below.trans ?_ (Below.mono (by assumption) ?_)) | (simp; done) | (simp; omega) | omega))))
      (first
        | (go_at_call 15; (with_reducible refine (D3.out _ (by repeat' (first | (with_reducible exact Below.refl _ _) | (with_reducible refine Below.alloc ?_ ?_ _) | (with_reducible refine Below.setCell ?_ ?_ _) | (with_reducible refine Below.drew ?_) | (with_reducible refine Below.trans ?_ (Below.mono (by assumption) ?_)) | (simp; done) | (simp; omega) | omega))).mono ?_); rintro e w10 ⟨rfl, hx⟩; have hb10 : Below V7.heap.size V7 w10 := (by repeat' (first | (with_reducible exact Below.refl _ _) | (with_reducible refine Below.alloc ?_ ?_ _) | (with_reducible refine Below.setCell ?_ ?_ _) | (with_reducible refine Below.drew ?_) | (with_reducible refine Below.trans ?_ (Below.mono (by assumption) ?_)) | (simp; done) | (simp; omega) | omega)); clear hx; have hz10 : V7.heap.size ≤ w10.heap.size := hb10.size)
        | (go_at_call 16; (with_reducible refine (D4.out _ (by repeat' (first | (with_reducible exact Below.refl _ _) | (with_reducible refine Below.alloc ?_ ?_ _) | (with_reducible refine Below.setCell ?_ ?_ _) | (with_reducible refine Below.drew ?_) | (with_reducible refine Below.trans ?_ (Below.mono (by assumption) ?_)) | (simp; done) | (simp; omega) | omega))).mono ?_); rintro e w11 ⟨rfl, hx⟩; have hb11 : Below V7.heap.size V7 w11 := (by repeat' (first | (with_reducible exact Below.refl _ _) | (with_reducible refine Below.alloc ?_ ?_ _) | (with_reducible refine Below.setCell ?_ ?_ _) | (with_reducible refine Below.drew ?_) | (with_reducible refine Below.trans ?_ (Below.mono (by assumption) ?_)) | (simp; done) | (simp; omega) | omega)); clear hx; have hz11 : V7.heap.size ≤ w11.heap.size := hb11.size)
        | (go_at_call 12; (with_reducible refine (HAW.out _).mono ?_); rintro e w12 ⟨rfl, hx⟩; have hb12 : Below V7.heap.size V7 w12 := (by repeat' (first | (with_reducible exact Below.refl _ _) | (with_reducible refine Below.alloc ?_ ?_ _) | (with_reducible refine Below.setCell ?_ ?_ _) | (with_reducible refine Below.drew ?_) | (with_reducible refine Below.trans ?_ (Below.mono (by assumption) ?_)) | (simp; done) | (simp; omega) | omega)); clear hx; have hz12 : V7.heap.size ≤ w12.heap.size := hb12.size))
    all_goals
      go_wp2_with fail
      go_ret
      exact Gives.mk rfl (DZ.out _ (by repeat' (first | (with_reducible exact Below.refl _ _) | (with_reducible refine Below.alloc ?_ ?_ _) | (with_reducible refine Below.setCell ?_ ?_ _) | (with_reducible refine Below.drew ?_) | (with_reducible refine Below.trans ?_ (Below.mono (by assumption) ?_)) | (simp; done) | (simp; omega) | omega)))
theorem thei_law (AW : ∀ W, Calls Try.prog 12 #[] W (Gives (.bool true) W)) (A : Option Addr) (cap : Nat) (c r k : Int) (z : List Int) (px py : Int) (w : World) (hl : z.length ≤ 140737488355328) (hT : Ints w A z) :
    Calls Try.prog 3 #[.agg #[.int .i64 c, .int .i64 r, .int .i64 k, .slice A z.length cap], .agg #[.int .i64 px, .int .i64 py]] w (Gives (.bool true) w) :=
  thei_walk A cap c r k z px py (Sp.heightS c r k z px py).1 (Sp.heightS c r k z px py).2.1 (Sp.heightS c r k z px py).2.2 (Sp.terE c r k z) (decide ((z.length : Int) ≤ 300)) w AW (fun W => rfew_any A cap c r k z W)
    (fun W hb => tHeight_any A cap c r k z px py _ _ _ W hl (hT.below hb) rfl) (fun W hb => rHeight_any A cap c r k z px py _ _ _ W hl (hT.below hb) rfl)
    (fun W hb => tcheck_any A cap c r k z W hl (hT.below hb)) (fun W hb => rcheck_any A cap c r k z W hl (hT.below hb))
theorem thei_as (px py : Int) (_ : -9223372036854775808 ≤ px) (_ : px ≤ 9223372036854775807) (_ : -9223372036854775808 ≤ py) (_ : py ≤ 9223372036854775807) (A : Option Addr) (cap : Nat) (c r k : Int) (z : List Int) (w : World) (hl : z.length ≤ 140737488355328) (hT : Ints w A z) :
    Calls Try.prog 3 #[.agg #[.int .i64 c, .int .i64 r, .int .i64 k, .slice A z.length cap], .agg #[.int .i64 px, .int .i64 py]] w (Gives (.bool true) w) := thei_law tawake_any A cap c r k z px py w hl hT
end Go.Proofs.Ytadicbpfbhpooaa
