/-
  Layer 16: apportion of package treelist, by contract. Written by tools/gen_lf.py.
-/
import Derived.Test.YtmdaanigkhikfabLe
namespace Go.Proofs.Ytmdaanigkhikfab
open Go.RowKit
set_option linter.unusedVariables false
set_option linter.unusedSimpArgs false
/-- A row of ints in a block of its own, that can be written. -/
structure RowI (w : World) (g : Nat) (l : List Int) : Prop where
  lt : g < w.heap.size
  c : ∀ j, (hj : j < l.length) → w.cell? ⟨g, j, none⟩ = some (.int .i64 (l[j]))
  f : ∀ o, w.frozen? ⟨g, o, none⟩ = false
theorem RowI.below {w w' : World} {g : Nat} {l : List Int} (h : RowI w g l) (hb : Below w.heap.size w w') : RowI w' g l :=
  ⟨Nat.lt_of_lt_of_le h.lt hb.size, fun j hj => (hb.cell (p := ⟨g, j, none⟩) h.lt).trans (h.c j hj), fun o => (hb.frozen (p := ⟨g, o, none⟩) h.lt).trans (h.f o)⟩
theorem RowI.set {w : World} {g : Nat} {l : List Int} (h : RowI w g l) (m : Nat) (v : Int) (hm : m < l.length) : RowI (w.setCell ⟨g, m, none⟩ (.int .i64 v)) g (l.set m v) := by
  refine ⟨by simpa using h.lt, fun j hj => ?_, fun o => by simp [go_sem, h.f]⟩
  have hj' : j < l.length := by simpa using hj
  by_cases e : j = m
  · subst e
    have := h.c j hj'
    simp [go_sem, this]
  · rw [World.cell?_setCell_other _ _ _ _ (by first | (simp; done) | (simp; omega)), h.c j hj', List.getElem_set_ne (fun k => e k.symm)]
theorem RowI.ints {w : World} {g : Nat} {l : List Int} (h : RowI w g l) : Ints w (some ⟨g, 0, none⟩) l := fun _ => ⟨g, 0, rfl, h.lt, fun j hj => by rw [Nat.zero_add]; exact h.c j hj⟩
theorem rowI_made (w : World) (n : Nat) : RowI (w.alloc (.cells (madeCells #[.int .i64 0] n) 3)) w.heap.size (List.replicate n 0) := by
  refine ⟨by simp, fun j hj => ?_, fun o => by simp [go_sem]⟩
  have hj' : j < n := by simpa using hj
  rw [List.getElem_replicate]
  simp [go_sem, madeCells, hj', Nat.mod_one]
theorem Ints.set {w : World} {B : Option Addr} {O : List Int} (h : Ints w B O) (g p : Nat) (x : Int) (hn : ∀ b off, B = some ⟨b, off, none⟩ → b ≠ g) : Ints (w.setCell ⟨g, p, none⟩ (.int .i64 x)) B O := fun h0 => by
  obtain ⟨b, off, e, bl, q⟩ := h h0
  refine ⟨b, off, e, by simpa using bl, fun j hj => ?_⟩
  rw [World.cell?_setCell_other _ _ _ _ (by have := hn b off e; simp [this])]
  exact q j hj
namespace Sp
theorem getD_at {l : List Int} {d : Int} (m : Nat) (h : m < l.length) : l[m]?.getD d = l[m] := by rw [List.getElem?_eq_getElem h]; rfl
theorem ins_lt {cf : Nat → Nat → Int} {N : Nat} : ∀ (m i : Nat) (d : Nat → Nat), (∀ k, d k < N) → ∀ k, insF cf m i d k < N
  | 0, _, d, h, k => h k
  | m + 1, i, d, h, k => ins_lt m (i + 1) _ (fun k => bub_lt i d h k) k
theorem ordL_in {cf : Nat → Nat → Int} {n : Nat} : ∀ v ∈ ordL cf n, 0 ≤ v ∧ v < (n : Int) := by
  intro v hv
  unfold ordL at hv
  obtain ⟨k, hk, rfl⟩ := List.mem_map.1 hv
  have hk := List.mem_range.1 hk
  have := ins_lt (cf := cf) (N := n) (n - 1) 1 (fun i => if i < n then i else 0) (fun k => by split <;> omega) k
  omega
/-- A part of a million, rounded down, and what is left of it. -/
def flo (T p : Int) : Int := (1000000 * p).tdiv T
def remK (P : List Int) (T : Int) (k : Nat) : Int := (1000000 * (P[k]?.getD 0)).tmod T
theorem flo_in {T p : Int} (t1 : 1 ≤ T) (p0 : 0 ≤ p) : 1000000 * p = flo T p * T + (1000000 * p).tmod T ∧ 0 ≤ flo T p ∧ 0 ≤ (1000000 * p).tmod T ∧ (1000000 * p).tmod T < T ∧ flo T p ≤ 1000000 * p := by
  unfold flo
  have h := Int.mul_tdiv_add_tmod (1000000 * p) T
  have a : 0 ≤ (1000000 * p).tdiv T := Int.tdiv_nonneg (by omega) (by omega)
  have b : 0 ≤ (1000000 * p).tmod T := Int.tmod_nonneg T (by omega)
  have c : (1000000 * p).tmod T < T := Int.tmod_lt_of_pos _ (by omega)
  have d : (1000000 * p).tdiv T ≤ 1000000 * p := by rw [Int.tdiv_eq_ediv_of_nonneg (by omega)]; exact Int.ediv_le_self _ (by omega)
  refine ⟨?_, a, b, c, d⟩
  rw [Int.mul_comm ((1000000 * p).tdiv T) T]
  omega
/-- What the first parts leave of a million. -/
def misJ (T : Int) (P : List Int) (j : Nat) : Int := 1000000 - ((P.take j).map (flo T)).sum
theorem misJ_succ (T : Int) (P : List Int) (j : Nat) (h : j < P.length) : misJ T P (j + 1) = misJ T P j - flo T (P[j]) := by
  unfold misJ
  rw [List.take_succ_eq_append_getElem h, List.map_append, List.sum_append]
  simp only [List.map_cons, List.map_nil, List.sum_cons, List.sum_nil]
  omega
theorem mis_sum {T : Int} (t1 : 1 ≤ T) : ∀ P : List Int, (∀ p ∈ P, 0 ≤ p) → 1000000 * P.sum = (P.map (flo T)).sum * T + (P.map (fun p => (1000000 * p).tmod T)).sum ∧ 0 ≤ (P.map (fun p => (1000000 * p).tmod T)).sum ∧ (P.map (fun p => (1000000 * p).tmod T)).sum ≤ (T - 1) * P.length ∧ 0 ≤ (P.map (flo T)).sum
  | [], _ => by simp
  | p :: P, h => by
    obtain ⟨h1, h2, h3, h4⟩ := mis_sum t1 P (fun q hq => h q (List.mem_cons_of_mem _ hq))
    obtain ⟨f1, f2, f3, f4, -⟩ := flo_in t1 (h p List.mem_cons_self)
    simp only [List.map_cons, List.sum_cons, List.length_cons]
    push_cast
    rw [Int.mul_add, Int.add_mul, Int.mul_add]
    generalize flo T p * T = X at *
    generalize (P.map (flo T)).sum * T = Y at *
    generalize (T - 1) * (P.length : Int) = Z at *
    omega
/-- What is missing at the end: fewer than there are parts. -/
theorem mis_in {T : Int} (t1 : 1 ≤ T) {P : List Int} (hp : ∀ p ∈ P, 0 ≤ p) (hs : P.sum = T) : 0 ≤ misJ T P P.length ∧ misJ T P P.length < P.length := by
  obtain ⟨h1, h2, h3, h4⟩ := mis_sum t1 P hp
  unfold misJ
  rw [List.take_length]
  rw [hs] at h1
  generalize (P.map (flo T)).sum = F at *
  have e : (1000000 - F) * T = (P.map (fun p => (1000000 * p).tmod T)).sum := by rw [Int.sub_mul]; omega
  have n0 : 0 < (P.length : Int) := by
    have : P ≠ [] := fun q => by rw [q] at hs; simp at hs; omega
    have := List.length_pos_iff.mpr this
    omega
  constructor
  · apply Int.le_of_not_gt
    intro c
    have : (1000000 - F) * T ≤ (-1) * T := Int.mul_le_mul_of_nonneg_right (by omega) (by omega)
    omega
  · apply Int.lt_of_not_ge
    intro c
    have : (P.length : Int) * T ≤ (1000000 - F) * T := Int.mul_le_mul_of_nonneg_right c (by omega)
    rw [Int.sub_mul] at h3
    have : (P.length : Int) * T = T * P.length := Int.mul_comm _ _
    omega
theorem misJ_le {T : Int} (t1 : 1 ≤ T) {P : List Int} (hp : ∀ p ∈ P, 0 ≤ p) : ∀ d j, j + d = P.length → misJ T P P.length ≤ misJ T P j ∧ misJ T P j ≤ 1000000
  | 0, j, e => by
    have : j = P.length := by omega
    subst this
    refine ⟨Int.le_refl _, ?_⟩
    unfold misJ
    have := (mis_sum t1 (P.take P.length) (fun p hq => hp p (List.mem_of_mem_take hq))).2.2.2
    omega
  | d + 1, j, e => by
    obtain ⟨h1, h2⟩ := misJ_le t1 hp d (j + 1) (by omega)
    have hj : j < P.length := by omega
    rw [misJ_succ T P j hj] at h1 h2
    obtain ⟨-, f2, -⟩ := flo_in t1 (hp _ (List.getElem_mem hj))
    refine ⟨by omega, ?_⟩
    unfold misJ
    have := (mis_sum t1 (P.take j) (fun p hq => hp p (List.mem_of_mem_take hq))).2.2.2
    omega
/-- The parts behind the first ones are not there yet. -/
def floJ (T : Int) (P : List Int) (j : Nat) : List Int := (List.range P.length).map (fun i => if i < j then flo T (P[i]?.getD 0) else 0)
theorem floJ_len (T : Int) (P : List Int) (j : Nat) : (floJ T P j).length = P.length := by simp [floJ]
theorem floJ_get (T : Int) (P : List Int) (j i : Nat) (h : i < (floJ T P j).length) : (floJ T P j)[i] = if i < j then flo T (P[i]?.getD 0) else 0 := by simp [floJ]
theorem floJ_zero (T : Int) (P : List Int) : floJ T P 0 = List.replicate P.length 0 := by
  unfold floJ
  apply List.ext_getElem
  · simp
  · intro i h1 h2; simp
theorem floJ_set (T : Int) (P : List Int) (j : Nat) (h : j < P.length) : (floJ T P j).set j (flo T (P[j])) = floJ T P (j + 1) := by
  apply List.ext_getElem
  · simp [floJ]
  · intro i h1 h2
    rw [List.getElem_set]
    by_cases e : j = i
    · subst e
      rw [if_pos rfl, floJ_get, if_pos (by omega), getD_at j h]
    · rw [if_neg e, floJ_get, floJ_get]
      by_cases c : i < j
      · rw [if_pos c, if_pos (by omega)]
      · rw [if_neg c, if_neg (by omega)]
/-- One more at each of some places. -/
def bump (L : List Int) : List Int → List Int
  | [] => L
  | x :: O => bump (L.set x.toNat (L[x.toNat]?.getD 0 + 1)) O
theorem bump_len : ∀ (O L : List Int), (bump L O).length = L.length
  | [], L => rfl
  | x :: O, L => by unfold bump; rw [bump_len O, List.length_set]
theorem set_le {L : List Int} {p k : Nat} {x Z : Int} (h : ∀ v ∈ L, 0 ≤ v ∧ v ≤ Z + (k : Int)) (hx : 0 ≤ x ∧ x ≤ Z + (k : Int)) : ∀ v ∈ L.set p (x + 1), 0 ≤ v ∧ v ≤ Z + ((k + 1 : Nat) : Int) := by
  intro u hu
  rcases List.mem_or_eq_of_mem_set hu with h1 | rfl
  · have := h u h1; omega
  · omega
/-- What apportion answers. -/
def apS (T : Int) (P : List Int) : List Int := bump (floJ T P P.length) ((ordL (keyC (remK P T)) P.length).take (misJ T P P.length).toNat)
theorem apS_len (T : Int) (P : List Int) : (apS T P).length = P.length := by unfold apS; rw [bump_len, floJ_len]
end Sp
set_option maxRecDepth 100000 in
set_option maxHeartbeats 1000000 in
theorem lapp1_any (A : Option Addr) (cap g h k : Nat) (P : List Int) (T : Int) (W : World) (hk : k < P.length) (hp : ∀ p ∈ P, 0 ≤ p ∧ p ≤ 2000000000) (t1 : 1 ≤ T) (t2 : T ≤ 2000000000) (hT : Ints W A P) (hg : W.cell? ⟨g, 0, none⟩ = some (.slice A P.length cap)) (hh : W.cell? ⟨h, 0, none⟩ = some (.int .i64 T)) (hl : P.length ≤ 1000) :
    Calls Try.prog 61 #[.int .i64 (k : Int), .pointer (some ⟨g, 0, none⟩), .pointer (some ⟨h, 0, none⟩)] W (fun e w' => e = .returned (.int .i64 (Sp.remK P T k)) ∧ ∃ q, w' = W.drewN q) := by
  unfold Sp.remK
  rw [Sp.getD_at k hk]
  obtain ⟨b, off, rfl, bl, q⟩ := hT (by omega)
  have q1 := q k hk
  have pb := hp _ (List.getElem_mem hk)
  have i0 : (0 : Int) ≤ (k : Int) := by omega
  have i1 : (k : Int) < (P.length : Int) := by omega
  generalize P[k] = p at q1 pb ⊢
  obtain ⟨X, hX⟩ : ∃ X, 1000000 * p = X := ⟨_, rfl⟩
  rw [hX]
  obtain ⟨R, hR⟩ : ∃ R, X.tmod T = R := ⟨_, rfl⟩
  rw [hR]
  have r0 : 0 ≤ R := by rw [← hR]; exact Int.tmod_nonneg T (by omega)
  have r1 : R < T := by rw [← hR]; exact Int.tmod_lt_of_pos _ (by omega)
  have x1 : IntKind.i64.wrap X = X := pi64 _ (by omega)
  have x2 : IntKind.i64.wrap R = R := pi64 _ (by omega)
  have tz : ¬ T = 0 := by omega
  have ty : (T == 0) = false := by simp; omega
  clear q hT hk hp pb t1 t2 r0 r1 hl
  go_enter Try.func61, Try.ntmps61
  go_wp2_with fail
  go_quiet (fail)
  go_wp2_with fail
  go_ret
  exact ⟨by first | rfl | exact i64_eq x2 | exact i64_eq x2.symm, _, rfl⟩
set_option maxRecDepth 100000 in
set_option maxHeartbeats 2000000 in
theorem ldcl_app (g : Nat) (G H : Nat) (key : Nat → Int) (n i j : Nat) (W : World) (hg : W.cell? ⟨g, 0, none⟩ = some (.func (.func 61) #[] #[.pointer (some ⟨G, 0, none⟩), .pointer (some ⟨H, 0, none⟩)])) (hi : i < n) (hj : j < n)
    (VAL : ∀ (m k : Nat), k < n → Calls Try.prog 61 #[.int .i64 (k : Int), .pointer (some ⟨G, 0, none⟩), .pointer (some ⟨H, 0, none⟩)] (W.drewN m) (fun e w' => e = .returned (.int .i64 (key k)) ∧ ∃ q, w' = (W.drewN m).drewN q)) :
    Calls Try.prog 57 #[.int .i64 (i : Int), .int .i64 (j : Int), .pointer (some ⟨g, 0, none⟩)] W (Gives (.int .i64 (Lib.compareInt (key j) (key i))) W) := by
  have V1 := hid (fun m => VAL m i hi)
  have V2 := hid (fun m => VAL m j hj)
  obtain ⟨x, hx⟩ : ∃ x, key i = x := ⟨_, rfl⟩
  obtain ⟨y, hy⟩ : ∃ y, key j = y := ⟨_, rfl⟩
  rw [hx, hy]
  rw [hx] at V1
  rw [hy] at V2
  have CM := hid (fun W => Try.cmp_Compare_int y x W)
  generalize Lib.compareInt y x = r at CM ⊢
  clear VAL hi hj hx hy
  go_enter Try.func57, Try.ntmps57
  go_wp2_with fail
  go_quiet (first
    | (go_at_call 61; first | (with_reducible exact Calls.quiet_of (V2.out _)) | (with_reducible exact Calls.quiet_of (V1.out _)))
    | (go_at_call 58; with_reducible exact Calls.quiet_of_same (CM.out _)))
  go_wp2_with fail
  go_ret
  exact Gives.mk rfl (below_dn (Below.refl _ _) _)
set_option maxRecDepth 100000 in
set_option maxHeartbeats 2000000 in
theorem lapp_any (A : Option Addr) (cap : Nat) (P : List Int) (T : Int) (w : World) (hl : P.length ≤ 19) (hp : ∀ p ∈ P, 0 ≤ p ∧ p ≤ 2000000000) (t1 : 1 ≤ T) (t2 : T ≤ 2000000000) (hs : P.sum = T) (hT : Ints w A P) :
    Calls Try.prog 45 #[.slice A P.length cap, .int .i64 T] w (fun e w' => Below w.heap.size w w' ∧ ∃ B c, e = .returned (.slice B P.length c) ∧ Ints w' B (Sp.apS T P)) := by
  have p0 : ∀ p ∈ P, 0 ≤ p := fun p h => (hp p h).1
  obtain ⟨mi0, mi1⟩ := Sp.mis_in t1 p0 hs
  have mj := fun j (hj : j ≤ P.length) => Sp.misJ_le t1 p0 (P.length - j) j (by omega)
  obtain ⟨R, hR⟩ : ∃ R, Sp.apS T P = R := ⟨_, rfl⟩
  rw [hR]
  unfold Sp.apS at hR
  obtain ⟨mm, hmm⟩ : ∃ mm : Nat, Sp.misJ T P P.length = (mm : Int) := ⟨(Sp.misJ T P P.length).toNat, by omega⟩
  rw [hmm, Int.toNat_natCast] at hR
  obtain ⟨O, hO⟩ : ∃ O, Sp.ordL (Sp.keyC (Sp.remK P T)) P.length = O := ⟨_, rfl⟩
  rw [hO] at hR
  have oi : ∀ v ∈ O, 0 ≤ v ∧ v < (P.length : Int) := fun v hv => Sp.ordL_in v (hO ▸ hv)
  have ol : O.length = P.length := by rw [← hO, Sp.ordL_len]
  obtain ⟨U, hU⟩ : ∃ U, (w.alloc (.cells #[.slice A P.length cap] 31)).alloc (.cells #[.int .i64 T] 3) = U := ⟨_, rfl⟩
  have bU : Below w.heap.size w U := by rw [← hU]; exact bthen (balloc _ _) (balloc _ _)
  have uz : w.heap.size + 1 < U.heap.size := by rw [← hU]; simp
  have u0 : U.cell? ⟨w.heap.size, 0, none⟩ = some (.slice A P.length cap) := by rw [← hU]; simp [go_sem]
  have u1 : U.cell? ⟨w.heap.size + 1, 0, none⟩ = some (.int .i64 T) := by rw [← hU]; simp [go_sem]
  have KC := hid (fun W (hb : Below U.heap.size U W) => (⟨(hb.cell (p := ⟨w.heap.size, 0, none⟩) (Nat.lt_of_succ_lt uz)).trans u0, (hb.cell (p := ⟨w.heap.size + 1, 0, none⟩) uz).trans u1, Nat.lt_of_lt_of_le uz hb.size⟩ : W.cell? ⟨w.heap.size, 0, none⟩ = some (.slice A P.length cap) ∧ W.cell? ⟨w.heap.size + 1, 0, none⟩ = some (.int .i64 T) ∧ w.heap.size + 1 < W.heap.size))
  have DE := hid (fun (W : World) (hb : Below U.heap.size U W) => ldesc_any 61 #[.pointer (some ⟨w.heap.size, 0, none⟩), .pointer (some ⟨w.heap.size + 1, 0, none⟩)] (Sp.keyC (Sp.remK P T)) P.length W hl (fun W' g hb' hg i j hi hj =>
    ldcl_app g w.heap.size (w.heap.size + 1) (Sp.remK P T) P.length i j W' hg hi hj (fun m k hk => lapp1_any A cap w.heap.size (w.heap.size + 1) k P T _ hk hp t1 t2 (hT.below (bthen bU (bthen hb (below_dn hb' m)))) (KC.out _ (bthen hb (below_dn hb' m))).1 (KC.out _ (bthen hb (below_dn hb' m))).2.1 (by omega))))
  rw [hO] at DE
  have MK := fun (W : World) => run_make_row' (P := Try.prog) 31 3 (.int .i64 0) 8 Try.underlying31 info_int rfl .i64 .i64 P.length (by omega) (by omega) W
  have mk := MK U
  have W0 := rowI_made U P.length
  have hb0 : Below U.heap.size U (U.alloc (.cells (madeCells #[.int .i64 0] P.length) 3)) := balloc _ _
  have PF := hid (fun (j : Nat) (hj : j < P.length) => Sp.flo_in t1 (p0 _ (List.getElem_mem hj)))
  have HP := hid hp
  have TB := hid (⟨t1, t2⟩ : 1 ≤ T ∧ T ≤ 2000000000)
  have HU := hid hU
  have BU := hid bU
  have HT := hid (fun W (hb : Below U.heap.size U W) => hT.below (bthen bU hb))
  have HL := hid hl
  have MJ := hid mj
  have HMM := hid hmm
  have HR := hid hR
  have OI := hid oi
  have OL := hid ol
  have ML := hid (show mm ≤ P.length by omega)
  have tz : ¬ T = 0 := by omega
  have ty : (T == 0) = false := by simp; omega
  clear hU bU hT hp t1 t2 hs hO hR oi ol MK hmm mj mi0 mi1 p0 hl
  go_enter Try.func45, Try.ntmps45
  go_upto_region 1 with fail
  rw [HU.out]
  generalize hV : U.alloc (.cells (madeCells #[.int .i64 0] P.length) 3) = V at mk W0 hb0
  have HW0 := hid W0
  have HB0 := hid hb0
  obtain ⟨x0, x1, xz⟩ := KC.out V hb0
  clear hV W0 hb0
  go_wp2_with fail
  clear mk u0 u1 uz x0 x1 xz
  go_loopw [17, 6] (fun t u wr => ∃ j : Nat, t = .int .i64 (j : Int) ∧ j ≤ P.length ∧ u = .int .i64 (Sp.misJ T P j) ∧ RowI wr U.heap.size (Sp.floJ T P j) ∧ Below U.heap.size U wr) (fun t _ _ => P.length - (intOf t).toNat)
  case atStart => exact ⟨0, rfl, Nat.zero_le _, by simp [Sp.misJ], by rw [Sp.floJ_zero]; exact HW0.out, HB0.out⟩
  case round =>
    obtain ⟨j, rfl, hj, rfl, hR1, hB⟩ := hrel
    have HR1 := hid hR1
    have HB := hid hB
    obtain ⟨c0, c1, cz⟩ := KC.out _ hB
    clear hR1 hB
    by_cases hlt : j < P.length
    · obtain ⟨b, off, rfl, bl, q⟩ := (HT.out _ HB.out) (by omega)
      have q0 := q j hlt
      have pf := PF.out j hlt
      have pb := HP.out _ (List.getElem_mem hlt)
      have ms := Sp.misJ_succ T P j hlt
      have m1 := MJ.out (j + 1) hlt
      rw [ms] at m1
      have fs := Sp.floJ_set T P j hlt
      have rl := HR1.out.lt
      have rf := HR1.out.f
      have rc := HR1.out.c j (by rw [Sp.floJ_len]; exact hlt)
      have RS := HR1.out.set j (Sp.flo T (P[j]'hlt)) (by rw [Sp.floJ_len]; exact hlt)
      rw [fs] at RS
      have wl := (MJ.out P.length (Nat.le_refl _)).1
      have m0 := HMM.out
      have tb := TB.out
      unfold Sp.flo at pf ms m1 RS
      obtain ⟨p, hp⟩ : ∃ p, P[j]'hlt = p := ⟨_, rfl⟩
      rw [hp] at q0 pf pb ms m1 RS
      obtain ⟨X, hX⟩ : ∃ X, 1000000 * p = X := ⟨_, rfl⟩
      rw [hX] at pf ms m1 RS
      obtain ⟨Y, hY⟩ : ∃ Y, X.tdiv T = Y := ⟨_, rfl⟩
      rw [hY] at pf ms m1 RS
      have MS := hid ms
      generalize Sp.misJ T P j = Q at m1 MS ⊢
      have w1 : wrap64 X = X := pw64 _ (by omega)
      have w2 : wrap64 Y = Y := pw64 _ (by omega)
      have w3 : wrap64 (Q - Y) = Q - Y := pw64 _ (by omega)
      have RR := hid RS
      have B2 := hid (HB.out.setCell (p := ⟨U.heap.size, j, none⟩) (Nat.le_refl _) (.int .i64 Y))
      obtain ⟨ej, eq, i0, i1⟩ := rjw j P.length hlt (by have := HL.out; omega)
      obtain ⟨x, hx⟩ : ∃ x, (Sp.floJ T P j)[j]'(by rw [Sp.floJ_len]; exact hlt) = x := ⟨_, rfl⟩
      rw [hx] at rc
      have EQ := hid eq
      have HJ := hid hlt
      have HM := hid (pmeas P.length j hlt)
      have nU : ¬ w.heap.size = U.heap.size := by have := (KC.out _ (Below.refl _ _)).2.2; omega
      have nU2 : ¬ w.heap.size + 1 = U.heap.size := by have := (KC.out _ (Below.refl _ _)).2.2; omega
      have nV : ¬ U.heap.size = w.heap.size + 1 := by omega
      clear q pf pb ms m1 fs RS wl m0 tb hp eq hlt bl hx hj cz
      go_wp2_with fail
      go_roundw
      case rel => exact ⟨j + 1, i64_eq (by first | exact EQ.out | exact ej.trans EQ.out), HJ.out, by rw [MS.out]; first | rfl | exact i64_eq w3, RR.out, B2.out⟩
      case measure => first | exact HM.out | (rw [ej]; exact HM.out)
    · obtain rfl : j = P.length := Nat.le_antisymm hj (Nat.le_of_not_lt hlt)
      have i1 : ¬ (P.length : Int) < (P.length : Int) := Int.lt_irrefl _
      rw [HMM.out]
      have DD := hid (DE.out wr HB.out)
      clear hlt hj
      go_wp2_with fail
      refine DD.out.mono ?_
      rintro _ w6 ⟨hb, B, c, rfl, hc, hI, hN⟩
      have B6 := hid (bthen HB.out hb)
      have HI6 := hid hI
      have R6 := hid (HR1.out.below hb)
      have NB := hid (fun b off e => (show b ≠ U.heap.size by have := hN b off e; have := HR1.out.lt; omega))
      have sl := fun W => islice_to B P.length c mm (by have := ML.out; omega) W
      clear hb hI hc c0 c1 cz hN
      go_wp2_with fail
      clear sl
      obtain ⟨Z, hZ⟩ : ∃ Z : Int, 2000000000000000 = Z := ⟨_, rfl⟩
      have HZ := hid hZ
      clear hZ
      go_loopw [44] (fun t wr => ∃ k : Nat, t = .int .i64 (k : Int) ∧ k ≤ mm ∧ ∃ L, L.length = P.length ∧ Sp.bump L ((O.take mm).drop k) = R ∧ (∀ v ∈ L, 0 ≤ v ∧ v ≤ Z + (k : Int)) ∧ RowI wr U.heap.size L ∧ Ints wr B O ∧ Below U.heap.size w6 wr) (fun t _ => mm - (intOf t).toNat)
      case atStart =>
        refine ⟨0, rfl, Nat.zero_le _, _, Sp.floJ_len _ _ _, HR.out, fun v hv => ?_, R6.out, HI6.out, Below.refl _ _⟩
        unfold Sp.floJ at hv
        obtain ⟨i, hi, rfl⟩ := List.mem_map.1 hv
        have hi := List.mem_range.1 hi
        rw [if_pos hi, Sp.getD_at i hi]
        have pf := PF.out i hi
        have pb := HP.out _ (List.getElem_mem hi)
        have z := HZ.out
        have e0 : ((0 : Nat) : Int) = 0 := rfl
        rw [e0]
        omega
      case round =>
        obtain ⟨k, rfl, hk, L, hL, hbm, hvb, hR2, hI7, hB⟩ := hrel
        have HR2 := hid hR2
        have HB2 := hid hB
        clear hR2 hB
        by_cases hlt : k < mm
        · have ko : k < O.length := by have := ML.out; have := OL.out; omega
          have kt : k < (O.take mm).length := by rw [List.length_take]; omega
          rw [List.drop_eq_getElem_cons kt, List.getElem_take] at hbm
          unfold Sp.bump at hbm
          have i1 : (k : Int) < (mm : Int) := Int.ofNat_lt.mpr hlt
          have I8 := hid (fun (x : Int) (p : Nat) => hI7.set U.heap.size p x NB.out)
          obtain ⟨b, off, rfl, bl, q⟩ := hI7 (by omega)
          have q0 := q k ko
          have g := OI.out _ (List.getElem_mem ko)
          obtain ⟨v, hv⟩ : ∃ v, O[k]'ko = v := ⟨_, rfl⟩
          rw [hv] at q0 g hbm
          obtain ⟨p, rfl⟩ : ∃ p : Nat, v = (p : Int) := ⟨v.toNat, by omega⟩
          have pl : p < L.length := by omega
          rw [Int.toNat_natCast, Sp.getD_at p pl] at hbm
          have rl := HR2.out.lt
          have rf := HR2.out.f
          have rc := HR2.out.c p pl
          have vb := hvb _ (List.getElem_mem pl)
          obtain ⟨x, hx⟩ : ∃ x, L[p]'pl = x := ⟨_, rfl⟩
          rw [hx] at rc hbm vb
          have RS := hid (HR2.out.set p (x + 1) pl)
          have kb : (k : Int) ≤ 100 := by have := HL.out; have := ML.out; omega
          have zb := HZ.out
          have wx : wrap64 (x + 1) = x + 1 := pw64 _ (by omega)
          clear zb kb
          have p0 : (0 : Int) ≤ (p : Int) := by omega
          have p1 : (p : Int) < (P.length : Int) := by omega
          have B2 := hid (HB2.out.setCell (p := ⟨U.heap.size, p, none⟩) (Nat.le_refl _) (.int .i64 (x + 1)))
          obtain ⟨ek, eq, k0, k1⟩ := rjw k mm hlt (by have := HL.out; have := ML.out; omega)
          have VB := hid (Sp.set_le (p := p) hvb vb)
          have EQ := hid eq
          have HJ := hid hlt
          have HM := hid (pmeas mm k hlt)
          have HBM := hid hbm
          have LL := hid (show (L.set p (x + 1)).length = P.length by rw [List.length_set]; exact hL)
          clear q hv g hbm pl vb hx eq hlt bl hvb ko kt hk hI7 hL
          go_wp2_with fail
          go_roundw
          case rel => exact ⟨k + 1, i64_eq (by first | exact EQ.out | exact ek.trans EQ.out), HJ.out, _, LL.out, HBM.out, VB.out, RS.out, I8.out _ _, B2.out⟩
          case measure => first | exact HM.out | (rw [ek]; exact HM.out)
        · obtain rfl : k = mm := Nat.le_antisymm hk (Nat.le_of_not_lt hlt)
          have i1 : ¬ (k : Int) < (k : Int) := Int.lt_irrefl _
          rw [List.drop_eq_nil_of_le (by rw [List.length_take]; omega)] at hbm
          have HF := hid (show L = R from hbm)
          have BF := hid (show Below w.heap.size w wr from (bthen BU.out B6.out).trans (HB2.out.mono BU.out.size))
          have LL := hid hL
          clear hbm hlt hk hvb hL hI7
          go_wp2_with fail
          go_ret
          first | refine ⟨BF.out, _, _, rfl, ?_⟩ | refine ⟨BF.out, some ⟨U.heap.size, 0, none⟩, ⟨_, rfl⟩, ?_⟩
          rw [← HF.out]
          exact HR2.out.ints
end Go.Proofs.Ytmdaanigkhikfab
