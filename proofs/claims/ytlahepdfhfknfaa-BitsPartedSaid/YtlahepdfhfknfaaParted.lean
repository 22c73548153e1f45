/- For every two labels the law BitsParted returns true. Conditions: none. -/
import Derived.Test.YtlahepdfhfknfaaLaw1
import Derived.Test.YtlahepdfhfknfaaRow
import Derived.Test.YtlahepdfhfknfaaFree
namespace Go.Proofs.Ytlahepdfhfknfaa.parted
open Go Go.ChangeShapes Go.WideShapes Go.ChangeAt Go.RowKit Go.Proofs.Ytlahepdfhfknfaa

theorem Cut_nat (a : Lab) (n : Nat) (h : n ≤ 256) (w : World) : Calls Try.prog 22 #[.agg (cellsL a), .int .i64 n] w fun e w' => e = .returned (.agg (cellsP n (cut a n))) ∧ Below w.heap.size w w' := by
  have := Cut_any a n w
  rwa [show min (max (n : Int) 0) 256 = n by omega, show (n : Int).toNat = n by omega] at this

set_option maxRecDepth 100000 in
set_option maxHeartbeats 1000000 in
theorem same (a b c : Lab) (n : Int) (w : World)
    (CO : ∀ w : World, Calls Try.prog 20 #[.agg (cellsL a), .agg (cellsL b)] w fun e w' => e = .returned (.int .i64 n) ∧ Below w.heap.size w w')
    (CU : ∀ l, l = a ∨ l = b → ∀ w : World, Calls Try.prog 22 #[.agg (cellsL l), .int .i64 n] w fun e w' => e = .returned (.agg (cellsP n c)) ∧ Below w.heap.size w w')
    (H1 : ∀ w : World, Calls Try.prog 26 #[.agg (cellsP n c), .agg (cellsL a)] w fun e w' => e = .returned (.bool true) ∧ Below w.heap.size w w')
    (H2 : ∀ w : World, Calls Try.prog 26 #[.agg (cellsP n c), .agg (cellsL b)] w fun e w' => e = .returned (.bool true) ∧ Below w.heap.size w w')
    (he : decide (a = b) = true) (hn : (n == 256) = true) :
    Calls Try.prog 7 #[.agg (cellsL a), .agg (cellsL b)] w fun e w' => e = .returned (.bool true) ∧ Below w.heap.size w w' := by
  have b0 : Below w.heap.size w ((w.alloc (.cells (cellsL a) 23)).alloc (.cells (cellsL b) 23)) := ((Below.refl _ _).alloc (Nat.le_refl _) _).alloc (by simp only [World.size_alloc]; omega) _
  have r0 : rowAt ((w.alloc (.cells (cellsL a) 23)).alloc (.cells (cellsL b) 23)) w.heap.size = some (cellsL a) := (rowAt_alloc_past _ _ _ (by simp only [World.size_alloc]; omega)).trans (rowAt_alloc_at _ _ _ _ rfl)
  have r1 : rowAt ((w.alloc (.cells (cellsL a) 23)).alloc (.cells (cellsL b) 23)) (w.heap.size + 1) = some (cellsL b) := rowAt_alloc_at _ _ _ _ (by simp only [World.size_alloc])
  go_enter Try.func7, Try.ntmps7
  go_wp2_with fail
  generalize (w.alloc (.cells (cellsL a) 23)).alloc (.cells (cellsL b) 23) = W at *
  refine (CO _).mono ?_
  rintro e w1 ⟨rfl, hb1⟩
  have q0 := rowAt_past hb1 r0
  have q1 := rowAt_past hb1 r1
  have l0 := lt_of_rowAt q0
  have l1 := lt_of_rowAt q1
  have b1 := below_past b0 hb1 b0.size
  clear hb1 b0 r0 r1
  go_upto_region 2 with fail
  have fa := fun x : Past w1 => x.row q0
  have fb := fun x : Past w1 => x.row q1
  refine wp_region_free (n := 6) (m := 8) (z := fun _ => cellsP 0 zeroLab) (atS ?lit [some 6, some 7]) (by kernel_rfl) (by kernel_rfl) ?hal ?hh ?hT
  case hal =>
    intro j h1 h2
    obtain rfl | rfl : j = 6 ∨ j = 7 := by omega
    · exact ⟨_, _, 29, rfl, rfl, rfl, by simp, fun a w => by go_simp⟩
    · exact ⟨_, _, 29, rfl, rfl, rfl, by simp, fun a w => by go_simp⟩
  case hh =>
    show wpHead _ _ _ _ [0, 1, 2, 3, 4, 5] _
    repeat (refine wpHead_step rfl (fun K hK => ?_); go_simp; first | (refine hK _ ?_; clear hK K) | (apply Exists.intro; refine ⟨fun _ => ?_, hK _ ?_⟩; ((go_at_call 22; exact call_yields (CU _ (by first | exact .inl rfl | exact .inr rfl) _))); clear hK K))
    exact slots_atS _ _
  intro a' w' bs hb hv hq
  clear fa fb
  obtain ⟨v6, v7, rfl⟩ := hq
  obtain ⟨o6, ho6, d6, hd6, s6⟩ := hv.slot 6 (by decide) (by decide) (by simp)
  cases ho6
  cases hd6
  obtain ⟨o7, ho7, d7, hd7, s7⟩ := hv.slot 7 (by decide) (by decide) (by simp)
  cases ho7
  cases hd7
  obtain ⟨t6, u6⟩ := hv.row 6 (by decide) (by decide) (by simp)
  obtain ⟨t7, u7⟩ := hv.row 7 (by decide) (by decide) (by simp)
  have t67 := hv.other 6 7 (by decide) (by decide) (by simp) (by decide) (by decide) (by simp) (by decide)
  clear hv
  simp [Act.put] at s6 s7
  subst s6 s7
  generalize bs 6 = h6 at *
  generalize bs 7 = h7 at *
  have t7' := (rowAt_setRow_other w' h6 h7 (cellsP n c) (Ne.symm t67)).trans t7
  have r0 := rowAt_past hb q0
  have r1 := rowAt_past hb q1
  have b2 := below_past b1 hb b1.size
  have b1s := b1.size
  show wpList _ _ _ [_, _] _ _
  dsimp only [Act.put, List.setIfInBounds_toArray, List.set_cons_succ, List.set_cons_zero, List.drop_succ_cons, List.drop_zero]
  go_upto_region 3 with fail
  have k6 := (rowAt_setRow_other (w'.setRow h6 (cellsP n c)) h7 h6 (cellsP n c) t67).trans (rowAt_setRow_same t6 (cellsP n c))
  have k7 := rowAt_setRow_same t7' (cellsP n c)
  have k0 := (rowAt_setRow_other (w'.setRow h6 (cellsP n c)) h7 w.heap.size (cellsP n c) (Nat.ne_of_lt (Nat.lt_of_lt_of_le l0 u7))).trans ((rowAt_setRow_other w' h6 w.heap.size (cellsP n c) (Nat.ne_of_lt (Nat.lt_of_lt_of_le l0 u6))).trans r0)
  have k1 := (rowAt_setRow_other (w'.setRow h6 (cellsP n c)) h7 (w.heap.size + 1) (cellsP n c) (Nat.ne_of_lt (Nat.lt_of_lt_of_le l1 u7))).trans ((rowAt_setRow_other w' h6 (w.heap.size + 1) (cellsP n c) (Nat.ne_of_lt (Nat.lt_of_lt_of_le l1 u6))).trans r1)
  have b3 := Below.setRow (Below.setRow b2 (Nat.le_trans (Nat.le_of_lt l0) u6) (cellsP n c)) (Nat.le_trans (Nat.le_of_lt l0) u7) (cellsP n c)
  generalize (w'.setRow h6 (cellsP n c)).setRow h7 (cellsP n c) = W2 at *
  clear t6 t7 t7' r0 r1 b2 q0 q1 l0 l1 b1 b1s hb u6 u7
  go_wp2_with fail
  refine (H1 _).mono ?_
  rintro e w3 ⟨rfl, hb3⟩
  have q0 := rowAt_past hb3 k0
  have q1 := rowAt_past hb3 k1
  have q6 := rowAt_past hb3 k6
  have q7 := rowAt_past hb3 k7
  have b4 := below_past b3 hb3 b3.size
  clear k0 k1 k6 k7 b3 hb3
  go_wp2_with fail
  refine (H2 _).mono ?_
  rintro e w4 ⟨rfl, hb3⟩
  have k0 := rowAt_past hb3 q0
  have k1 := rowAt_past hb3 q1
  have k6 := rowAt_past hb3 q6
  have k7 := rowAt_past hb3 q7
  have b5 := below_past b4 hb3 b4.size
  clear q0 q1 q6 q7 b4 hb3
  go_wp2_with fail
  refine (awake1 _).mono ?_
  rintro e w6 ⟨rfl, hb3⟩
  have b6 := below_past b5 hb3 b5.size
  go_wp2_with fail
  go_ret
  exact ⟨rfl, b6⟩

set_option maxRecDepth 100000 in
set_option maxHeartbeats 1000000 in
theorem unlike (a b c ca cb : Lab) (n m x y o : Int) (w : World) (v : Bool)
    (CO : ∀ w : World, Calls Try.prog 20 #[.agg (cellsL a), .agg (cellsL b)] w fun e w' => e = .returned (.int .i64 n) ∧ Below w.heap.size w w')
    (CU : ∀ l, l = a ∨ l = b → ∀ w : World, Calls Try.prog 22 #[.agg (cellsL l), .int .i64 n] w fun e w' => e = .returned (.agg (cellsP n c)) ∧ Below w.heap.size w w')
    (H1 : ∀ w : World, Calls Try.prog 26 #[.agg (cellsP n c), .agg (cellsL a)] w fun e w' => e = .returned (.bool true) ∧ Below w.heap.size w w')
    (H2 : ∀ w : World, Calls Try.prog 26 #[.agg (cellsP n c), .agg (cellsL b)] w fun e w' => e = .returned (.bool true) ∧ Below w.heap.size w w')
    (B1 : ∀ w : World, Calls Try.prog 16 #[.agg (cellsL a), .int .i64 n] w fun e w' => e = .returned (.int .i64 x) ∧ Below w.heap.size w w')
    (B2 : ∀ w : World, Calls Try.prog 16 #[.agg (cellsL b), .int .i64 n] w fun e w' => e = .returned (.int .i64 y) ∧ Below w.heap.size w w')
    (N1 : ∀ w : World, Calls Try.prog 28 #[.agg (cellsP n c), .int .i64 x] w fun e w' => e = .returned (.tuple #[.agg (cellsP m ca), .int .i64 0]) ∧ Below w.heap.size w w')
    (N2 : ∀ w : World, Calls Try.prog 28 #[.agg (cellsP n c), .int .i64 y] w fun e w' => e = .returned (.tuple #[.agg (cellsP m cb), .int .i64 0]) ∧ Below w.heap.size w w')
    (HH : ∀ l k, (l = a ∨ l = b) → (k = ca ∨ k = cb) → ∀ w : World, Calls Try.prog 26 #[.agg (cellsP m k), .agg (cellsL l)] w fun e w' => e = .returned (.bool (has m k l)) ∧ Below w.heap.size w w')
    (h1 : has m ca a = true) (h2 : has m cb b = true) (h3 : has m ca b = false) (h4 : has m cb a = false)
    (OR : ∀ w : World, Calls Try.prog 18 #[.agg (cellsL a), .agg (cellsL b)] w fun e w' => e = .returned (.int .i64 o) ∧ Below w.heap.size w w')
    (hx : (x == 0) = v) (ho : decide (o < 0) = v)
    (he : decide (a = b) = false) :
    Calls Try.prog 7 #[.agg (cellsL a), .agg (cellsL b)] w fun e w' => e = .returned (.bool true) ∧ Below w.heap.size w w' := by
  have b0 : Below w.heap.size w ((w.alloc (.cells (cellsL a) 23)).alloc (.cells (cellsL b) 23)) := ((Below.refl _ _).alloc (Nat.le_refl _) _).alloc (by simp only [World.size_alloc]; omega) _
  have r0 : rowAt ((w.alloc (.cells (cellsL a) 23)).alloc (.cells (cellsL b) 23)) w.heap.size = some (cellsL a) := (rowAt_alloc_past _ _ _ (by simp only [World.size_alloc]; omega)).trans (rowAt_alloc_at _ _ _ _ rfl)
  have r1 : rowAt ((w.alloc (.cells (cellsL a) 23)).alloc (.cells (cellsL b) 23)) (w.heap.size + 1) = some (cellsL b) := rowAt_alloc_at _ _ _ _ (by simp only [World.size_alloc])
  go_enter Try.func7, Try.ntmps7
  go_wp2_with fail
  generalize (w.alloc (.cells (cellsL a) 23)).alloc (.cells (cellsL b) 23) = W at *
  refine (CO _).mono ?_
  rintro e w1 ⟨rfl, hb1⟩
  have q0 := rowAt_past hb1 r0
  have q1 := rowAt_past hb1 r1
  have l0 := lt_of_rowAt q0
  have l1 := lt_of_rowAt q1
  have b1 := below_past b0 hb1 b0.size
  clear hb1 b0 r0 r1
  go_upto_region 2 with fail
  have fa := fun x : Past w1 => x.row q0
  have fb := fun x : Past w1 => x.row q1
  refine wp_region_free (n := 6) (m := 8) (z := fun _ => cellsP 0 zeroLab) (atS ?lit [some 6, some 7]) (by kernel_rfl) (by kernel_rfl) ?hal ?hh ?hT
  case hal =>
    intro j h1 h2
    obtain rfl | rfl : j = 6 ∨ j = 7 := by omega
    · exact ⟨_, _, 29, rfl, rfl, rfl, by simp, fun a w => by go_simp⟩
    · exact ⟨_, _, 29, rfl, rfl, rfl, by simp, fun a w => by go_simp⟩
  case hh =>
    show wpHead _ _ _ _ [0, 1, 2, 3, 4, 5] _
    repeat (refine wpHead_step rfl (fun K hK => ?_); go_simp; first | (refine hK _ ?_; clear hK K) | (apply Exists.intro; refine ⟨fun _ => ?_, hK _ ?_⟩; ((go_at_call 22; exact call_yields (CU _ (by first | exact .inl rfl | exact .inr rfl) _))); clear hK K))
    exact slots_atS _ _
  intro a' w' bs hb hv hq
  clear fa fb
  obtain ⟨v6, v7, rfl⟩ := hq
  obtain ⟨o6, ho6, d6, hd6, s6⟩ := hv.slot 6 (by decide) (by decide) (by simp)
  cases ho6
  cases hd6
  obtain ⟨o7, ho7, d7, hd7, s7⟩ := hv.slot 7 (by decide) (by decide) (by simp)
  cases ho7
  cases hd7
  obtain ⟨t6, u6⟩ := hv.row 6 (by decide) (by decide) (by simp)
  obtain ⟨t7, u7⟩ := hv.row 7 (by decide) (by decide) (by simp)
  have t67 := hv.other 6 7 (by decide) (by decide) (by simp) (by decide) (by decide) (by simp) (by decide)
  clear hv
  simp [Act.put] at s6 s7
  subst s6 s7
  generalize bs 6 = h6 at *
  generalize bs 7 = h7 at *
  have t7' := (rowAt_setRow_other w' h6 h7 (cellsP n c) (Ne.symm t67)).trans t7
  have r0 := rowAt_past hb q0
  have r1 := rowAt_past hb q1
  have b2 := below_past b1 hb b1.size
  have b1s := b1.size
  show wpList _ _ _ [_, _] _ _
  dsimp only [Act.put, List.setIfInBounds_toArray, List.set_cons_succ, List.set_cons_zero, List.drop_succ_cons, List.drop_zero]
  go_upto_region 3 with fail
  have k6 := (rowAt_setRow_other (w'.setRow h6 (cellsP n c)) h7 h6 (cellsP n c) t67).trans (rowAt_setRow_same t6 (cellsP n c))
  have k7 := rowAt_setRow_same t7' (cellsP n c)
  have k0 := (rowAt_setRow_other (w'.setRow h6 (cellsP n c)) h7 w.heap.size (cellsP n c) (Nat.ne_of_lt (Nat.lt_of_lt_of_le l0 u7))).trans ((rowAt_setRow_other w' h6 w.heap.size (cellsP n c) (Nat.ne_of_lt (Nat.lt_of_lt_of_le l0 u6))).trans r0)
  have k1 := (rowAt_setRow_other (w'.setRow h6 (cellsP n c)) h7 (w.heap.size + 1) (cellsP n c) (Nat.ne_of_lt (Nat.lt_of_lt_of_le l1 u7))).trans ((rowAt_setRow_other w' h6 (w.heap.size + 1) (cellsP n c) (Nat.ne_of_lt (Nat.lt_of_lt_of_le l1 u6))).trans r1)
  have b3 := Below.setRow (Below.setRow b2 (Nat.le_trans (Nat.le_of_lt l0) u6) (cellsP n c)) (Nat.le_trans (Nat.le_of_lt l0) u7) (cellsP n c)
  generalize (w'.setRow h6 (cellsP n c)).setRow h7 (cellsP n c) = W2 at *
  clear t6 t7 t7' r0 r1 b2 q0 q1 l0 l1 b1 b1s hb u6 u7
  go_wp2_with fail
  refine (H1 _).mono ?_
  rintro e w3 ⟨rfl, hb3⟩
  have q0 := rowAt_past hb3 k0
  have q1 := rowAt_past hb3 k1
  have q6 := rowAt_past hb3 k6
  have q7 := rowAt_past hb3 k7
  have b4 := below_past b3 hb3 b3.size
  clear k0 k1 k6 k7 b3 hb3
  go_wp2_with fail
  refine (H2 _).mono ?_
  rintro e w4 ⟨rfl, hb3⟩
  have k0 := rowAt_past hb3 q0
  have k1 := rowAt_past hb3 q1
  have k6 := rowAt_past hb3 q6
  have k7 := rowAt_past hb3 q7
  have b5 := below_past b4 hb3 b4.size
  clear q0 q1 q6 q7 b4 hb3
  go_upto_region 7 with fail
  have fa := fun x : Past w4 => x.row k0
  have fb := fun x : Past w4 => x.row k1
  have fc := fun x : Past w4 => x.row k6
  have fd := fun x : Past w4 => x.row k7
  refine wp_region_late (n := 8) (m := 9) (k := 7) (z := fun _ => cellsP 0 zeroLab) (atS ?lit8 [some 8]) (by kernel_rfl) (by kernel_rfl) ?hal8 ?hh8 ?hT8
  case hal8 =>
    intro j h1 h2
    obtain rfl : j = 8 := by omega
    exact ⟨_, _, 29, rfl, rfl, rfl, by simp, fun a w => by go_simp⟩
  case hh8 =>
    show wpHead _ _ _ _ [0, 1, 2, 3, 4, 5, 6, 7] _
    repeat (refine wpHead_step rfl (fun K hK => ?_); go_simp; first | (refine hK _ ?_; clear hK K) | (apply Exists.intro; refine ⟨fun _ => ?_, hK _ ?_⟩; (first | (go_at_call 16; exact call_yields (B1 _)) | (go_at_call 28; exact call_yields (N1 _))); clear hK K))
    exact slots_atS _ _
  intro a' w' bs st o2 hst ho2 hb hv hq
  simp only [List.getElem?_toArray, List.getElem?_cons_succ, List.getElem?_cons_zero, Option.some.injEq] at hst ho2
  subst hst ho2
  clear fa fb fc fd
  obtain ⟨v8, rfl⟩ := hq
  obtain ⟨o8, ho8, d8, hd8, s8⟩ := hv.slot 8 (by decide) (by decide) (by simp)
  cases ho8
  cases hd8
  obtain ⟨t8, u8⟩ := hv.row 8 (by decide) (by decide) (by simp)
  clear hv
  simp [Act.put] at s8
  subst s8
  generalize bs 8 = h8 at *
  have r0 := rowAt_past hb k0
  have r1 := rowAt_past hb k1
  have r6 := rowAt_past hb k6
  have r7 := rowAt_past hb k7
  have b6 := below_past b5 hb b5.size
  have l0 := lt_of_rowAt k0
  have l1 := lt_of_rowAt k1
  have l6 := lt_of_rowAt k6
  have l7 := lt_of_rowAt k7
  have b5s := b5.size
  have c6 := Below.setRow b6 (Nat.le_trans b5s u8) (cellsP m ca)
  have s8 := rowAt_setRow_same t8 (cellsP m ca)
  have s6 := (rowAt_setRow_other w' h8 h6 (cellsP m ca) (Nat.ne_of_lt (Nat.lt_of_lt_of_le l6 u8))).trans r6
  have s7 := (rowAt_setRow_other w' h8 h7 (cellsP m ca) (Nat.ne_of_lt (Nat.lt_of_lt_of_le l7 u8))).trans r7
  have s0 := (rowAt_setRow_other w' h8 w.heap.size (cellsP m ca) (Nat.ne_of_lt (Nat.lt_of_lt_of_le l0 u8))).trans r0
  have s1 := (rowAt_setRow_other w' h8 (w.heap.size + 1) (cellsP m ca) (Nat.ne_of_lt (Nat.lt_of_lt_of_le l1 u8))).trans r1
  refine ⟨w'.setRow h8 (cellsP m ca), ?_, Below.setRow (Below.refl _ _) u8 _, fun w5 hb5 => ?_⟩
  · dsimp only [Act.put, List.setIfInBounds_toArray, List.set_cons_succ, List.set_cons_zero]
    clear CO CU H1 H2 B1 B2 N1 N2 HH OR
    go_simp
  have q0 := rowAt_past hb5 s0
  have q1 := rowAt_past hb5 s1
  have q6 := rowAt_past hb5 s6
  have q7 := rowAt_past hb5 s7
  have q8 := rowAt_past hb5 s8
  have b7 := below_past c6 hb5 c6.size
  clear hb5 s0 s1 s6 s7 s8 c6 b5s b6 r0 r1 r6 r7 t8 u8 hb k0 k1 k6 k7 b5 l0 l1 l6 l7
  dsimp only [Act.put, List.setIfInBounds_toArray, List.set_cons_succ, List.set_cons_zero]
  go_upto_region 8 with fail
  have fa := fun x : Past w5 => x.row q0
  have fb := fun x : Past w5 => x.row q1
  have fc := fun x : Past w5 => x.row q6
  have fd := fun x : Past w5 => x.row q7
  refine wp_region_late (n := 8) (m := 9) (k := 7) (z := fun _ => cellsP 0 zeroLab) (atS ?lit10 [some 10]) (by kernel_rfl) (by kernel_rfl) ?hal10 ?hh10 ?hT10
  case hal10 =>
    intro j h1 h2
    obtain rfl : j = 8 := by omega
    exact ⟨_, _, 29, rfl, rfl, rfl, by simp, fun a w => by go_simp⟩
  case hh10 =>
    show wpHead _ _ _ _ [0, 1, 2, 3, 4, 5, 6, 7] _
    repeat (refine wpHead_step rfl (fun K hK => ?_); go_simp; first | (refine hK _ ?_; clear hK K) | (apply Exists.intro; refine ⟨fun _ => ?_, hK _ ?_⟩; (first | (go_at_call 16; exact call_yields (B2 _)) | (go_at_call 28; exact call_yields (N2 _))); clear hK K))
    exact slots_atS _ _
  intro a' w' bs st o2 hst ho2 hb hv hq
  simp only [List.getElem?_toArray, List.getElem?_cons_succ, List.getElem?_cons_zero, Option.some.injEq] at hst ho2
  subst hst ho2
  clear fa fb fc fd
  obtain ⟨v10, rfl⟩ := hq
  obtain ⟨o10, ho10, d10, hd10, s10⟩ := hv.slot 8 (by decide) (by decide) (by simp)
  cases ho10
  cases hd10
  obtain ⟨t10, u10⟩ := hv.row 8 (by decide) (by decide) (by simp)
  clear hv
  simp [Act.put] at s10
  subst s10
  generalize bs 8 = h10 at *
  have r0 := rowAt_past hb q0
  have r1 := rowAt_past hb q1
  have r6 := rowAt_past hb q6
  have r7 := rowAt_past hb q7
  have b8 := below_past b7 hb b7.size
  have l0 := lt_of_rowAt q0
  have l1 := lt_of_rowAt q1
  have l6 := lt_of_rowAt q6
  have l7 := lt_of_rowAt q7
  have l8 := lt_of_rowAt q8
  have r8 := rowAt_past hb q8
  have b5s := b7.size
  have c6 := Below.setRow b8 (Nat.le_trans b5s u10) (cellsP m cb)
  have s10 := rowAt_setRow_same t10 (cellsP m cb)
  have s6 := (rowAt_setRow_other w' h10 h6 (cellsP m cb) (Nat.ne_of_lt (Nat.lt_of_lt_of_le l6 u10))).trans r6
  have s7 := (rowAt_setRow_other w' h10 h7 (cellsP m cb) (Nat.ne_of_lt (Nat.lt_of_lt_of_le l7 u10))).trans r7
  have s0 := (rowAt_setRow_other w' h10 w.heap.size (cellsP m cb) (Nat.ne_of_lt (Nat.lt_of_lt_of_le l0 u10))).trans r0
  have s1 := (rowAt_setRow_other w' h10 (w.heap.size + 1) (cellsP m cb) (Nat.ne_of_lt (Nat.lt_of_lt_of_le l1 u10))).trans r1
  have s8 := (rowAt_setRow_other w' h10 h8 (cellsP m cb) (Nat.ne_of_lt (Nat.lt_of_lt_of_le l8 u10))).trans r8
  refine ⟨w'.setRow h10 (cellsP m cb), ?_, Below.setRow (Below.refl _ _) u10 _, fun w7 hb5 => ?_⟩
  · dsimp only [Act.put, List.setIfInBounds_toArray, List.set_cons_succ, List.set_cons_zero]
    clear CO CU H1 H2 B1 B2 N1 N2 HH OR
    go_simp
  have p0 := rowAt_past hb5 s0
  have p1 := rowAt_past hb5 s1
  have p6 := rowAt_past hb5 s6
  have p7 := rowAt_past hb5 s7
  have p10 := rowAt_past hb5 s10
  have p8 := rowAt_past hb5 s8
  have b9 := below_past c6 hb5 c6.size
  clear hb5 r8 s8 l8 q8 s0 s1 s6 s7 s10 c6 b5s b8 r0 r1 r6 r7 t10 u10 hb q0 q1 q6 q7 b7 l0 l1 l6 l7
  dsimp only [Act.put, List.setIfInBounds_toArray, List.set_cons_succ, List.set_cons_zero]
  go_upto_region 9 with fail
  have f0 := fun x : Past w7 => x.row p0
  have f1 := fun x : Past w7 => x.row p1
  have f8 := fun x : Past w7 => x.row p8
  have f10 := fun x : Past w7 => x.row p10
  clear CO CU H1 H2 N1 N2 p0 p1 p6 p7 p8 p10
  cases v
  · refine wp_region_past (by kernel_rfl) (by kernel_rfl) ?_
    repeat (go_big_quiet_step (first | (go_at_call 15; exact Past.call (awake1 _)) | (go_at_call 18; exact Past.call (OR _)) | (go_at_call 16; exact Past.call (B1 _)) | (go_at_call 26; exact Past.call (HH _ _ (by first | exact .inl rfl | exact .inr rfl) (by first | exact .inl rfl | exact .inr rfl) _))))
    refine wpQuiet_nil ?_
    intro w2 hw2
    obtain ⟨⟨wn, hn⟩, rfl⟩ := hw2
    try dsimp only
    have b10 := below_past b9 hn b9.size
    go_wp2_with fail
    go_ret
    exact ⟨rfl, b10⟩
  · refine wp_region_past (by kernel_rfl) (by kernel_rfl) ?_
    repeat (go_big_quiet_step (first | (go_at_call 15; exact Past.call (awake1 _)) | (go_at_call 18; exact Past.call (OR _)) | (go_at_call 16; exact Past.call (B1 _)) | (go_at_call 26; exact Past.call (HH _ _ (by first | exact .inl rfl | exact .inr rfl) (by first | exact .inl rfl | exact .inr rfl) _))))
    refine wpQuiet_nil ?_
    intro w2 hw2
    obtain ⟨⟨wn, hn⟩, rfl⟩ := hw2
    try dsimp only
    have b10 := below_past b9 hn b9.size
    go_wp2_with fail
    go_ret
    exact ⟨rfl, b10⟩

theorem grown_cut (a : Lab) (n : Nat) (h : n < 256) : grown (cut a n) n (bit a n : Int) = cut a (n + 1) := by
  rw [cut_succ a n h, grown]
  have : ((bit a n : Int) = 1) ↔ bit a n = 1 := by omega
  simp [this]
theorem good_cut (a : Lab) (n : Nat) (h : n ≤ 256) : good n (cut a n) = true := good_of h (cut_cut a n n (Nat.le_refl _))
theorem has_yes (a b : Lab) (n : Nat) (h : n ≤ 256) (hs : cut b n = cut a n) : has n (cut a n) b = true := by
  rw [has_cut, good_cut a n h]
  simp [hs]
theorem has_no (a b : Lab) (n : Nat) (h : n < 256) (hs : bit a n ≠ bit b n) : has ((n : Int) + 1) (cut a (n + 1)) b = false := by
  rw [has_cut, show ((n : Int) + 1).toNat = n + 1 by omega]
  have : cut b (n + 1) ≠ cut a (n + 1) := fun e => by
    have h1 := bit_cut b (n + 1) n h
    have h2 := bit_cut a (n + 1) n h
    rw [if_pos (by omega)] at h1 h2
    rw [e] at h1
    exact hs (h2.symm.trans h1)
  simp [this]
theorem walk (a b : Lab) (w : World) : Calls Try.prog 7 #[.agg (cellsL a), .agg (cellsL b)] w fun e w' => e = .returned (.bool true) ∧ Below w.heap.size w w' := by
  obtain ⟨n, hn⟩ : ∃ n, n = common a b := ⟨_, rfl⟩
  have hc := common_is a b
  rw [← hn] at hc
  have hle := hc.le
  have CO : ∀ w : World, Calls Try.prog 20 #[.agg (cellsL a), .agg (cellsL b)] w fun e w' => e = .returned (.int .i64 n) ∧ Below w.heap.size w w' := fun w => by
    have := Common_any a b w
    rwa [← hn] at this
  have hcut : cut b n = cut a n := lab_ext fun i hi => by
    rw [bit_cut _ _ _ hi, bit_cut _ _ _ hi]
    by_cases h : i < n
    · rw [if_pos h, if_pos h, hc.same i h]
    · rw [if_neg h, if_neg h]
  have CU : ∀ l, l = a ∨ l = b → ∀ w : World, Calls Try.prog 22 #[.agg (cellsL l), .int .i64 n] w fun e w' => e = .returned (.agg (cellsP n (cut a n))) ∧ Below w.heap.size w w' := fun l hl w => by
    have := Cut_nat l n hle w
    rcases hl with rfl | rfl
    · exact this
    · rwa [hcut] at this
  have H1 : ∀ w : World, Calls Try.prog 26 #[.agg (cellsP n (cut a n)), .agg (cellsL a)] w fun e w' => e = .returned (.bool true) ∧ Below w.heap.size w w' := fun w => by
    have := Has_any n (cut a n) a w
    rwa [has_yes a a n hle rfl] at this
  have H2 : ∀ w : World, Calls Try.prog 26 #[.agg (cellsP n (cut a n)), .agg (cellsL b)] w fun e w' => e = .returned (.bool true) ∧ Below w.heap.size w w' := fun w => by
    have := Has_any n (cut a n) b w
    rwa [has_yes a b n hle hcut] at this
  by_cases hab : a = b
  · have h256 : n = 256 := hn.trans (common_256.2 hab)
    exact same a b (cut a n) n w CO CU H1 H2 (decide_eq_true hab) (by rw [h256]; rfl)
  · have hlt : n < 256 := by
      have : n ≠ 256 := fun h => hab (common_256.1 (hn.symm.trans h))
      omega
    have hne := hc.other hlt
    have hor : order a b = 2 * (bit a n : Int) - 1 := by
      rw [order, ← hn, if_neg (by omega)]
    have ha2 := bit_lt a n
    have hb2 := bit_lt b n
    refine unlike a b (cut a n) (cut a (n + 1)) (cut b (n + 1)) n ((n : Int) + 1) (bit a n) (bit b n) (order a b) w ((bit a n : Int) == 0) CO CU H1 H2 ?_ ?_ ?_ ?_ (fun l k _ _ w => Has_any _ k l w) ?_ ?_ ?_ ?_ (fun w => Order_any a b w) rfl ?_ (decide_eq_false hab)
    · intro w
      have := Bit_any a n w
      rwa [bitI_nat a n hlt] at this
    · intro w
      have := Bit_any b n w
      rwa [bitI_nat b n hlt] at this
    · intro w
      have := Next_yes n (cut a n) (bit a n) (good_cut a n hle) hlt (by omega) w
      rwa [grown_cut a n hlt] at this
    · intro w
      have := Next_yes n (cut b n) (bit b n) (good_cut b n hle) hlt (by omega) w
      rwa [grown_cut b n hlt, hcut] at this
    · exact has_yes a a (n + 1) hlt rfl
    · exact has_yes b b (n + 1) hlt rfl
    · exact has_no a b n hlt hne
    · exact has_no b a n hlt (Ne.symm hne)
    · rw [hor, Bool.eq_iff_iff]
      simp only [decide_eq_true_eq, beq_iff_eq]
      omega

set_option maxRecDepth 100000 in
theorem lifted (os : Os) (started : os.Started) (H : Type) (enc : TypeId × Value → H) :
    ReturnsInHanded {} Try.checked os 7 .any (Rows.bitsPartedSpec.pre6 enc Try.prog Try.f7 Rows.bitsPartedRow.domain false) (Rows.bitsPartedSpec.post enc Try.prog Try.f7 false true false false) := by
  refine returnsInHanded_of_change (C := Try.checked) own started (by kernel_rfl) Try.func7
    (ChangeSpec.witness6 (enc := enc) (C := Try.checked) false ⟨#[], #[.agg (cellsL zeroLab), .agg (cellsL zeroLab)], []⟩ 8 (by kernel_rfl) (by kernel_rfl) (by kernel_rfl) (by kernel_rfl)) ?_
  intro W base args ds gs before hval0 hW _ _
  have hval : ∀ (j : Nat) t v, Try.f7.params[j]? = some t → args[j]? = some v → Value.okWide Try.prog W .any base t v := hval0
  clear hval0
  have hW' := hW
  obtain ⟨p, q, hA0, hV, rfl, hfz, hnd⟩ := hW
  have hA : DataW.TrodAll enc Try.prog W 0 (fun _ => true) true Try.f7.params.toList args.toList ds p := hA0
  rw [Try.params7] at hA hval
  clear hA0 hfz hnd hV
  have hr : Readable Try.f7.params.toList := by
    rw [Try.params7]
    exact readable_of_all (by kernel_rfl)
  have fin : ∀ W', Below W.heap.size W W' → Rows.bitsPartedSpec.post enc Try.prog Try.f7 false true false false W args (.bool true) W' := fun W' hb =>
    law_post rfl hW' hr (fun l hl => by
      rw [Try.params7] at hl
      match l, hl with
      | [d1, d2], _ => rfl) (by kernel_rfl) hb
  clear hW' hr
  obtain ⟨v0, v1, d0, d1, p0, p1, rfl, rfl, rfl, h0, h1⟩ := trodAll_two hA; obtain ⟨a, rfl⟩ := open_lab Try.underlying23 Try.underlying5 cellsOf_u8 cellsOf_lab (hval 0 23 v0 rfl rfl) h0; obtain ⟨b, rfl⟩ := open_lab Try.underlying23 Try.underlying5 cellsOf_u8 cellsOf_lab (hval 1 23 v1 rfl rfl) h1
  exact (walk a b W).mono fun e W' ⟨he, hb⟩ => ⟨_, he, fin W' hb⟩
theorem proved : Rows.BitsPartedSaid :=
  OpenClaim.holds_of_wide 7 Try.f7 rfl rfl rfl rfl rfl rfl rfl ⟨rfl, rfl, rfl, rfl, rfl⟩ rfl rfl rfl rfl rfl (by kernel_rfl) Try.func7 (by kernel_rfl)
    (of_decide_eq_true (by kernel_rfl)) (by unfold Func.isWrapper; first | (rw [if_pos (by decide +kernel)]; kernel_rfl) | (rw [if_neg (by decide +kernel)]; exact ⟨rfl, rfl⟩))
    (fun os started H enc _ => lifted os started H enc)
end Go.Proofs.Ytlahepdfhfknfaa.parted
