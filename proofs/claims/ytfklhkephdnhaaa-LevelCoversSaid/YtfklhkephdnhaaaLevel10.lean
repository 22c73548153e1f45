/- Levels: the span of tables. Conditions: none. -/
import Derived.Test.YtfklhkephdnhaaaLevel9
namespace Go.Proofs.Ytfklhkephdnhaaa
open Go Go.RowKit Go.Maps

theorem leq_k (a b : List UInt8) : (Op.bytesLess a b || (a == b)) = !decide (b < a) := by
  rw [lessE]
  rcases klt_tot a b with h | h | h
  · rw [decide_eq_true h, decide_eq_false (klt_asymm h)]; rfl
  · rw [h, decide_eq_false (klt_irrefl b)]; simp
  · rw [decide_eq_false (klt_asymm h), decide_eq_true h, beq_eq_false_iff_ne.2 (klt_ne h).symm]; rfl
theorem run_min (ts : Array TypeId) (t : TypeId) (a b : List UInt8) (W : World) : (Builtin.min_ ts t #[.string (stx a), .string (stx b)]).run Try.prog W = .ok (.string (stx (minK a b))) W := by
  have e : (Builtin.min_ ts t #[.string (stx a), .string (stx b)]) = Builtin.min2 (.string (stx a)) (.string (stx b)) := by
    simp [Builtin.min_]
  rw [e]
  unfold Builtin.min2 Op.stringOp minK
  dsimp only
  rw [stx_toList, stx_toList, leq_k]
  by_cases h : b < a <;> simp [h, asBool]
theorem run_max (ts : Array TypeId) (t : TypeId) (a b : List UInt8) (W : World) : (Builtin.max_ ts t #[.string (stx a), .string (stx b)]).run Try.prog W = .ok (.string (stx (maxK a b))) W := by
  have e : (Builtin.max_ ts t #[.string (stx a), .string (stx b)]) = Builtin.max2 (.string (stx a)) (.string (stx b)) := by
    simp [Builtin.max_]
  rw [e]
  unfold Builtin.max2 Op.stringOp maxK
  dsimp only
  rw [stx_toList, stx_toList, lessE]
  by_cases h : a < b <;> simp [h, asBool]
def spA (a b : List UInt8) : Array Value := #[.int .i64 0, .int .i64 0, .int .i64 0, .string (stx a), .string (stx b)]
/-- The variable that span works in. -/
def SpW (B : Nat) (w : World) (b2 b3 : Nat) (a b : List UInt8) (wr : World) : Prop :=
  Below B w wr ∧ B ≤ b2 ∧ b2 < b3 ∧ wr.heap[b2]? = some (.cells (spA [] []) 58 (0, 0)) ∧ wr.heap[b3]? = some (.cells (spA a b) 58 (0, 0))
set_option maxRecDepth 100000 in
set_option maxHeartbeats 4000000 in
theorem lSpan_any (v : Value) (L : List Fl) (w : World) (h : FlsAt w v L) (hl : L.length ≤ 1000000) (hne : L ≠ []) :
    Calls Try.prog 55 #[v] w fun e w' => e = .returned (flV (spanF L)) ∧ Below w.heap.size w w' := by
  obtain ⟨f0, r0, hL0⟩ : ∃ f r, L = f :: r := by
    cases L with
    | nil => exact absurd rfl hne
    | cons f r => exact ⟨f, r, rfl⟩
  have hf0 : L[0]? = some f0 := by rw [hL0]; rfl
  have hpos : 0 < L.length := by rw [hL0]; simp
  have HV : Hid (spanF L = ⟨0, 0, 0, L.foldl (fun k x => minK k x.first) f0.first, L.foldl (fun k x => maxK k x.last) f0.last⟩) := Lib.hid (by rw [hL0]; rfl)
  rw [HV.out]
  clear hne hL0 HV
  obtain ⟨ao, cap, rfl, l1, l2, l3⟩ := h
  obtain ⟨n, hn⟩ : ∃ n, L.length = n := ⟨_, rfl⟩
  have HN := Lib.hid hn
  have L3 := Lib.hid l3
  rw [hn] at l1 hl ⊢
  have hli : (n : Int) ≤ 1000000 := by omega
  clear l1 l2 l3 hn
  have hnp : (0 : Int) < n := by have := HN.out; omega
  obtain ⟨g, o, rfl, hat⟩ := L3.out 0 f0 hf0
  rw [Nat.zero_mul, Nat.add_zero] at hat
  obtain ⟨c0, c1, c2, c3, c4⟩ := hat
  have d3 := cell_old c3 (.cells #[.int .i64 0, .int .i64 0, .int .i64 0, .string ⟨#[]⟩, .string ⟨#[]⟩] 58)
  have d4 := cell_old c4 (.cells #[.int .i64 0, .int .i64 0, .int .i64 0, .string ⟨#[]⟩, .string ⟨#[]⟩] 58)
  have e3 := cell_old d3 (.cells #[.int .i64 0, .int .i64 0, .int .i64 0, .string ⟨#[]⟩, .string ⟨#[]⟩] 58)
  have e4 := cell_old d4 (.cells #[.int .i64 0, .int .i64 0, .int .i64 0, .string ⟨#[]⟩, .string ⟨#[]⟩] 58)
  have hpn : 0 < n := by have := HN.out; omega
  unfold flV
  dsimp only
  go_enter Try.func55, Try.ntmps55
  go_wp2_with fail
  go_region
  obtain ⟨z0, hz0⟩ : ∃ z0 : Value, z0 = .string ⟨#[]⟩ := ⟨_, rfl⟩
  rw [← hz0]
  have HW : ∀ W, ((w.alloc (.cells #[.int .i64 0, .int .i64 0, .int .i64 0, z0, z0] 58)).alloc (.cells #[.int .i64 0, .int .i64 0, .int .i64 0, .string (stx f0.first), .string (stx f0.last)] 58)).drew = W → SpW w.heap.size w w.heap.size (w.heap.size + 1) f0.first f0.last W := by
    rintro W rfl
    refine ⟨((((Below.refl _ _).alloc (Nat.le_refl _) _).alloc (by simp) _).drew), Nat.le_refl _, Nat.lt_succ_self _, ?_, ?_⟩
    · show ((w.alloc _).alloc _).heap[w.heap.size]? = _
      refine ((((Below.refl (w.alloc (.cells #[.int .i64 0, .int .i64 0, .int .i64 0, z0, z0] 58)).heap.size _).alloc (Nat.le_refl _) _).block w.heap.size (by simp))).trans ?_
      rw [hz0]
      exact heap_alloc_new w _
    · have := heap_alloc_new (w.alloc (.cells #[.int .i64 0, .int .i64 0, .int .i64 0, z0, z0] 58)) (.cells (spA f0.first f0.last) 58)
      rw [show (w.alloc (.cells #[.int .i64 0, .int .i64 0, .int .i64 0, z0, z0] 58)).heap.size = w.heap.size + 1 by simp] at this
      exact this
  clear hz0 d3 d4 e3 e4 c0 c1 c2 c3 c4
  generalize ((w.alloc (.cells #[.int .i64 0, .int .i64 0, .int .i64 0, z0, z0] 58)).alloc (.cells #[.int .i64 0, .int .i64 0, .int .i64 0, .string (stx f0.first), .string (stx f0.last)] 58)).drew = W at *
  have HS := Lib.hid (HW W rfl)
  clear HW
  generalize hb2 : w.heap.size = b2 at *
  generalize hb3 : b2 + 1 = b3 at *
  go_wp2_with fail
  have HB := Lib.hid hb2
  clear hb2 hpos hpn hnp hf0
  generalize hP : f0.first = P0 at *
  generalize hQ : f0.last = Q0 at *
  have HP := Lib.hid hP
  have HQ := Lib.hid hQ
  clear hP hQ
  go_loopw [17] (fun x wr => ∃ i : Nat, i ≤ n ∧ x = .int .i64 i ∧ SpW b2 w b2 b3 ((L.take i).foldl (fun k x => minK k x.first) P0) ((L.take i).foldl (fun k x => maxK k x.last) Q0) wr) (fun x _ => (n - intOf x).toNat)
  case atStart => exact ⟨0, Nat.zero_le _, rfl, HS.out⟩
  case round =>
    clear HS
    obtain ⟨i, hi, rfl, s1, s2, s3, s4, s5⟩ := hrel
    by_cases hlt : i < n
    · have hlt' : (i : Int) < n := by omega
      obtain ⟨f, hx⟩ : ∃ f, L[i]? = some f := ⟨_, List.getElem?_eq_getElem (by rw [HN.out]; exact hlt)⟩
      obtain ⟨g', o', eg, hat⟩ := L3.out i f hx
      cases eg
      obtain ⟨c0, c1, c2, c3, c4⟩ := hat.below (by rw [HB.out]; exact s1)
      have HX := Lib.hid hx
      go_upto_region 5 with fail
      have HST : Hid ((L.take (i + 1)).foldl (fun k x => minK k x.first) P0 = minK ((L.take i).foldl (fun k x => minK k x.first) P0) f.first ∧ (L.take (i + 1)).foldl (fun k x => maxK k x.last) Q0 = maxK ((L.take i).foldl (fun k x => maxK k x.last) Q0) f.last) := Lib.hid (by
        rw [List.take_add_one, HX.out]
        constructor <;> simp)
      have a4 : Below wr.heap.size wr (wr.alloc (.cells #[.int .i64 f.num, .int .i64 f.lev, .int .i64 f.size, .string (stx f.first), .string (stx f.last)] 58)) := (Below.refl _ _).alloc (Nat.le_refl _) _
      have B4 := s1.alloc (by rw [← HB.out]; exact HB.out ▸ s1.size) (.cells #[.int .i64 f.num, .int .i64 f.lev, .int .i64 f.size, .string (stx f.first), .string (stx f.last)] 58)
      have r2 := (a4.block b2 (Array.getElem?_eq_some_iff.1 s4).1).trans s4
      have r3 := (a4.block b3 (Array.getElem?_eq_some_iff.1 s5).1).trans s5
      have r5 := heap_alloc_new wr (.cells #[.int .i64 f.num, .int .i64 f.lev, .int .i64 f.size, .string (stx f.first), .string (stx f.last)] 58)
      have n5 : b3 ≠ wr.heap.size := fun e => by
        have := (Array.getElem?_eq_some_iff.1 s5).1
        omega
      generalize (L.take i).foldl (fun k x => minK k x.first) P0 = P1 at *
      generalize (L.take i).foldl (fun k x => maxK k x.last) Q0 = Q1 at *
      clear c0 c1 c2 c3 c4 hat hx s1 s4 s5 a4
      generalize wr.alloc (.cells #[.int .i64 f.num, .int .i64 f.lev, .int .i64 f.size, .string (stx f.first), .string (stx f.last)] 58) = W4 at *
      generalize wr.heap.size = b5 at *
      have m3 : W4.cell? ⟨b3, 3, none⟩ = some (.string (stx P1)) := (Lib.cell_of_heap r3 3).trans rfl
      have m4 : W4.cell? ⟨b3, 4, none⟩ = some (.string (stx Q1)) := (Lib.cell_of_heap r3 4).trans rfl
      have f3 := Lib.frozen_of_heap r3 3
      have f4 := Lib.frozen_of_heap r3 4
      have k3 : W4.cell? ⟨b5, 3, none⟩ = some (.string (stx f.first)) := (Lib.cell_of_heap r5 3).trans rfl
      have k4 : W4.cell? ⟨b5, 4, none⟩ = some (.string (stx f.last)) := (Lib.cell_of_heap r5 4).trans rfl
      have hmin := fun W => run_min #[9, 9] 9 P1 f.first W
      have hmax := fun W => run_max #[9, 9] 9 Q1 f.last W
      go_region
      clear m3 m4 f3 f4 k3 k4 hmin hmax r5
      have HS2 : Hid (SpW b2 w b2 b3 (minK P1 f.first) (maxK Q1 f.last) ((W4.setCell ⟨b3, 3, none⟩ (.string (stx (minK P1 f.first)))).setCell ⟨b3, 4, none⟩ (.string (stx (maxK Q1 f.last)))).drew) := Lib.hid (by
        refine ⟨((B4.setCell (p := ⟨b3, 3, none⟩) (Nat.le_of_lt s3) _).setCell (p := ⟨b3, 4, none⟩) (Nat.le_of_lt s3) _).drew, s2, s3, ?_, ?_⟩
        · show ((W4.setCell _ _).setCell _ _).heap[b2]? = _
          rw [Below.heap_setCell _ _ _ _ (by show b2 ≠ b3; omega), Below.heap_setCell _ _ _ _ (by show b2 ≠ b3; omega)]
          exact r2
        · show ((W4.setCell _ _).setCell _ _).heap[b3]? = _
          rw [heap_put (heap_put r3 _) _]
          rfl)
      generalize ((W4.setCell ⟨b3, 3, none⟩ (.string (stx (minK P1 f.first)))).setCell ⟨b3, 4, none⟩ (.string (stx (maxK Q1 f.last)))).drew = W6 at *
      clear r2 r3 n5 B4
      go_wp2_with fail
      exact ⟨⟨i + 1, hlt, by go_num, by rw [HST.out.1, HST.out.2]; exact HS2.out⟩, by simp [intOf]; omega⟩
    · obtain rfl : i = n := by omega
      rw [List.take_of_length_le (by rw [HN.out]; exact Nat.le_refl _)] at s5
      obtain ⟨P1, hP1⟩ : ∃ P1, L.foldl (fun k x => minK k x.first) P0 = P1 := ⟨_, rfl⟩
      obtain ⟨Q1, hQ1⟩ : ∃ Q1, L.foldl (fun k x => maxK k x.last) Q0 = Q1 := ⟨_, rfl⟩
      rw [hP1, hQ1] at s5
      rw [← HP.out] at hP1
      rw [← HQ.out] at hQ1
      have HP1 := Lib.hid hP1
      have HQ1 := Lib.hid hQ1
      clear hP1 hQ1
      have d0 : wr.cell? ⟨b3, 0, none⟩ = some (.int .i64 0) := (Lib.cell_of_heap s5 0).trans rfl
      have d1 : wr.cell? ⟨b3, 1, none⟩ = some (.int .i64 0) := (Lib.cell_of_heap s5 1).trans rfl
      have d2 : wr.cell? ⟨b3, 2, none⟩ = some (.int .i64 0) := (Lib.cell_of_heap s5 2).trans rfl
      have d3 : wr.cell? ⟨b3, 3, none⟩ = some (.string (stx P1)) := (Lib.cell_of_heap s5 3).trans rfl
      have d4 : wr.cell? ⟨b3, 4, none⟩ = some (.string (stx Q1)) := (Lib.cell_of_heap s5 4).trans rfl
      have e0 : wr.cell? ⟨b2, 0, none⟩ = some (.int .i64 0) := (Lib.cell_of_heap s4 0).trans rfl
      have e1 : wr.cell? ⟨b2, 1, none⟩ = some (.int .i64 0) := (Lib.cell_of_heap s4 1).trans rfl
      have e2 : wr.cell? ⟨b2, 2, none⟩ = some (.int .i64 0) := (Lib.cell_of_heap s4 2).trans rfl
      have e3 : wr.cell? ⟨b2, 3, none⟩ = some (.string (stx [])) := (Lib.cell_of_heap s4 3).trans rfl
      have e4 : wr.cell? ⟨b2, 4, none⟩ = some (.string (stx [])) := (Lib.cell_of_heap s4 4).trans rfl
      have f0 := Lib.frozen_of_heap s4 0
      have f1 := Lib.frozen_of_heap s4 1
      have f2 := Lib.frozen_of_heap s4 2
      have f3 := Lib.frozen_of_heap s4 3
      have f4 := Lib.frozen_of_heap s4 4
      have BE := Lib.hid s1
      have R2 := Lib.hid (rowAt_of_heap s4)
      clear s4 s5
      go_wp2_with fail
      refine bodyPost_ret (results_row rfl _ _ b2 _ _ rfl (rowAt_setCell_same (rowAt_setCell_same (rowAt_setCell_same (rowAt_setCell_same (rowAt_setCell_same R2.out 0 (.int .i64 0)) 1 (.int .i64 0)) 2 (.int .i64 0)) 3 (.string (stx P1))) 4 (.string (stx Q1))) Try.underlying58 rfl (by kernel_rfl)) rfl ⟨?_, ?_⟩
      · rw [HP1.out, HQ1.out]
        rfl
      · rw [HB.out]
        exact ((((BE.out.setCell (p := ⟨b2, 0, none⟩) (Nat.le_refl b2) _).setCell (p := ⟨b2, 1, none⟩) (Nat.le_refl b2) _).setCell (p := ⟨b2, 2, none⟩) (Nat.le_refl b2) _).setCell (p := ⟨b2, 3, none⟩) (Nat.le_refl b2) _).setCell (p := ⟨b2, 4, none⟩) (Nat.le_refl b2) _
end Go.Proofs.Ytfklhkephdnhaaa
