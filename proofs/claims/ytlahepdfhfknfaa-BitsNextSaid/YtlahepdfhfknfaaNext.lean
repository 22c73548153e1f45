/- For every prefix and number the law BitsNext returns true. Conditions: none. -/
import Derived.Test.YtlahepdfhfknfaaLaw1
import Derived.Test.YtlahepdfhfknfaaRow
namespace Go.Proofs.Ytlahepdfhfknfaa.next
open Go Go.ChangeShapes Go.WideShapes Go.ChangeAt Go.RowKit Go.Proofs.Ytlahepdfhfknfaa

theorem walk_no (n : Int) (a : Lab) (b : Int) (h : good n a = false ∨ n = 256 ∨ (b ≠ 0 ∧ b ≠ 1)) (w : World) : Calls Try.prog 5 #[.agg (cellsP n a), .int .i64 b] w fun e w' => e = .returned (.bool true) ∧ Below w.heap.size w w' := by
  have b0 : Below w.heap.size w (w.alloc (.cells (cellsP n a) 29)) := (Below.refl _ _).alloc (Nat.le_refl _) _
  have r0 : rowAt (w.alloc (.cells (cellsP n a) 29)) w.heap.size = some (cellsP n a) := rowAt_alloc_at _ _ _ _ rfl
  have HN := Lib.hid h
  by_cases gp : good n a = true
  · have GP := Lib.hid gp
    by_cases hn : n = 256
    · have h255 : 255 < n := by omega
      clear h gp hn
      go_enter Try.func5, Try.ntmps5
      go_wp2_with fail
      generalize w.alloc (.cells (cellsP n a) 29) = W at *
      refine (Next_no _ _ _ HN.out _).mono ?_
      rintro e w1 ⟨rfl, hb1⟩
      have q0 := rowAt_past hb1 r0
      have l0 := lt_of_rowAt q0
      have d0 := (cell_of_rowAt q0 0).trans (get_cellsP0 _ _)
      have b1 := below_past b0 hb1 b0.size
      clear hb1 b0 r0
      go_wp2_with fail
      have r0 := (rowAt_alloc_past w1 (.cells (cellsP 0 zeroLab) 29) _ l0).trans q0
      have r1 := rowAt_alloc_at w1 (cellsP 0 zeroLab) 29 _ rfl
      have b2 := b1.alloc b1.size (.cells (cellsP 0 zeroLab) 29)
      have l1 : w.heap.size < w1.heap.size := l0
      clear q0 l0 b1 d0
      generalize w1.heap.size = h1 at *
      generalize w1.alloc (.cells (cellsP 0 zeroLab) 29) = W1 at *
      refine (rGood_any _ _ _).mono ?_
      rintro e w3 ⟨rfl, hb3⟩
      rw [GP.out]
      have q0 := rowAt_past hb3 r0
      have q1 := rowAt_past hb3 r1
      have d0 := (cell_of_rowAt q0 0).trans (get_cellsP0 _ _)
      have l2 := lt_of_rowAt q0
      have l3 := lt_of_rowAt q1
      have b3 := below_past b2 hb3 b2.size
      clear hb3 b2 r0 r1
      go_wp2_with fail
      refine (awake1 _).mono ?_
      rintro e w4 ⟨rfl, hb4⟩
      have r1 := rowAt_past hb4 q1
      have b4 := below_past b3 hb4 b3.size
      clear hb4 b3 q1
      go_wp2_with fail
      go_ret
      exact ⟨rfl, b4⟩
    · have hb : b ≠ 0 ∧ b ≠ 1 := by
        rcases h with h | h | h
        · rw [gp] at h; cases h
        · exact absurd h hn
        · exact h
      have h255 : n ≤ 255 := by
        obtain ⟨m, rfl, h1, _⟩ := good_nat gp
        omega
      by_cases h0 : b < 0
      · clear h gp hn hb
        go_enter Try.func5, Try.ntmps5
        go_wp2_with fail
        generalize w.alloc (.cells (cellsP n a) 29) = W at *
        refine (Next_no _ _ _ HN.out _).mono ?_
        rintro e w1 ⟨rfl, hb1⟩
        have q0 := rowAt_past hb1 r0
        have l0 := lt_of_rowAt q0
        have d0 := (cell_of_rowAt q0 0).trans (get_cellsP0 _ _)
        have b1 := below_past b0 hb1 b0.size
        clear hb1 b0 r0
        go_wp2_with fail
        have r0 := (rowAt_alloc_past w1 (.cells (cellsP 0 zeroLab) 29) _ l0).trans q0
        have r1 := rowAt_alloc_at w1 (cellsP 0 zeroLab) 29 _ rfl
        have b2 := b1.alloc b1.size (.cells (cellsP 0 zeroLab) 29)
        have l1 : w.heap.size < w1.heap.size := l0
        clear q0 l0 b1 d0
        generalize w1.heap.size = h1 at *
        generalize w1.alloc (.cells (cellsP 0 zeroLab) 29) = W1 at *
        refine (rGood_any _ _ _).mono ?_
        rintro e w3 ⟨rfl, hb3⟩
        rw [GP.out]
        have q0 := rowAt_past hb3 r0
        have q1 := rowAt_past hb3 r1
        have d0 := (cell_of_rowAt q0 0).trans (get_cellsP0 _ _)
        have l2 := lt_of_rowAt q0
        have l3 := lt_of_rowAt q1
        have b3 := below_past b2 hb3 b2.size
        clear hb3 b2 r0 r1
        go_wp2_with fail
        refine (awake1 _).mono ?_
        rintro e w4 ⟨rfl, hb4⟩
        have r1 := rowAt_past hb4 q1
        have b4 := below_past b3 hb4 b3.size
        clear hb4 b3 q1
        go_wp2_with fail
        go_ret
        exact ⟨rfl, b4⟩
      · have h1 : 1 < b := by omega
        clear h gp hn hb
        go_enter Try.func5, Try.ntmps5
        go_wp2_with fail
        generalize w.alloc (.cells (cellsP n a) 29) = W at *
        refine (Next_no _ _ _ HN.out _).mono ?_
        rintro e w1 ⟨rfl, hb1⟩
        have q0 := rowAt_past hb1 r0
        have l0 := lt_of_rowAt q0
        have d0 := (cell_of_rowAt q0 0).trans (get_cellsP0 _ _)
        have b1 := below_past b0 hb1 b0.size
        clear hb1 b0 r0
        go_wp2_with fail
        have r0 := (rowAt_alloc_past w1 (.cells (cellsP 0 zeroLab) 29) _ l0).trans q0
        have r1 := rowAt_alloc_at w1 (cellsP 0 zeroLab) 29 _ rfl
        have b2 := b1.alloc b1.size (.cells (cellsP 0 zeroLab) 29)
        have l1 : w.heap.size < w1.heap.size := l0
        clear q0 l0 b1 d0
        generalize w1.heap.size = h1 at *
        generalize w1.alloc (.cells (cellsP 0 zeroLab) 29) = W1 at *
        refine (rGood_any _ _ _).mono ?_
        rintro e w3 ⟨rfl, hb3⟩
        rw [GP.out]
        have q0 := rowAt_past hb3 r0
        have q1 := rowAt_past hb3 r1
        have d0 := (cell_of_rowAt q0 0).trans (get_cellsP0 _ _)
        have l2 := lt_of_rowAt q0
        have l3 := lt_of_rowAt q1
        have b3 := below_past b2 hb3 b2.size
        clear hb3 b2 r0 r1
        go_wp2_with fail
        refine (awake1 _).mono ?_
        rintro e w4 ⟨rfl, hb4⟩
        have r1 := rowAt_past hb4 q1
        have b4 := below_past b3 hb4 b3.size
        clear hb4 b3 q1
        go_wp2_with fail
        go_ret
        exact ⟨rfl, b4⟩
  · have gp' : good n a = false := by simpa using gp
    have GP := Lib.hid gp'
    clear h gp gp'
    go_enter Try.func5, Try.ntmps5
    go_wp2_with fail
    generalize w.alloc (.cells (cellsP n a) 29) = W at *
    refine (Next_no _ _ _ HN.out _).mono ?_
    rintro e w1 ⟨rfl, hb1⟩
    have q0 := rowAt_past hb1 r0
    have l0 := lt_of_rowAt q0
    have d0 := (cell_of_rowAt q0 0).trans (get_cellsP0 _ _)
    have b1 := below_past b0 hb1 b0.size
    clear hb1 b0 r0
    go_wp2_with fail
    have r0 := (rowAt_alloc_past w1 (.cells (cellsP 0 zeroLab) 29) _ l0).trans q0
    have r1 := rowAt_alloc_at w1 (cellsP 0 zeroLab) 29 _ rfl
    have b2 := b1.alloc b1.size (.cells (cellsP 0 zeroLab) 29)
    have l1 : w.heap.size < w1.heap.size := l0
    clear q0 l0 b1 d0
    generalize w1.heap.size = h1 at *
    generalize w1.alloc (.cells (cellsP 0 zeroLab) 29) = W1 at *
    refine (rGood_any _ _ _).mono ?_
    rintro e w3 ⟨rfl, hb3⟩
    rw [GP.out]
    have q0 := rowAt_past hb3 r0
    have q1 := rowAt_past hb3 r1
    have d0 := (cell_of_rowAt q0 0).trans (get_cellsP0 _ _)
    have l2 := lt_of_rowAt q0
    have l3 := lt_of_rowAt q1
    have b3 := below_past b2 hb3 b2.size
    clear hb3 b2 r0 r1
    go_wp2_with fail
    refine (awake1 _).mono ?_
    rintro e w4 ⟨rfl, hb4⟩
    have r1 := rowAt_past hb4 q1
    have b4 := below_past b3 hb4 b3.size
    clear hb4 b3 q1
    go_wp2_with fail
    go_ret
    exact ⟨rfl, b4⟩

theorem walk_yes (m : Nat) (a : Lab) (b : Int) (hg : good m a = true) (hm : m < 256) (hb : b = 0 ∨ b = 1) (w : World) : Calls Try.prog 5 #[.agg (cellsP m a), .int .i64 b] w fun e w' => e = .returned (.bool true) ∧ Below w.heap.size w w' := by
  have b0 : Below w.heap.size w (w.alloc (.cells (cellsP m a) 29)) := (Below.refl _ _).alloc (Nat.le_refl _) _
  have r0 : rowAt (w.alloc (.cells (cellsP m a) 29)) w.heap.size = some (cellsP m a) := rowAt_alloc_at _ _ _ _ rfl
  obtain ⟨n, hn, hn2⟩ : ∃ n : Int, n = (m : Int) ∧ n ≤ 255 := ⟨m, rfl, by omega⟩
  have hn0 : 0 ≤ n := by omega
  have GP := Lib.hid hg
  have HN := Lib.hid hn
  have HT : Hid (n.toNat = m) := Lib.hid (by omega)
  have HB := Lib.hid (Next_yes m a b hg hm hb)
  rw [← hn] at GP HB ⊢
  rw [← hn] at b0 r0
  clear hn hg
  rcases hb with rfl | rfl
  · rw [show grown a m 0 = a from if_neg (by decide)] at HB
    go_enter Try.func5, Try.ntmps5
    go_wp2_with fail
    generalize w.alloc (.cells (cellsP n a) 29) = W at *
    refine (HB.out _).mono ?_
    rintro e w1 ⟨rfl, hb1⟩
    have q0 := rowAt_past hb1 r0
    have l0 := lt_of_rowAt q0
    have d0 := (cell_of_rowAt q0 0).trans (get_cellsP0 _ _)
    have b1 := below_past b0 hb1 b0.size
    clear hb1 b0 r0
    go_wp2_with fail
    have r0 := (rowAt_alloc_past w1 (.cells (cellsP (n + 1) a) 29) _ l0).trans q0
    have r1 := rowAt_alloc_at w1 (cellsP (n + 1) a) 29 _ rfl
    have b2 := b1.alloc b1.size (.cells (cellsP (n + 1) a) 29)
    have l1 : w.heap.size < w1.heap.size := l0
    clear q0 l0 b1 d0
    generalize w1.heap.size = h1 at *
    generalize w1.alloc (.cells (cellsP (n + 1) a) 29) = W1 at *
    refine (rGood_any _ _ _).mono ?_
    rintro e w3 ⟨rfl, hb3⟩
    rw [GP.out]
    have q0 := rowAt_past hb3 r0
    have q1 := rowAt_past hb3 r1
    have d0 := (cell_of_rowAt q0 0).trans (get_cellsP0 _ _)
    have l2 := lt_of_rowAt q0
    have l3 := lt_of_rowAt q1
    have b3 := below_past b2 hb3 b2.size
    clear hb3 b2 r0 r1
    go_wp2_with fail
    have q2 := (rowAt_alloc_past w3 (.cells (cellsL a) 23) _ l2).trans q0
    have q3 := (rowAt_alloc_past w3 (.cells (cellsL a) 23) _ l3).trans q1
    have q4 := rowAt_alloc_at w3 (cellsL a) 23 _ rfl
    have b4 := b3.alloc b3.size (.cells (cellsL a) 23)
    refine (awake1 _).mono ?_
    rintro e w4 ⟨rfl, hb4⟩
    have p0 := rowAt_past hb4 q2
    have p1 := rowAt_past hb4 q3
    have p2 := rowAt_past hb4 q4
    have c0 := (cell_of_rowAt p0 0).trans (get_cellsP0 _ _)
    have b5 := below_past b4 hb4 b4.size
    clear hb4 b4 b3 q0 q1 q2 q3 q4 d0
    go_wp2_with fail
    go_ret
    exact ⟨rfl, b5⟩
  · rw [show grown a m 1 = setBit a m from if_pos rfl] at HB
    go_enter Try.func5, Try.ntmps5
    go_wp2_with fail
    generalize w.alloc (.cells (cellsP n a) 29) = W at *
    refine (HB.out _).mono ?_
    rintro e w1 ⟨rfl, hb1⟩
    have q0 := rowAt_past hb1 r0
    have l0 := lt_of_rowAt q0
    have d0 := (cell_of_rowAt q0 0).trans (get_cellsP0 _ _)
    have b1 := below_past b0 hb1 b0.size
    clear hb1 b0 r0
    go_wp2_with fail
    have r0 := (rowAt_alloc_past w1 (.cells (cellsP (n + 1) (setBit a m)) 29) _ l0).trans q0
    have r1 := rowAt_alloc_at w1 (cellsP (n + 1) (setBit a m)) 29 _ rfl
    have b2 := b1.alloc b1.size (.cells (cellsP (n + 1) (setBit a m)) 29)
    have l1 : w.heap.size < w1.heap.size := l0
    clear q0 l0 b1 d0
    generalize w1.heap.size = h1 at *
    generalize w1.alloc (.cells (cellsP (n + 1) (setBit a m)) 29) = W1 at *
    refine (rGood_any _ _ _).mono ?_
    rintro e w3 ⟨rfl, hb3⟩
    rw [GP.out]
    have q0 := rowAt_past hb3 r0
    have q1 := rowAt_past hb3 r1
    have d0 := (cell_of_rowAt q0 0).trans (get_cellsP0 _ _)
    have l2 := lt_of_rowAt q0
    have l3 := lt_of_rowAt q1
    have b3 := below_past b2 hb3 b2.size
    clear hb3 b2 r0 r1
    go_wp2_with fail
    have q2 := (rowAt_alloc_past w3 (.cells (cellsL a) 23) _ l2).trans q0
    have q3 := (rowAt_alloc_past w3 (.cells (cellsL a) 23) _ l3).trans q1
    have q4 := rowAt_alloc_at w3 (cellsL a) 23 _ rfl
    have b4 := b3.alloc b3.size (.cells (cellsL a) 23)
    have b3s := b3.size
    refine (rSet_any _ _ hn0 (by omega) _).mono ?_
    rintro e w4 ⟨rfl, hb4⟩
    rw [HT.out]
    have p0 := rowAt_past hb4 q2
    have p1 := rowAt_past hb4 q3
    have p2 := rowAt_past hb4 q4
    have b5 := below_past b4 hb4 b4.size
    clear hb4 b4 b3 q0 q1 q2 q3 q4 d0
    go_wp2_with fail
    have s0 := (rowAt_setRow_other w4 w3.heap.size w.heap.size (cellsL (setBit a m)) (by omega)).trans p0
    have s1 := (rowAt_setRow_other w4 w3.heap.size h1 (cellsL (setBit a m)) (by omega)).trans p1
    have s2 := rowAt_setRow_same p2 (cellsL (setBit a m))
    have b6 := Below.setRow b5 b3s (cellsL (setBit a m))
    clear p0 p1 p2 b5
    refine (awake1 _).mono ?_
    rintro e w5 ⟨rfl, hb5⟩
    have p0 := rowAt_past hb5 s0
    have p1 := rowAt_past hb5 s1
    have p2 := rowAt_past hb5 s2
    have c0 := (cell_of_rowAt p0 0).trans (get_cellsP0 _ _)
    have b7 := below_past b6 hb5 b6.size
    clear hb5 b6 s0 s1 s2
    go_wp2_with fail
    go_ret
    exact ⟨rfl, b7⟩

theorem walk (n : Int) (a : Lab) (b : Int) (w : World) : Calls Try.prog 5 #[.agg (cellsP n a), .int .i64 b] w fun e w' => e = .returned (.bool true) ∧ Below w.heap.size w w' := by
  by_cases hg : good n a = true
  · obtain ⟨m, rfl, h1, _⟩ := good_nat hg
    by_cases hm : m = 256
    · exact walk_no _ _ _ (.inr (.inl (by omega))) w
    · by_cases h0 : b = 0
      · exact walk_yes m a b hg (by omega) (.inl h0) w
      · by_cases h2 : b = 1
        · exact walk_yes m a b hg (by omega) (.inr h2) w
        · exact walk_no _ _ _ (.inr (.inr ⟨h0, h2⟩)) w
  · exact walk_no _ _ _ (.inl (by simpa using hg)) w

set_option maxRecDepth 100000 in
theorem lifted (os : Os) (started : os.Started) (H : Type) (enc : TypeId × Value → H) :
    ReturnsInHanded {} Try.checked os 5 .any (Rows.bitsNextSpec.pre6 enc Try.prog Try.f5 Rows.bitsNextRow.domain false) (Rows.bitsNextSpec.post enc Try.prog Try.f5 false true false false) := by
  refine returnsInHanded_of_change (C := Try.checked) own started (by kernel_rfl) Try.func5
    (ChangeSpec.witness6 (enc := enc) (C := Try.checked) false ⟨#[], #[.agg (cellsP 0 zeroLab), .int .i64 0], []⟩ 8 (by kernel_rfl) (by kernel_rfl) (by kernel_rfl) (by kernel_rfl)) ?_
  intro W base args ds gs before hval0 hW _ _
  have hval : ∀ (j : Nat) t v, Try.f5.params[j]? = some t → args[j]? = some v → Value.okWide Try.prog W .any base t v := hval0
  clear hval0
  have hW' := hW
  obtain ⟨p, q, hA0, hV, rfl, hfz, hnd⟩ := hW
  have hA : DataW.TrodAll enc Try.prog W 0 (fun _ => true) true Try.f5.params.toList args.toList ds p := hA0
  rw [Try.params5] at hA hval
  clear hA0 hfz hnd hV
  have hr : Readable Try.f5.params.toList := by
    rw [Try.params5]
    exact readable_of_all (by kernel_rfl)
  have fin : ∀ W', Below W.heap.size W W' → Rows.bitsNextSpec.post enc Try.prog Try.f5 false true false false W args (.bool true) W' := fun W' hb =>
    law_post rfl hW' hr (fun l hl => by
      rw [Try.params5] at hl
      match l, hl with
      | [d1, d2], _ => rfl) (by kernel_rfl) hb
  clear hW' hr
  obtain ⟨v0, v1, d0, d1, p0, p1, rfl, rfl, rfl, h0, h1⟩ := trodAll_two hA; obtain ⟨n, a, rfl, _⟩ := open_pre Try.underlying29 Try.underlying3 cellsOf_int rfl rfl rfl Try.underlying23 Try.underlying5 cellsOf_u8 cellsOf_lab cellsOf_pre (hval 0 29 v0 rfl rfl) h0; obtain ⟨b, rfl, _, _, w1⟩ := open_int Try.underlying3 (hval 1 3 v1 rfl rfl) h1
  exact (walk n a b W).mono fun e W' ⟨he, hb⟩ => ⟨_, he, fin W' hb⟩
theorem proved : Rows.BitsNextSaid :=
  OpenClaim.holds_of_wide 5 Try.f5 rfl rfl rfl rfl rfl rfl rfl ⟨rfl, rfl, rfl, rfl, rfl⟩ rfl rfl rfl rfl rfl (by kernel_rfl) Try.func5 (by kernel_rfl)
    (of_decide_eq_true (by kernel_rfl)) (by unfold Func.isWrapper; first | (rw [if_pos (by decide +kernel)]; kernel_rfl) | (rw [if_neg (by decide +kernel)]; exact ⟨rfl, rfl⟩))
    (fun os started H enc _ => lifted os started H enc)
end Go.Proofs.Ytlahepdfhfknfaa.next
