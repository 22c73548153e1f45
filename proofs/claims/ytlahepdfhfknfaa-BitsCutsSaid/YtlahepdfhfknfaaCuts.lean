/- For every label, number and two prefixes the law BitsCuts returns true. Conditions: none. -/
import Derived.Test.YtlahepdfhfknfaaLaw1
import Derived.Test.YtlahepdfhfknfaaRow
namespace Go.Proofs.Ytlahepdfhfknfaa.cuts
open Go Go.ChangeShapes Go.WideShapes Go.ChangeAt Go.RowKit Go.Proofs.Ytlahepdfhfknfaa

theorem walk (l : Lab) (n pn : Int) (pl : Lab) (qn : Int) (ql : Lab) (w : World) : Calls Try.prog 4 #[.agg (cellsL l), .int .i64 n, .agg (cellsP pn pl), .agg (cellsP qn ql)] w fun e w' => e = .returned (.bool true) ∧ Below w.heap.size w w' := by
  have b0 : Below w.heap.size w (((w.alloc (.cells (cellsL l) 23)).alloc (.cells (cellsP pn pl) 29)).alloc (.cells (cellsP qn ql) 29)) := (((Below.refl _ _).alloc (Nat.le_refl _) _).alloc (by simp only [World.size_alloc]; omega) _).alloc (by simp only [World.size_alloc]; omega) _
  have r0 : rowAt (((w.alloc (.cells (cellsL l) 23)).alloc (.cells (cellsP pn pl) 29)).alloc (.cells (cellsP qn ql) 29)) w.heap.size = some (cellsL l) := (rowAt_alloc_past _ _ _ (by simp only [World.size_alloc]; omega)).trans ((rowAt_alloc_past _ _ _ (by simp only [World.size_alloc]; omega)).trans (rowAt_alloc_at _ _ _ _ rfl))
  have r1 : rowAt (((w.alloc (.cells (cellsL l) 23)).alloc (.cells (cellsP pn pl) 29)).alloc (.cells (cellsP qn ql) 29)) (w.heap.size + 1) = some (cellsP pn pl) := (rowAt_alloc_past _ _ _ (by simp only [World.size_alloc]; omega)).trans (rowAt_alloc_at _ _ _ _ (by simp only [World.size_alloc]))
  have r2 : rowAt (((w.alloc (.cells (cellsL l) 23)).alloc (.cells (cellsP pn pl) 29)).alloc (.cells (cellsP qn ql) 29)) (w.heap.size + 1 + 1) = some (cellsP qn ql) := rowAt_alloc_at _ _ _ _ (by simp only [World.size_alloc])
  have hne : (min (max n 0) 256 != max 0 (min n 256)) = false := by rw [bne_eq_false_iff_eq]; omega
  have hh := has_cut pn pl l
  have ho := over_cut' pn pl qn ql
  by_cases gp : good pn pl = true
  · rw [gp, Bool.true_and] at hh ho
    have GP := Lib.hid gp
    clear gp
    have HH := Lib.hid hh
    clear hh
    by_cases gq : good qn ql = true
    · rw [gq, Bool.true_and] at ho
      have GQ := Lib.hid gq
      clear gq
      by_cases hle : pn ≤ qn
      · rw [decide_eq_true hle, Bool.true_and] at ho
        have HO := Lib.hid ho
        clear ho
        go_enter Try.func4, Try.ntmps4
        go_wp2_with fail
        generalize ((w.alloc (.cells (cellsL l) 23)).alloc (.cells (cellsP pn pl) 29)).alloc (.cells (cellsP qn ql) 29) = W at *
        refine (Cut_any _ _ _).mono ?_
        rintro e w1 ⟨rfl, hb1⟩
        have q0 := rowAt_past hb1 r0
        have q1 := rowAt_past hb1 r1
        have q2 := rowAt_past hb1 r2
        have l0 := lt_of_rowAt q0
        have l1 := lt_of_rowAt q1
        have l2 := lt_of_rowAt q2
        have b1 := below_past b0 hb1 b0.size
        clear hb1 b0 r0 r1 r2
        go_wp2_with fail
        have r0 := (rowAt_alloc_past w1 (.cells (cellsP (min (max n 0) 256) (cut l n.toNat)) 29) _ l0).trans q0
        have r1 := (rowAt_alloc_past w1 (.cells (cellsP (min (max n 0) 256) (cut l n.toNat)) 29) _ l1).trans q1
        have r2 := (rowAt_alloc_past w1 (.cells (cellsP (min (max n 0) 256) (cut l n.toNat)) 29) _ l2).trans q2
        have r3 := rowAt_alloc_at w1 (cellsP (min (max n 0) 256) (cut l n.toNat)) 29 _ rfl
        have b2 := b1.alloc b1.size (.cells (cellsP (min (max n 0) 256) (cut l n.toNat)) 29)
        clear q0 q1 q2 l0 l1 l2 b1
        generalize w1.heap.size = h1 at *
        generalize w1.alloc (.cells (cellsP (min (max n 0) 256) (cut l n.toNat)) 29) = W1 at *
        have f0 := fun x : Past W1 => x.row r0
        have f3 := fun x : Past W1 => x.row r3
        have c3 := fun x : Past W1 => (cell_of_rowAt (x.row r3) 0).trans (get_cellsP0 _ _)
        refine wp_region_past (by kernel_rfl) (by kernel_rfl) ?_
        repeat (go_big_quiet_step (first | (go_at_call 15; exact Past.call (awake1 _)) | (go_at_call 23; exact Past.call (rCut_any _ _ _))))
        refine wpQuiet_nil ?_
        intro w2 hw2
        obtain ⟨⟨wn, hn⟩, rfl⟩ := hw2
        try dsimp only
        have q0 := rowAt_past hn r0
        have q1 := rowAt_past hn r1
        have q2 := rowAt_past hn r2
        have d1 := (cell_of_rowAt q1 0).trans (get_cellsP0 _ _)
        have b3 := below_past b2 hn b2.size
        clear f0 f3 c3 r0 r1 r2 r3 b2 hn
        go_wp2_with fail
        refine (rGood_any _ _ _).mono ?_
        rintro e w3 ⟨rfl, hb3⟩
        rw [GP.out]
        have r0 := rowAt_past hb3 q0
        have r1 := rowAt_past hb3 q1
        have r2 := rowAt_past hb3 q2
        have b4 := below_past b3 hb3 b3.size
        clear hb3 b3 q0 q1 q2 d1
        go_wp2_with fail
        have f0 := fun x : Past w3 => x.row r0
        have f1 := fun x : Past w3 => x.row r1
        have d1 := fun x : Past w3 => (cell_of_rowAt (x.row r1) 0).trans (get_cellsP0 _ _)
        refine wp_region_past (by kernel_rfl) (by kernel_rfl) ?_
        repeat (go_big_quiet_step ((go_at_call 23; exact Past.call (rCut_any _ _ _))))
        refine wpQuiet_nil ?_
        intro w2 hw2
        obtain ⟨⟨wn, hn⟩, rfl⟩ := hw2
        try dsimp only
        have q0 := rowAt_past hn r0
        have q1 := rowAt_past hn r1
        have q2 := rowAt_past hn r2
        have b5 := below_past b4 hn b4.size
        clear f0 f1 d1 r0 r1 r2 b4 hn
        go_wp2_with fail
        have f1 := fun x : Past w2 => x.row q1
        have f2 := fun x : Past w2 => x.row q2
        have d1 := fun x : Past w2 => (cell_of_rowAt (x.row q1) 0).trans (get_cellsP0 _ _)
        have d2 := fun x : Past w2 => (cell_of_rowAt (x.row q2) 0).trans (get_cellsP0 _ _)
        have gd := fun x : Past w2 => (rGood_any qn ql x.w).mono fun e w' ⟨h1, h2⟩ => (show e = Ending.returned (.bool true) ∧ Below x.w.heap.size x.w w' from ⟨by rw [h1, GQ.out], h2⟩)
        have GD := Lib.hid gd
        clear gd
        refine wp_region_past (by kernel_rfl) (by kernel_rfl) ?_
        repeat (go_big_quiet_step (first | (go_at_call 24; exact Past.call (GD.out _)) | (go_at_call 23; exact Past.call (rCut_any _ _ _))))
        refine wpQuiet_nil ?_
        intro w2 hw2
        obtain ⟨⟨wn, hn⟩, rfl⟩ := hw2
        try dsimp only
        have r0 := rowAt_past hn q0
        have r1 := rowAt_past hn q1
        have r2 := rowAt_past hn q2
        have b6 := below_past b5 hn b5.size
        clear f1 f2 d1 d2 GD q0 q1 q2 b5 hn
        go_wp2_with fail
        refine (Good_any _ _ _).mono ?_
        rintro e w6 ⟨rfl, hb6⟩
        rw [GP.out]
        have q0 := rowAt_past hb6 r0
        have q1 := rowAt_past hb6 r1
        have q2 := rowAt_past hb6 r2
        have b7 := below_past b6 hb6 b6.size
        clear hb6 b6 r0 r1 r2
        go_wp2_with fail
        refine (Has_any _ _ _ _).mono ?_
        rintro e w7 ⟨rfl, hb7⟩
        rw [HH.out]
        have r1 := rowAt_past hb7 q1
        have r2 := rowAt_past hb7 q2
        have b8 := below_past b7 hb7 b7.size
        clear hb7 b7 q0 q1 q2
        go_wp2_with fail
        refine (Over_any _ _ _ _ _).mono ?_
        rintro e w8 ⟨rfl, hb8⟩
        rw [HO.out]
        have b9 := below_past b8 hb8 b8.size
        clear hb8 b8 r1 r2
        go_wp2_with fail
        go_ret
        exact ⟨rfl, b9⟩
      · have hle' : decide (pn ≤ qn) = false := by simpa using hle
        rw [hle', Bool.false_and] at ho
        have HO := Lib.hid ho
        clear ho hle
        go_enter Try.func4, Try.ntmps4
        go_wp2_with fail
        generalize ((w.alloc (.cells (cellsL l) 23)).alloc (.cells (cellsP pn pl) 29)).alloc (.cells (cellsP qn ql) 29) = W at *
        refine (Cut_any _ _ _).mono ?_
        rintro e w1 ⟨rfl, hb1⟩
        have q0 := rowAt_past hb1 r0
        have q1 := rowAt_past hb1 r1
        have q2 := rowAt_past hb1 r2
        have l0 := lt_of_rowAt q0
        have l1 := lt_of_rowAt q1
        have l2 := lt_of_rowAt q2
        have b1 := below_past b0 hb1 b0.size
        clear hb1 b0 r0 r1 r2
        go_wp2_with fail
        have r0 := (rowAt_alloc_past w1 (.cells (cellsP (min (max n 0) 256) (cut l n.toNat)) 29) _ l0).trans q0
        have r1 := (rowAt_alloc_past w1 (.cells (cellsP (min (max n 0) 256) (cut l n.toNat)) 29) _ l1).trans q1
        have r2 := (rowAt_alloc_past w1 (.cells (cellsP (min (max n 0) 256) (cut l n.toNat)) 29) _ l2).trans q2
        have r3 := rowAt_alloc_at w1 (cellsP (min (max n 0) 256) (cut l n.toNat)) 29 _ rfl
        have b2 := b1.alloc b1.size (.cells (cellsP (min (max n 0) 256) (cut l n.toNat)) 29)
        clear q0 q1 q2 l0 l1 l2 b1
        generalize w1.heap.size = h1 at *
        generalize w1.alloc (.cells (cellsP (min (max n 0) 256) (cut l n.toNat)) 29) = W1 at *
        have f0 := fun x : Past W1 => x.row r0
        have f3 := fun x : Past W1 => x.row r3
        have c3 := fun x : Past W1 => (cell_of_rowAt (x.row r3) 0).trans (get_cellsP0 _ _)
        refine wp_region_past (by kernel_rfl) (by kernel_rfl) ?_
        repeat (go_big_quiet_step (first | (go_at_call 15; exact Past.call (awake1 _)) | (go_at_call 23; exact Past.call (rCut_any _ _ _))))
        refine wpQuiet_nil ?_
        intro w2 hw2
        obtain ⟨⟨wn, hn⟩, rfl⟩ := hw2
        try dsimp only
        have q0 := rowAt_past hn r0
        have q1 := rowAt_past hn r1
        have q2 := rowAt_past hn r2
        have d1 := (cell_of_rowAt q1 0).trans (get_cellsP0 _ _)
        have b3 := below_past b2 hn b2.size
        clear f0 f3 c3 r0 r1 r2 r3 b2 hn
        go_wp2_with fail
        refine (rGood_any _ _ _).mono ?_
        rintro e w3 ⟨rfl, hb3⟩
        rw [GP.out]
        have r0 := rowAt_past hb3 q0
        have r1 := rowAt_past hb3 q1
        have r2 := rowAt_past hb3 q2
        have b4 := below_past b3 hb3 b3.size
        clear hb3 b3 q0 q1 q2 d1
        go_wp2_with fail
        have f0 := fun x : Past w3 => x.row r0
        have f1 := fun x : Past w3 => x.row r1
        have d1 := fun x : Past w3 => (cell_of_rowAt (x.row r1) 0).trans (get_cellsP0 _ _)
        refine wp_region_past (by kernel_rfl) (by kernel_rfl) ?_
        repeat (go_big_quiet_step ((go_at_call 23; exact Past.call (rCut_any _ _ _))))
        refine wpQuiet_nil ?_
        intro w2 hw2
        obtain ⟨⟨wn, hn⟩, rfl⟩ := hw2
        try dsimp only
        have q0 := rowAt_past hn r0
        have q1 := rowAt_past hn r1
        have q2 := rowAt_past hn r2
        have b5 := below_past b4 hn b4.size
        clear f0 f1 d1 r0 r1 r2 b4 hn
        go_wp2_with fail
        have f1 := fun x : Past w2 => x.row q1
        have f2 := fun x : Past w2 => x.row q2
        have d1 := fun x : Past w2 => (cell_of_rowAt (x.row q1) 0).trans (get_cellsP0 _ _)
        have d2 := fun x : Past w2 => (cell_of_rowAt (x.row q2) 0).trans (get_cellsP0 _ _)
        have gd := fun x : Past w2 => (rGood_any qn ql x.w).mono fun e w' ⟨h1, h2⟩ => (show e = Ending.returned (.bool true) ∧ Below x.w.heap.size x.w w' from ⟨by rw [h1, GQ.out], h2⟩)
        have GD := Lib.hid gd
        clear gd
        refine wp_region_past (by kernel_rfl) (by kernel_rfl) ?_
        repeat (go_big_quiet_step (first | (go_at_call 24; exact Past.call (GD.out _)) | (go_at_call 23; exact Past.call (rCut_any _ _ _))))
        refine wpQuiet_nil ?_
        intro w2 hw2
        obtain ⟨⟨wn, hn⟩, rfl⟩ := hw2
        try dsimp only
        have r0 := rowAt_past hn q0
        have r1 := rowAt_past hn q1
        have r2 := rowAt_past hn q2
        have b6 := below_past b5 hn b5.size
        clear f1 f2 d1 d2 GD q0 q1 q2 b5 hn
        go_wp2_with fail
        refine (Good_any _ _ _).mono ?_
        rintro e w6 ⟨rfl, hb6⟩
        rw [GP.out]
        have q0 := rowAt_past hb6 r0
        have q1 := rowAt_past hb6 r1
        have q2 := rowAt_past hb6 r2
        have b7 := below_past b6 hb6 b6.size
        clear hb6 b6 r0 r1 r2
        go_wp2_with fail
        refine (Has_any _ _ _ _).mono ?_
        rintro e w7 ⟨rfl, hb7⟩
        rw [HH.out]
        have r1 := rowAt_past hb7 q1
        have r2 := rowAt_past hb7 q2
        have b8 := below_past b7 hb7 b7.size
        clear hb7 b7 q0 q1 q2
        go_wp2_with fail
        refine (Over_any _ _ _ _ _).mono ?_
        rintro e w8 ⟨rfl, hb8⟩
        rw [HO.out]
        have b9 := below_past b8 hb8 b8.size
        clear hb8 b8 r1 r2
        go_wp2_with fail
        go_ret
        exact ⟨rfl, b9⟩
    · have gq' : good qn ql = false := by simpa using gq
      rw [gq', Bool.false_and, Bool.false_and] at ho
      have GQ := Lib.hid gq'
      have HO := Lib.hid ho
      clear gq gq' ho
      go_enter Try.func4, Try.ntmps4
      go_wp2_with fail
      generalize ((w.alloc (.cells (cellsL l) 23)).alloc (.cells (cellsP pn pl) 29)).alloc (.cells (cellsP qn ql) 29) = W at *
      refine (Cut_any _ _ _).mono ?_
      rintro e w1 ⟨rfl, hb1⟩
      have q0 := rowAt_past hb1 r0
      have q1 := rowAt_past hb1 r1
      have q2 := rowAt_past hb1 r2
      have l0 := lt_of_rowAt q0
      have l1 := lt_of_rowAt q1
      have l2 := lt_of_rowAt q2
      have b1 := below_past b0 hb1 b0.size
      clear hb1 b0 r0 r1 r2
      go_wp2_with fail
      have r0 := (rowAt_alloc_past w1 (.cells (cellsP (min (max n 0) 256) (cut l n.toNat)) 29) _ l0).trans q0
      have r1 := (rowAt_alloc_past w1 (.cells (cellsP (min (max n 0) 256) (cut l n.toNat)) 29) _ l1).trans q1
      have r2 := (rowAt_alloc_past w1 (.cells (cellsP (min (max n 0) 256) (cut l n.toNat)) 29) _ l2).trans q2
      have r3 := rowAt_alloc_at w1 (cellsP (min (max n 0) 256) (cut l n.toNat)) 29 _ rfl
      have b2 := b1.alloc b1.size (.cells (cellsP (min (max n 0) 256) (cut l n.toNat)) 29)
      clear q0 q1 q2 l0 l1 l2 b1
      generalize w1.heap.size = h1 at *
      generalize w1.alloc (.cells (cellsP (min (max n 0) 256) (cut l n.toNat)) 29) = W1 at *
      have f0 := fun x : Past W1 => x.row r0
      have f3 := fun x : Past W1 => x.row r3
      have c3 := fun x : Past W1 => (cell_of_rowAt (x.row r3) 0).trans (get_cellsP0 _ _)
      refine wp_region_past (by kernel_rfl) (by kernel_rfl) ?_
      repeat (go_big_quiet_step (first | (go_at_call 15; exact Past.call (awake1 _)) | (go_at_call 23; exact Past.call (rCut_any _ _ _))))
      refine wpQuiet_nil ?_
      intro w2 hw2
      obtain ⟨⟨wn, hn⟩, rfl⟩ := hw2
      try dsimp only
      have q0 := rowAt_past hn r0
      have q1 := rowAt_past hn r1
      have q2 := rowAt_past hn r2
      have d1 := (cell_of_rowAt q1 0).trans (get_cellsP0 _ _)
      have b3 := below_past b2 hn b2.size
      clear f0 f3 c3 r0 r1 r2 r3 b2 hn
      go_wp2_with fail
      refine (rGood_any _ _ _).mono ?_
      rintro e w3 ⟨rfl, hb3⟩
      rw [GP.out]
      have r0 := rowAt_past hb3 q0
      have r1 := rowAt_past hb3 q1
      have r2 := rowAt_past hb3 q2
      have b4 := below_past b3 hb3 b3.size
      clear hb3 b3 q0 q1 q2 d1
      go_wp2_with fail
      have f0 := fun x : Past w3 => x.row r0
      have f1 := fun x : Past w3 => x.row r1
      have d1 := fun x : Past w3 => (cell_of_rowAt (x.row r1) 0).trans (get_cellsP0 _ _)
      refine wp_region_past (by kernel_rfl) (by kernel_rfl) ?_
      repeat (go_big_quiet_step ((go_at_call 23; exact Past.call (rCut_any _ _ _))))
      refine wpQuiet_nil ?_
      intro w2 hw2
      obtain ⟨⟨wn, hn⟩, rfl⟩ := hw2
      try dsimp only
      have q0 := rowAt_past hn r0
      have q1 := rowAt_past hn r1
      have q2 := rowAt_past hn r2
      have b5 := below_past b4 hn b4.size
      clear f0 f1 d1 r0 r1 r2 b4 hn
      go_wp2_with fail
      have f1 := fun x : Past w2 => x.row q1
      have f2 := fun x : Past w2 => x.row q2
      have d1 := fun x : Past w2 => (cell_of_rowAt (x.row q1) 0).trans (get_cellsP0 _ _)
      have d2 := fun x : Past w2 => (cell_of_rowAt (x.row q2) 0).trans (get_cellsP0 _ _)
      have gd := fun x : Past w2 => (rGood_any qn ql x.w).mono fun e w' ⟨h1, h2⟩ => (show e = Ending.returned (.bool false) ∧ Below x.w.heap.size x.w w' from ⟨by rw [h1, GQ.out], h2⟩)
      have GD := Lib.hid gd
      clear gd
      refine wp_region_past (by kernel_rfl) (by kernel_rfl) ?_
      repeat (go_big_quiet_step (first | (go_at_call 24; exact Past.call (GD.out _)) | (go_at_call 23; exact Past.call (rCut_any _ _ _))))
      refine wpQuiet_nil ?_
      intro w2 hw2
      obtain ⟨⟨wn, hn⟩, rfl⟩ := hw2
      try dsimp only
      have r0 := rowAt_past hn q0
      have r1 := rowAt_past hn q1
      have r2 := rowAt_past hn q2
      have b6 := below_past b5 hn b5.size
      clear f1 f2 d1 d2 GD q0 q1 q2 b5 hn
      go_wp2_with fail
      refine (Good_any _ _ _).mono ?_
      rintro e w6 ⟨rfl, hb6⟩
      rw [GP.out]
      have q0 := rowAt_past hb6 r0
      have q1 := rowAt_past hb6 r1
      have q2 := rowAt_past hb6 r2
      have b7 := below_past b6 hb6 b6.size
      clear hb6 b6 r0 r1 r2
      go_wp2_with fail
      refine (Has_any _ _ _ _).mono ?_
      rintro e w7 ⟨rfl, hb7⟩
      rw [HH.out]
      have r1 := rowAt_past hb7 q1
      have r2 := rowAt_past hb7 q2
      have b8 := below_past b7 hb7 b7.size
      clear hb7 b7 q0 q1 q2
      go_wp2_with fail
      refine (Over_any _ _ _ _ _).mono ?_
      rintro e w8 ⟨rfl, hb8⟩
      rw [HO.out]
      have b9 := below_past b8 hb8 b8.size
      clear hb8 b8 r1 r2
      go_wp2_with fail
      go_ret
      exact ⟨rfl, b9⟩
  · have gp' : good pn pl = false := by simpa using gp
    rw [gp', Bool.false_and] at hh
    rw [gp', Bool.false_and, Bool.false_and, Bool.false_and] at ho
    have GP := Lib.hid gp'
    have HH := Lib.hid hh
    have HO := Lib.hid ho
    clear gp gp' hh ho
    go_enter Try.func4, Try.ntmps4
    go_wp2_with fail
    generalize ((w.alloc (.cells (cellsL l) 23)).alloc (.cells (cellsP pn pl) 29)).alloc (.cells (cellsP qn ql) 29) = W at *
    refine (Cut_any _ _ _).mono ?_
    rintro e w1 ⟨rfl, hb1⟩
    have q0 := rowAt_past hb1 r0
    have q1 := rowAt_past hb1 r1
    have q2 := rowAt_past hb1 r2
    have l0 := lt_of_rowAt q0
    have l1 := lt_of_rowAt q1
    have l2 := lt_of_rowAt q2
    have b1 := below_past b0 hb1 b0.size
    clear hb1 b0 r0 r1 r2
    go_wp2_with fail
    have r0 := (rowAt_alloc_past w1 (.cells (cellsP (min (max n 0) 256) (cut l n.toNat)) 29) _ l0).trans q0
    have r1 := (rowAt_alloc_past w1 (.cells (cellsP (min (max n 0) 256) (cut l n.toNat)) 29) _ l1).trans q1
    have r2 := (rowAt_alloc_past w1 (.cells (cellsP (min (max n 0) 256) (cut l n.toNat)) 29) _ l2).trans q2
    have r3 := rowAt_alloc_at w1 (cellsP (min (max n 0) 256) (cut l n.toNat)) 29 _ rfl
    have b2 := b1.alloc b1.size (.cells (cellsP (min (max n 0) 256) (cut l n.toNat)) 29)
    clear q0 q1 q2 l0 l1 l2 b1
    generalize w1.heap.size = h1 at *
    generalize w1.alloc (.cells (cellsP (min (max n 0) 256) (cut l n.toNat)) 29) = W1 at *
    have f0 := fun x : Past W1 => x.row r0
    have f3 := fun x : Past W1 => x.row r3
    have c3 := fun x : Past W1 => (cell_of_rowAt (x.row r3) 0).trans (get_cellsP0 _ _)
    refine wp_region_past (by kernel_rfl) (by kernel_rfl) ?_
    repeat (go_big_quiet_step (first | (go_at_call 15; exact Past.call (awake1 _)) | (go_at_call 23; exact Past.call (rCut_any _ _ _))))
    refine wpQuiet_nil ?_
    intro w2 hw2
    obtain ⟨⟨wn, hn⟩, rfl⟩ := hw2
    try dsimp only
    have q0 := rowAt_past hn r0
    have q1 := rowAt_past hn r1
    have q2 := rowAt_past hn r2
    have d1 := (cell_of_rowAt q1 0).trans (get_cellsP0 _ _)
    have b3 := below_past b2 hn b2.size
    clear f0 f3 c3 r0 r1 r2 r3 b2 hn
    go_wp2_with fail
    refine (rGood_any _ _ _).mono ?_
    rintro e w3 ⟨rfl, hb3⟩
    rw [GP.out]
    have r0 := rowAt_past hb3 q0
    have r1 := rowAt_past hb3 q1
    have r2 := rowAt_past hb3 q2
    have b4 := below_past b3 hb3 b3.size
    clear hb3 b3 q0 q1 q2 d1
    go_wp2_with fail
    have f0 := fun x : Past w3 => x.row r0
    have f1 := fun x : Past w3 => x.row r1
    have d1 := fun x : Past w3 => (cell_of_rowAt (x.row r1) 0).trans (get_cellsP0 _ _)
    refine wp_region_past (by kernel_rfl) (by kernel_rfl) ?_
    repeat (go_big_quiet_step ((go_at_call 23; exact Past.call (rCut_any _ _ _))))
    refine wpQuiet_nil ?_
    intro w2 hw2
    obtain ⟨⟨wn, hn⟩, rfl⟩ := hw2
    try dsimp only
    have q0 := rowAt_past hn r0
    have q1 := rowAt_past hn r1
    have q2 := rowAt_past hn r2
    have b5 := below_past b4 hn b4.size
    clear f0 f1 d1 r0 r1 r2 b4 hn
    go_wp2_with fail
    refine wp_region_past (by kernel_rfl) (by kernel_rfl) ?_
    repeat (go_big_quiet_step (fail))
    refine wpQuiet_nil ?_
    intro w2 hw2
    obtain ⟨⟨wn, hn⟩, rfl⟩ := hw2
    try dsimp only
    have r0 := rowAt_past hn q0
    have r1 := rowAt_past hn q1
    have r2 := rowAt_past hn q2
    have b6 := below_past b5 hn b5.size
    clear q0 q1 q2 b5 hn
    go_wp2_with fail
    refine (Good_any _ _ _).mono ?_
    rintro e w6 ⟨rfl, hb6⟩
    rw [GP.out]
    have q0 := rowAt_past hb6 r0
    have q1 := rowAt_past hb6 r1
    have q2 := rowAt_past hb6 r2
    have b7 := below_past b6 hb6 b6.size
    clear hb6 b6 r0 r1 r2
    go_wp2_with fail
    refine (Has_any _ _ _ _).mono ?_
    rintro e w7 ⟨rfl, hb7⟩
    rw [HH.out]
    have r1 := rowAt_past hb7 q1
    have r2 := rowAt_past hb7 q2
    have b8 := below_past b7 hb7 b7.size
    clear hb7 b7 q0 q1 q2
    go_wp2_with fail
    refine (Over_any _ _ _ _ _).mono ?_
    rintro e w8 ⟨rfl, hb8⟩
    rw [HO.out]
    have b9 := below_past b8 hb8 b8.size
    clear hb8 b8 r1 r2
    go_wp2_with fail
    go_ret
    exact ⟨rfl, b9⟩

set_option maxRecDepth 100000 in
theorem lifted (os : Os) (started : os.Started) (H : Type) (enc : TypeId × Value → H) :
    ReturnsInHanded {} Try.checked os 4 .any (Rows.bitsCutsSpec.pre6 enc Try.prog Try.f4 Rows.bitsCutsRow.domain false) (Rows.bitsCutsSpec.post enc Try.prog Try.f4 false true false false) := by
  refine returnsInHanded_of_change (C := Try.checked) own started (by kernel_rfl) Try.func4
    (ChangeSpec.witness6 (enc := enc) (C := Try.checked) false ⟨#[], #[.agg (cellsL zeroLab), .int .i64 0, .agg (cellsP 0 zeroLab), .agg (cellsP 0 zeroLab)], []⟩ 8 (by kernel_rfl) (by kernel_rfl) (by kernel_rfl) (by kernel_rfl)) ?_
  intro W base args ds gs before hval0 hW _ _
  have hval : ∀ (j : Nat) t v, Try.f4.params[j]? = some t → args[j]? = some v → Value.okWide Try.prog W .any base t v := hval0
  clear hval0
  have hW' := hW
  obtain ⟨p, q, hA0, hV, rfl, hfz, hnd⟩ := hW
  have hA : DataW.TrodAll enc Try.prog W 0 (fun _ => true) true Try.f4.params.toList args.toList ds p := hA0
  rw [Try.params4] at hA hval
  clear hA0 hfz hnd hV
  have hr : Readable Try.f4.params.toList := by
    rw [Try.params4]
    exact readable_of_all (by kernel_rfl)
  have fin : ∀ W', Below W.heap.size W W' → Rows.bitsCutsSpec.post enc Try.prog Try.f4 false true false false W args (.bool true) W' := fun W' hb =>
    law_post rfl hW' hr (fun l hl => by
      rw [Try.params4] at hl
      match l, hl with
      | [d1, d2, d3, d4], _ => rfl) (by kernel_rfl) hb
  clear hW' hr
  obtain ⟨v0, v1, v2, v3, d0, d1, d2, d3, p0, p1, p2, p3, rfl, rfl, rfl, h0, h1, h2, h3⟩ := trodAll_four hA; obtain ⟨l, rfl⟩ := open_lab Try.underlying23 Try.underlying5 cellsOf_u8 cellsOf_lab (hval 0 23 v0 rfl rfl) h0; obtain ⟨n, rfl, _, _, w1⟩ := open_int Try.underlying3 (hval 1 3 v1 rfl rfl) h1; obtain ⟨pn, pl, rfl, _⟩ := open_pre Try.underlying29 Try.underlying3 cellsOf_int rfl rfl rfl Try.underlying23 Try.underlying5 cellsOf_u8 cellsOf_lab cellsOf_pre (hval 2 29 v2 rfl rfl) h2; obtain ⟨qn, ql, rfl, _⟩ := open_pre Try.underlying29 Try.underlying3 cellsOf_int rfl rfl rfl Try.underlying23 Try.underlying5 cellsOf_u8 cellsOf_lab cellsOf_pre (hval 3 29 v3 rfl rfl) h3
  exact (walk l n pn pl qn ql W).mono fun e W' ⟨he, hb⟩ => ⟨_, he, fin W' hb⟩
theorem proved : Rows.BitsCutsSaid :=
  OpenClaim.holds_of_wide 4 Try.f4 rfl rfl rfl rfl rfl rfl rfl ⟨rfl, rfl, rfl, rfl, rfl⟩ rfl rfl rfl rfl rfl (by kernel_rfl) Try.func4 (by kernel_rfl)
    (of_decide_eq_true (by kernel_rfl)) (by unfold Func.isWrapper; first | (rw [if_pos (by decide +kernel)]; kernel_rfl) | (rw [if_neg (by decide +kernel)]; exact ⟨rfl, rfl⟩))
    (fun os started H enc _ => lifted os started H enc)
end Go.Proofs.Ytlahepdfhfknfaa.cuts
