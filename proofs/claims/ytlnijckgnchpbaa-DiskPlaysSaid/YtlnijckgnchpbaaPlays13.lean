/- The document's disk: a file takes another name. Conditions: none. -/
import Derived.Test.YtlnijckgnchpbaaPlays7
import Derived.Deep.RegionWith
namespace Go.Proofs.Ytlnijckgnchpbaa
open Go Go.RowKit Go.Maps
attribute [local go_sem] Oper.semAt_some

set_option maxRecDepth 100000 in
set_option maxHeartbeats 4000000 in
theorem r5Rename_any (d : DDisk) (v : Value) (nm q : List UInt8) (w : World) (h : RFiles w v d.files) (hl : d.files.length ≤ 1000000) (hf : -9223372036854775808 ≤ d.fuse ∧ d.fuse ≤ 9223372036854775807) :
    Calls Try.prog 22 #[.agg (diskC d v), .string (stx nm), .string (stx q)] w (R5Post (reD d nm q) (reE d nm q) w) := by
  obtain ⟨⟨ao, cap, rfl, hc⟩, -⟩ := id h
  obtain ⟨room, fuse, dead, fs⟩ := d
  dsimp only at h hl hf hc ⊢
  obtain ⟨n, hn⟩ : ∃ n, fs.length = n := ⟨_, rfl⟩
  have HN := Lib.hid hn
  rw [hn] at h hl
  rw [hn]
  unfold diskC
  have bW : Below w.heap.size w ((w.alloc (.cells #[.int .i64 room, .int .i64 fuse, .bool dead, .slice ao n cap] 27)).alloc (.cells #[.int .i64 0, .int .i64 0, .bool false, .slice none 0 0] 27)) := ((Below.refl _ _).alloc (Nat.le_refl _) _).alloc (by simp only [World.size_alloc]; omega) _
  have r0 : rowAt ((w.alloc (.cells #[.int .i64 room, .int .i64 fuse, .bool dead, .slice ao n cap] 27)).alloc (.cells #[.int .i64 0, .int .i64 0, .bool false, .slice none 0 0] 27)) w.heap.size = some #[.int .i64 room, .int .i64 fuse, .bool dead, .slice ao n cap] := (rowAt_alloc_past _ _ _ (by simp only [World.size_alloc]; omega)).trans (rowAt_alloc_at _ _ _ _ rfl)
  have r1 : rowAt ((w.alloc (.cells #[.int .i64 room, .int .i64 fuse, .bool dead, .slice ao n cap] 27)).alloc (.cells #[.int .i64 0, .int .i64 0, .bool false, .slice none 0 0] 27)) (w.heap.size + 1) = some #[.int .i64 0, .int .i64 0, .bool false, .slice none 0 0] := rowAt_alloc_at _ _ _ _ (by simp only [World.size_alloc])
  have hR := h.below bW
  have bA : Below w.heap.size w ((w.alloc (.cells #[.int .i64 room, .int .i64 fuse, .bool dead, .slice ao n cap] 27)).alloc (.cells #[.int .i64 room, .int .i64 fuse, .bool dead, .slice ao n cap] 27)) := ((Below.refl _ _).alloc (Nat.le_refl _) _).alloc (by simp only [World.size_alloc]; omega) _
  have hRA := h.below bA
  clear h hc hn
  cases dead with
  | true =>
    rw [show reD ⟨room, fuse, true, fs⟩ nm q = ⟨room, fuse, true, fs⟩ from by unfold reD findE; simp, show reE ⟨room, fuse, true, fs⟩ nm q = 10 from by unfold reE findE; simp]
    go_enter Try.func22, Try.ntmps22
    go_wp2_with fail
    refine bodyPost_ret (results_row_tmp rfl _ _ _ _ _ rfl (rowAt_alloc_at _ _ _ _ (by simp only [World.size_alloc])) Try.underlying27 rfl (by kernel_rfl)) rfl ?_
    exact ⟨.slice ao n cap, rfl, hRA, bA⟩
  | false =>
    rcases hq : dFind fs nm with _ | f
    · by_cases hgd : dGood q
      · have HG : ∀ W, Hid (Calls Try.prog 37 #[.string (stx q)] W fun e w' => e = .returned (.bool true) ∧ w' = W) := fun W => Lib.hid (by
          have := r5good_any (stx q) W
          rwa [show decide (0 < (stx q).size ∧ (stx q).size ≤ 100) = true from decide_eq_true (by rw [stx_size]; exact hgd)] at this)
        rw [show reD ⟨room, fuse, false, fs⟩ nm q = ⟨room, fuse, false, fs⟩ from by unfold reD findE; simp [hq], show reE ⟨room, fuse, false, fs⟩ nm q = 7 from by unfold reE findE; simp [hq, hgd]]
        clear hgd
        go_enter Try.func22, Try.ntmps22
        go_wp2_with fail
        generalize (w.alloc (.cells #[.int .i64 room, .int .i64 fuse, .bool false, .slice ao n cap] 27)).alloc (.cells #[.int .i64 0, .int .i64 0, .bool false, .slice none 0 0] 27) = W at *
        clear hRA bA
        have c0 := (cell_of_rowAt r0 0).trans (rfl : _ = some (Value.int .i64 room))
        have c1 := (cell_of_rowAt r0 1).trans (rfl : _ = some (Value.int .i64 fuse))
        have c2 := (cell_of_rowAt r0 2).trans (rfl : _ = some (Value.bool false))
        have c3 := (cell_of_rowAt r0 3).trans (rfl : _ = some (Value.slice ao n cap))
        have HF := Lib.hid (r5Find_any ⟨room, fuse, false, fs⟩ (.slice ao n cap) nm W hR (by show fs.length ≤ 1000000; rw [HN.out]; exact hl))
        unfold diskC at HF
        go_wp2_with fail
        refine HF.out.mono ?_
        rintro e w2 ⟨rfl, b2⟩
        dsimp only
        clear c0 c1 c2 c3 HF
        rw [hq]
        unfold foundV fileZ
        clear hq
        go_wp2_with fail
        refine (HG _).out.mono ?_
        rintro e w3 ⟨rfl, rfl⟩
        have x0 := rowAt_past b2 r0
        have x1 := rowAt_past b2 r1
        have t0 := (rowAt_alloc_past w2 (.cells #[.string ⟨#[]⟩, .string ⟨#[]⟩, .int .i64 0] 37) _ (lt_of_rowAt x0)).trans x0
        have t1 := (rowAt_alloc_past w2 (.cells #[.string ⟨#[]⟩, .string ⟨#[]⟩, .int .i64 0] 37) _ (lt_of_rowAt x1)).trans x1
        have bW2 := below_past bW b2 bW.size
        have bW3 := bW2.alloc bW2.size (.cells #[.string ⟨#[]⟩, .string ⟨#[]⟩, .int .i64 0] 37)
        have hR3 := (hR.below b2).below ((Below.refl _ _).alloc (Nat.le_refl _) (.cells #[.string ⟨#[]⟩, .string ⟨#[]⟩, .int .i64 0] 37))
        clear x0 x1 r0 r1 bW bW2 hR b2
        have r0 := t0
        have r1 := t1
        have bW := bW3
        have hR := hR3
        clear t0 t1 bW3 hR3
        have c0 := (cell_of_rowAt r0 0).trans (rfl : _ = some (Value.int .i64 room))
        have c1 := (cell_of_rowAt r0 1).trans (rfl : _ = some (Value.int .i64 fuse))
        have c2 := (cell_of_rowAt r0 2).trans (rfl : _ = some (Value.bool false))
        have c3 := (cell_of_rowAt r0 3).trans (rfl : _ = some (Value.slice ao n cap))
        have p0 := (cell_of_rowAt r1 0).trans (rfl : _ = some (Value.int .i64 0))
        have p1 := (cell_of_rowAt r1 1).trans (rfl : _ = some (Value.int .i64 0))
        have p2 := (cell_of_rowAt r1 2).trans (rfl : _ = some (Value.bool false))
        have p3 := (cell_of_rowAt r1 3).trans (rfl : _ = some (Value.slice none 0 0))
        have e0 := frozen_of_rowAt r1 0
        have e1 := frozen_of_rowAt r1 1
        have e2 := frozen_of_rowAt r1 2
        have e3 := frozen_of_rowAt r1 3
        have HR1 := Lib.hid r1
        have HRF := Lib.hid hR
        have HBB := Lib.hid bW
        clear r0 r1 hR bW
        go_wp2_with fail
        have rr := rowAt_setCell_same (rowAt_setCell_same (rowAt_setCell_same (rowAt_setCell_same HR1.out 0 (.int .i64 room)) 1 (.int .i64 fuse)) 2 (.bool false)) 3 (.slice ao n cap)
        have bb := (((HBB.out.setCell (p := ⟨w.heap.size + 1, 0, none⟩) (Nat.le_succ w.heap.size) (.int .i64 room)).setCell (p := ⟨w.heap.size + 1, 1, none⟩) (Nat.le_succ w.heap.size) (.int .i64 fuse)).setCell (p := ⟨w.heap.size + 1, 2, none⟩) (Nat.le_succ w.heap.size) (.bool false)).setCell (p := ⟨w.heap.size + 1, 3, none⟩) (Nat.le_succ w.heap.size) (.slice ao n cap)
        have fR := RFiles.set4 (z := room) HRF.out HR1.out (.int .i64 fuse) (.bool false) (.slice ao n cap)
        refine bodyPost_ret (results_row_tmp rfl _ _ _ _ _ rfl rr Try.underlying27 rfl (by kernel_rfl)) rfl ?_
        exact ⟨.slice ao n cap, rfl, fR, bb⟩
      · have HG : ∀ W, Hid (Calls Try.prog 37 #[.string (stx q)] W fun e w' => e = .returned (.bool false) ∧ w' = W) := fun W => Lib.hid (by
          have := r5good_any (stx q) W
          rwa [show decide (0 < (stx q).size ∧ (stx q).size ≤ 100) = false from decide_eq_false (by rw [stx_size]; exact hgd)] at this)
        rw [show reD ⟨room, fuse, false, fs⟩ nm q = ⟨room, fuse, false, fs⟩ from by unfold reD findE; simp [hq], show reE ⟨room, fuse, false, fs⟩ nm q = 1 from by unfold reE findE; simp [hgd]]
        clear hgd
        go_enter Try.func22, Try.ntmps22
        go_wp2_with fail
        generalize (w.alloc (.cells #[.int .i64 room, .int .i64 fuse, .bool false, .slice ao n cap] 27)).alloc (.cells #[.int .i64 0, .int .i64 0, .bool false, .slice none 0 0] 27) = W at *
        clear hRA bA
        have c0 := (cell_of_rowAt r0 0).trans (rfl : _ = some (Value.int .i64 room))
        have c1 := (cell_of_rowAt r0 1).trans (rfl : _ = some (Value.int .i64 fuse))
        have c2 := (cell_of_rowAt r0 2).trans (rfl : _ = some (Value.bool false))
        have c3 := (cell_of_rowAt r0 3).trans (rfl : _ = some (Value.slice ao n cap))
        have HF := Lib.hid (r5Find_any ⟨room, fuse, false, fs⟩ (.slice ao n cap) nm W hR (by show fs.length ≤ 1000000; rw [HN.out]; exact hl))
        unfold diskC at HF
        go_wp2_with fail
        refine HF.out.mono ?_
        rintro e w2 ⟨rfl, b2⟩
        dsimp only
        clear c0 c1 c2 c3 HF
        rw [hq]
        unfold foundV fileZ
        clear hq
        go_wp2_with fail
        refine (HG _).out.mono ?_
        rintro e w3 ⟨rfl, rfl⟩
        have x0 := rowAt_past b2 r0
        have x1 := rowAt_past b2 r1
        have t0 := (rowAt_alloc_past w2 (.cells #[.string ⟨#[]⟩, .string ⟨#[]⟩, .int .i64 0] 37) _ (lt_of_rowAt x0)).trans x0
        have t1 := (rowAt_alloc_past w2 (.cells #[.string ⟨#[]⟩, .string ⟨#[]⟩, .int .i64 0] 37) _ (lt_of_rowAt x1)).trans x1
        have bW2 := below_past bW b2 bW.size
        have bW3 := bW2.alloc bW2.size (.cells #[.string ⟨#[]⟩, .string ⟨#[]⟩, .int .i64 0] 37)
        have hR3 := (hR.below b2).below ((Below.refl _ _).alloc (Nat.le_refl _) (.cells #[.string ⟨#[]⟩, .string ⟨#[]⟩, .int .i64 0] 37))
        clear x0 x1 r0 r1 bW bW2 hR b2
        have r0 := t0
        have r1 := t1
        have bW := bW3
        have hR := hR3
        clear t0 t1 bW3 hR3
        have c0 := (cell_of_rowAt r0 0).trans (rfl : _ = some (Value.int .i64 room))
        have c1 := (cell_of_rowAt r0 1).trans (rfl : _ = some (Value.int .i64 fuse))
        have c2 := (cell_of_rowAt r0 2).trans (rfl : _ = some (Value.bool false))
        have c3 := (cell_of_rowAt r0 3).trans (rfl : _ = some (Value.slice ao n cap))
        have p0 := (cell_of_rowAt r1 0).trans (rfl : _ = some (Value.int .i64 0))
        have p1 := (cell_of_rowAt r1 1).trans (rfl : _ = some (Value.int .i64 0))
        have p2 := (cell_of_rowAt r1 2).trans (rfl : _ = some (Value.bool false))
        have p3 := (cell_of_rowAt r1 3).trans (rfl : _ = some (Value.slice none 0 0))
        have e0 := frozen_of_rowAt r1 0
        have e1 := frozen_of_rowAt r1 1
        have e2 := frozen_of_rowAt r1 2
        have e3 := frozen_of_rowAt r1 3
        have HR1 := Lib.hid r1
        have HRF := Lib.hid hR
        have HBB := Lib.hid bW
        clear r0 r1 hR bW
        go_wp2_with fail
        have rr := rowAt_setCell_same (rowAt_setCell_same (rowAt_setCell_same (rowAt_setCell_same HR1.out 0 (.int .i64 room)) 1 (.int .i64 fuse)) 2 (.bool false)) 3 (.slice ao n cap)
        have bb := (((HBB.out.setCell (p := ⟨w.heap.size + 1, 0, none⟩) (Nat.le_succ w.heap.size) (.int .i64 room)).setCell (p := ⟨w.heap.size + 1, 1, none⟩) (Nat.le_succ w.heap.size) (.int .i64 fuse)).setCell (p := ⟨w.heap.size + 1, 2, none⟩) (Nat.le_succ w.heap.size) (.bool false)).setCell (p := ⟨w.heap.size + 1, 3, none⟩) (Nat.le_succ w.heap.size) (.slice ao n cap)
        have fR := RFiles.set4 (z := room) HRF.out HR1.out (.int .i64 fuse) (.bool false) (.slice ao n cap)
        refine bodyPost_ret (results_row_tmp rfl _ _ _ _ _ rfl rr Try.underlying27 rfl (by kernel_rfl)) rfl ?_
        exact ⟨.slice ao n cap, rfl, fR, bb⟩
    · have hfe : findE ⟨room, fuse, false, fs⟩ nm = 0 := by unfold findE; simp [hq]
      have HQ := Lib.hid hq
      by_cases hgd : dGood q
      · have HG : ∀ W, Hid (Calls Try.prog 37 #[.string (stx q)] W fun e w' => e = .returned (.bool true) ∧ w' = W) := fun W => Lib.hid (by
          have := r5good_any (stx q) W
          rwa [show decide (0 < (stx q).size ∧ (stx q).size ≤ 100) = true from decide_eq_true (by rw [stx_size]; exact hgd)] at this)
        have hbad : ¬ ((⟨room, fuse, false, fs⟩ : DDisk).dead = false ∧ ¬ dGood q) := fun e => e.2 hgd
        by_cases hz : fuse = 0
        · obtain ⟨hd1, hd2⟩ := deed_die room fuse fs hz
          rw [show reD ⟨room, fuse, false, fs⟩ nm q = ⟨room, fuse, true, fs⟩ from by unfold reD; rw [if_neg hbad, if_pos hfe, hd1, hd2, if_neg (by decide)], show reE ⟨room, fuse, false, fs⟩ nm q = 10 from by unfold reE; rw [if_neg hbad, if_pos hfe, hd2]]
          have HD := Lib.hid (deed_call room fuse fs ao n cap _ _ hf hd1 hd2)
          clear hfe hq hz hd1 hd2 hgd hbad
          go_enter Try.func22, Try.ntmps22
          go_wp2_with fail
          generalize (w.alloc (.cells #[.int .i64 room, .int .i64 fuse, .bool false, .slice ao n cap] 27)).alloc (.cells #[.int .i64 0, .int .i64 0, .bool false, .slice none 0 0] 27) = W at *
          clear hRA bA
          have c0 := (cell_of_rowAt r0 0).trans (rfl : _ = some (Value.int .i64 room))
          have c1 := (cell_of_rowAt r0 1).trans (rfl : _ = some (Value.int .i64 fuse))
          have c2 := (cell_of_rowAt r0 2).trans (rfl : _ = some (Value.bool false))
          have c3 := (cell_of_rowAt r0 3).trans (rfl : _ = some (Value.slice ao n cap))
          have HF := Lib.hid (r5Find_any ⟨room, fuse, false, fs⟩ (.slice ao n cap) nm W hR (by show fs.length ≤ 1000000; rw [HN.out]; exact hl))
          unfold diskC at HF
          go_wp2_with fail
          refine HF.out.mono ?_
          rintro e w2 ⟨rfl, b2⟩
          dsimp only
          clear c0 c1 c2 c3 HF
          rw [HQ.out]
          unfold foundV fileC
          have x0 := rowAt_past b2 r0
          have x1 := rowAt_past b2 r1
          have t0 := (rowAt_alloc_past w2 (.cells #[.string (stx f.name), .string (stx f.bytes), .int .i64 f.sure] 37) _ (lt_of_rowAt x0)).trans x0
          have t1 := (rowAt_alloc_past w2 (.cells #[.string (stx f.name), .string (stx f.bytes), .int .i64 f.sure] 37) _ (lt_of_rowAt x1)).trans x1
          have rF := rowAt_alloc_at w2 #[.string (stx f.name), .string (stx f.bytes), .int .i64 f.sure] 37 w2.heap.size rfl
          have bW2 := below_past bW b2 bW.size
          have bW3 := bW2.alloc bW2.size (.cells #[.string (stx f.name), .string (stx f.bytes), .int .i64 f.sure] 37)
          have hR3 := (hR.below b2).below ((Below.refl _ _).alloc (Nat.le_refl _) (.cells #[.string (stx f.name), .string (stx f.bytes), .int .i64 f.sure] 37))
          have hgt := lt_of_rowAt x1
          have HLT := Lib.hid ((hR.below b2).block)
          have c0 := (cell_of_rowAt t0 0).trans (rfl : _ = some (Value.int .i64 room))
          have c1 := (cell_of_rowAt t0 1).trans (rfl : _ = some (Value.int .i64 fuse))
          have c2 := (cell_of_rowAt t0 2).trans (rfl : _ = some (Value.bool false))
          have c3 := (cell_of_rowAt t0 3).trans (rfl : _ = some (Value.slice ao n cap))
          clear x0 x1 r0 r1 bW bW2 hR b2
          go_wp2_with fail
          refine (HG _).out.mono ?_
          rintro e w3 ⟨rfl, rfl⟩
          go_wp2_with fail
          generalize w2.heap.size = gF at *
          generalize w2.alloc (.cells #[.string (stx f.name), .string (stx f.bytes), .int .i64 f.sure] 37) = W3 at *
          clear c0 c1 c2 c3
          refine (HD.out W3).mono ?_
          rintro e w4 ⟨rfl, b4⟩
          have r0 := rowAt_past b4 t0
          have r1 := rowAt_past b4 t1
          have rf := rowAt_past b4 rF
          have bW := below_past bW3 b4 bW3.size
          have hR := hR3.below b4
          clear t0 t1 rF bW3 hR3 b4
          have c0 := (cell_of_rowAt r0 0).trans (rfl : _ = some (Value.int .i64 room))
          have c1 := (cell_of_rowAt r0 1).trans (rfl : _ = some (Value.int .i64 fuse))
          have c2 := (cell_of_rowAt r0 2).trans (rfl : _ = some (Value.bool false))
          have c3 := (cell_of_rowAt r0 3).trans (rfl : _ = some (Value.slice ao n cap))
          have o0 := frozen_of_rowAt r0 0
          have o1 := frozen_of_rowAt r0 1
          have o2 := frozen_of_rowAt r0 2
          have o3 := frozen_of_rowAt r0 3
          have k0 := (cell_of_rowAt rf 0).trans (rfl : _ = some (Value.string (stx f.name)))
          have k1 := (cell_of_rowAt rf 1).trans (rfl : _ = some (Value.string (stx f.bytes)))
          have k2 := (cell_of_rowAt rf 2).trans (rfl : _ = some (Value.int .i64 f.sure))
          have l0 := frozen_of_rowAt rf 0
          have l1 := frozen_of_rowAt rf 1
          have l2 := frozen_of_rowAt rf 2
          have s0 := rowAt_setCell_same (rowAt_setCell_same (rowAt_setCell_same (rowAt_setCell_same r0 0 (.int .i64 room)) 1 (.int .i64 fuse)) 2 (.bool true)) 3 (.slice ao n cap)
          have hn1 : w.heap.size + 1 ≠ w.heap.size := by omega
          have hn2 : gF ≠ w.heap.size := by omega
          have s1 := (rowAt_setCell_other _ ⟨w.heap.size, 3, none⟩ _ (.slice ao n cap) hn1).trans ((rowAt_setCell_other _ ⟨w.heap.size, 2, none⟩ _ (.bool true) hn1).trans ((rowAt_setCell_other _ ⟨w.heap.size, 1, none⟩ _ (.int .i64 fuse) hn1).trans ((rowAt_setCell_other w4 ⟨w.heap.size, 0, none⟩ _ (.int .i64 room) hn1).trans r1)))
          have sF := (rowAt_setCell_other _ ⟨w.heap.size, 3, none⟩ _ (.slice ao n cap) hn2).trans ((rowAt_setCell_other _ ⟨w.heap.size, 2, none⟩ _ (.bool true) hn2).trans ((rowAt_setCell_other _ ⟨w.heap.size, 1, none⟩ _ (.int .i64 fuse) hn2).trans ((rowAt_setCell_other w4 ⟨w.heap.size, 0, none⟩ _ (.int .i64 room) hn2).trans rf)))
          have bS := (((bW.setCell (p := ⟨w.heap.size, 0, none⟩) (Nat.le_refl w.heap.size) (.int .i64 room)).setCell (p := ⟨w.heap.size, 1, none⟩) (Nat.le_refl w.heap.size) (.int .i64 fuse)).setCell (p := ⟨w.heap.size, 2, none⟩) (Nat.le_refl w.heap.size) (.bool true)).setCell (p := ⟨w.heap.size, 3, none⟩) (Nat.le_refl w.heap.size) (.slice ao n cap)
          have hS := RFiles.set4 (z := room) hR r0 (.int .i64 fuse) (.bool true) (.slice ao n cap)
          have p0 := (cell_of_rowAt r1 0).trans (rfl : _ = some (Value.int .i64 0))
          have p1 := (cell_of_rowAt r1 1).trans (rfl : _ = some (Value.int .i64 0))
          have p2 := (cell_of_rowAt r1 2).trans (rfl : _ = some (Value.bool false))
          have p3 := (cell_of_rowAt r1 3).trans (rfl : _ = some (Value.slice none 0 0))
          have e0 := frozen_of_rowAt r1 0
          have e1 := frozen_of_rowAt r1 1
          have e2 := frozen_of_rowAt r1 2
          have e3 := frozen_of_rowAt r1 3
          have HS1 := Lib.hid s1
          have HRS := Lib.hid hS
          have HBS := Lib.hid bS
          clear r0 r1 rf bW hR s0 s1 sF bS hS
          go_wp2_with fail
          have rr := rowAt_setCell_same (rowAt_setCell_same (rowAt_setCell_same (rowAt_setCell_same HS1.out 0 (.int .i64 room)) 1 (.int .i64 fuse)) 2 (.bool true)) 3 (.slice ao n cap)
          have bb := (((HBS.out.setCell (p := ⟨w.heap.size + 1, 0, none⟩) (Nat.le_succ w.heap.size) (.int .i64 room)).setCell (p := ⟨w.heap.size + 1, 1, none⟩) (Nat.le_succ w.heap.size) (.int .i64 fuse)).setCell (p := ⟨w.heap.size + 1, 2, none⟩) (Nat.le_succ w.heap.size) (.bool true)).setCell (p := ⟨w.heap.size + 1, 3, none⟩) (Nat.le_succ w.heap.size) (.slice ao n cap)
          have fR := RFiles.set4 (z := room) HRS.out HS1.out (.int .i64 fuse) (.bool true) (.slice ao n cap)
          refine bodyPost_ret (results_row_tmp rfl _ _ _ _ _ rfl rr Try.underlying27 rfl (by kernel_rfl)) rfl ?_
          exact ⟨.slice ao n cap, rfl, fR, bb⟩
        · obtain ⟨F, hd1, hd2⟩ := deed_live room fuse fs hz
          rw [show reD ⟨room, fuse, false, fs⟩ nm q = ⟨room, F, false, dPut ⟨q, f.bytes, f.sure⟩ (dDrop fs nm)⟩ from by unfold reD dRenF; rw [if_neg hbad, if_pos hfe, hd1, hd2, if_pos rfl, dBytes_some hq, show dSure fs nm = f.sure from by unfold dSure; rw [hq]], show reE ⟨room, fuse, false, fs⟩ nm q = 0 from by unfold reE; rw [if_neg hbad, if_pos hfe, hd2]]
          have HD := Lib.hid (deed_call room fuse fs ao n cap _ _ hf hd1 hd2)
          clear hfe hq hz hd1 hd2 hgd hbad
          go_enter Try.func22, Try.ntmps22
          go_wp2_with fail
          generalize (w.alloc (.cells #[.int .i64 room, .int .i64 fuse, .bool false, .slice ao n cap] 27)).alloc (.cells #[.int .i64 0, .int .i64 0, .bool false, .slice none 0 0] 27) = W at *
          clear hRA bA
          have c0 := (cell_of_rowAt r0 0).trans (rfl : _ = some (Value.int .i64 room))
          have c1 := (cell_of_rowAt r0 1).trans (rfl : _ = some (Value.int .i64 fuse))
          have c2 := (cell_of_rowAt r0 2).trans (rfl : _ = some (Value.bool false))
          have c3 := (cell_of_rowAt r0 3).trans (rfl : _ = some (Value.slice ao n cap))
          have HF := Lib.hid (r5Find_any ⟨room, fuse, false, fs⟩ (.slice ao n cap) nm W hR (by show fs.length ≤ 1000000; rw [HN.out]; exact hl))
          unfold diskC at HF
          go_wp2_with fail
          refine HF.out.mono ?_
          rintro e w2 ⟨rfl, b2⟩
          dsimp only
          clear c0 c1 c2 c3 HF
          rw [HQ.out]
          unfold foundV fileC
          have x0 := rowAt_past b2 r0
          have x1 := rowAt_past b2 r1
          have t0 := (rowAt_alloc_past w2 (.cells #[.string (stx f.name), .string (stx f.bytes), .int .i64 f.sure] 37) _ (lt_of_rowAt x0)).trans x0
          have t1 := (rowAt_alloc_past w2 (.cells #[.string (stx f.name), .string (stx f.bytes), .int .i64 f.sure] 37) _ (lt_of_rowAt x1)).trans x1
          have rF := rowAt_alloc_at w2 #[.string (stx f.name), .string (stx f.bytes), .int .i64 f.sure] 37 w2.heap.size rfl
          have bW2 := below_past bW b2 bW.size
          have bW3 := bW2.alloc bW2.size (.cells #[.string (stx f.name), .string (stx f.bytes), .int .i64 f.sure] 37)
          have hR3 := (hR.below b2).below ((Below.refl _ _).alloc (Nat.le_refl _) (.cells #[.string (stx f.name), .string (stx f.bytes), .int .i64 f.sure] 37))
          have hgt := lt_of_rowAt x1
          have HLT := Lib.hid ((hR.below b2).block)
          have c0 := (cell_of_rowAt t0 0).trans (rfl : _ = some (Value.int .i64 room))
          have c1 := (cell_of_rowAt t0 1).trans (rfl : _ = some (Value.int .i64 fuse))
          have c2 := (cell_of_rowAt t0 2).trans (rfl : _ = some (Value.bool false))
          have c3 := (cell_of_rowAt t0 3).trans (rfl : _ = some (Value.slice ao n cap))
          clear x0 x1 r0 r1 bW bW2 hR b2
          go_wp2_with fail
          refine (HG _).out.mono ?_
          rintro e w3 ⟨rfl, rfl⟩
          go_wp2_with fail
          generalize w2.heap.size = gF at *
          generalize w2.alloc (.cells #[.string (stx f.name), .string (stx f.bytes), .int .i64 f.sure] 37) = W3 at *
          clear c0 c1 c2 c3
          refine (HD.out W3).mono ?_
          rintro e w4 ⟨rfl, b4⟩
          have r0 := rowAt_past b4 t0
          have r1 := rowAt_past b4 t1
          have rf := rowAt_past b4 rF
          have bW := below_past bW3 b4 bW3.size
          have hR := hR3.below b4
          clear t0 t1 rF bW3 hR3 b4
          have c0 := (cell_of_rowAt r0 0).trans (rfl : _ = some (Value.int .i64 room))
          have c1 := (cell_of_rowAt r0 1).trans (rfl : _ = some (Value.int .i64 fuse))
          have c2 := (cell_of_rowAt r0 2).trans (rfl : _ = some (Value.bool false))
          have c3 := (cell_of_rowAt r0 3).trans (rfl : _ = some (Value.slice ao n cap))
          have o0 := frozen_of_rowAt r0 0
          have o1 := frozen_of_rowAt r0 1
          have o2 := frozen_of_rowAt r0 2
          have o3 := frozen_of_rowAt r0 3
          have k0 := (cell_of_rowAt rf 0).trans (rfl : _ = some (Value.string (stx f.name)))
          have k1 := (cell_of_rowAt rf 1).trans (rfl : _ = some (Value.string (stx f.bytes)))
          have k2 := (cell_of_rowAt rf 2).trans (rfl : _ = some (Value.int .i64 f.sure))
          have l0 := frozen_of_rowAt rf 0
          have l1 := frozen_of_rowAt rf 1
          have l2 := frozen_of_rowAt rf 2
          have s0 := rowAt_setCell_same (rowAt_setCell_same (rowAt_setCell_same (rowAt_setCell_same r0 0 (.int .i64 room)) 1 (.int .i64 F)) 2 (.bool false)) 3 (.slice ao n cap)
          have hn1 : w.heap.size + 1 ≠ w.heap.size := by omega
          have hn2 : gF ≠ w.heap.size := by omega
          have s1 := (rowAt_setCell_other _ ⟨w.heap.size, 3, none⟩ _ (.slice ao n cap) hn1).trans ((rowAt_setCell_other _ ⟨w.heap.size, 2, none⟩ _ (.bool false) hn1).trans ((rowAt_setCell_other _ ⟨w.heap.size, 1, none⟩ _ (.int .i64 F) hn1).trans ((rowAt_setCell_other w4 ⟨w.heap.size, 0, none⟩ _ (.int .i64 room) hn1).trans r1)))
          have sF := (rowAt_setCell_other _ ⟨w.heap.size, 3, none⟩ _ (.slice ao n cap) hn2).trans ((rowAt_setCell_other _ ⟨w.heap.size, 2, none⟩ _ (.bool false) hn2).trans ((rowAt_setCell_other _ ⟨w.heap.size, 1, none⟩ _ (.int .i64 F) hn2).trans ((rowAt_setCell_other w4 ⟨w.heap.size, 0, none⟩ _ (.int .i64 room) hn2).trans rf)))
          have bS := (((bW.setCell (p := ⟨w.heap.size, 0, none⟩) (Nat.le_refl w.heap.size) (.int .i64 room)).setCell (p := ⟨w.heap.size, 1, none⟩) (Nat.le_refl w.heap.size) (.int .i64 F)).setCell (p := ⟨w.heap.size, 2, none⟩) (Nat.le_refl w.heap.size) (.bool false)).setCell (p := ⟨w.heap.size, 3, none⟩) (Nat.le_refl w.heap.size) (.slice ao n cap)
          have hS := RFiles.set4 (z := room) hR r0 (.int .i64 F) (.bool false) (.slice ao n cap)
          have HKF := Lib.hid (rowAt_setCell_same sF 0 (.string (stx q)))
          have s0' : rowAt ((((w4.setCell ⟨w.heap.size, 0, none⟩ (.int .i64 room)).setCell ⟨w.heap.size, 1, none⟩ (.int .i64 F)).setCell ⟨w.heap.size, 2, none⟩ (.bool false)).setCell ⟨w.heap.size, 3, none⟩ (.slice ao n cap)) w.heap.size = some #[.int .i64 room, .int .i64 F, .bool false, .slice ao n cap] := s0
          have hgF1 : w.heap.size + 1 ≠ gF := by omega
          have hgF0 : w.heap.size ≠ gF := by omega
          have hgFl : w.heap.size ≤ gF := by omega
          have HK0 := Lib.hid ((rowAt_setCell_other _ ⟨gF, 0, none⟩ _ (.string (stx q)) hgF0).trans s0')
          have HK1 := Lib.hid ((rowAt_setCell_other _ ⟨gF, 0, none⟩ _ (.string (stx q)) hgF1).trans s1)
          have HRS := Lib.hid (hS.set' HLT.out 0 (.string (stx q)))
          have HBS := Lib.hid (bS.setCell (p := ⟨gF, 0, none⟩) hgFl (.string (stx q)))
          clear r0 r1 rf bW hR s0 s0' s1 sF bS hS
          go_wp2_with fail
          generalize ((((w4.setCell ⟨w.heap.size, 0, none⟩ (.int .i64 room)).setCell ⟨w.heap.size, 1, none⟩ (.int .i64 F)).setCell ⟨w.heap.size, 2, none⟩ (.bool false)).setCell ⟨w.heap.size, 3, none⟩ (.slice ao n cap)).setCell ⟨gF, 0, none⟩ (.string (stx q)) = W5 at *
          clear c0 c1 c2 c3 o0 o1 o2 o3 k0 k1 k2 l0 l1 l2
          have b5 : Below W5.heap.size W5 W5.drew := (Below.refl _ _).drew
          have r0 := rowAt_past b5 HK0.out
          have r1 := rowAt_past b5 HK1.out
          have rF := (rowAt_past b5 HKF.out).trans (show _ = some #[.string (stx q), .string (stx f.bytes), .int .i64 f.sure] from rfl)
          have c0 := (cell_of_rowAt r0 0).trans (rfl : _ = some (Value.int .i64 room))
          have c1 := (cell_of_rowAt r0 1).trans (rfl : _ = some (Value.int .i64 F))
          have c2 := (cell_of_rowAt r0 2).trans (rfl : _ = some (Value.bool false))
          have c3 := (cell_of_rowAt r0 3).trans (rfl : _ = some (Value.slice ao n cap))
          have k0 := (cell_of_rowAt rF 0).trans (rfl : _ = some (Value.string (stx q)))
          have k1 := (cell_of_rowAt rF 1).trans (rfl : _ = some (Value.string (stx f.bytes)))
          have k2 := (cell_of_rowAt rF 2).trans (rfl : _ = some (Value.int .i64 f.sure))
          have HDR := Lib.hid (r5Drop_any ⟨room, F, false, fs⟩ (.slice ao n cap) nm W5.drew (HRS.out.below b5) (by show fs.length ≤ 1000000; rw [HN.out]; exact hl))
          have HDL : Hid ((dDrop fs nm).length ≤ 1000000) := Lib.hid (by unfold dDrop; exact Nat.le_trans (List.length_filter_le _ _) (by rw [HN.out]; exact hl))
          have HB0 := Lib.hid (below_past HBS.out b5 HBS.out.size)
          have HR0 := Lib.hid r0
          have HR1 := Lib.hid r1
          have HRF := Lib.hid rF
          obtain ⟨fs2, hfs2⟩ : ∃ fs2, dDrop fs nm = fs2 := ⟨_, rfl⟩
          dsimp only at HDR
          rw [hfs2] at HDR HDL ⊢
          unfold diskC at HDR
          have HFS := Lib.hid hfs2
          clear hfs2 HK0 HK1 HKF HRS HBS b5 r0 r1 rF HG HD HQ HLT hn1 hn2 hgF1 hgF0 hgFl
          go_region_with (first
            | (go_at_call 41
               refine HDR.out.mono ?_
               rintro e w6 ⟨v6, rfl, o6, b6⟩
               obtain ⟨A6, c6, rfl⟩ := own_shapeF o6
               have d0 := (cell_of_rowAt (rowAt_past b6 HRF.out) 0).trans (rfl : _ = some (Value.string (stx q)))
               have d1 := (cell_of_rowAt (rowAt_past b6 HRF.out) 1).trans (rfl : _ = some (Value.string (stx f.bytes)))
               have d2 := (cell_of_rowAt (rowAt_past b6 HRF.out) 2).trans (rfl : _ = some (Value.int .i64 f.sure))
               have HB6 := Lib.hid (below_past HB0.out b6 HB0.out.size)
               have H60 := Lib.hid (rowAt_past b6 HR0.out)
               have H61 := Lib.hid (rowAt_past b6 HR1.out)
               have HO6 := Lib.hid o6
               clear b6 o6 c0 c1 c2 c3 k0 k1 k2
               dsimp only)
            | (go_at_call 39
               refine (r5Put_any ⟨room, F, false, fs2⟩ (.slice A6 fs2.length c6) ⟨q, f.bytes, f.sure⟩ w6 HO6.out.lie HDL.out).mono ?_
               rintro e w7 ⟨v7, rfl, o7, b7⟩
               obtain ⟨A7, c7, rfl⟩ := own_shapeF o7
               have r0 := rowAt_past b7 H60.out
               have r1 := rowAt_past b7 H61.out
               have bW := below_past HB6.out b7 HB6.out.size
               have hR := o7.lie
               unfold diskC
               clear H60 H61 HB6 HO6 HDL HDR HB0 HR0 HR1 HRF o7 b7 d0 d1 d2
               dsimp only
               generalize (dPut ⟨q, f.bytes, f.sure⟩ fs2).length = m7 at *
               have c0 := (cell_of_rowAt r0 0).trans (rfl : _ = some (Value.int .i64 room))
               have c1 := (cell_of_rowAt r0 1).trans (rfl : _ = some (Value.int .i64 F))
               have c2 := (cell_of_rowAt r0 2).trans (rfl : _ = some (Value.bool false))
               have c3 := (cell_of_rowAt r0 3).trans (rfl : _ = some (Value.slice ao n cap))
               have o0 := frozen_of_rowAt r0 0
               have o1 := frozen_of_rowAt r0 1
               have o2 := frozen_of_rowAt r0 2
               have o3 := frozen_of_rowAt r0 3
               have hn1 : w.heap.size + 1 ≠ w.heap.size := by omega
               have s1 := (rowAt_setCell_other _ ⟨w.heap.size, 3, none⟩ _ (.slice A7 m7 c7) hn1).trans ((rowAt_setCell_other _ ⟨w.heap.size, 2, none⟩ _ (.bool false) hn1).trans ((rowAt_setCell_other _ ⟨w.heap.size, 1, none⟩ _ (.int .i64 F) hn1).trans ((rowAt_setCell_other w7 ⟨w.heap.size, 0, none⟩ _ (.int .i64 room) hn1).trans r1)))
               have bS := (((bW.setCell (p := ⟨w.heap.size, 0, none⟩) (Nat.le_refl w.heap.size) (.int .i64 room)).setCell (p := ⟨w.heap.size, 1, none⟩) (Nat.le_refl w.heap.size) (.int .i64 F)).setCell (p := ⟨w.heap.size, 2, none⟩) (Nat.le_refl w.heap.size) (.bool false)).setCell (p := ⟨w.heap.size, 3, none⟩) (Nat.le_refl w.heap.size) (.slice A7 m7 c7)
               have hS := RFiles.set4 (z := room) hR r0 (.int .i64 F) (.bool false) (.slice A7 m7 c7)
               have p0 := (cell_of_rowAt r1 0).trans (rfl : _ = some (Value.int .i64 0))
               have p1 := (cell_of_rowAt r1 1).trans (rfl : _ = some (Value.int .i64 0))
               have p2 := (cell_of_rowAt r1 2).trans (rfl : _ = some (Value.bool false))
               have p3 := (cell_of_rowAt r1 3).trans (rfl : _ = some (Value.slice none 0 0))
               have e0 := frozen_of_rowAt r1 0
               have e1 := frozen_of_rowAt r1 1
               have e2 := frozen_of_rowAt r1 2
               have e3 := frozen_of_rowAt r1 3
               have HS1 := Lib.hid s1
               have HRS := Lib.hid hS
               have HBS := Lib.hid bS
               clear r0 r1 bW hR s1 bS hS
               skip))
          all_goals
            go_wp2_with fail
            have efs := HFS.out
            subst efs
            have rr := rowAt_setCell_same (rowAt_setCell_same (rowAt_setCell_same (rowAt_setCell_same HS1.out 0 (.int .i64 room)) 1 (.int .i64 F)) 2 (.bool false)) 3 (.slice A7 m7 c7)
            have bb := (((HBS.out.setCell (p := ⟨w.heap.size + 1, 0, none⟩) (Nat.le_succ w.heap.size) (.int .i64 room)).setCell (p := ⟨w.heap.size + 1, 1, none⟩) (Nat.le_succ w.heap.size) (.int .i64 F)).setCell (p := ⟨w.heap.size + 1, 2, none⟩) (Nat.le_succ w.heap.size) (.bool false)).setCell (p := ⟨w.heap.size + 1, 3, none⟩) (Nat.le_succ w.heap.size) (.slice A7 m7 c7)
            have fR := RFiles.set4 (z := room) HRS.out HS1.out (.int .i64 F) (.bool false) (.slice A7 m7 c7)
            refine bodyPost_ret (results_row_tmp rfl _ _ _ _ _ rfl rr Try.underlying27 rfl (by kernel_rfl)) rfl ?_
            exact ⟨.slice A7 m7 c7, rfl, fR, bb⟩
      · have HG : ∀ W, Hid (Calls Try.prog 37 #[.string (stx q)] W fun e w' => e = .returned (.bool false) ∧ w' = W) := fun W => Lib.hid (by
          have := r5good_any (stx q) W
          rwa [show decide (0 < (stx q).size ∧ (stx q).size ≤ 100) = false from decide_eq_false (by rw [stx_size]; exact hgd)] at this)
        rw [show reD ⟨room, fuse, false, fs⟩ nm q = ⟨room, fuse, false, fs⟩ from by unfold reD; rw [if_pos ⟨rfl, hgd⟩], show reE ⟨room, fuse, false, fs⟩ nm q = 1 from by unfold reE; rw [if_pos ⟨rfl, hgd⟩]]
        clear hgd hfe hq
        go_enter Try.func22, Try.ntmps22
        go_wp2_with fail
        generalize (w.alloc (.cells #[.int .i64 room, .int .i64 fuse, .bool false, .slice ao n cap] 27)).alloc (.cells #[.int .i64 0, .int .i64 0, .bool false, .slice none 0 0] 27) = W at *
        clear hRA bA
        have c0 := (cell_of_rowAt r0 0).trans (rfl : _ = some (Value.int .i64 room))
        have c1 := (cell_of_rowAt r0 1).trans (rfl : _ = some (Value.int .i64 fuse))
        have c2 := (cell_of_rowAt r0 2).trans (rfl : _ = some (Value.bool false))
        have c3 := (cell_of_rowAt r0 3).trans (rfl : _ = some (Value.slice ao n cap))
        have HF := Lib.hid (r5Find_any ⟨room, fuse, false, fs⟩ (.slice ao n cap) nm W hR (by show fs.length ≤ 1000000; rw [HN.out]; exact hl))
        unfold diskC at HF
        go_wp2_with fail
        refine HF.out.mono ?_
        rintro e w2 ⟨rfl, b2⟩
        dsimp only
        clear c0 c1 c2 c3 HF
        rw [HQ.out]
        unfold foundV fileC
        have x0 := rowAt_past b2 r0
        have x1 := rowAt_past b2 r1
        have t0 := (rowAt_alloc_past w2 (.cells #[.string (stx f.name), .string (stx f.bytes), .int .i64 f.sure] 37) _ (lt_of_rowAt x0)).trans x0
        have t1 := (rowAt_alloc_past w2 (.cells #[.string (stx f.name), .string (stx f.bytes), .int .i64 f.sure] 37) _ (lt_of_rowAt x1)).trans x1
        have rF := rowAt_alloc_at w2 #[.string (stx f.name), .string (stx f.bytes), .int .i64 f.sure] 37 w2.heap.size rfl
        have bW2 := below_past bW b2 bW.size
        have bW3 := bW2.alloc bW2.size (.cells #[.string (stx f.name), .string (stx f.bytes), .int .i64 f.sure] 37)
        have hR3 := (hR.below b2).below ((Below.refl _ _).alloc (Nat.le_refl _) (.cells #[.string (stx f.name), .string (stx f.bytes), .int .i64 f.sure] 37))
        have hgt := lt_of_rowAt x1
        have HLT := Lib.hid ((hR.below b2).block)
        have c0 := (cell_of_rowAt t0 0).trans (rfl : _ = some (Value.int .i64 room))
        have c1 := (cell_of_rowAt t0 1).trans (rfl : _ = some (Value.int .i64 fuse))
        have c2 := (cell_of_rowAt t0 2).trans (rfl : _ = some (Value.bool false))
        have c3 := (cell_of_rowAt t0 3).trans (rfl : _ = some (Value.slice ao n cap))
        clear x0 x1 r0 r1 bW bW2 hR b2
        go_wp2_with fail
        refine (HG _).out.mono ?_
        rintro e w3 ⟨rfl, rfl⟩
        have r0 := t0
        have r1 := t1
        have bW := bW3
        have hR := hR3
        clear t0 t1 bW3 hR3 rF c0 c1 c2 c3 hgt HLT
        have c0 := (cell_of_rowAt r0 0).trans (rfl : _ = some (Value.int .i64 room))
        have c1 := (cell_of_rowAt r0 1).trans (rfl : _ = some (Value.int .i64 fuse))
        have c2 := (cell_of_rowAt r0 2).trans (rfl : _ = some (Value.bool false))
        have c3 := (cell_of_rowAt r0 3).trans (rfl : _ = some (Value.slice ao n cap))
        have p0 := (cell_of_rowAt r1 0).trans (rfl : _ = some (Value.int .i64 0))
        have p1 := (cell_of_rowAt r1 1).trans (rfl : _ = some (Value.int .i64 0))
        have p2 := (cell_of_rowAt r1 2).trans (rfl : _ = some (Value.bool false))
        have p3 := (cell_of_rowAt r1 3).trans (rfl : _ = some (Value.slice none 0 0))
        have e0 := frozen_of_rowAt r1 0
        have e1 := frozen_of_rowAt r1 1
        have e2 := frozen_of_rowAt r1 2
        have e3 := frozen_of_rowAt r1 3
        have HR1 := Lib.hid r1
        have HRF := Lib.hid hR
        have HBB := Lib.hid bW
        clear r0 r1 hR bW
        go_wp2_with fail
        have rr := rowAt_setCell_same (rowAt_setCell_same (rowAt_setCell_same (rowAt_setCell_same HR1.out 0 (.int .i64 room)) 1 (.int .i64 fuse)) 2 (.bool false)) 3 (.slice ao n cap)
        have bb := (((HBB.out.setCell (p := ⟨w.heap.size + 1, 0, none⟩) (Nat.le_succ w.heap.size) (.int .i64 room)).setCell (p := ⟨w.heap.size + 1, 1, none⟩) (Nat.le_succ w.heap.size) (.int .i64 fuse)).setCell (p := ⟨w.heap.size + 1, 2, none⟩) (Nat.le_succ w.heap.size) (.bool false)).setCell (p := ⟨w.heap.size + 1, 3, none⟩) (Nat.le_succ w.heap.size) (.slice ao n cap)
        have fR := RFiles.set4 (z := room) HRF.out HR1.out (.int .i64 fuse) (.bool false) (.slice ao n cap)
        refine bodyPost_ret (results_row_tmp rfl _ _ _ _ _ rfl rr Try.underlying27 rfl (by kernel_rfl)) rfl ?_
        exact ⟨.slice ao n cap, rfl, fR, bb⟩
end Go.Proofs.Ytlnijckgnchpbaa
