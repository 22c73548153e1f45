/- The document's disk: a file is made sure. Conditions: none. -/
import Derived.Test.YtlnijckgnchpbaaPlays7
namespace Go.Proofs.Ytlnijckgnchpbaa
open Go Go.RowKit Go.Maps
attribute [local go_sem] Oper.semAt_some

set_option maxRecDepth 100000 in
set_option maxHeartbeats 2000000 in
theorem r5Sync_any (d : DDisk) (v : Value) (nm : List UInt8) (w : World) (h : RFiles w v d.files) (hl : d.files.length ≤ 1000000) (hf : -9223372036854775808 ≤ d.fuse ∧ d.fuse ≤ 9223372036854775807) :
    Calls Try.prog 20 #[.agg (diskC d v), .string (stx nm)] w (R5Post (sD d nm) (sE d nm) w) := by
  obtain ⟨⟨ao, cap, rfl, hc⟩, -⟩ := id h
  obtain ⟨room, fuse, dead, fs⟩ := d
  dsimp only at h hl hf hc ⊢
  obtain ⟨n, hn⟩ : ∃ n, fs.length = n := ⟨_, rfl⟩
  have HN := Lib.hid hn
  rw [hn] at h hl
  rw [hn]
  unfold diskC
  have bW : Below w.heap.size w ((w.alloc (.cells #[.int .i64 room, .int .i64 fuse, .bool dead, .slice ao n cap] 27)).alloc (.cells #[.int .i64 0, .int .i64 0, .bool false, .slice none 0 0] 27)) := ((Below.refl _ _).alloc (Nat.le_refl _) _).alloc (by simp only [World.size_alloc]; omega) _
  have r0 : rowAt ((w.alloc (.cells #[.int .i64 room, .int .i64 fuse, .bool dead, .slice ao n cap] 27)).alloc (.cells #[.int .i64 0, .int .i64 0, .bool false, .slice none 0 0] 27)) w.heap.size = some #[.int .i64 room, .int .i64 fuse, .bool dead, .slice ao n cap] := (rowAt_alloc_past _ _ _ (by simp only [World.size_alloc]; omega)).trans (rowAt_alloc_at _ _ _ _ rfl)
  have r1 : rowAt ((w.alloc (.cells #[.int .i64 room, .int .i64 fuse, .bool dead, .slice ao n cap] 27)).alloc (.cells #[.int .i64 0, .int .i64 0, .bool false, .slice none 0 0] 27)) (w.heap.size + 1) = some #[.int .i64 0, .int .i64 0, .bool false, .slice none 0 0] := rowAt_alloc_at _ _ _ _ (by simp only [World.size_alloc])
  have hR := h.below bW
  have bA : Below w.heap.size w ((w.alloc (.cells #[.int .i64 room, .int .i64 fuse, .bool dead, .slice ao n cap] 27)).alloc (.cells #[.int .i64 room, .int .i64 fuse, .bool dead, .slice ao n cap] 27)) := ((Below.refl _ _).alloc (Nat.le_refl _) _).alloc (by simp only [World.size_alloc]; omega) _
  have hRA := h.below bA
  clear h hc hn
  cases dead with
  | true =>
    rw [show sD ⟨room, fuse, true, fs⟩ nm = ⟨room, fuse, true, fs⟩ from by unfold sD findE; simp, show sE ⟨room, fuse, true, fs⟩ nm = 10 from by unfold sE findE; simp]
    go_enter Try.func20, Try.ntmps20
    go_wp2_with fail
    refine bodyPost_ret (results_row_tmp rfl _ _ _ _ _ rfl (rowAt_alloc_at _ _ _ _ (by simp only [World.size_alloc])) Try.underlying27 rfl (by kernel_rfl)) rfl ?_
    exact ⟨.slice ao n cap, rfl, hRA, bA⟩
  | false =>
    rcases hq : dFind fs nm with _ | f
    · rw [show sD ⟨room, fuse, false, fs⟩ nm = ⟨room, fuse, false, fs⟩ from by unfold sD findE; simp [hq], show sE ⟨room, fuse, false, fs⟩ nm = 7 from by unfold sE findE; simp [hq]]
      go_enter Try.func20, Try.ntmps20
      go_wp2_with fail
      generalize (w.alloc (.cells #[.int .i64 room, .int .i64 fuse, .bool false, .slice ao n cap] 27)).alloc (.cells #[.int .i64 0, .int .i64 0, .bool false, .slice none 0 0] 27) = W at *
      clear hRA bA
      have c0 := (cell_of_rowAt r0 0).trans (rfl : _ = some (Value.int .i64 room))
      have c1 := (cell_of_rowAt r0 1).trans (rfl : _ = some (Value.int .i64 fuse))
      have c2 := (cell_of_rowAt r0 2).trans (rfl : _ = some (Value.bool false))
      have c3 := (cell_of_rowAt r0 3).trans (rfl : _ = some (Value.slice ao n cap))
      have HF := Lib.hid (r5Find_any ⟨room, fuse, false, fs⟩ (.slice ao n cap) nm W hR (by show fs.length ≤ 1000000; rw [HN.out]; exact hl))
      unfold diskC at HF
      go_wp2_with fail
      refine HF.out.mono ?_
      rintro e w2 ⟨rfl, b2⟩
      dsimp only
      clear c0 c1 c2 c3 HF
      rw [hq]
      unfold foundV fileZ
      clear hq
      have x0 := rowAt_past b2 r0
      have x1 := rowAt_past b2 r1
      have t0 := (rowAt_alloc_past w2 (.cells #[.string ⟨#[]⟩, .string ⟨#[]⟩, .int .i64 0] 37) _ (lt_of_rowAt x0)).trans x0
      have t1 := (rowAt_alloc_past w2 (.cells #[.string ⟨#[]⟩, .string ⟨#[]⟩, .int .i64 0] 37) _ (lt_of_rowAt x1)).trans x1
      have bW2 := below_past bW b2 bW.size
      have bW3 := bW2.alloc bW2.size (.cells #[.string ⟨#[]⟩, .string ⟨#[]⟩, .int .i64 0] 37)
      have hR3 := (hR.below b2).below ((Below.refl _ _).alloc (Nat.le_refl _) (.cells #[.string ⟨#[]⟩, .string ⟨#[]⟩, .int .i64 0] 37))
      clear x0 x1 r0 r1 bW bW2 hR b2
      have r0 := t0
      have r1 := t1
      have bW := bW3
      have hR := hR3
      clear t0 t1 bW3 hR3
      have c0 := (cell_of_rowAt r0 0).trans (rfl : _ = some (Value.int .i64 room))
      have c1 := (cell_of_rowAt r0 1).trans (rfl : _ = some (Value.int .i64 fuse))
      have c2 := (cell_of_rowAt r0 2).trans (rfl : _ = some (Value.bool false))
      have c3 := (cell_of_rowAt r0 3).trans (rfl : _ = some (Value.slice ao n cap))
      have p0 := (cell_of_rowAt r1 0).trans (rfl : _ = some (Value.int .i64 0))
      have p1 := (cell_of_rowAt r1 1).trans (rfl : _ = some (Value.int .i64 0))
      have p2 := (cell_of_rowAt r1 2).trans (rfl : _ = some (Value.bool false))
      have p3 := (cell_of_rowAt r1 3).trans (rfl : _ = some (Value.slice none 0 0))
      have e0 := frozen_of_rowAt r1 0
      have e1 := frozen_of_rowAt r1 1
      have e2 := frozen_of_rowAt r1 2
      have e3 := frozen_of_rowAt r1 3
      have HR1 := Lib.hid r1
      have HRF := Lib.hid hR
      have HBB := Lib.hid bW
      clear r0 r1 hR bW
      go_wp2_with fail
      have rr := rowAt_setCell_same (rowAt_setCell_same (rowAt_setCell_same (rowAt_setCell_same HR1.out 0 (.int .i64 room)) 1 (.int .i64 fuse)) 2 (.bool false)) 3 (.slice ao n cap)
      have bb := (((HBB.out.setCell (p := ⟨w.heap.size + 1, 0, none⟩) (Nat.le_succ w.heap.size) (.int .i64 room)).setCell (p := ⟨w.heap.size + 1, 1, none⟩) (Nat.le_succ w.heap.size) (.int .i64 fuse)).setCell (p := ⟨w.heap.size + 1, 2, none⟩) (Nat.le_succ w.heap.size) (.bool false)).setCell (p := ⟨w.heap.size + 1, 3, none⟩) (Nat.le_succ w.heap.size) (.slice ao n cap)
      have fR := RFiles.set4 (z := room) HRF.out HR1.out (.int .i64 fuse) (.bool false) (.slice ao n cap)
      refine bodyPost_ret (results_row_tmp rfl _ _ _ _ _ rfl rr Try.underlying27 rfl (by kernel_rfl)) rfl ?_
      exact ⟨.slice ao n cap, rfl, fR, bb⟩
    · have hfe : findE ⟨room, fuse, false, fs⟩ nm = 0 := by unfold findE; simp [hq]
      have HQ := Lib.hid hq
      by_cases hz : fuse = 0
      · obtain ⟨hd1, hd2⟩ := deed_die room fuse fs hz
        rw [show sD ⟨room, fuse, false, fs⟩ nm = ⟨room, fuse, true, fs⟩ from by unfold sD; rw [if_pos hfe, hd1, hd2, if_neg (by decide)], show sE ⟨room, fuse, false, fs⟩ nm = 10 from by unfold sE; rw [if_pos hfe, hd2]]
        have HD := Lib.hid (deed_call room fuse fs ao n cap _ _ hf hd1 hd2)
        clear hfe hq hz hd1 hd2
        go_enter Try.func20, Try.ntmps20
        go_wp2_with fail
        generalize (w.alloc (.cells #[.int .i64 room, .int .i64 fuse, .bool false, .slice ao n cap] 27)).alloc (.cells #[.int .i64 0, .int .i64 0, .bool false, .slice none 0 0] 27) = W at *
        clear hRA bA
        have c0 := (cell_of_rowAt r0 0).trans (rfl : _ = some (Value.int .i64 room))
        have c1 := (cell_of_rowAt r0 1).trans (rfl : _ = some (Value.int .i64 fuse))
        have c2 := (cell_of_rowAt r0 2).trans (rfl : _ = some (Value.bool false))
        have c3 := (cell_of_rowAt r0 3).trans (rfl : _ = some (Value.slice ao n cap))
        have HF := Lib.hid (r5Find_any ⟨room, fuse, false, fs⟩ (.slice ao n cap) nm W hR (by show fs.length ≤ 1000000; rw [HN.out]; exact hl))
        unfold diskC at HF
        go_wp2_with fail
        refine HF.out.mono ?_
        rintro e w2 ⟨rfl, b2⟩
        dsimp only
        clear c0 c1 c2 c3 HF
        rw [HQ.out]
        unfold foundV fileC
        have x0 := rowAt_past b2 r0
        have x1 := rowAt_past b2 r1
        have t0 := (rowAt_alloc_past w2 (.cells #[.string (stx f.name), .string (stx f.bytes), .int .i64 f.sure] 37) _ (lt_of_rowAt x0)).trans x0
        have t1 := (rowAt_alloc_past w2 (.cells #[.string (stx f.name), .string (stx f.bytes), .int .i64 f.sure] 37) _ (lt_of_rowAt x1)).trans x1
        have rF := rowAt_alloc_at w2 #[.string (stx f.name), .string (stx f.bytes), .int .i64 f.sure] 37 w2.heap.size rfl
        have bW2 := below_past bW b2 bW.size
        have bW3 := bW2.alloc bW2.size (.cells #[.string (stx f.name), .string (stx f.bytes), .int .i64 f.sure] 37)
        have hR3 := (hR.below b2).below ((Below.refl _ _).alloc (Nat.le_refl _) (.cells #[.string (stx f.name), .string (stx f.bytes), .int .i64 f.sure] 37))
        have hgt := lt_of_rowAt x1
        have HLT := Lib.hid ((hR.below b2).block)
        have c0 := (cell_of_rowAt t0 0).trans (rfl : _ = some (Value.int .i64 room))
        have c1 := (cell_of_rowAt t0 1).trans (rfl : _ = some (Value.int .i64 fuse))
        have c2 := (cell_of_rowAt t0 2).trans (rfl : _ = some (Value.bool false))
        have c3 := (cell_of_rowAt t0 3).trans (rfl : _ = some (Value.slice ao n cap))
        clear x0 x1 r0 r1 bW bW2 hR b2
        go_wp2_with fail
        generalize w2.heap.size = gF at *
        generalize w2.alloc (.cells #[.string (stx f.name), .string (stx f.bytes), .int .i64 f.sure] 37) = W3 at *
        clear c0 c1 c2 c3
        refine (HD.out W3).mono ?_
        rintro e w4 ⟨rfl, b4⟩
        have r0 := rowAt_past b4 t0
        have r1 := rowAt_past b4 t1
        have rf := rowAt_past b4 rF
        have bW := below_past bW3 b4 bW3.size
        have hR := hR3.below b4
        clear t0 t1 rF bW3 hR3 b4
        have c0 := (cell_of_rowAt r0 0).trans (rfl : _ = some (Value.int .i64 room))
        have c1 := (cell_of_rowAt r0 1).trans (rfl : _ = some (Value.int .i64 fuse))
        have c2 := (cell_of_rowAt r0 2).trans (rfl : _ = some (Value.bool false))
        have c3 := (cell_of_rowAt r0 3).trans (rfl : _ = some (Value.slice ao n cap))
        have o0 := frozen_of_rowAt r0 0
        have o1 := frozen_of_rowAt r0 1
        have o2 := frozen_of_rowAt r0 2
        have o3 := frozen_of_rowAt r0 3
        have k0 := (cell_of_rowAt rf 0).trans (rfl : _ = some (Value.string (stx f.name)))
        have k1 := (cell_of_rowAt rf 1).trans (rfl : _ = some (Value.string (stx f.bytes)))
        have k2 := (cell_of_rowAt rf 2).trans (rfl : _ = some (Value.int .i64 f.sure))
        have l0 := frozen_of_rowAt rf 0
        have l1 := frozen_of_rowAt rf 1
        have l2 := frozen_of_rowAt rf 2
        have s0 := rowAt_setCell_same (rowAt_setCell_same (rowAt_setCell_same (rowAt_setCell_same r0 0 (.int .i64 room)) 1 (.int .i64 fuse)) 2 (.bool true)) 3 (.slice ao n cap)
        have hn1 : w.heap.size + 1 ≠ w.heap.size := by omega
        have hn2 : gF ≠ w.heap.size := by omega
        have s1 := (rowAt_setCell_other _ ⟨w.heap.size, 3, none⟩ _ (.slice ao n cap) hn1).trans ((rowAt_setCell_other _ ⟨w.heap.size, 2, none⟩ _ (.bool true) hn1).trans ((rowAt_setCell_other _ ⟨w.heap.size, 1, none⟩ _ (.int .i64 fuse) hn1).trans ((rowAt_setCell_other w4 ⟨w.heap.size, 0, none⟩ _ (.int .i64 room) hn1).trans r1)))
        have sF := (rowAt_setCell_other _ ⟨w.heap.size, 3, none⟩ _ (.slice ao n cap) hn2).trans ((rowAt_setCell_other _ ⟨w.heap.size, 2, none⟩ _ (.bool true) hn2).trans ((rowAt_setCell_other _ ⟨w.heap.size, 1, none⟩ _ (.int .i64 fuse) hn2).trans ((rowAt_setCell_other w4 ⟨w.heap.size, 0, none⟩ _ (.int .i64 room) hn2).trans rf)))
        have bS := (((bW.setCell (p := ⟨w.heap.size, 0, none⟩) (Nat.le_refl w.heap.size) (.int .i64 room)).setCell (p := ⟨w.heap.size, 1, none⟩) (Nat.le_refl w.heap.size) (.int .i64 fuse)).setCell (p := ⟨w.heap.size, 2, none⟩) (Nat.le_refl w.heap.size) (.bool true)).setCell (p := ⟨w.heap.size, 3, none⟩) (Nat.le_refl w.heap.size) (.slice ao n cap)
        have hS := RFiles.set4 (z := room) hR r0 (.int .i64 fuse) (.bool true) (.slice ao n cap)
        have p0 := (cell_of_rowAt r1 0).trans (rfl : _ = some (Value.int .i64 0))
        have p1 := (cell_of_rowAt r1 1).trans (rfl : _ = some (Value.int .i64 0))
        have p2 := (cell_of_rowAt r1 2).trans (rfl : _ = some (Value.bool false))
        have p3 := (cell_of_rowAt r1 3).trans (rfl : _ = some (Value.slice none 0 0))
        have e0 := frozen_of_rowAt r1 0
        have e1 := frozen_of_rowAt r1 1
        have e2 := frozen_of_rowAt r1 2
        have e3 := frozen_of_rowAt r1 3
        have HS1 := Lib.hid s1
        have HRS := Lib.hid hS
        have HBS := Lib.hid bS
        clear r0 r1 rf bW hR s0 s1 sF bS hS
        go_wp2_with fail
        have rr := rowAt_setCell_same (rowAt_setCell_same (rowAt_setCell_same (rowAt_setCell_same HS1.out 0 (.int .i64 room)) 1 (.int .i64 fuse)) 2 (.bool true)) 3 (.slice ao n cap)
        have bb := (((HBS.out.setCell (p := ⟨w.heap.size + 1, 0, none⟩) (Nat.le_succ w.heap.size) (.int .i64 room)).setCell (p := ⟨w.heap.size + 1, 1, none⟩) (Nat.le_succ w.heap.size) (.int .i64 fuse)).setCell (p := ⟨w.heap.size + 1, 2, none⟩) (Nat.le_succ w.heap.size) (.bool true)).setCell (p := ⟨w.heap.size + 1, 3, none⟩) (Nat.le_succ w.heap.size) (.slice ao n cap)
        have fR := RFiles.set4 (z := room) HRS.out HS1.out (.int .i64 fuse) (.bool true) (.slice ao n cap)
        refine bodyPost_ret (results_row_tmp rfl _ _ _ _ _ rfl rr Try.underlying27 rfl (by kernel_rfl)) rfl ?_
        exact ⟨.slice ao n cap, rfl, fR, bb⟩
      · obtain ⟨F, hd1, hd2⟩ := deed_live room fuse fs hz
        have hfn := (dFind_some hq).2
        rw [show sD ⟨room, fuse, false, fs⟩ nm = ⟨room, F, false, dPut ⟨f.name, f.bytes, f.bytes.length⟩ fs⟩ from by unfold sD; rw [if_pos hfe, hd1, hd2, if_pos rfl]; unfold dSyncF; rw [dBytes_some hq, hfn], show sE ⟨room, fuse, false, fs⟩ nm = 0 from by unfold sE; rw [if_pos hfe, hd2]]
        have HD := Lib.hid (deed_call room fuse fs ao n cap _ _ hf hd1 hd2)
        clear hfe hq hz hd1 hd2 hfn
        go_enter Try.func20, Try.ntmps20
        go_wp2_with fail
        generalize (w.alloc (.cells #[.int .i64 room, .int .i64 fuse, .bool false, .slice ao n cap] 27)).alloc (.cells #[.int .i64 0, .int .i64 0, .bool false, .slice none 0 0] 27) = W at *
        clear hRA bA
        have c0 := (cell_of_rowAt r0 0).trans (rfl : _ = some (Value.int .i64 room))
        have c1 := (cell_of_rowAt r0 1).trans (rfl : _ = some (Value.int .i64 fuse))
        have c2 := (cell_of_rowAt r0 2).trans (rfl : _ = some (Value.bool false))
        have c3 := (cell_of_rowAt r0 3).trans (rfl : _ = some (Value.slice ao n cap))
        have HF := Lib.hid (r5Find_any ⟨room, fuse, false, fs⟩ (.slice ao n cap) nm W hR (by show fs.length ≤ 1000000; rw [HN.out]; exact hl))
        unfold diskC at HF
        go_wp2_with fail
        refine HF.out.mono ?_
        rintro e w2 ⟨rfl, b2⟩
        dsimp only
        clear c0 c1 c2 c3 HF
        rw [HQ.out]
        unfold foundV fileC
        have x0 := rowAt_past b2 r0
        have x1 := rowAt_past b2 r1
        have t0 := (rowAt_alloc_past w2 (.cells #[.string (stx f.name), .string (stx f.bytes), .int .i64 f.sure] 37) _ (lt_of_rowAt x0)).trans x0
        have t1 := (rowAt_alloc_past w2 (.cells #[.string (stx f.name), .string (stx f.bytes), .int .i64 f.sure] 37) _ (lt_of_rowAt x1)).trans x1
        have rF := rowAt_alloc_at w2 #[.string (stx f.name), .string (stx f.bytes), .int .i64 f.sure] 37 w2.heap.size rfl
        have bW2 := below_past bW b2 bW.size
        have bW3 := bW2.alloc bW2.size (.cells #[.string (stx f.name), .string (stx f.bytes), .int .i64 f.sure] 37)
        have hR3 := (hR.below b2).below ((Below.refl _ _).alloc (Nat.le_refl _) (.cells #[.string (stx f.name), .string (stx f.bytes), .int .i64 f.sure] 37))
        have hgt := lt_of_rowAt x1
        have HLT := Lib.hid ((hR.below b2).block)
        have c0 := (cell_of_rowAt t0 0).trans (rfl : _ = some (Value.int .i64 room))
        have c1 := (cell_of_rowAt t0 1).trans (rfl : _ = some (Value.int .i64 fuse))
        have c2 := (cell_of_rowAt t0 2).trans (rfl : _ = some (Value.bool false))
        have c3 := (cell_of_rowAt t0 3).trans (rfl : _ = some (Value.slice ao n cap))
        clear x0 x1 r0 r1 bW bW2 hR b2
        go_wp2_with fail
        generalize w2.heap.size = gF at *
        generalize w2.alloc (.cells #[.string (stx f.name), .string (stx f.bytes), .int .i64 f.sure] 37) = W3 at *
        clear c0 c1 c2 c3
        refine (HD.out W3).mono ?_
        rintro e w4 ⟨rfl, b4⟩
        have r0 := rowAt_past b4 t0
        have r1 := rowAt_past b4 t1
        have rf := rowAt_past b4 rF
        have bW := below_past bW3 b4 bW3.size
        have hR := hR3.below b4
        clear t0 t1 rF bW3 hR3 b4
        have c0 := (cell_of_rowAt r0 0).trans (rfl : _ = some (Value.int .i64 room))
        have c1 := (cell_of_rowAt r0 1).trans (rfl : _ = some (Value.int .i64 fuse))
        have c2 := (cell_of_rowAt r0 2).trans (rfl : _ = some (Value.bool false))
        have c3 := (cell_of_rowAt r0 3).trans (rfl : _ = some (Value.slice ao n cap))
        have o0 := frozen_of_rowAt r0 0
        have o1 := frozen_of_rowAt r0 1
        have o2 := frozen_of_rowAt r0 2
        have o3 := frozen_of_rowAt r0 3
        have k0 := (cell_of_rowAt rf 0).trans (rfl : _ = some (Value.string (stx f.name)))
        have k1 := (cell_of_rowAt rf 1).trans (rfl : _ = some (Value.string (stx f.bytes)))
        have k2 := (cell_of_rowAt rf 2).trans (rfl : _ = some (Value.int .i64 f.sure))
        have l0 := frozen_of_rowAt rf 0
        have l1 := frozen_of_rowAt rf 1
        have l2 := frozen_of_rowAt rf 2
        have s0 := rowAt_setCell_same (rowAt_setCell_same (rowAt_setCell_same (rowAt_setCell_same r0 0 (.int .i64 room)) 1 (.int .i64 F)) 2 (.bool false)) 3 (.slice ao n cap)
        have hn1 : w.heap.size + 1 ≠ w.heap.size := by omega
        have hn2 : gF ≠ w.heap.size := by omega
        have s1 := (rowAt_setCell_other _ ⟨w.heap.size, 3, none⟩ _ (.slice ao n cap) hn1).trans ((rowAt_setCell_other _ ⟨w.heap.size, 2, none⟩ _ (.bool false) hn1).trans ((rowAt_setCell_other _ ⟨w.heap.size, 1, none⟩ _ (.int .i64 F) hn1).trans ((rowAt_setCell_other w4 ⟨w.heap.size, 0, none⟩ _ (.int .i64 room) hn1).trans r1)))
        have sF := (rowAt_setCell_other _ ⟨w.heap.size, 3, none⟩ _ (.slice ao n cap) hn2).trans ((rowAt_setCell_other _ ⟨w.heap.size, 2, none⟩ _ (.bool false) hn2).trans ((rowAt_setCell_other _ ⟨w.heap.size, 1, none⟩ _ (.int .i64 F) hn2).trans ((rowAt_setCell_other w4 ⟨w.heap.size, 0, none⟩ _ (.int .i64 room) hn2).trans rf)))
        have bS := (((bW.setCell (p := ⟨w.heap.size, 0, none⟩) (Nat.le_refl w.heap.size) (.int .i64 room)).setCell (p := ⟨w.heap.size, 1, none⟩) (Nat.le_refl w.heap.size) (.int .i64 F)).setCell (p := ⟨w.heap.size, 2, none⟩) (Nat.le_refl w.heap.size) (.bool false)).setCell (p := ⟨w.heap.size, 3, none⟩) (Nat.le_refl w.heap.size) (.slice ao n cap)
        have hS := RFiles.set4 (z := room) hR r0 (.int .i64 F) (.bool false) (.slice ao n cap)
        have s0' : rowAt ((((w4.setCell ⟨w.heap.size, 0, none⟩ (.int .i64 room)).setCell ⟨w.heap.size, 1, none⟩ (.int .i64 F)).setCell ⟨w.heap.size, 2, none⟩ (.bool false)).setCell ⟨w.heap.size, 3, none⟩ (.slice ao n cap)) w.heap.size = some #[.int .i64 room, .int .i64 F, .bool false, .slice ao n cap] := s0
        have hgF1 : w.heap.size + 1 ≠ gF := by omega
        have hgF0 : w.heap.size ≠ gF := by omega
        have hgFl : w.heap.size ≤ gF := by omega
        have HK0 := Lib.hid ((rowAt_setCell_other _ ⟨gF, 2, none⟩ _ (.int .i64 f.bytes.length) hgF0).trans s0')
        have HK1 := Lib.hid ((rowAt_setCell_other _ ⟨gF, 2, none⟩ _ (.int .i64 f.bytes.length) hgF1).trans s1)
        have HRS := Lib.hid (hS.set' HLT.out 2 (.int .i64 f.bytes.length))
        have HBS := Lib.hid (bS.setCell (p := ⟨gF, 2, none⟩) hgFl (.int .i64 f.bytes.length))
        clear r0 r1 rf bW hR s0 s0' s1 sF bS hS
        go_wp2_with fail
        generalize ((((w4.setCell ⟨w.heap.size, 0, none⟩ (.int .i64 room)).setCell ⟨w.heap.size, 1, none⟩ (.int .i64 F)).setCell ⟨w.heap.size, 2, none⟩ (.bool false)).setCell ⟨w.heap.size, 3, none⟩ (.slice ao n cap)).setCell ⟨gF, 2, none⟩ (.int .i64 f.bytes.length) = W5 at *
        clear c0 c1 c2 c3 o0 o1 o2 o3 k0 k1 k2 l0 l1 l2
        refine (r5Put_any ⟨room, F, false, fs⟩ (.slice ao n cap) ⟨f.name, f.bytes, f.bytes.length⟩ W5 HRS.out (by show fs.length ≤ 1000000; rw [HN.out]; exact hl)).mono ?_
        rintro e w6 ⟨v6, rfl, o6, b6⟩
        obtain ⟨A6, c6, rfl⟩ := own_shapeF o6
        have r0 := rowAt_past b6 HK0.out
        have r1 := rowAt_past b6 HK1.out
        have bW := below_past HBS.out b6 HBS.out.size
        have hR := o6.lie
        unfold diskC
        clear HK0 HK1 HRS HBS o6 b6
        dsimp only
        generalize (dPut ⟨f.name, f.bytes, f.bytes.length⟩ fs).length = m6 at *
        have c0 := (cell_of_rowAt r0 0).trans (rfl : _ = some (Value.int .i64 room))
        have c1 := (cell_of_rowAt r0 1).trans (rfl : _ = some (Value.int .i64 F))
        have c2 := (cell_of_rowAt r0 2).trans (rfl : _ = some (Value.bool false))
        have c3 := (cell_of_rowAt r0 3).trans (rfl : _ = some (Value.slice ao n cap))
        have o0 := frozen_of_rowAt r0 0
        have o1 := frozen_of_rowAt r0 1
        have o2 := frozen_of_rowAt r0 2
        have o3 := frozen_of_rowAt r0 3
        have hn1 : w.heap.size + 1 ≠ w.heap.size := by omega
        have s1 := (rowAt_setCell_other _ ⟨w.heap.size, 3, none⟩ _ (.slice A6 m6 c6) hn1).trans ((rowAt_setCell_other _ ⟨w.heap.size, 2, none⟩ _ (.bool false) hn1).trans ((rowAt_setCell_other _ ⟨w.heap.size, 1, none⟩ _ (.int .i64 F) hn1).trans ((rowAt_setCell_other w6 ⟨w.heap.size, 0, none⟩ _ (.int .i64 room) hn1).trans r1)))
        have bS := (((bW.setCell (p := ⟨w.heap.size, 0, none⟩) (Nat.le_refl w.heap.size) (.int .i64 room)).setCell (p := ⟨w.heap.size, 1, none⟩) (Nat.le_refl w.heap.size) (.int .i64 F)).setCell (p := ⟨w.heap.size, 2, none⟩) (Nat.le_refl w.heap.size) (.bool false)).setCell (p := ⟨w.heap.size, 3, none⟩) (Nat.le_refl w.heap.size) (.slice A6 m6 c6)
        have hS := RFiles.set4 (z := room) hR r0 (.int .i64 F) (.bool false) (.slice A6 m6 c6)
        have p0 := (cell_of_rowAt r1 0).trans (rfl : _ = some (Value.int .i64 0))
        have p1 := (cell_of_rowAt r1 1).trans (rfl : _ = some (Value.int .i64 0))
        have p2 := (cell_of_rowAt r1 2).trans (rfl : _ = some (Value.bool false))
        have p3 := (cell_of_rowAt r1 3).trans (rfl : _ = some (Value.slice none 0 0))
        have e0 := frozen_of_rowAt r1 0
        have e1 := frozen_of_rowAt r1 1
        have e2 := frozen_of_rowAt r1 2
        have e3 := frozen_of_rowAt r1 3
        have HS1 := Lib.hid s1
        have HRS := Lib.hid hS
        have HBS := Lib.hid bS
        clear r0 r1 bW hR s1 bS hS
        go_wp2_with fail
        have rr := rowAt_setCell_same (rowAt_setCell_same (rowAt_setCell_same (rowAt_setCell_same HS1.out 0 (.int .i64 room)) 1 (.int .i64 F)) 2 (.bool false)) 3 (.slice A6 m6 c6)
        have bb := (((HBS.out.setCell (p := ⟨w.heap.size + 1, 0, none⟩) (Nat.le_succ w.heap.size) (.int .i64 room)).setCell (p := ⟨w.heap.size + 1, 1, none⟩) (Nat.le_succ w.heap.size) (.int .i64 F)).setCell (p := ⟨w.heap.size + 1, 2, none⟩) (Nat.le_succ w.heap.size) (.bool false)).setCell (p := ⟨w.heap.size + 1, 3, none⟩) (Nat.le_succ w.heap.size) (.slice A6 m6 c6)
        have fR := RFiles.set4 (z := room) HRS.out HS1.out (.int .i64 F) (.bool false) (.slice A6 m6 c6)
        refine bodyPost_ret (results_row_tmp rfl _ _ _ _ _ rfl rr Try.underlying27 rfl (by kernel_rfl)) rfl ?_
        exact ⟨.slice A6 m6 c6, rfl, fR, bb⟩
end Go.Proofs.Ytlnijckgnchpbaa
