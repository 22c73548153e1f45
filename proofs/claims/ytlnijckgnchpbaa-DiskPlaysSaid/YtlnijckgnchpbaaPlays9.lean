/- The document's disk: bytes go behind a file's. Conditions: none. -/
import Derived.Test.YtlnijckgnchpbaaPlays8
namespace Go.Proofs.Ytlnijckgnchpbaa
open Go Go.RowKit Go.Maps
attribute [local go_sem] Oper.semAt_some

def fileD (o : Option DFile) : DFile := o.getD ⟨[], [], 0⟩
theorem foundV_eq (o : Option DFile) : foundV o = .tuple #[.agg #[.string (stx (fileD o).name), .string (stx (fileD o).bytes), .int .i64 (fileD o).sure], .bool o.isSome] := by
  cases o <;> rfl
theorem deed_some (room fuse : Int) (fs : List DFile) : ∃ F D E, deedD ⟨room, fuse, false, fs⟩ = ⟨room, F, D, fs⟩ ∧ deedE ⟨room, fuse, false, fs⟩ = E ∧ ∀ gs, deedD ⟨room, fuse, false, gs⟩ = ⟨room, F, D, gs⟩ := by
  by_cases h : fuse = 0
  · exact ⟨fuse, true, 10, by unfold deedD; rw [if_pos h], by unfold deedE; rw [if_pos h], fun gs => by unfold deedD; rw [if_pos h]⟩
  · by_cases h1 : 0 < fuse
    · exact ⟨fuse - 1, false, 0, by unfold deedD; rw [if_neg h, if_pos h1], by unfold deedE; rw [if_neg h], fun gs => by unfold deedD; rw [if_neg h, if_pos h1]⟩
    · exact ⟨fuse, false, 0, by unfold deedD; rw [if_neg h, if_neg h1], by unfold deedE; rw [if_neg h], fun gs => by unfold deedD; rw [if_neg h, if_neg h1]⟩
theorem fileD_bytes (fs : List DFile) (nm : List UInt8) : dBytes fs nm = (fileD (dFind fs nm)).bytes ∧ dSure fs nm = (fileD (dFind fs nm)).sure := by
  unfold dBytes dSure fileD
  cases dFind fs nm <;> exact ⟨rfl, rfl⟩
set_option maxRecDepth 100000 in
set_option maxHeartbeats 4000000 in
theorem r5Append_any (d : DDisk) (v : Value) (nm s : List UInt8) (w : World) (h : RFiles w v d.files) (hl : d.files.length ≤ 1000000) (hf : -9223372036854775808 ≤ d.fuse ∧ d.fuse ≤ 9223372036854775807) (hr : 0 ≤ d.room ∧ d.room ≤ 9223372036854775807) (hu : dUsed d.files ≤ 1000000000) (hs : s.length ≤ 1000000) :
    Calls Try.prog 19 #[.agg (diskC d v), .string (stx nm), .string (stx s)] w (R5Post (aD d nm s) (aE d nm s) w) := by
  obtain ⟨⟨ao, cap, rfl, hc⟩, -⟩ := id h
  obtain ⟨room, fuse, dead, fs⟩ := d
  dsimp only at h hl hf hc ⊢
  obtain ⟨n, hn⟩ : ∃ n, fs.length = n := ⟨_, rfl⟩
  have HN := Lib.hid hn
  rw [hn] at h hl
  rw [hn]
  unfold diskC
  have bW : Below w.heap.size w ((w.alloc (.cells #[.int .i64 room, .int .i64 fuse, .bool dead, .slice ao n cap] 27)).alloc (.cells #[.int .i64 0, .int .i64 0, .bool false, .slice none 0 0] 27)) := ((Below.refl _ _).alloc (Nat.le_refl _) _).alloc (by simp only [World.size_alloc]; omega) _
  have r0 : rowAt ((w.alloc (.cells #[.int .i64 room, .int .i64 fuse, .bool dead, .slice ao n cap] 27)).alloc (.cells #[.int .i64 0, .int .i64 0, .bool false, .slice none 0 0] 27)) w.heap.size = some #[.int .i64 room, .int .i64 fuse, .bool dead, .slice ao n cap] := (rowAt_alloc_past _ _ _ (by simp only [World.size_alloc]; omega)).trans (rowAt_alloc_at _ _ _ _ rfl)
  have r1 : rowAt ((w.alloc (.cells #[.int .i64 room, .int .i64 fuse, .bool dead, .slice ao n cap] 27)).alloc (.cells #[.int .i64 0, .int .i64 0, .bool false, .slice none 0 0] 27)) (w.heap.size + 1) = some #[.int .i64 0, .int .i64 0, .bool false, .slice none 0 0] := rowAt_alloc_at _ _ _ _ (by simp only [World.size_alloc])
  have hR := h.below bW
  have bA : Below w.heap.size w ((w.alloc (.cells #[.int .i64 room, .int .i64 fuse, .bool dead, .slice ao n cap] 27)).alloc (.cells #[.int .i64 room, .int .i64 fuse, .bool dead, .slice ao n cap] 27)) := ((Below.refl _ _).alloc (Nat.le_refl _) _).alloc (by simp only [World.size_alloc]; omega) _
  have hRA := h.below bA
  clear h hc hn
  dsimp only at hr hu
  cases dead with
  | true =>
    rw [show aD ⟨room, fuse, true, fs⟩ nm s = ⟨room, fuse, true, fs⟩ from by unfold aD aBad; simp, show aE ⟨room, fuse, true, fs⟩ nm s = 10 from by unfold aE aBad; simp]
    go_enter Try.func19, Try.ntmps19
    go_wp2_with fail
    refine bodyPost_ret (results_row_tmp rfl _ _ _ _ _ rfl (rowAt_alloc_at _ _ _ _ (by simp only [World.size_alloc])) Try.underlying27 rfl (by kernel_rfl)) rfl ?_
    exact ⟨.slice ao n cap, rfl, hRA, bA⟩
  | false =>
    by_cases hgd : dGood nm
    · have HG : ∀ W, Hid (Calls Try.prog 37 #[.string (stx nm)] W fun e w' => e = .returned (.bool true) ∧ w' = W) := fun W => Lib.hid (by
        have := r5good_any (stx nm) W
        rwa [show decide (0 < (stx nm).size ∧ (stx nm).size ≤ 100) = true from decide_eq_true (by rw [stx_size]; exact hgd)] at this)
      obtain ⟨f, hfd⟩ : ∃ f, fileD (dFind fs nm) = f := ⟨_, rfl⟩
      obtain ⟨tb, htb⟩ : ∃ tb, (dFind fs nm).isSome = tb := ⟨_, rfl⟩
      have hu2 : dUsed fs ≤ 1000000000000 := by omega
      have HFD := Lib.hid hfd
      have HTB := Lib.hid htb
      by_cases hA : room - dUsed fs < s.length
      · have hb : aBad ⟨room, fuse, false, fs⟩ nm s = 9 := by unfold aBad; simp [hgd, hA]
        rw [show aD ⟨room, fuse, false, fs⟩ nm s = ⟨room, fuse, false, fs⟩ from by unfold aD; rw [hb]; simp, show aE ⟨room, fuse, false, fs⟩ nm s = 9 from by unfold aE; rw [hb]; simp]
        have qA : decide (room - dUsed fs < s.length) = true := decide_eq_true hA
        clear hb hgd hfd htb
        go_enter Try.func19, Try.ntmps19
        go_wp2_with fail
        refine (HG _).out.mono ?_
        rintro e w1 ⟨rfl, rfl⟩
        generalize (w.alloc (.cells #[.int .i64 room, .int .i64 fuse, .bool false, .slice ao n cap] 27)).alloc (.cells #[.int .i64 0, .int .i64 0, .bool false, .slice none 0 0] 27) = W at *
        clear hRA bA
        have c0 := (cell_of_rowAt r0 0).trans (rfl : _ = some (Value.int .i64 room))
        have c1 := (cell_of_rowAt r0 1).trans (rfl : _ = some (Value.int .i64 fuse))
        have c2 := (cell_of_rowAt r0 2).trans (rfl : _ = some (Value.bool false))
        have c3 := (cell_of_rowAt r0 3).trans (rfl : _ = some (Value.slice ao n cap))
        have HF := Lib.hid (r5Find_any ⟨room, fuse, false, fs⟩ (.slice ao n cap) nm W hR (by show fs.length ≤ 1000000; rw [HN.out]; exact hl))
        unfold diskC at HF
        go_wp2_with fail
        refine HF.out.mono ?_
        rintro e w2 ⟨rfl, b2⟩
        dsimp only
        clear c0 c1 c2 c3 HF
        rw [foundV_eq, HFD.out, HTB.out]
        have x0 := rowAt_past b2 r0
        have x1 := rowAt_past b2 r1
        have t0 := (rowAt_alloc_past w2 (.cells #[.string (stx f.name), .string (stx f.bytes), .int .i64 f.sure] 37) _ (lt_of_rowAt x0)).trans x0
        have t1 := (rowAt_alloc_past w2 (.cells #[.string (stx f.name), .string (stx f.bytes), .int .i64 f.sure] 37) _ (lt_of_rowAt x1)).trans x1
        have rF := rowAt_alloc_at w2 #[.string (stx f.name), .string (stx f.bytes), .int .i64 f.sure] 37 w2.heap.size rfl
        have bW2 := below_past bW b2 bW.size
        have bW3 := bW2.alloc bW2.size (.cells #[.string (stx f.name), .string (stx f.bytes), .int .i64 f.sure] 37)
        have hR3 := (hR.below b2).below ((Below.refl _ _).alloc (Nat.le_refl _) (.cells #[.string (stx f.name), .string (stx f.bytes), .int .i64 f.sure] 37))
        have hgt := lt_of_rowAt x1
        have HLT := Lib.hid ((hR.below b2).block)
        have c0 := (cell_of_rowAt t0 0).trans (rfl : _ = some (Value.int .i64 room))
        have c1 := (cell_of_rowAt t0 1).trans (rfl : _ = some (Value.int .i64 fuse))
        have c2 := (cell_of_rowAt t0 2).trans (rfl : _ = some (Value.bool false))
        have c3 := (cell_of_rowAt t0 3).trans (rfl : _ = some (Value.slice ao n cap))
        clear x0 x1 r0 r1 bW bW2 hR b2
        have HUS : ∀ q : Past (w2.alloc (.cells #[.string (stx f.name), .string (stx f.bytes), .int .i64 f.sure] 37)), Hid (Calls Try.prog 12 #[.agg #[.int .i64 room, .int .i64 fuse, .bool false, .slice ao n cap]] q.w fun e w' => e = .returned (.int .i64 (dUsed fs)) ∧ Below q.w.heap.size q.w w') := fun q => Lib.hid (r5Used_any ⟨room, fuse, false, fs⟩ (.slice ao n cap) q.w (hR3.below q.h) (by show fs.length ≤ 1000000; rw [HN.out]; exact hl) hu2)
        have y0 : ∀ q : Past (w2.alloc (.cells #[.string (stx f.name), .string (stx f.bytes), .int .i64 f.sure] 37)), q.w.cell? ⟨w.heap.size, 0, none⟩ = some (.int .i64 room) := fun q => (cell_of_rowAt (Past.row t0 q) 0).trans rfl
        have y1 : ∀ q : Past (w2.alloc (.cells #[.string (stx f.name), .string (stx f.bytes), .int .i64 f.sure] 37)), q.w.cell? ⟨w.heap.size, 1, none⟩ = some (.int .i64 fuse) := fun q => (cell_of_rowAt (Past.row t0 q) 1).trans rfl
        have y2 : ∀ q : Past (w2.alloc (.cells #[.string (stx f.name), .string (stx f.bytes), .int .i64 f.sure] 37)), q.w.cell? ⟨w.heap.size, 2, none⟩ = some (.bool false) := fun q => (cell_of_rowAt (Past.row t0 q) 2).trans rfl
        have y3 : ∀ q : Past (w2.alloc (.cells #[.string (stx f.name), .string (stx f.bytes), .int .i64 f.sure] 37)), q.w.cell? ⟨w.heap.size, 3, none⟩ = some (.slice ao n cap) := fun q => (cell_of_rowAt (Past.row t0 q) 3).trans rfl
        go_wp2_with fail
        generalize w2.heap.size = gF at *
        generalize w2.alloc (.cells #[.string (stx f.name), .string (stx f.bytes), .int .i64 f.sure] 37) = W3 at *
        clear c0 c1 c2 c3
        generalize dUsed fs = us at *
        refine wp_region_past (by kernel_rfl) (by kernel_rfl) ?_
        repeat (go_big_quiet_step ((go_at_call 12; exact Past.call (HUS _).out)))
        refine wpQuiet_nil ?_
        intro w5 hw5
        obtain ⟨⟨w5, hn5⟩, rfl⟩ := hw5
        try dsimp only
        have x0 := rowAt_past hn5 t0
        have x1 := rowAt_past hn5 t1
        have xF := rowAt_past hn5 rF
        have bW5 := below_past bW3 hn5 bW3.size
        have hR5 := hR3.below hn5
        clear t0 t1 rF bW3 hR3 hn5
        clear y0 y1 y2 y3 HUS
        have r0 := x0
        have r1 := x1
        have bW := bW5
        have hR := hR5
        clear x0 x1 xF bW5 hR5
        have c0 := (cell_of_rowAt r0 0).trans (rfl : _ = some (Value.int .i64 room))
        have c1 := (cell_of_rowAt r0 1).trans (rfl : _ = some (Value.int .i64 fuse))
        have c2 := (cell_of_rowAt r0 2).trans (rfl : _ = some (Value.bool false))
        have c3 := (cell_of_rowAt r0 3).trans (rfl : _ = some (Value.slice ao n cap))
        have p0 := (cell_of_rowAt r1 0).trans (rfl : _ = some (Value.int .i64 0))
        have p1 := (cell_of_rowAt r1 1).trans (rfl : _ = some (Value.int .i64 0))
        have p2 := (cell_of_rowAt r1 2).trans (rfl : _ = some (Value.bool false))
        have p3 := (cell_of_rowAt r1 3).trans (rfl : _ = some (Value.slice none 0 0))
        have e0 := frozen_of_rowAt r1 0
        have e1 := frozen_of_rowAt r1 1
        have e2 := frozen_of_rowAt r1 2
        have e3 := frozen_of_rowAt r1 3
        have HR1 := Lib.hid r1
        have HRF := Lib.hid hR
        have HBB := Lib.hid bW
        clear r0 r1 hR bW
        go_wp2_with fail
        have rr := rowAt_setCell_same (rowAt_setCell_same (rowAt_setCell_same (rowAt_setCell_same HR1.out 0 (.int .i64 room)) 1 (.int .i64 fuse)) 2 (.bool false)) 3 (.slice ao n cap)
        have bb := (((HBB.out.setCell (p := ⟨w.heap.size + 1, 0, none⟩) (Nat.le_succ w.heap.size) (.int .i64 room)).setCell (p := ⟨w.heap.size + 1, 1, none⟩) (Nat.le_succ w.heap.size) (.int .i64 fuse)).setCell (p := ⟨w.heap.size + 1, 2, none⟩) (Nat.le_succ w.heap.size) (.bool false)).setCell (p := ⟨w.heap.size + 1, 3, none⟩) (Nat.le_succ w.heap.size) (.slice ao n cap)
        have fR := RFiles.set4 (z := room) HRF.out HR1.out (.int .i64 fuse) (.bool false) (.slice ao n cap)
        refine bodyPost_ret (results_row_tmp rfl _ _ _ _ _ rfl rr Try.underlying27 rfl (by kernel_rfl)) rfl ?_
        exact ⟨.slice ao n cap, rfl, fR, bb⟩
      · have qA : decide (room - dUsed fs < s.length) = false := decide_eq_false hA
        by_cases hB : tb = false ∧ 4096 ≤ n
        · obtain ⟨rfl, hB2⟩ := hB
          have hno : dFind fs nm = none := by
            cases hq : dFind fs nm with
            | none => rfl
            | some f => rw [hq] at htb; cases htb
          have hb : aBad ⟨room, fuse, false, fs⟩ nm s = 9 := by unfold aBad; simp [hgd, hA, hno, HN.out, hB2]
          rw [show aD ⟨room, fuse, false, fs⟩ nm s = ⟨room, fuse, false, fs⟩ from by unfold aD; rw [hb]; simp, show aE ⟨room, fuse, false, fs⟩ nm s = 9 from by unfold aE; rw [hb]; simp]
          have qB : decide ((4095 : Int) < n) = true := decide_eq_true (by omega)
          have qB2 : decide (4095 < n) = true := decide_eq_true (by omega)
          clear hb hgd hfd htb hno
          go_enter Try.func19, Try.ntmps19
          go_wp2_with fail
          refine (HG _).out.mono ?_
          rintro e w1 ⟨rfl, rfl⟩
          generalize (w.alloc (.cells #[.int .i64 room, .int .i64 fuse, .bool false, .slice ao n cap] 27)).alloc (.cells #[.int .i64 0, .int .i64 0, .bool false, .slice none 0 0] 27) = W at *
          clear hRA bA
          have c0 := (cell_of_rowAt r0 0).trans (rfl : _ = some (Value.int .i64 room))
          have c1 := (cell_of_rowAt r0 1).trans (rfl : _ = some (Value.int .i64 fuse))
          have c2 := (cell_of_rowAt r0 2).trans (rfl : _ = some (Value.bool false))
          have c3 := (cell_of_rowAt r0 3).trans (rfl : _ = some (Value.slice ao n cap))
          have HF := Lib.hid (r5Find_any ⟨room, fuse, false, fs⟩ (.slice ao n cap) nm W hR (by show fs.length ≤ 1000000; rw [HN.out]; exact hl))
          unfold diskC at HF
          go_wp2_with fail
          refine HF.out.mono ?_
          rintro e w2 ⟨rfl, b2⟩
          dsimp only
          clear c0 c1 c2 c3 HF
          rw [foundV_eq, HFD.out, HTB.out]
          have x0 := rowAt_past b2 r0
          have x1 := rowAt_past b2 r1
          have t0 := (rowAt_alloc_past w2 (.cells #[.string (stx f.name), .string (stx f.bytes), .int .i64 f.sure] 37) _ (lt_of_rowAt x0)).trans x0
          have t1 := (rowAt_alloc_past w2 (.cells #[.string (stx f.name), .string (stx f.bytes), .int .i64 f.sure] 37) _ (lt_of_rowAt x1)).trans x1
          have rF := rowAt_alloc_at w2 #[.string (stx f.name), .string (stx f.bytes), .int .i64 f.sure] 37 w2.heap.size rfl
          have bW2 := below_past bW b2 bW.size
          have bW3 := bW2.alloc bW2.size (.cells #[.string (stx f.name), .string (stx f.bytes), .int .i64 f.sure] 37)
          have hR3 := (hR.below b2).below ((Below.refl _ _).alloc (Nat.le_refl _) (.cells #[.string (stx f.name), .string (stx f.bytes), .int .i64 f.sure] 37))
          have hgt := lt_of_rowAt x1
          have HLT := Lib.hid ((hR.below b2).block)
          have c0 := (cell_of_rowAt t0 0).trans (rfl : _ = some (Value.int .i64 room))
          have c1 := (cell_of_rowAt t0 1).trans (rfl : _ = some (Value.int .i64 fuse))
          have c2 := (cell_of_rowAt t0 2).trans (rfl : _ = some (Value.bool false))
          have c3 := (cell_of_rowAt t0 3).trans (rfl : _ = some (Value.slice ao n cap))
          clear x0 x1 r0 r1 bW bW2 hR b2
          have HUS : ∀ q : Past (w2.alloc (.cells #[.string (stx f.name), .string (stx f.bytes), .int .i64 f.sure] 37)), Hid (Calls Try.prog 12 #[.agg #[.int .i64 room, .int .i64 fuse, .bool false, .slice ao n cap]] q.w fun e w' => e = .returned (.int .i64 (dUsed fs)) ∧ Below q.w.heap.size q.w w') := fun q => Lib.hid (r5Used_any ⟨room, fuse, false, fs⟩ (.slice ao n cap) q.w (hR3.below q.h) (by show fs.length ≤ 1000000; rw [HN.out]; exact hl) hu2)
          have y0 : ∀ q : Past (w2.alloc (.cells #[.string (stx f.name), .string (stx f.bytes), .int .i64 f.sure] 37)), q.w.cell? ⟨w.heap.size, 0, none⟩ = some (.int .i64 room) := fun q => (cell_of_rowAt (Past.row t0 q) 0).trans rfl
          have y1 : ∀ q : Past (w2.alloc (.cells #[.string (stx f.name), .string (stx f.bytes), .int .i64 f.sure] 37)), q.w.cell? ⟨w.heap.size, 1, none⟩ = some (.int .i64 fuse) := fun q => (cell_of_rowAt (Past.row t0 q) 1).trans rfl
          have y2 : ∀ q : Past (w2.alloc (.cells #[.string (stx f.name), .string (stx f.bytes), .int .i64 f.sure] 37)), q.w.cell? ⟨w.heap.size, 2, none⟩ = some (.bool false) := fun q => (cell_of_rowAt (Past.row t0 q) 2).trans rfl
          have y3 : ∀ q : Past (w2.alloc (.cells #[.string (stx f.name), .string (stx f.bytes), .int .i64 f.sure] 37)), q.w.cell? ⟨w.heap.size, 3, none⟩ = some (.slice ao n cap) := fun q => (cell_of_rowAt (Past.row t0 q) 3).trans rfl
          go_wp2_with fail
          generalize w2.heap.size = gF at *
          generalize w2.alloc (.cells #[.string (stx f.name), .string (stx f.bytes), .int .i64 f.sure] 37) = W3 at *
          clear c0 c1 c2 c3
          generalize dUsed fs = us at *
          refine wp_region_past (by kernel_rfl) (by kernel_rfl) ?_
          repeat (go_big_quiet_step ((go_at_call 12; exact Past.call (HUS _).out)))
          refine wpQuiet_nil ?_
          intro w5 hw5
          obtain ⟨⟨w5, hn5⟩, rfl⟩ := hw5
          try dsimp only
          have x0 := rowAt_past hn5 t0
          have x1 := rowAt_past hn5 t1
          have xF := rowAt_past hn5 rF
          have bW5 := below_past bW3 hn5 bW3.size
          have hR5 := hR3.below hn5
          clear t0 t1 rF bW3 hR3 hn5
          clear y0 y1 y2 y3 HUS
          have r0 := x0
          have r1 := x1
          have bW := bW5
          have hR := hR5
          clear x0 x1 xF bW5 hR5
          have c0 := (cell_of_rowAt r0 0).trans (rfl : _ = some (Value.int .i64 room))
          have c1 := (cell_of_rowAt r0 1).trans (rfl : _ = some (Value.int .i64 fuse))
          have c2 := (cell_of_rowAt r0 2).trans (rfl : _ = some (Value.bool false))
          have c3 := (cell_of_rowAt r0 3).trans (rfl : _ = some (Value.slice ao n cap))
          have p0 := (cell_of_rowAt r1 0).trans (rfl : _ = some (Value.int .i64 0))
          have p1 := (cell_of_rowAt r1 1).trans (rfl : _ = some (Value.int .i64 0))
          have p2 := (cell_of_rowAt r1 2).trans (rfl : _ = some (Value.bool false))
          have p3 := (cell_of_rowAt r1 3).trans (rfl : _ = some (Value.slice none 0 0))
          have e0 := frozen_of_rowAt r1 0
          have e1 := frozen_of_rowAt r1 1
          have e2 := frozen_of_rowAt r1 2
          have e3 := frozen_of_rowAt r1 3
          have HR1 := Lib.hid r1
          have HRF := Lib.hid hR
          have HBB := Lib.hid bW
          clear r0 r1 hR bW
          go_wp2_with fail
          have rr := rowAt_setCell_same (rowAt_setCell_same (rowAt_setCell_same (rowAt_setCell_same HR1.out 0 (.int .i64 room)) 1 (.int .i64 fuse)) 2 (.bool false)) 3 (.slice ao n cap)
          have bb := (((HBB.out.setCell (p := ⟨w.heap.size + 1, 0, none⟩) (Nat.le_succ w.heap.size) (.int .i64 room)).setCell (p := ⟨w.heap.size + 1, 1, none⟩) (Nat.le_succ w.heap.size) (.int .i64 fuse)).setCell (p := ⟨w.heap.size + 1, 2, none⟩) (Nat.le_succ w.heap.size) (.bool false)).setCell (p := ⟨w.heap.size + 1, 3, none⟩) (Nat.le_succ w.heap.size) (.slice ao n cap)
          have fR := RFiles.set4 (z := room) HRF.out HR1.out (.int .i64 fuse) (.bool false) (.slice ao n cap)
          refine bodyPost_ret (results_row_tmp rfl _ _ _ _ _ rfl rr Try.underlying27 rfl (by kernel_rfl)) rfl ?_
          exact ⟨.slice ao n cap, rfl, fR, bb⟩
        · have hb : aBad ⟨room, fuse, false, fs⟩ nm s = 0 := by
            unfold aBad
            have h2 : ¬ (dFind fs nm = none ∧ 4096 ≤ fs.length) := fun ⟨h1, h2⟩ => hB ⟨by rw [← htb, h1]; rfl, by rw [← HN.out]; exact h2⟩
            simp only [Bool.false_eq_true, if_false, not_true_eq_false, hgd, hA, h2]
          obtain ⟨F, D, E, hd1, hd2, hd3⟩ := deed_some room fuse fs
          obtain ⟨hf1, hf2⟩ := fileD_bytes fs nm
          rw [hfd] at hf1 hf2
          have hbl : f.bytes.length ≤ 1000000000 := by
            rw [← hf1]
            unfold dBytes
            cases hq : dFind fs nm with
            | none => simp
            | some f => exact Nat.le_trans (dFind_len hq) hu
          have hsum : f.bytes.length + s.length ≤ 2000000000 := by omega
          obtain ⟨fb, hfb⟩ : ∃ fb, f.bytes ++ s = fb := ⟨_, rfl⟩
          have happ : stx f.bytes ++ stx s = stx fb := by rw [stx_append, hfb]
          rw [show aD ⟨room, fuse, false, fs⟩ nm s = ⟨room, F, D, dPut ⟨nm, fb, f.sure⟩ fs⟩ from by unfold aD; rw [if_pos hb]; unfold aPut; dsimp only; rw [hf1, hf2, hfb]; exact hd3 _, show aE ⟨room, fuse, false, fs⟩ nm s = E from by unfold aE; rw [if_pos hb, hd2]]
          have HD := Lib.hid (deed_call room fuse fs ao n cap _ _ hf hd1 hd2)
          have hsz1 : (stx f.bytes).size + (stx s).size ≤ 9223372036854775807 := by rw [stx_size, stx_size]; omega
          have hcase : tb = true ∨ (tb = false ∧ n ≤ 4095) := by
            cases tb with
            | true => exact .inl rfl
            | false => exact .inr ⟨rfl, by
                rcases Nat.lt_or_ge n 4096 with h | h
                · omega
                · exact absurd ⟨rfl, h⟩ hB⟩
          clear hb hgd hfd htb hB hf1 hf2 hd1 hd2 hd3 hfb
          rcases hcase with rfl | ⟨rfl, hn4⟩
          · go_enter Try.func19, Try.ntmps19
            go_wp2_with fail
            refine (HG _).out.mono ?_
            rintro e w1 ⟨rfl, rfl⟩
            generalize (w.alloc (.cells #[.int .i64 room, .int .i64 fuse, .bool false, .slice ao n cap] 27)).alloc (.cells #[.int .i64 0, .int .i64 0, .bool false, .slice none 0 0] 27) = W at *
            clear hRA bA
            have c0 := (cell_of_rowAt r0 0).trans (rfl : _ = some (Value.int .i64 room))
            have c1 := (cell_of_rowAt r0 1).trans (rfl : _ = some (Value.int .i64 fuse))
            have c2 := (cell_of_rowAt r0 2).trans (rfl : _ = some (Value.bool false))
            have c3 := (cell_of_rowAt r0 3).trans (rfl : _ = some (Value.slice ao n cap))
            have HF := Lib.hid (r5Find_any ⟨room, fuse, false, fs⟩ (.slice ao n cap) nm W hR (by show fs.length ≤ 1000000; rw [HN.out]; exact hl))
            unfold diskC at HF
            go_wp2_with fail
            refine HF.out.mono ?_
            rintro e w2 ⟨rfl, b2⟩
            dsimp only
            clear c0 c1 c2 c3 HF
            rw [foundV_eq, HFD.out, HTB.out]
            have x0 := rowAt_past b2 r0
            have x1 := rowAt_past b2 r1
            have t0 := (rowAt_alloc_past w2 (.cells #[.string (stx f.name), .string (stx f.bytes), .int .i64 f.sure] 37) _ (lt_of_rowAt x0)).trans x0
            have t1 := (rowAt_alloc_past w2 (.cells #[.string (stx f.name), .string (stx f.bytes), .int .i64 f.sure] 37) _ (lt_of_rowAt x1)).trans x1
            have rF := rowAt_alloc_at w2 #[.string (stx f.name), .string (stx f.bytes), .int .i64 f.sure] 37 w2.heap.size rfl
            have bW2 := below_past bW b2 bW.size
            have bW3 := bW2.alloc bW2.size (.cells #[.string (stx f.name), .string (stx f.bytes), .int .i64 f.sure] 37)
            have hR3 := (hR.below b2).below ((Below.refl _ _).alloc (Nat.le_refl _) (.cells #[.string (stx f.name), .string (stx f.bytes), .int .i64 f.sure] 37))
            have hgt := lt_of_rowAt x1
            have HLT := Lib.hid ((hR.below b2).block)
            have c0 := (cell_of_rowAt t0 0).trans (rfl : _ = some (Value.int .i64 room))
            have c1 := (cell_of_rowAt t0 1).trans (rfl : _ = some (Value.int .i64 fuse))
            have c2 := (cell_of_rowAt t0 2).trans (rfl : _ = some (Value.bool false))
            have c3 := (cell_of_rowAt t0 3).trans (rfl : _ = some (Value.slice ao n cap))
            clear x0 x1 r0 r1 bW bW2 hR b2
            have HUS : ∀ q : Past (w2.alloc (.cells #[.string (stx f.name), .string (stx f.bytes), .int .i64 f.sure] 37)), Hid (Calls Try.prog 12 #[.agg #[.int .i64 room, .int .i64 fuse, .bool false, .slice ao n cap]] q.w fun e w' => e = .returned (.int .i64 (dUsed fs)) ∧ Below q.w.heap.size q.w w') := fun q => Lib.hid (r5Used_any ⟨room, fuse, false, fs⟩ (.slice ao n cap) q.w (hR3.below q.h) (by show fs.length ≤ 1000000; rw [HN.out]; exact hl) hu2)
            have y0 : ∀ q : Past (w2.alloc (.cells #[.string (stx f.name), .string (stx f.bytes), .int .i64 f.sure] 37)), q.w.cell? ⟨w.heap.size, 0, none⟩ = some (.int .i64 room) := fun q => (cell_of_rowAt (Past.row t0 q) 0).trans rfl
            have y1 : ∀ q : Past (w2.alloc (.cells #[.string (stx f.name), .string (stx f.bytes), .int .i64 f.sure] 37)), q.w.cell? ⟨w.heap.size, 1, none⟩ = some (.int .i64 fuse) := fun q => (cell_of_rowAt (Past.row t0 q) 1).trans rfl
            have y2 : ∀ q : Past (w2.alloc (.cells #[.string (stx f.name), .string (stx f.bytes), .int .i64 f.sure] 37)), q.w.cell? ⟨w.heap.size, 2, none⟩ = some (.bool false) := fun q => (cell_of_rowAt (Past.row t0 q) 2).trans rfl
            have y3 : ∀ q : Past (w2.alloc (.cells #[.string (stx f.name), .string (stx f.bytes), .int .i64 f.sure] 37)), q.w.cell? ⟨w.heap.size, 3, none⟩ = some (.slice ao n cap) := fun q => (cell_of_rowAt (Past.row t0 q) 3).trans rfl
            go_wp2_with fail
            generalize w2.heap.size = gF at *
            generalize w2.alloc (.cells #[.string (stx f.name), .string (stx f.bytes), .int .i64 f.sure] 37) = W3 at *
            clear c0 c1 c2 c3
            generalize dUsed fs = us at *
            refine wp_region_past (by kernel_rfl) (by kernel_rfl) ?_
            repeat (go_big_quiet_step ((go_at_call 12; exact Past.call (HUS _).out)))
            refine wpQuiet_nil ?_
            intro w5 hw5
            obtain ⟨⟨w5, hn5⟩, rfl⟩ := hw5
            try dsimp only
            have x0 := rowAt_past hn5 t0
            have x1 := rowAt_past hn5 t1
            have xF := rowAt_past hn5 rF
            have bW5 := below_past bW3 hn5 bW3.size
            have hR5 := hR3.below hn5
            clear t0 t1 rF bW3 hR3 hn5
            clear y0 y1 y2 y3 HUS
            have t0 := x0
            have t1 := x1
            have rF := xF
            have bW3 := bW5
            have hR3 := hR5
            clear x0 x1 xF bW5 hR5
            have c0 := (cell_of_rowAt t0 0).trans (rfl : _ = some (Value.int .i64 room))
            have c1 := (cell_of_rowAt t0 1).trans (rfl : _ = some (Value.int .i64 fuse))
            have c2 := (cell_of_rowAt t0 2).trans (rfl : _ = some (Value.bool false))
            have c3 := (cell_of_rowAt t0 3).trans (rfl : _ = some (Value.slice ao n cap))
            go_wp2_with fail
            clear c0 c1 c2 c3
            refine (HD.out _).mono ?_
            rintro e w4 ⟨rfl, b4⟩
            have r0 := rowAt_past b4 t0
            have r1 := rowAt_past b4 t1
            have rf := rowAt_past b4 rF
            have bW := below_past bW3 b4 bW3.size
            have hR := hR3.below b4
            clear t0 t1 rF bW3 hR3 b4
            have c0 := (cell_of_rowAt r0 0).trans (rfl : _ = some (Value.int .i64 room))
            have c1 := (cell_of_rowAt r0 1).trans (rfl : _ = some (Value.int .i64 fuse))
            have c2 := (cell_of_rowAt r0 2).trans (rfl : _ = some (Value.bool false))
            have c3 := (cell_of_rowAt r0 3).trans (rfl : _ = some (Value.slice ao n cap))
            have o0 := frozen_of_rowAt r0 0
            have o1 := frozen_of_rowAt r0 1
            have o2 := frozen_of_rowAt r0 2
            have o3 := frozen_of_rowAt r0 3
            have k0 := (cell_of_rowAt rf 0).trans (rfl : _ = some (Value.string (stx f.name)))
            have k1 := (cell_of_rowAt rf 1).trans (rfl : _ = some (Value.string (stx f.bytes)))
            have k2 := (cell_of_rowAt rf 2).trans (rfl : _ = some (Value.int .i64 f.sure))
            have l0 := frozen_of_rowAt rf 0
            have l1 := frozen_of_rowAt rf 1
            have l2 := frozen_of_rowAt rf 2
            have s0 := rowAt_setCell_same (rowAt_setCell_same (rowAt_setCell_same (rowAt_setCell_same r0 0 (.int .i64 room)) 1 (.int .i64 F)) 2 (.bool D)) 3 (.slice ao n cap)
            have hn1 : w.heap.size + 1 ≠ w.heap.size := by omega
            have hn2 : gF ≠ w.heap.size := by omega
            have s1 := (rowAt_setCell_other _ ⟨w.heap.size, 3, none⟩ _ (.slice ao n cap) hn1).trans ((rowAt_setCell_other _ ⟨w.heap.size, 2, none⟩ _ (.bool D) hn1).trans ((rowAt_setCell_other _ ⟨w.heap.size, 1, none⟩ _ (.int .i64 F) hn1).trans ((rowAt_setCell_other w4 ⟨w.heap.size, 0, none⟩ _ (.int .i64 room) hn1).trans r1)))
            have sF := (rowAt_setCell_other _ ⟨w.heap.size, 3, none⟩ _ (.slice ao n cap) hn2).trans ((rowAt_setCell_other _ ⟨w.heap.size, 2, none⟩ _ (.bool D) hn2).trans ((rowAt_setCell_other _ ⟨w.heap.size, 1, none⟩ _ (.int .i64 F) hn2).trans ((rowAt_setCell_other w4 ⟨w.heap.size, 0, none⟩ _ (.int .i64 room) hn2).trans rf)))
            have bS := (((bW.setCell (p := ⟨w.heap.size, 0, none⟩) (Nat.le_refl w.heap.size) (.int .i64 room)).setCell (p := ⟨w.heap.size, 1, none⟩) (Nat.le_refl w.heap.size) (.int .i64 F)).setCell (p := ⟨w.heap.size, 2, none⟩) (Nat.le_refl w.heap.size) (.bool D)).setCell (p := ⟨w.heap.size, 3, none⟩) (Nat.le_refl w.heap.size) (.slice ao n cap)
            have hS := RFiles.set4 (z := room) hR r0 (.int .i64 F) (.bool D) (.slice ao n cap)
            have s0' : rowAt ((((w4.setCell ⟨w.heap.size, 0, none⟩ (.int .i64 room)).setCell ⟨w.heap.size, 1, none⟩ (.int .i64 F)).setCell ⟨w.heap.size, 2, none⟩ (.bool D)).setCell ⟨w.heap.size, 3, none⟩ (.slice ao n cap)) w.heap.size = some #[.int .i64 room, .int .i64 F, .bool D, .slice ao n cap] := s0
            have hgF1 : w.heap.size + 1 ≠ gF := by omega
            have hgF0 : w.heap.size ≠ gF := by omega
            have hgFl : w.heap.size ≤ gF := by omega
            have HK1 := Lib.hid ((rowAt_setCell_other _ ⟨gF, 1, none⟩ _ (.string (stx fb)) hgF1).trans ((rowAt_setCell_other _ ⟨gF, 0, none⟩ _ (.string (stx nm)) hgF1).trans s1))
            have HRS := Lib.hid ((hS.set' HLT.out 0 (.string (stx nm))).set' HLT.out 1 (.string (stx fb)))
            have HBS := Lib.hid ((bS.setCell (p := ⟨gF, 0, none⟩) hgFl (.string (stx nm))).setCell (p := ⟨gF, 1, none⟩) hgFl (.string (stx fb)))
            clear r0 r1 rf bW hR s0 s0' s1 sF bS hS
            go_wp2_with fail
            generalize (((((w4.setCell ⟨w.heap.size, 0, none⟩ (.int .i64 room)).setCell ⟨w.heap.size, 1, none⟩ (.int .i64 F)).setCell ⟨w.heap.size, 2, none⟩ (.bool D)).setCell ⟨w.heap.size, 3, none⟩ (.slice ao n cap)).setCell ⟨gF, 0, none⟩ (.string (stx nm))).setCell ⟨gF, 1, none⟩ (.string (stx fb)) = W5 at *
            clear c0 c1 c2 c3 o0 o1 o2 o3 k0 k1 k2 l0 l1 l2
            refine (r5Put_any ⟨room, F, D, fs⟩ (.slice ao n cap) ⟨nm, fb, f.sure⟩ W5 HRS.out (by show fs.length ≤ 1000000; rw [HN.out]; exact hl)).mono ?_
            rintro e w6 ⟨v6, rfl, o6, b6⟩
            obtain ⟨A6, c6, rfl⟩ := own_shapeF o6
            have r1 := rowAt_past b6 HK1.out
            have bW := below_past HBS.out b6 HBS.out.size
            have hR := o6.lie
            unfold diskC
            clear HK1 HRS HBS o6 b6
            dsimp only
            generalize (dPut ⟨nm, fb, f.sure⟩ fs).length = m6 at *
            have p0 := (cell_of_rowAt r1 0).trans (rfl : _ = some (Value.int .i64 0))
            have p1 := (cell_of_rowAt r1 1).trans (rfl : _ = some (Value.int .i64 0))
            have p2 := (cell_of_rowAt r1 2).trans (rfl : _ = some (Value.bool false))
            have p3 := (cell_of_rowAt r1 3).trans (rfl : _ = some (Value.slice none 0 0))
            have e0 := frozen_of_rowAt r1 0
            have e1 := frozen_of_rowAt r1 1
            have e2 := frozen_of_rowAt r1 2
            have e3 := frozen_of_rowAt r1 3
            have HR1 := Lib.hid r1
            have HRF := Lib.hid hR
            have HBB := Lib.hid bW
            clear r1 hR bW
            go_wp2_with fail
            have rr := rowAt_setCell_same (rowAt_setCell_same (rowAt_setCell_same (rowAt_setCell_same HR1.out 0 (.int .i64 room)) 1 (.int .i64 F)) 2 (.bool D)) 3 (.slice A6 m6 c6)
            have bb := (((HBB.out.setCell (p := ⟨w.heap.size + 1, 0, none⟩) (Nat.le_succ w.heap.size) (.int .i64 room)).setCell (p := ⟨w.heap.size + 1, 1, none⟩) (Nat.le_succ w.heap.size) (.int .i64 F)).setCell (p := ⟨w.heap.size + 1, 2, none⟩) (Nat.le_succ w.heap.size) (.bool D)).setCell (p := ⟨w.heap.size + 1, 3, none⟩) (Nat.le_succ w.heap.size) (.slice A6 m6 c6)
            have fR := RFiles.set4 (z := room) HRF.out HR1.out (.int .i64 F) (.bool D) (.slice A6 m6 c6)
            refine bodyPost_ret (results_row_tmp rfl _ _ _ _ _ rfl rr Try.underlying27 rfl (by kernel_rfl)) rfl ?_
            exact ⟨.slice A6 m6 c6, rfl, fR, bb⟩
          · have qB : decide ((4095 : Int) < n) = false := decide_eq_false (by omega)
            have qB2 : decide (4095 < n) = false := decide_eq_false (by omega)
            go_enter Try.func19, Try.ntmps19
            go_wp2_with fail
            refine (HG _).out.mono ?_
            rintro e w1 ⟨rfl, rfl⟩
            generalize (w.alloc (.cells #[.int .i64 room, .int .i64 fuse, .bool false, .slice ao n cap] 27)).alloc (.cells #[.int .i64 0, .int .i64 0, .bool false, .slice none 0 0] 27) = W at *
            clear hRA bA
            have c0 := (cell_of_rowAt r0 0).trans (rfl : _ = some (Value.int .i64 room))
            have c1 := (cell_of_rowAt r0 1).trans (rfl : _ = some (Value.int .i64 fuse))
            have c2 := (cell_of_rowAt r0 2).trans (rfl : _ = some (Value.bool false))
            have c3 := (cell_of_rowAt r0 3).trans (rfl : _ = some (Value.slice ao n cap))
            have HF := Lib.hid (r5Find_any ⟨room, fuse, false, fs⟩ (.slice ao n cap) nm W hR (by show fs.length ≤ 1000000; rw [HN.out]; exact hl))
            unfold diskC at HF
            go_wp2_with fail
            refine HF.out.mono ?_
            rintro e w2 ⟨rfl, b2⟩
            dsimp only
            clear c0 c1 c2 c3 HF
            rw [foundV_eq, HFD.out, HTB.out]
            have x0 := rowAt_past b2 r0
            have x1 := rowAt_past b2 r1
            have t0 := (rowAt_alloc_past w2 (.cells #[.string (stx f.name), .string (stx f.bytes), .int .i64 f.sure] 37) _ (lt_of_rowAt x0)).trans x0
            have t1 := (rowAt_alloc_past w2 (.cells #[.string (stx f.name), .string (stx f.bytes), .int .i64 f.sure] 37) _ (lt_of_rowAt x1)).trans x1
            have rF := rowAt_alloc_at w2 #[.string (stx f.name), .string (stx f.bytes), .int .i64 f.sure] 37 w2.heap.size rfl
            have bW2 := below_past bW b2 bW.size
            have bW3 := bW2.alloc bW2.size (.cells #[.string (stx f.name), .string (stx f.bytes), .int .i64 f.sure] 37)
            have hR3 := (hR.below b2).below ((Below.refl _ _).alloc (Nat.le_refl _) (.cells #[.string (stx f.name), .string (stx f.bytes), .int .i64 f.sure] 37))
            have hgt := lt_of_rowAt x1
            have HLT := Lib.hid ((hR.below b2).block)
            have c0 := (cell_of_rowAt t0 0).trans (rfl : _ = some (Value.int .i64 room))
            have c1 := (cell_of_rowAt t0 1).trans (rfl : _ = some (Value.int .i64 fuse))
            have c2 := (cell_of_rowAt t0 2).trans (rfl : _ = some (Value.bool false))
            have c3 := (cell_of_rowAt t0 3).trans (rfl : _ = some (Value.slice ao n cap))
            clear x0 x1 r0 r1 bW bW2 hR b2
            have HUS : ∀ q : Past (w2.alloc (.cells #[.string (stx f.name), .string (stx f.bytes), .int .i64 f.sure] 37)), Hid (Calls Try.prog 12 #[.agg #[.int .i64 room, .int .i64 fuse, .bool false, .slice ao n cap]] q.w fun e w' => e = .returned (.int .i64 (dUsed fs)) ∧ Below q.w.heap.size q.w w') := fun q => Lib.hid (r5Used_any ⟨room, fuse, false, fs⟩ (.slice ao n cap) q.w (hR3.below q.h) (by show fs.length ≤ 1000000; rw [HN.out]; exact hl) hu2)
            have y0 : ∀ q : Past (w2.alloc (.cells #[.string (stx f.name), .string (stx f.bytes), .int .i64 f.sure] 37)), q.w.cell? ⟨w.heap.size, 0, none⟩ = some (.int .i64 room) := fun q => (cell_of_rowAt (Past.row t0 q) 0).trans rfl
            have y1 : ∀ q : Past (w2.alloc (.cells #[.string (stx f.name), .string (stx f.bytes), .int .i64 f.sure] 37)), q.w.cell? ⟨w.heap.size, 1, none⟩ = some (.int .i64 fuse) := fun q => (cell_of_rowAt (Past.row t0 q) 1).trans rfl
            have y2 : ∀ q : Past (w2.alloc (.cells #[.string (stx f.name), .string (stx f.bytes), .int .i64 f.sure] 37)), q.w.cell? ⟨w.heap.size, 2, none⟩ = some (.bool false) := fun q => (cell_of_rowAt (Past.row t0 q) 2).trans rfl
            have y3 : ∀ q : Past (w2.alloc (.cells #[.string (stx f.name), .string (stx f.bytes), .int .i64 f.sure] 37)), q.w.cell? ⟨w.heap.size, 3, none⟩ = some (.slice ao n cap) := fun q => (cell_of_rowAt (Past.row t0 q) 3).trans rfl
            go_wp2_with fail
            generalize w2.heap.size = gF at *
            generalize w2.alloc (.cells #[.string (stx f.name), .string (stx f.bytes), .int .i64 f.sure] 37) = W3 at *
            clear c0 c1 c2 c3
            generalize dUsed fs = us at *
            refine wp_region_past (by kernel_rfl) (by kernel_rfl) ?_
            repeat (go_big_quiet_step ((go_at_call 12; exact Past.call (HUS _).out)))
            refine wpQuiet_nil ?_
            intro w5 hw5
            obtain ⟨⟨w5, hn5⟩, rfl⟩ := hw5
            try dsimp only
            have x0 := rowAt_past hn5 t0
            have x1 := rowAt_past hn5 t1
            have xF := rowAt_past hn5 rF
            have bW5 := below_past bW3 hn5 bW3.size
            have hR5 := hR3.below hn5
            clear t0 t1 rF bW3 hR3 hn5
            clear y0 y1 y2 y3 HUS
            have t0 := x0
            have t1 := x1
            have rF := xF
            have bW3 := bW5
            have hR3 := hR5
            clear x0 x1 xF bW5 hR5
            have c0 := (cell_of_rowAt t0 0).trans (rfl : _ = some (Value.int .i64 room))
            have c1 := (cell_of_rowAt t0 1).trans (rfl : _ = some (Value.int .i64 fuse))
            have c2 := (cell_of_rowAt t0 2).trans (rfl : _ = some (Value.bool false))
            have c3 := (cell_of_rowAt t0 3).trans (rfl : _ = some (Value.slice ao n cap))
            go_wp2_with fail
            clear c0 c1 c2 c3
            refine (HD.out _).mono ?_
            rintro e w4 ⟨rfl, b4⟩
            have r0 := rowAt_past b4 t0
            have r1 := rowAt_past b4 t1
            have rf := rowAt_past b4 rF
            have bW := below_past bW3 b4 bW3.size
            have hR := hR3.below b4
            clear t0 t1 rF bW3 hR3 b4
            have c0 := (cell_of_rowAt r0 0).trans (rfl : _ = some (Value.int .i64 room))
            have c1 := (cell_of_rowAt r0 1).trans (rfl : _ = some (Value.int .i64 fuse))
            have c2 := (cell_of_rowAt r0 2).trans (rfl : _ = some (Value.bool false))
            have c3 := (cell_of_rowAt r0 3).trans (rfl : _ = some (Value.slice ao n cap))
            have o0 := frozen_of_rowAt r0 0
            have o1 := frozen_of_rowAt r0 1
            have o2 := frozen_of_rowAt r0 2
            have o3 := frozen_of_rowAt r0 3
            have k0 := (cell_of_rowAt rf 0).trans (rfl : _ = some (Value.string (stx f.name)))
            have k1 := (cell_of_rowAt rf 1).trans (rfl : _ = some (Value.string (stx f.bytes)))
            have k2 := (cell_of_rowAt rf 2).trans (rfl : _ = some (Value.int .i64 f.sure))
            have l0 := frozen_of_rowAt rf 0
            have l1 := frozen_of_rowAt rf 1
            have l2 := frozen_of_rowAt rf 2
            have s0 := rowAt_setCell_same (rowAt_setCell_same (rowAt_setCell_same (rowAt_setCell_same r0 0 (.int .i64 room)) 1 (.int .i64 F)) 2 (.bool D)) 3 (.slice ao n cap)
            have hn1 : w.heap.size + 1 ≠ w.heap.size := by omega
            have hn2 : gF ≠ w.heap.size := by omega
            have s1 := (rowAt_setCell_other _ ⟨w.heap.size, 3, none⟩ _ (.slice ao n cap) hn1).trans ((rowAt_setCell_other _ ⟨w.heap.size, 2, none⟩ _ (.bool D) hn1).trans ((rowAt_setCell_other _ ⟨w.heap.size, 1, none⟩ _ (.int .i64 F) hn1).trans ((rowAt_setCell_other w4 ⟨w.heap.size, 0, none⟩ _ (.int .i64 room) hn1).trans r1)))
            have sF := (rowAt_setCell_other _ ⟨w.heap.size, 3, none⟩ _ (.slice ao n cap) hn2).trans ((rowAt_setCell_other _ ⟨w.heap.size, 2, none⟩ _ (.bool D) hn2).trans ((rowAt_setCell_other _ ⟨w.heap.size, 1, none⟩ _ (.int .i64 F) hn2).trans ((rowAt_setCell_other w4 ⟨w.heap.size, 0, none⟩ _ (.int .i64 room) hn2).trans rf)))
            have bS := (((bW.setCell (p := ⟨w.heap.size, 0, none⟩) (Nat.le_refl w.heap.size) (.int .i64 room)).setCell (p := ⟨w.heap.size, 1, none⟩) (Nat.le_refl w.heap.size) (.int .i64 F)).setCell (p := ⟨w.heap.size, 2, none⟩) (Nat.le_refl w.heap.size) (.bool D)).setCell (p := ⟨w.heap.size, 3, none⟩) (Nat.le_refl w.heap.size) (.slice ao n cap)
            have hS := RFiles.set4 (z := room) hR r0 (.int .i64 F) (.bool D) (.slice ao n cap)
            have s0' : rowAt ((((w4.setCell ⟨w.heap.size, 0, none⟩ (.int .i64 room)).setCell ⟨w.heap.size, 1, none⟩ (.int .i64 F)).setCell ⟨w.heap.size, 2, none⟩ (.bool D)).setCell ⟨w.heap.size, 3, none⟩ (.slice ao n cap)) w.heap.size = some #[.int .i64 room, .int .i64 F, .bool D, .slice ao n cap] := s0
            have hgF1 : w.heap.size + 1 ≠ gF := by omega
            have hgF0 : w.heap.size ≠ gF := by omega
            have hgFl : w.heap.size ≤ gF := by omega
            have HK1 := Lib.hid ((rowAt_setCell_other _ ⟨gF, 1, none⟩ _ (.string (stx fb)) hgF1).trans ((rowAt_setCell_other _ ⟨gF, 0, none⟩ _ (.string (stx nm)) hgF1).trans s1))
            have HRS := Lib.hid ((hS.set' HLT.out 0 (.string (stx nm))).set' HLT.out 1 (.string (stx fb)))
            have HBS := Lib.hid ((bS.setCell (p := ⟨gF, 0, none⟩) hgFl (.string (stx nm))).setCell (p := ⟨gF, 1, none⟩) hgFl (.string (stx fb)))
            clear r0 r1 rf bW hR s0 s0' s1 sF bS hS
            go_wp2_with fail
            generalize (((((w4.setCell ⟨w.heap.size, 0, none⟩ (.int .i64 room)).setCell ⟨w.heap.size, 1, none⟩ (.int .i64 F)).setCell ⟨w.heap.size, 2, none⟩ (.bool D)).setCell ⟨w.heap.size, 3, none⟩ (.slice ao n cap)).setCell ⟨gF, 0, none⟩ (.string (stx nm))).setCell ⟨gF, 1, none⟩ (.string (stx fb)) = W5 at *
            clear c0 c1 c2 c3 o0 o1 o2 o3 k0 k1 k2 l0 l1 l2
            refine (r5Put_any ⟨room, F, D, fs⟩ (.slice ao n cap) ⟨nm, fb, f.sure⟩ W5 HRS.out (by show fs.length ≤ 1000000; rw [HN.out]; exact hl)).mono ?_
            rintro e w6 ⟨v6, rfl, o6, b6⟩
            obtain ⟨A6, c6, rfl⟩ := own_shapeF o6
            have r1 := rowAt_past b6 HK1.out
            have bW := below_past HBS.out b6 HBS.out.size
            have hR := o6.lie
            unfold diskC
            clear HK1 HRS HBS o6 b6
            dsimp only
            generalize (dPut ⟨nm, fb, f.sure⟩ fs).length = m6 at *
            have p0 := (cell_of_rowAt r1 0).trans (rfl : _ = some (Value.int .i64 0))
            have p1 := (cell_of_rowAt r1 1).trans (rfl : _ = some (Value.int .i64 0))
            have p2 := (cell_of_rowAt r1 2).trans (rfl : _ = some (Value.bool false))
            have p3 := (cell_of_rowAt r1 3).trans (rfl : _ = some (Value.slice none 0 0))
            have e0 := frozen_of_rowAt r1 0
            have e1 := frozen_of_rowAt r1 1
            have e2 := frozen_of_rowAt r1 2
            have e3 := frozen_of_rowAt r1 3
            have HR1 := Lib.hid r1
            have HRF := Lib.hid hR
            have HBB := Lib.hid bW
            clear r1 hR bW
            go_wp2_with fail
            have rr := rowAt_setCell_same (rowAt_setCell_same (rowAt_setCell_same (rowAt_setCell_same HR1.out 0 (.int .i64 room)) 1 (.int .i64 F)) 2 (.bool D)) 3 (.slice A6 m6 c6)
            have bb := (((HBB.out.setCell (p := ⟨w.heap.size + 1, 0, none⟩) (Nat.le_succ w.heap.size) (.int .i64 room)).setCell (p := ⟨w.heap.size + 1, 1, none⟩) (Nat.le_succ w.heap.size) (.int .i64 F)).setCell (p := ⟨w.heap.size + 1, 2, none⟩) (Nat.le_succ w.heap.size) (.bool D)).setCell (p := ⟨w.heap.size + 1, 3, none⟩) (Nat.le_succ w.heap.size) (.slice A6 m6 c6)
            have fR := RFiles.set4 (z := room) HRF.out HR1.out (.int .i64 F) (.bool D) (.slice A6 m6 c6)
            refine bodyPost_ret (results_row_tmp rfl _ _ _ _ _ rfl rr Try.underlying27 rfl (by kernel_rfl)) rfl ?_
            exact ⟨.slice A6 m6 c6, rfl, fR, bb⟩
    · have hb : aBad ⟨room, fuse, false, fs⟩ nm s = 1 := by unfold aBad; simp [hgd]
      rw [show aD ⟨room, fuse, false, fs⟩ nm s = ⟨room, fuse, false, fs⟩ from by unfold aD; rw [hb]; simp, show aE ⟨room, fuse, false, fs⟩ nm s = 1 from by unfold aE; rw [hb]; simp]
      have HG : ∀ W, Hid (Calls Try.prog 37 #[.string (stx nm)] W fun e w' => e = .returned (.bool false) ∧ w' = W) := fun W => Lib.hid (by
        have := r5good_any (stx nm) W
        rwa [show decide (0 < (stx nm).size ∧ (stx nm).size ≤ 100) = false from decide_eq_false (by rw [stx_size]; exact hgd)] at this)
      clear hb hgd
      go_enter Try.func19, Try.ntmps19
      go_wp2_with fail
      refine (HG _).out.mono ?_
      rintro e w1 ⟨rfl, rfl⟩
      generalize (w.alloc (.cells #[.int .i64 room, .int .i64 fuse, .bool false, .slice ao n cap] 27)).alloc (.cells #[.int .i64 0, .int .i64 0, .bool false, .slice none 0 0] 27) = W at *
      clear hRA bA
      have c0 := (cell_of_rowAt r0 0).trans (rfl : _ = some (Value.int .i64 room))
      have c1 := (cell_of_rowAt r0 1).trans (rfl : _ = some (Value.int .i64 fuse))
      have c2 := (cell_of_rowAt r0 2).trans (rfl : _ = some (Value.bool false))
      have c3 := (cell_of_rowAt r0 3).trans (rfl : _ = some (Value.slice ao n cap))
      have p0 := (cell_of_rowAt r1 0).trans (rfl : _ = some (Value.int .i64 0))
      have p1 := (cell_of_rowAt r1 1).trans (rfl : _ = some (Value.int .i64 0))
      have p2 := (cell_of_rowAt r1 2).trans (rfl : _ = some (Value.bool false))
      have p3 := (cell_of_rowAt r1 3).trans (rfl : _ = some (Value.slice none 0 0))
      have e0 := frozen_of_rowAt r1 0
      have e1 := frozen_of_rowAt r1 1
      have e2 := frozen_of_rowAt r1 2
      have e3 := frozen_of_rowAt r1 3
      have HR1 := Lib.hid r1
      have HRF := Lib.hid hR
      have HBB := Lib.hid bW
      clear r0 r1 hR bW
      go_wp2_with fail
      have rr := rowAt_setCell_same (rowAt_setCell_same (rowAt_setCell_same (rowAt_setCell_same HR1.out 0 (.int .i64 room)) 1 (.int .i64 fuse)) 2 (.bool false)) 3 (.slice ao n cap)
      have bb := (((HBB.out.setCell (p := ⟨w.heap.size + 1, 0, none⟩) (Nat.le_succ w.heap.size) (.int .i64 room)).setCell (p := ⟨w.heap.size + 1, 1, none⟩) (Nat.le_succ w.heap.size) (.int .i64 fuse)).setCell (p := ⟨w.heap.size + 1, 2, none⟩) (Nat.le_succ w.heap.size) (.bool false)).setCell (p := ⟨w.heap.size + 1, 3, none⟩) (Nat.le_succ w.heap.size) (.slice ao n cap)
      have fR := RFiles.set4 (z := room) HRF.out HR1.out (.int .i64 fuse) (.bool false) (.slice ao n cap)
      refine bodyPost_ret (results_row_tmp rfl _ _ _ _ _ rfl rr Try.underlying27 rfl (by kernel_rfl)) rfl ?_
      exact ⟨.slice ao n cap, rfl, fR, bb⟩
end Go.Proofs.Ytlnijckgnchpbaa
