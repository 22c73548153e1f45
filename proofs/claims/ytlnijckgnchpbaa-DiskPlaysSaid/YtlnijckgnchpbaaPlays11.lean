/- The document's disk: a byte is another one. Conditions: none. -/
import Derived.Test.YtlnijckgnchpbaaPlays10
import Derived.Test.YtlnijckgnchpbaaBytesAt
import Derived.Test.YtlnijckgnchpbaaDisk10
namespace Go.Proofs.Ytlnijckgnchpbaa
open Go Go.RowKit Go.Maps
attribute [local go_sem] Oper.semAt_some

set_option maxRecDepth 100000 in
set_option maxHeartbeats 4000000 in
theorem r5Spoil_any (d : DDisk) (v : Value) (nm : List UInt8) (at' : Int) (x : UInt8) (w : World) (h : RFiles w v d.files) (hl : d.files.length ≤ 1000000) (hu : dUsed d.files ≤ 1000000000) :
    Calls Try.prog 30 #[.agg (diskC d v), .string (stx nm), .int .i64 at', .int .u8 (x.toNat : Int)] w (R5Post (spD d nm at' x) (spE d nm at') w) := by
  have hf : True := trivial
  obtain ⟨⟨ao, cap, rfl, hc⟩, -⟩ := id h
  obtain ⟨room, fuse, dead, fs⟩ := d
  dsimp only at h hl hf hc ⊢
  obtain ⟨n, hn⟩ : ∃ n, fs.length = n := ⟨_, rfl⟩
  have HN := Lib.hid hn
  rw [hn] at h hl
  rw [hn]
  unfold diskC
  have bW : Below w.heap.size w ((w.alloc (.cells #[.int .i64 room, .int .i64 fuse, .bool dead, .slice ao n cap] 27)).alloc (.cells #[.int .i64 0, .int .i64 0, .bool false, .slice none 0 0] 27)) := ((Below.refl _ _).alloc (Nat.le_refl _) _).alloc (by simp only [World.size_alloc]; omega) _
  have r0 : rowAt ((w.alloc (.cells #[.int .i64 room, .int .i64 fuse, .bool dead, .slice ao n cap] 27)).alloc (.cells #[.int .i64 0, .int .i64 0, .bool false, .slice none 0 0] 27)) w.heap.size = some #[.int .i64 room, .int .i64 fuse, .bool dead, .slice ao n cap] := (rowAt_alloc_past _ _ _ (by simp only [World.size_alloc]; omega)).trans (rowAt_alloc_at _ _ _ _ rfl)
  have r1 : rowAt ((w.alloc (.cells #[.int .i64 room, .int .i64 fuse, .bool dead, .slice ao n cap] 27)).alloc (.cells #[.int .i64 0, .int .i64 0, .bool false, .slice none 0 0] 27)) (w.heap.size + 1) = some #[.int .i64 0, .int .i64 0, .bool false, .slice none 0 0] := rowAt_alloc_at _ _ _ _ (by simp only [World.size_alloc])
  have hR := h.below bW
  have bA : Below w.heap.size w ((w.alloc (.cells #[.int .i64 room, .int .i64 fuse, .bool dead, .slice ao n cap] 27)).alloc (.cells #[.int .i64 room, .int .i64 fuse, .bool dead, .slice ao n cap] 27)) := ((Below.refl _ _).alloc (Nat.le_refl _) _).alloc (by simp only [World.size_alloc]; omega) _
  have hRA := h.below bA
  clear h hc hn
  dsimp only at hu
  clear hRA bA hf
  have bA : True := trivial
  have hRA : True := trivial
  rcases hq : dFind fs nm with _ | f
  · have he : spE ⟨room, fuse, dead, fs⟩ nm at' = 7 := by unfold spE; simp [hq]
    rw [show spD ⟨room, fuse, dead, fs⟩ nm at' x = ⟨room, fuse, dead, fs⟩ from by unfold spD; rw [he]; simp, he]
    clear he
    go_enter Try.func30, Try.ntmps30
    go_wp2_with fail
    generalize (w.alloc (.cells #[.int .i64 room, .int .i64 fuse, .bool dead, .slice ao n cap] 27)).alloc (.cells #[.int .i64 0, .int .i64 0, .bool false, .slice none 0 0] 27) = W at *
    clear hRA bA
    have c0 := (cell_of_rowAt r0 0).trans (rfl : _ = some (Value.int .i64 room))
    have c1 := (cell_of_rowAt r0 1).trans (rfl : _ = some (Value.int .i64 fuse))
    have c2 := (cell_of_rowAt r0 2).trans (rfl : _ = some (Value.bool dead))
    have c3 := (cell_of_rowAt r0 3).trans (rfl : _ = some (Value.slice ao n cap))
    have HF := Lib.hid (r5Find_any ⟨room, fuse, dead, fs⟩ (.slice ao n cap) nm W hR (by show fs.length ≤ 1000000; rw [HN.out]; exact hl))
    unfold diskC at HF
    go_wp2_with fail
    refine HF.out.mono ?_
    rintro e w2 ⟨rfl, b2⟩
    dsimp only
    clear c0 c1 c2 c3 HF
    rw [hq]
    unfold foundV fileZ
    clear hq
    have x0 := rowAt_past b2 r0
    have x1 := rowAt_past b2 r1
    have t0 := (rowAt_alloc_past w2 (.cells #[.string ⟨#[]⟩, .string ⟨#[]⟩, .int .i64 0] 37) _ (lt_of_rowAt x0)).trans x0
    have t1 := (rowAt_alloc_past w2 (.cells #[.string ⟨#[]⟩, .string ⟨#[]⟩, .int .i64 0] 37) _ (lt_of_rowAt x1)).trans x1
    have bW2 := below_past bW b2 bW.size
    have bW3 := bW2.alloc bW2.size (.cells #[.string ⟨#[]⟩, .string ⟨#[]⟩, .int .i64 0] 37)
    have hR3 := (hR.below b2).below ((Below.refl _ _).alloc (Nat.le_refl _) (.cells #[.string ⟨#[]⟩, .string ⟨#[]⟩, .int .i64 0] 37))
    clear x0 x1 r0 r1 bW bW2 hR b2
    have r0 := t0
    have r1 := t1
    have bW := bW3
    have hR := hR3
    clear t0 t1 bW3 hR3
    have c0 := (cell_of_rowAt r0 0).trans (rfl : _ = some (Value.int .i64 room))
    have c1 := (cell_of_rowAt r0 1).trans (rfl : _ = some (Value.int .i64 fuse))
    have c2 := (cell_of_rowAt r0 2).trans (rfl : _ = some (Value.bool dead))
    have c3 := (cell_of_rowAt r0 3).trans (rfl : _ = some (Value.slice ao n cap))
    have p0 := (cell_of_rowAt r1 0).trans (rfl : _ = some (Value.int .i64 0))
    have p1 := (cell_of_rowAt r1 1).trans (rfl : _ = some (Value.int .i64 0))
    have p2 := (cell_of_rowAt r1 2).trans (rfl : _ = some (Value.bool false))
    have p3 := (cell_of_rowAt r1 3).trans (rfl : _ = some (Value.slice none 0 0))
    have e0 := frozen_of_rowAt r1 0
    have e1 := frozen_of_rowAt r1 1
    have e2 := frozen_of_rowAt r1 2
    have e3 := frozen_of_rowAt r1 3
    have HR1 := Lib.hid r1
    have HRF := Lib.hid hR
    have HBB := Lib.hid bW
    clear r0 r1 hR bW
    go_wp2_with fail
    have rr := rowAt_setCell_same (rowAt_setCell_same (rowAt_setCell_same (rowAt_setCell_same HR1.out 0 (.int .i64 room)) 1 (.int .i64 fuse)) 2 (.bool dead)) 3 (.slice ao n cap)
    have bb := (((HBB.out.setCell (p := ⟨w.heap.size + 1, 0, none⟩) (Nat.le_succ w.heap.size) (.int .i64 room)).setCell (p := ⟨w.heap.size + 1, 1, none⟩) (Nat.le_succ w.heap.size) (.int .i64 fuse)).setCell (p := ⟨w.heap.size + 1, 2, none⟩) (Nat.le_succ w.heap.size) (.bool dead)).setCell (p := ⟨w.heap.size + 1, 3, none⟩) (Nat.le_succ w.heap.size) (.slice ao n cap)
    have fR := RFiles.set4 (z := room) HRF.out HR1.out (.int .i64 fuse) (.bool dead) (.slice ao n cap)
    refine bodyPost_ret (results_row_tmp rfl _ _ _ _ _ rfl rr Try.underlying27 rfl (by kernel_rfl)) rfl ?_
    exact ⟨.slice ao n cap, rfl, fR, bb⟩
  · have HQ := Lib.hid hq
    have hbl : f.bytes.length ≤ 1000000000 := Nat.le_trans (dFind_len hq) hu
    have hbi : (f.bytes.length : Int) ≤ 1000000000 := by omega
    by_cases hbad : at' < 0 ∨ (f.bytes.length : Int) ≤ at'
    · have he : spE ⟨room, fuse, dead, fs⟩ nm at' = 1 := by unfold spE; simp [hq, hbad]
      rw [show spD ⟨room, fuse, dead, fs⟩ nm at' x = ⟨room, fuse, dead, fs⟩ from by unfold spD; rw [he]; simp, he]
      by_cases h0 : at' < 0
      · have q0 : decide (at' < 0) = true := decide_eq_true h0
        clear he hq hbad
        go_enter Try.func30, Try.ntmps30
        go_wp2_with fail
        generalize (w.alloc (.cells #[.int .i64 room, .int .i64 fuse, .bool dead, .slice ao n cap] 27)).alloc (.cells #[.int .i64 0, .int .i64 0, .bool false, .slice none 0 0] 27) = W at *
        clear hRA bA
        have c0 := (cell_of_rowAt r0 0).trans (rfl : _ = some (Value.int .i64 room))
        have c1 := (cell_of_rowAt r0 1).trans (rfl : _ = some (Value.int .i64 fuse))
        have c2 := (cell_of_rowAt r0 2).trans (rfl : _ = some (Value.bool dead))
        have c3 := (cell_of_rowAt r0 3).trans (rfl : _ = some (Value.slice ao n cap))
        have HF := Lib.hid (r5Find_any ⟨room, fuse, dead, fs⟩ (.slice ao n cap) nm W hR (by show fs.length ≤ 1000000; rw [HN.out]; exact hl))
        unfold diskC at HF
        go_wp2_with fail
        refine HF.out.mono ?_
        rintro e w2 ⟨rfl, b2⟩
        dsimp only
        clear c0 c1 c2 c3 HF
        rw [HQ.out]
        unfold foundV fileC
        have x0 := rowAt_past b2 r0
        have x1 := rowAt_past b2 r1
        have t0 := (rowAt_alloc_past w2 (.cells #[.string (stx f.name), .string (stx f.bytes), .int .i64 f.sure] 37) _ (lt_of_rowAt x0)).trans x0
        have t1 := (rowAt_alloc_past w2 (.cells #[.string (stx f.name), .string (stx f.bytes), .int .i64 f.sure] 37) _ (lt_of_rowAt x1)).trans x1
        have rF := rowAt_alloc_at w2 #[.string (stx f.name), .string (stx f.bytes), .int .i64 f.sure] 37 w2.heap.size rfl
        have bW2 := below_past bW b2 bW.size
        have bW3 := bW2.alloc bW2.size (.cells #[.string (stx f.name), .string (stx f.bytes), .int .i64 f.sure] 37)
        have hR3 := (hR.below b2).below ((Below.refl _ _).alloc (Nat.le_refl _) (.cells #[.string (stx f.name), .string (stx f.bytes), .int .i64 f.sure] 37))
        have hgt := lt_of_rowAt x1
        have HLT := Lib.hid ((hR.below b2).block)
        have c0 := (cell_of_rowAt t0 0).trans (rfl : _ = some (Value.int .i64 room))
        have c1 := (cell_of_rowAt t0 1).trans (rfl : _ = some (Value.int .i64 fuse))
        have c2 := (cell_of_rowAt t0 2).trans (rfl : _ = some (Value.bool dead))
        have c3 := (cell_of_rowAt t0 3).trans (rfl : _ = some (Value.slice ao n cap))
        clear x0 x1 r0 r1 bW bW2 hR b2
        have r0 := t0
        have r1 := t1
        have bW := bW3
        have hR := hR3
        clear t0 t1 bW3 hR3 rF c0 c1 c2 c3 hgt HLT
        have c0 := (cell_of_rowAt r0 0).trans (rfl : _ = some (Value.int .i64 room))
        have c1 := (cell_of_rowAt r0 1).trans (rfl : _ = some (Value.int .i64 fuse))
        have c2 := (cell_of_rowAt r0 2).trans (rfl : _ = some (Value.bool dead))
        have c3 := (cell_of_rowAt r0 3).trans (rfl : _ = some (Value.slice ao n cap))
        have p0 := (cell_of_rowAt r1 0).trans (rfl : _ = some (Value.int .i64 0))
        have p1 := (cell_of_rowAt r1 1).trans (rfl : _ = some (Value.int .i64 0))
        have p2 := (cell_of_rowAt r1 2).trans (rfl : _ = some (Value.bool false))
        have p3 := (cell_of_rowAt r1 3).trans (rfl : _ = some (Value.slice none 0 0))
        have e0 := frozen_of_rowAt r1 0
        have e1 := frozen_of_rowAt r1 1
        have e2 := frozen_of_rowAt r1 2
        have e3 := frozen_of_rowAt r1 3
        have HR1 := Lib.hid r1
        have HRF := Lib.hid hR
        have HBB := Lib.hid bW
        clear r0 r1 hR bW
        go_wp2_with fail
        have rr := rowAt_setCell_same (rowAt_setCell_same (rowAt_setCell_same (rowAt_setCell_same HR1.out 0 (.int .i64 room)) 1 (.int .i64 fuse)) 2 (.bool dead)) 3 (.slice ao n cap)
        have bb := (((HBB.out.setCell (p := ⟨w.heap.size + 1, 0, none⟩) (Nat.le_succ w.heap.size) (.int .i64 room)).setCell (p := ⟨w.heap.size + 1, 1, none⟩) (Nat.le_succ w.heap.size) (.int .i64 fuse)).setCell (p := ⟨w.heap.size + 1, 2, none⟩) (Nat.le_succ w.heap.size) (.bool dead)).setCell (p := ⟨w.heap.size + 1, 3, none⟩) (Nat.le_succ w.heap.size) (.slice ao n cap)
        have fR := RFiles.set4 (z := room) HRF.out HR1.out (.int .i64 fuse) (.bool dead) (.slice ao n cap)
        refine bodyPost_ret (results_row_tmp rfl _ _ _ _ _ rfl rr Try.underlying27 rfl (by kernel_rfl)) rfl ?_
        exact ⟨.slice ao n cap, rfl, fR, bb⟩
      · have h1 : (f.bytes.length : Int) ≤ at' := by omega
        have q0 : decide (at' < 0) = false := decide_eq_false h0
        have q1 : decide ((f.bytes.length : Int) ≤ at') = true := decide_eq_true h1
        clear he hq hbad
        go_enter Try.func30, Try.ntmps30
        go_wp2_with fail
        generalize (w.alloc (.cells #[.int .i64 room, .int .i64 fuse, .bool dead, .slice ao n cap] 27)).alloc (.cells #[.int .i64 0, .int .i64 0, .bool false, .slice none 0 0] 27) = W at *
        clear hRA bA
        have c0 := (cell_of_rowAt r0 0).trans (rfl : _ = some (Value.int .i64 room))
        have c1 := (cell_of_rowAt r0 1).trans (rfl : _ = some (Value.int .i64 fuse))
        have c2 := (cell_of_rowAt r0 2).trans (rfl : _ = some (Value.bool dead))
        have c3 := (cell_of_rowAt r0 3).trans (rfl : _ = some (Value.slice ao n cap))
        have HF := Lib.hid (r5Find_any ⟨room, fuse, dead, fs⟩ (.slice ao n cap) nm W hR (by show fs.length ≤ 1000000; rw [HN.out]; exact hl))
        unfold diskC at HF
        go_wp2_with fail
        refine HF.out.mono ?_
        rintro e w2 ⟨rfl, b2⟩
        dsimp only
        clear c0 c1 c2 c3 HF
        rw [HQ.out]
        unfold foundV fileC
        have x0 := rowAt_past b2 r0
        have x1 := rowAt_past b2 r1
        have t0 := (rowAt_alloc_past w2 (.cells #[.string (stx f.name), .string (stx f.bytes), .int .i64 f.sure] 37) _ (lt_of_rowAt x0)).trans x0
        have t1 := (rowAt_alloc_past w2 (.cells #[.string (stx f.name), .string (stx f.bytes), .int .i64 f.sure] 37) _ (lt_of_rowAt x1)).trans x1
        have rF := rowAt_alloc_at w2 #[.string (stx f.name), .string (stx f.bytes), .int .i64 f.sure] 37 w2.heap.size rfl
        have bW2 := below_past bW b2 bW.size
        have bW3 := bW2.alloc bW2.size (.cells #[.string (stx f.name), .string (stx f.bytes), .int .i64 f.sure] 37)
        have hR3 := (hR.below b2).below ((Below.refl _ _).alloc (Nat.le_refl _) (.cells #[.string (stx f.name), .string (stx f.bytes), .int .i64 f.sure] 37))
        have hgt := lt_of_rowAt x1
        have HLT := Lib.hid ((hR.below b2).block)
        have c0 := (cell_of_rowAt t0 0).trans (rfl : _ = some (Value.int .i64 room))
        have c1 := (cell_of_rowAt t0 1).trans (rfl : _ = some (Value.int .i64 fuse))
        have c2 := (cell_of_rowAt t0 2).trans (rfl : _ = some (Value.bool dead))
        have c3 := (cell_of_rowAt t0 3).trans (rfl : _ = some (Value.slice ao n cap))
        clear x0 x1 r0 r1 bW bW2 hR b2
        have k1 := (cell_of_rowAt rF 1).trans (rfl : _ = some (Value.string (stx f.bytes)))
        have r0 := t0
        have r1 := t1
        have bW := bW3
        have hR := hR3
        clear t0 t1 bW3 hR3 rF c0 c1 c2 c3 hgt HLT
        have c0 := (cell_of_rowAt r0 0).trans (rfl : _ = some (Value.int .i64 room))
        have c1 := (cell_of_rowAt r0 1).trans (rfl : _ = some (Value.int .i64 fuse))
        have c2 := (cell_of_rowAt r0 2).trans (rfl : _ = some (Value.bool dead))
        have c3 := (cell_of_rowAt r0 3).trans (rfl : _ = some (Value.slice ao n cap))
        have p0 := (cell_of_rowAt r1 0).trans (rfl : _ = some (Value.int .i64 0))
        have p1 := (cell_of_rowAt r1 1).trans (rfl : _ = some (Value.int .i64 0))
        have p2 := (cell_of_rowAt r1 2).trans (rfl : _ = some (Value.bool false))
        have p3 := (cell_of_rowAt r1 3).trans (rfl : _ = some (Value.slice none 0 0))
        have e0 := frozen_of_rowAt r1 0
        have e1 := frozen_of_rowAt r1 1
        have e2 := frozen_of_rowAt r1 2
        have e3 := frozen_of_rowAt r1 3
        have HR1 := Lib.hid r1
        have HRF := Lib.hid hR
        have HBB := Lib.hid bW
        clear r0 r1 hR bW
        go_wp2_with fail
        have rr := rowAt_setCell_same (rowAt_setCell_same (rowAt_setCell_same (rowAt_setCell_same HR1.out 0 (.int .i64 room)) 1 (.int .i64 fuse)) 2 (.bool dead)) 3 (.slice ao n cap)
        have bb := (((HBB.out.setCell (p := ⟨w.heap.size + 1, 0, none⟩) (Nat.le_succ w.heap.size) (.int .i64 room)).setCell (p := ⟨w.heap.size + 1, 1, none⟩) (Nat.le_succ w.heap.size) (.int .i64 fuse)).setCell (p := ⟨w.heap.size + 1, 2, none⟩) (Nat.le_succ w.heap.size) (.bool dead)).setCell (p := ⟨w.heap.size + 1, 3, none⟩) (Nat.le_succ w.heap.size) (.slice ao n cap)
        have fR := RFiles.set4 (z := room) HRF.out HR1.out (.int .i64 fuse) (.bool dead) (.slice ao n cap)
        refine bodyPost_ret (results_row_tmp rfl _ _ _ _ _ rfl rr Try.underlying27 rfl (by kernel_rfl)) rfl ?_
        exact ⟨.slice ao n cap, rfl, fR, bb⟩
    · obtain ⟨a, rfl⟩ : ∃ a : Nat, at' = a := ⟨at'.toNat, by omega⟩
      have ha : a < f.bytes.length := by omega
      have he : spE ⟨room, fuse, dead, fs⟩ nm (a : Int) = 0 := by unfold spE; simp [hq]; omega
      obtain ⟨u, hu8⟩ : ∃ u, f.bytes[a]? = some u := ⟨_, List.getElem?_eq_getElem ha⟩
      obtain ⟨fb, hfb⟩ : ∃ fb, f.bytes.set a (u ^^^ x) = fb := ⟨_, rfl⟩
      have hfl : fb.length = f.bytes.length := by rw [← hfb, List.length_set]
      have hfn := (dFind_some hq).2
      rw [show spD ⟨room, fuse, dead, fs⟩ nm (a : Int) x = ⟨room, fuse, dead, dPut ⟨f.name, fb, f.sure⟩ fs⟩ from by
        unfold spD
        rw [if_pos he]
        unfold xorAt
        rw [dBytes_some hq, show dSure fs nm = f.sure from by unfold dSure; rw [hq], Int.toNat_natCast, List.getD_eq_getElem?_getD, hu8, Option.getD_some, hfb, hfn], he]
      have q0 : decide ((a : Int) < 0) = false := decide_eq_false (by omega)
      have q1 : decide ((f.bytes.length : Int) ≤ a) = false := decide_eq_false (by omega)
      have q1n : decide (f.bytes.length ≤ a) = false := decide_eq_false (by omega)
      have hxx := xor_u8 u x
      have hai : (a : Int) < f.bytes.length := by omega
      have HFB := Lib.hid hfb
      have HFL := Lib.hid hfl
      have HU8 := Lib.hid hu8
      clear he hq hbad hfb hfl hu8 hfn
      go_enter Try.func30, Try.ntmps30
      go_wp2_with fail
      generalize (w.alloc (.cells #[.int .i64 room, .int .i64 fuse, .bool dead, .slice ao n cap] 27)).alloc (.cells #[.int .i64 0, .int .i64 0, .bool false, .slice none 0 0] 27) = W at *
      clear hRA bA
      have c0 := (cell_of_rowAt r0 0).trans (rfl : _ = some (Value.int .i64 room))
      have c1 := (cell_of_rowAt r0 1).trans (rfl : _ = some (Value.int .i64 fuse))
      have c2 := (cell_of_rowAt r0 2).trans (rfl : _ = some (Value.bool dead))
      have c3 := (cell_of_rowAt r0 3).trans (rfl : _ = some (Value.slice ao n cap))
      have HF := Lib.hid (r5Find_any ⟨room, fuse, dead, fs⟩ (.slice ao n cap) nm W hR (by show fs.length ≤ 1000000; rw [HN.out]; exact hl))
      unfold diskC at HF
      go_wp2_with fail
      refine HF.out.mono ?_
      rintro e w2 ⟨rfl, b2⟩
      dsimp only
      clear c0 c1 c2 c3 HF
      rw [HQ.out]
      unfold foundV fileC
      have x0 := rowAt_past b2 r0
      have x1 := rowAt_past b2 r1
      have t0 := (rowAt_alloc_past w2 (.cells #[.string (stx f.name), .string (stx f.bytes), .int .i64 f.sure] 37) _ (lt_of_rowAt x0)).trans x0
      have t1 := (rowAt_alloc_past w2 (.cells #[.string (stx f.name), .string (stx f.bytes), .int .i64 f.sure] 37) _ (lt_of_rowAt x1)).trans x1
      have rF := rowAt_alloc_at w2 #[.string (stx f.name), .string (stx f.bytes), .int .i64 f.sure] 37 w2.heap.size rfl
      have bW2 := below_past bW b2 bW.size
      have bW3 := bW2.alloc bW2.size (.cells #[.string (stx f.name), .string (stx f.bytes), .int .i64 f.sure] 37)
      have hR3 := (hR.below b2).below ((Below.refl _ _).alloc (Nat.le_refl _) (.cells #[.string (stx f.name), .string (stx f.bytes), .int .i64 f.sure] 37))
      have hgt := lt_of_rowAt x1
      have HLT := Lib.hid ((hR.below b2).block)
      have c0 := (cell_of_rowAt t0 0).trans (rfl : _ = some (Value.int .i64 room))
      have c1 := (cell_of_rowAt t0 1).trans (rfl : _ = some (Value.int .i64 fuse))
      have c2 := (cell_of_rowAt t0 2).trans (rfl : _ = some (Value.bool dead))
      have c3 := (cell_of_rowAt t0 3).trans (rfl : _ = some (Value.slice ao n cap))
      clear x0 x1 r0 r1 bW bW2 hR b2
      have k1 := (cell_of_rowAt rF 1).trans (rfl : _ = some (Value.string (stx f.bytes)))
      go_wp2_with fail
      generalize w2.heap.size = gF at *
      generalize w2.alloc (.cells #[.string (stx f.name), .string (stx f.bytes), .int .i64 f.sure] 37) = W3 at *
      rw [run_bytes_of_string W3 9 68 5 (stx f.bytes) Try.underlying9 Try.underlying68 Try.underlying5]
      have K0 := bytesAt_new W3 f.bytes (grownCap W3 (stx f.bytes).size 0 5)
      have b4 : Below W3.heap.size W3 (W3.drew.alloc (.cells (bytesRow (stx f.bytes) (grownCap W3 (stx f.bytes).size 0 5)) 5 ((bytesRow (stx f.bytes) (grownCap W3 (stx f.bytes).size 0 5)).size, (bytesRow (stx f.bytes) (grownCap W3 (stx f.bytes).size 0 5)).size + 1))) := (Below.refl _ _).drew.alloc (Nat.le_refl _) _
      have hgF := lt_of_rowAt rF
      generalize grownCap W3 (stx f.bytes).size 0 5 = bc at *
      generalize W3.drew.alloc (.cells (bytesRow (stx f.bytes) bc) 5 ((bytesRow (stx f.bytes) bc).size, (bytesRow (stx f.bytes) bc).size + 1)) = W4 at *
      have t0' := rowAt_past b4 t0
      have t1' := rowAt_past b4 t1
      have rF' := rowAt_past b4 rF
      have bW4 := below_past bW3 b4 bW3.size
      have hR4 := hR3.below b4
      have hRb : ∀ g, ao = some ⟨g, 0, none⟩ → fs ≠ [] → g ≠ W3.heap.size := by
        intro g h1 h2 e
        exact RFiles.block (n := n) (cap := cap) hR3 g h1 h2 e
      have hz3 : w.heap.size ≤ W3.heap.size := bW3.size
      clear t0 t1 rF bW3 hR3 c0 c1 c2 c3 k1 b4
      generalize W3.heap.size = gB at *
      have hc1 := K0.cell a u HU8.out
      have hf1 := K0.free a ha
      have K1 := K0.put a (u ^^^ x)
      rw [HFB.out] at K1
      have hcv := K1.conv bc
      rw [HFL.out] at hcv
      have hnB0 : w.heap.size ≠ gB := by omega
      have hnB1 : w.heap.size + 1 ≠ gB := by omega
      have hnBF : gF ≠ gB := by omega
      have u0 := (rowAt_setCell_other W4 ⟨gB, a, none⟩ _ (.int .u8 (u ^^^ x).toNat) hnB0).trans t0'
      have u1 := (rowAt_setCell_other W4 ⟨gB, a, none⟩ _ (.int .u8 (u ^^^ x).toNat) hnB1).trans t1'
      have uF := (rowAt_setCell_other W4 ⟨gB, a, none⟩ _ (.int .u8 (u ^^^ x).toNat) hnBF).trans rF'
      have bW5 := bW4.setCell (p := ⟨gB, a, none⟩) hz3 (.int .u8 (u ^^^ x).toNat)
      have hR5 := hR4.set' hRb a (.int .u8 (u ^^^ x).toNat)
      simp only [Result.andThen]
      rw [Oper.upon_value]
      have c0 := (cell_of_rowAt u0 0).trans (rfl : _ = some (Value.int .i64 room))
      have c1 := (cell_of_rowAt u0 1).trans (rfl : _ = some (Value.int .i64 fuse))
      have c2 := (cell_of_rowAt u0 2).trans (rfl : _ = some (Value.bool dead))
      have c3 := (cell_of_rowAt u0 3).trans (rfl : _ = some (Value.slice ao n cap))
      have k0 := (cell_of_rowAt uF 0).trans (rfl : _ = some (Value.string (stx f.name)))
      have k1 := (cell_of_rowAt uF 1).trans (rfl : _ = some (Value.string (stx f.bytes)))
      have k2 := (cell_of_rowAt uF 2).trans (rfl : _ = some (Value.int .i64 f.sure))
      have l0 := frozen_of_rowAt uF 0
      have l1 := frozen_of_rowAt uF 1
      have l2 := frozen_of_rowAt uF 2
      have hgF1 : w.heap.size + 1 ≠ gF := by omega
      have hgF0 : w.heap.size ≠ gF := by omega
      have hgFl : w.heap.size ≤ gF := by omega
      have HK1 := Lib.hid ((rowAt_setCell_other _ ⟨gF, 1, none⟩ _ (.string (stx fb)) hgF1).trans u1)
      have HRS := Lib.hid (hR5.set' HLT.out 1 (.string (stx fb)))
      have HBS := Lib.hid (bW5.setCell (p := ⟨gF, 1, none⟩) hgFl (.string (stx fb)))
      clear t0' t1' rF' bW4 hR4 K0 K1 u0 u1 uF bW5 hR5 hRb
      generalize (u ^^^ x).toNat = xu at *
      go_wp2_with fail
      generalize (W4.setCell ⟨gB, a, none⟩ (.int .u8 xu)).setCell ⟨gF, 1, none⟩ (.string (stx fb)) = W5 at *
      clear c0 c1 c2 c3 k0 k1 k2 l0 l1 l2 hcv hc1 hf1
      refine (r5Put_any ⟨room, fuse, dead, fs⟩ (.slice ao n cap) ⟨f.name, fb, f.sure⟩ W5 HRS.out (by show fs.length ≤ 1000000; rw [HN.out]; exact hl)).mono ?_
      rintro e w6 ⟨v6, rfl, o6, b6⟩
      obtain ⟨A6, c6, rfl⟩ := own_shapeF o6
      have r1 := rowAt_past b6 HK1.out
      have bW := below_past HBS.out b6 HBS.out.size
      have hR := o6.lie
      unfold diskC
      clear HK1 HRS HBS o6 b6
      dsimp only
      generalize (dPut ⟨f.name, fb, f.sure⟩ fs).length = m6 at *
      have p0 := (cell_of_rowAt r1 0).trans (rfl : _ = some (Value.int .i64 0))
      have p1 := (cell_of_rowAt r1 1).trans (rfl : _ = some (Value.int .i64 0))
      have p2 := (cell_of_rowAt r1 2).trans (rfl : _ = some (Value.bool false))
      have p3 := (cell_of_rowAt r1 3).trans (rfl : _ = some (Value.slice none 0 0))
      have e0 := frozen_of_rowAt r1 0
      have e1 := frozen_of_rowAt r1 1
      have e2 := frozen_of_rowAt r1 2
      have e3 := frozen_of_rowAt r1 3
      have HR1 := Lib.hid r1
      have HRF := Lib.hid hR
      have HBB := Lib.hid bW
      clear r1 hR bW
      go_wp2_with fail
      have rr := rowAt_setCell_same (rowAt_setCell_same (rowAt_setCell_same (rowAt_setCell_same HR1.out 0 (.int .i64 room)) 1 (.int .i64 fuse)) 2 (.bool dead)) 3 (.slice A6 m6 c6)
      have bb := (((HBB.out.setCell (p := ⟨w.heap.size + 1, 0, none⟩) (Nat.le_succ w.heap.size) (.int .i64 room)).setCell (p := ⟨w.heap.size + 1, 1, none⟩) (Nat.le_succ w.heap.size) (.int .i64 fuse)).setCell (p := ⟨w.heap.size + 1, 2, none⟩) (Nat.le_succ w.heap.size) (.bool dead)).setCell (p := ⟨w.heap.size + 1, 3, none⟩) (Nat.le_succ w.heap.size) (.slice A6 m6 c6)
      have fR := RFiles.set4 (z := room) HRF.out HR1.out (.int .i64 fuse) (.bool dead) (.slice A6 m6 c6)
      refine bodyPost_ret (results_row_tmp rfl _ _ _ _ _ rfl rr Try.underlying27 rfl (by kernel_rfl)) rfl ?_
      exact ⟨.slice A6 m6 c6, rfl, fR, bb⟩
end Go.Proofs.Ytlnijckgnchpbaa
