/- The reader's Label. Conditions: none. -/
import Derived.Test.YtnffmgpnhlcakaaDoorCode6
import Derived.Lib.BufferWrite
namespace Go.Proofs.YtnffmgpnhlcakaaDoor
open Go Go.RowKit

theorem size_u8 : (Tryd.prog.info? 5).map (·.size) = some 1 := by kernel_rfl
set_option maxRecDepth 100000 in
theorem copy_lab (w : World) (ty : TypeId) (g : Nat) (a l : Lab) (h : rowAt w g = some (cellsL a)) :
    (Builtin.copy_ #[78, 9] ty #[.slice (some ⟨g, 0, none⟩) 32 32, .string ⟨l.l.toArray⟩]).run Tryd.prog w = .ok (goInt 32) (w.setRow g (cellsL l)) := by
  obtain ⟨t, ht⟩ := heap_of_rowAt h
  have hs : (ByteArray.mk l.l.toArray).size = 32 := by show l.l.toArray.size = 32; rw [List.size_toArray, l.h]
  have hz : (cellsL a).size = 32 := by simp
  have := Lib.run_copy_row_string (P := Tryd.prog) w 78 9 ty 5 g 0 32 32 ⟨l.l.toArray⟩ (cellsL a) t Tryd.underlying78 size_u8 ht (by rw [hs]; exact Nat.le_refl _) (by rw [hs, hz]; exact Nat.le_refl _)
  rw [this, hs]
  congr 2
  have hd : (cellsL a).toList.drop (0 + 32) = [] := List.drop_eq_nil_of_le (by rw [Array.length_toList, hz]; exact Nat.le_refl _)
  rw [hd]
  simp [cellsL, Lib.byteCells]
  exact fun _ _ => rfl
set_option maxRecDepth 100000 in
theorem copy_none (w : World) (ty : TypeId) (g : Nat) :
    (Builtin.copy_ #[78, 9] ty #[.slice (some ⟨g, 0, none⟩) 32 32, .string ⟨#[]⟩]).run Tryd.prog w = .ok (goInt 0) w :=
  Lib.run_copy_empty_string (P := Tryd.prog) w _ _ _ 5 _ _ _ _ Tryd.underlying78 (by rw [size_u8]; rfl) rfl

theorem ReaderAt.above {B b : Nat} {s : ByteArray} {err : Int} {w w' : World} (h : ReaderAt B b s err w) (k : Below (b + 1) w w') : ReaderAt B b s err w' :=
  ⟨h.1, (k.block b (Nat.lt_succ_self _)).trans h.2⟩

set_option maxRecDepth 100000 in
theorem RLabel_yes (B b : Nat) (s : ByteArray) (l : Lab) (w : World) (h : ReaderAt B b s 0 w) (hBw : B ≤ w.heap.size) (hl : takeS s 0 32 = ⟨l.l.toArray⟩) :
    Calls Tryd.prog 26 #[.pointer (some ⟨b, 0, none⟩)] w fun r w' => r = .returned (.agg (cellsL l)) ∧ ReaderAt B b (takeR s 0 32) (takeE s 0 32) w' ∧ Near B b w w' := by
  have HT : ∀ w, ReaderAt B b s 0 w → Hid (Calls Tryd.prog 57 #[.pointer (some ⟨b, 0, none⟩), .int .i64 32] w fun r w' => r = .returned (.string ⟨l.l.toArray⟩) ∧ ReaderAt B b (takeR s 0 32) (takeE s 0 32) w' ∧ Near B b w w' ∧ ∀ g, g ≠ b → rowAt w' g = rowAt w g) := fun w h => Lib.hid (by
    have := take_row B b s 0 32 w h
    rwa [hl] at this)
  have b0 : Below w.heap.size w ((w.alloc (.cells (cellsL zeroLab) 29)).alloc (.cells (cellsL zeroLab) 29)) := ((Below.refl _ _).alloc (Nat.le_refl _) _).alloc (by simp only [World.size_alloc]; omega) _
  have r0 : rowAt ((w.alloc (.cells (cellsL zeroLab) 29)).alloc (.cells (cellsL zeroLab) 29)).drew w.heap.size = some (cellsL zeroLab) := (rowAt_alloc_past _ _ _ (by simp only [World.size_alloc]; omega)).trans (rowAt_alloc_at _ _ _ _ rfl)
  have r1 : rowAt ((w.alloc (.cells (cellsL zeroLab) 29)).alloc (.cells (cellsL zeroLab) 29)).drew (w.heap.size + 1) = some (cellsL zeroLab) := rowAt_alloc_at _ _ _ _ (by simp only [World.size_alloc])
  have hbl : b < w.heap.size := heap_lt h.2
  have n0 : w.heap.size ≠ b := Nat.ne_of_gt hbl
  have n1 : w.heap.size + 1 ≠ b := Nat.ne_of_gt (Nat.lt_succ_of_lt hbl)
  go_enter Tryd.func26, Tryd.ntmps26
  go_upto_region 2 with fail
  go_region_with (go_at_call 57; refine (HT _ (h.below b0.drew)).out.mono ?_; rintro e w1 ⟨rfl, k1, b1, f1⟩; have q0 := (f1 _ n0).trans r0; have q1 := (f1 _ n1).trans r1; have hcp := copy_lab w1 3 _ _ l q1)
  have s0 := (rowAt_setRow_other w1 (w.heap.size + 1) w.heap.size (cellsL l) (Nat.ne_of_lt (Nat.lt_succ_self _))).trans q0
  have s1 := rowAt_setRow_same q1 (cellsL l)
  have B2 := (b0.drew.near hBw).trans b1
  have K := Lib.hid ((k1.above (Below.setRow (Below.refl (b + 1) w1) (Nat.le_succ_of_le hbl) (cellsL l))).above (Below.setRow (Below.refl (b + 1) (w1.setRow (w.heap.size + 1) (cellsL l))) hbl (cellsL l)))
  have B3 := Near.setRow (Near.setRow B2 (Nat.le_succ_of_le hBw) (Nat.le_succ _) (cellsL l)) hBw (Nat.le_refl _) (cellsL l)
  clear k1 q0 q1 hcp r0 r1 f1
  go_wp2_with fail
  exact row_ret_lab rfl rfl rfl (rowAt_setRow_same s0 _) ⟨rfl, K.out, B3⟩

set_option maxRecDepth 100000 in
theorem RLabel_no (B b : Nat) (s : ByteArray) (err : Int) (w : World) (h : ReaderAt B b s err w) (hBw : B ≤ w.heap.size) (hl : takeS s err 32 = ⟨#[]⟩) :
    Calls Tryd.prog 26 #[.pointer (some ⟨b, 0, none⟩)] w fun r w' => r = .returned (.agg (cellsL zeroLab)) ∧ ReaderAt B b (takeR s err 32) (takeE s err 32) w' ∧ Near B b w w' := by
  have HT : ∀ w, ReaderAt B b s err w → Hid (Calls Tryd.prog 57 #[.pointer (some ⟨b, 0, none⟩), .int .i64 32] w fun r w' => r = .returned (.string ⟨#[]⟩) ∧ ReaderAt B b (takeR s err 32) (takeE s err 32) w' ∧ Near B b w w' ∧ ∀ g, g ≠ b → rowAt w' g = rowAt w g) := fun w h => Lib.hid (by
    have := take_row B b s err 32 w h
    rwa [hl] at this)
  have b0 : Below w.heap.size w ((w.alloc (.cells (cellsL zeroLab) 29)).alloc (.cells (cellsL zeroLab) 29)) := ((Below.refl _ _).alloc (Nat.le_refl _) _).alloc (by simp only [World.size_alloc]; omega) _
  have r0 : rowAt ((w.alloc (.cells (cellsL zeroLab) 29)).alloc (.cells (cellsL zeroLab) 29)).drew w.heap.size = some (cellsL zeroLab) := (rowAt_alloc_past _ _ _ (by simp only [World.size_alloc]; omega)).trans (rowAt_alloc_at _ _ _ _ rfl)
  have r1 : rowAt ((w.alloc (.cells (cellsL zeroLab) 29)).alloc (.cells (cellsL zeroLab) 29)).drew (w.heap.size + 1) = some (cellsL zeroLab) := rowAt_alloc_at _ _ _ _ (by simp only [World.size_alloc])
  have hbl : b < w.heap.size := heap_lt h.2
  have n0 : w.heap.size ≠ b := Nat.ne_of_gt hbl
  have n1 : w.heap.size + 1 ≠ b := Nat.ne_of_gt (Nat.lt_succ_of_lt hbl)
  go_enter Tryd.func26, Tryd.ntmps26
  go_upto_region 2 with fail
  go_region_with (go_at_call 57; refine (HT _ (h.below b0.drew)).out.mono ?_; rintro e w1 ⟨rfl, k1, b1, f1⟩; have q0 := (f1 _ n0).trans r0; have q1 := (f1 _ n1).trans r1; have hcp := copy_none w1 3 (w.heap.size + 1))
  have B2 := (b0.drew.near hBw).trans b1
  have K := Lib.hid (k1.above (Below.setRow (Below.refl (b + 1) w1) hbl (cellsL zeroLab)))
  have B3 := Near.setRow B2 hBw (Nat.le_refl _) (cellsL zeroLab)
  clear k1 hcp r0 r1 f1
  go_wp2_with fail
  exact row_ret_lab rfl rfl rfl (rowAt_setRow_same q0 _) ⟨rfl, K.out, B3⟩

/-- The label that Label takes. -/
def labelV (s : ByteArray) (err : Int) : Lab := if h : err = 0 ∧ 32 ≤ s.size then ⟨s.data.toList.take 32, by rw [List.length_take]; exact Nat.min_eq_left h.2⟩ else zeroLab
theorem RLabel_any (B b : Nat) (s : ByteArray) (err : Int) (w : World) (h : ReaderAt B b s err w) (hBw : B ≤ w.heap.size) :
    Calls Tryd.prog 26 #[.pointer (some ⟨b, 0, none⟩)] w fun r w' => r = .returned (.agg (cellsL (labelV s err))) ∧ ReaderAt B b (takeR s err 32) (takeE s err 32) w' ∧ Near B b w w' := by
  by_cases hg : err = 0 ∧ 32 ≤ s.size
  · obtain ⟨rfl, h32⟩ := hg
    refine RLabel_yes B b s _ w h hBw ?_
    rw [takeS, if_pos ⟨rfl, h32⟩, labelV, dif_pos ⟨rfl, h32⟩]
    apply ByteArray.ext
    rw [ByteArray.data_extract]
    apply Array.toList_inj.1
    simp
  · have : labelV s err = zeroLab := dif_neg hg
    rw [this]
    exact RLabel_no B b s err w h hBw (if_neg hg)
end Go.Proofs.YtnffmgpnhlcakaaDoor
