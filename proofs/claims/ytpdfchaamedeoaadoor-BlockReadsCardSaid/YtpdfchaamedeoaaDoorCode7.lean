/- The reader's Label. Conditions: none. -/
import Derived.Test.YtpdfchaamedeoaaDoorCode6
import Derived.Lib.BufferWrite
namespace Go.Proofs.YtpdfchaamedeoaaDoor
open Go Go.RowKit

theorem size_u8 : (Tryd.prog.info? 5).map (·.size) = some 1 := by kernel_rfl
set_option maxRecDepth 100000 in
theorem copy_lab (w : World) (ty : TypeId) (g : Nat) (a l : Lab) (h : rowAt w g = some (cellsL a)) :
    (Builtin.copy_ #[61, 9] ty #[.slice (some ⟨g, 0, none⟩) 32 32, .string ⟨l.l.toArray⟩]).run Tryd.prog w = .ok (goInt 32) (w.setRow g (cellsL l)) := by
  obtain ⟨t, ht⟩ := heap_of_rowAt h
  have hs : (ByteArray.mk l.l.toArray).size = 32 := by show l.l.toArray.size = 32; rw [List.size_toArray, l.h]
  have hz : (cellsL a).size = 32 := by simp
  have := Lib.run_copy_row_string (P := Tryd.prog) w 61 9 ty 5 g 0 32 32 ⟨l.l.toArray⟩ (cellsL a) t Tryd.underlying61 size_u8 ht (by rw [hs]; exact Nat.le_refl _) (by rw [hs, hz]; exact Nat.le_refl _)
  rw [this, hs]
  congr 2
  have hd : (cellsL a).toList.drop (0 + 32) = [] := List.drop_eq_nil_of_le (by rw [Array.length_toList, hz]; exact Nat.le_refl _)
  rw [hd]
  simp [cellsL, Lib.byteCells]
  exact fun _ _ => rfl
set_option maxRecDepth 100000 in
theorem copy_none (w : World) (ty : TypeId) (g : Nat) :
    (Builtin.copy_ #[61, 9] ty #[.slice (some ⟨g, 0, none⟩) 32 32, .string ⟨#[]⟩]).run Tryd.prog w = .ok (goInt 0) w :=
  Lib.run_copy_empty_string (P := Tryd.prog) w _ _ _ 5 _ _ _ _ Tryd.underlying61 (by rw [size_u8]; rfl) rfl

theorem ReaderAt.above {B b : Nat} {s : ByteArray} {err : Int} {w w' : World} (h : ReaderAt B b s err w) (k : Below (b + 1) w w') : ReaderAt B b s err w' :=
  ⟨h.1, (k.block b (Nat.lt_succ_self _)).trans h.2⟩

/-- The label that Label takes. -/
def labelV (s : ByteArray) (err : Int) : Lab := if h : err = 0 ∧ 32 ≤ s.size then ⟨s.data.toList.take 32, by rw [List.length_take]; exact Nat.min_eq_left h.2⟩ else zeroLab
end Go.Proofs.YtpdfchaamedeoaaDoor
