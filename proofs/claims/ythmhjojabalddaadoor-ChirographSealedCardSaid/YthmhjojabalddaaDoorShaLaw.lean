/- The call whose answer the document fixes, at the head of layer 3's statements: true; sums by keys. Conditions: the table lies where the program lays it. -/
import Derived.Test.YthmhjojabalddaaDoorSha8
namespace Go.Proofs.YthmhjojabalddaaDoor
open Go Go.RowKit

theorem aw3_0 : (shaLab [97, 98, 99]).get 0 = 186 := by
  unfold Lab.get; rw [shaLab_l, sha_abc]; rfl
theorem aw3_1 : (shaLab [97, 98, 99]).get 1 = 120 := by
  unfold Lab.get; rw [shaLab_l, sha_abc]; rfl
theorem aw3_31 : (shaLab [97, 98, 99]).get 31 = 173 := by
  unfold Lab.get; rw [shaLab_l, sha_abc]; rfl
set_option maxRecDepth 100000 in
theorem awake3 (w : World) (ht : Cubes w) : Calls Tryd.prog 12 #[] w fun e w' => e = .returned (.bool true) ∧ Below w.heap.size w w' := by
  have HS := Lib.hid (Sum_any ⟨#[97, 98, 99]⟩ w ht (by decide))
  rw [show (⟨#[97, 98, 99]⟩ : ByteArray).data.toList = [97, 98, 99] from rfl] at HS
  have h0 := aw3_0
  have h1 := aw3_1
  have h31 := aw3_31
  have H0 := Lib.hid h0
  have H1 := Lib.hid h1
  have H31 := Lib.hid h31
  clear h0 h1 h31 ht
  generalize shaLab [97, 98, 99] = L at *
  go_enter Tryd.func12, Tryd.ntmps12
  go_wp2_with fail
  refine HS.out.mono ?_
  rintro e w1 ⟨rfl, b1⟩
  have r1 := rowAt_alloc_at w1 (cellsL L) 25 _ rfl
  have b2 := b1.alloc b1.size (.cells (cellsL L) 25)
  have c0 : (w1.alloc (.cells (cellsL L) 25)).cell? ⟨w1.heap.size, 0, none⟩ = some (.int .u8 186) := by rw [cell_of_rowAt r1, get_cellsL _ _ (by decide), H0.out]; rfl
  have c1 : (w1.alloc (.cells (cellsL L) 25)).cell? ⟨w1.heap.size, 1, none⟩ = some (.int .u8 120) := by rw [cell_of_rowAt r1, get_cellsL _ _ (by decide), H1.out]; rfl
  have c31 : (w1.alloc (.cells (cellsL L) 25)).cell? ⟨w1.heap.size, 31, none⟩ = some (.int .u8 173) := by rw [cell_of_rowAt r1, get_cellsL _ _ (by decide), H31.out]; rfl
  clear HS r1 b1
  go_wp2_with fail
  go_ret
  exact ⟨rfl, b2⟩
end Go.Proofs.YthmhjojabalddaaDoor
