/- The call whose answers the document fixes, at the head of layer 1's statements: true. Conditions: none. -/
import Derived.Test.YtlahepdfhfknfaaBits4
namespace Go.Proofs.Ytlahepdfhfknfaa
open Go Go.RowKit

def lC0 : Lab := zeroLab.set 0 192
def lE0 : Lab := zeroLab.set 0 224
theorem c0_cells : (cellsL zeroLab).setIfInBounds 0 (.int .u8 192) = cellsL lC0 := set_cellsL zeroLab 0 192 (by decide) (by decide)
theorem e0_cells : (cellsL zeroLab).setIfInBounds 0 (.int .u8 224) = cellsL lE0 := set_cellsL zeroLab 0 224 (by decide) (by decide)
theorem e0_cut : cut lE0 2 = lC0 := by decide +kernel
theorem c0_good : good (2 : Nat) lC0 = true := by decide +kernel
theorem c0_grown : grown lC0 2 1 = lE0 := by decide +kernel
theorem c0_bit : bitI lC0 1 = 1 := by decide +kernel
theorem c0_common : common lC0 lE0 = 2 := by decide +kernel
theorem c0_order : order lC0 lE0 = -1 := by decide +kernel

set_option maxRecDepth 100000 in
theorem awake1 (w : World) : Calls Try.prog 15 #[] w fun e w' => e = .returned (.bool true) ∧ Below w.heap.size w w' := by
  have hc := c0_cells
  have he := e0_cells
  go_enter Try.func15, Try.ntmps15
  go_wp2_with fail
  have b0 : Below w.heap.size w ((w.alloc (.cells (cellsL lC0) 23)).alloc (.cells (cellsL lE0) 23)) := ((Below.refl _ _).alloc (Nat.le_refl _) _).alloc (by simp only [World.size_alloc]; omega) _
  have r0 : rowAt ((w.alloc (.cells (cellsL lC0) 23)).alloc (.cells (cellsL lE0) 23)) w.heap.size = some (cellsL lC0) := (rowAt_alloc_past _ _ _ (by simp only [World.size_alloc]; omega)).trans (rowAt_alloc_at _ _ _ _ rfl)
  have r1 : rowAt ((w.alloc (.cells (cellsL lC0) 23)).alloc (.cells (cellsL lE0) 23)) (w.heap.size + 1) = some (cellsL lE0) := rowAt_alloc_at _ _ _ _ (by simp only [World.size_alloc])
  generalize (w.alloc (.cells (cellsL lC0) 23)).alloc (.cells (cellsL lE0) 23) = W at *
  refine (Cut_any _ _ _).mono ?_
  rintro e w1 ⟨rfl, hb1⟩
  rw [show (2 : Int).toNat = 2 from rfl, e0_cut, show min (max (2 : Int) 0) 256 = ((2 : Nat) : Int) from rfl]
  go_wp2_with fail
  refine (Next_yes _ _ _ c0_good (by decide) (.inr rfl) _).mono ?_
  rintro e w2 ⟨rfl, hb2⟩
  rw [c0_grown]
  have q0 := rowAt_past hb2 (rowAt_past hb1 r0)
  have q1 := rowAt_past hb2 (rowAt_past hb1 r1)
  have b2 := below_past (below_past b0 hb1 b0.size) hb2 (below_past b0 hb1 b0.size).size
  clear r0 r1 hb1 hb2 b0
  have l0 := lt_of_rowAt q0
  have l1 := lt_of_rowAt q1
  go_wp2_with fail
  refine (Bit_any _ _ _).mono ?_
  rintro e w3 ⟨rfl, hb3⟩
  rw [c0_bit]
  have p0 := rowAt_past hb3 ((rowAt_alloc_past _ _ _ l0).trans q0)
  have p1 := rowAt_past hb3 ((rowAt_alloc_past _ _ _ l1).trans q1)
  have p2 := rowAt_past hb3 (rowAt_alloc_at _ _ _ _ rfl)
  have b3 := below_past (b2.alloc b2.size _) hb3 (b2.alloc b2.size _).size
  clear q0 q1 l0 l1 hb3 b2
  go_wp2_with fail
  refine (Common_any _ _ _).mono ?_
  rintro e w4 ⟨rfl, hb4⟩
  rw [c0_common]
  have q0 := rowAt_past hb4 p0
  have q1 := rowAt_past hb4 p1
  have q2 := rowAt_past hb4 p2
  have b4 := below_past b3 hb4 b3.size
  clear p0 p1 p2 hb4 b3
  go_wp2_with fail
  refine (Order_any _ _ _).mono ?_
  rintro e w5 ⟨rfl, hb5⟩
  rw [c0_order]
  have p0 := rowAt_past hb5 q0
  have p1 := rowAt_past hb5 q1
  have p2 := rowAt_past hb5 q2
  have b5 := below_past b4 hb5 b4.size
  clear q0 q1 q2 hb5 b4
  go_wp2_with fail
  go_ret
  exact ⟨rfl, b5⟩
end Go.Proofs.Ytlahepdfhfknfaa
