/- The listed variables of the journal's laws, opened. Conditions: none. -/
import Derived.Test.YtlhdnkfnhdkbkaaGreatDoorTabs
namespace Go.Proofs.YtlhdnkfnhdkbkaaGreatDoor
open Go Go.ChangeShapes Go.WideShapes Go.ChangeAt Go.ChangeMaps Go.RowKit

def laidJ {H : Type} : List (String × DataW H) := [("math/bits.deBruijn32tab", Rows.laid_math_bits_deBruijn32tab), ("math/bits.deBruijn64tab", Rows.laid_math_bits_deBruijn64tab), ("internal/strconv.uint64pow10", Rows.laid_internal_strconv_uint64pow10), ("strconv.ErrRange", Rows.laid_strconv_ErrRange), ("strconv.ErrSyntax", Rows.laid_strconv_ErrSyntax), ("chirograph/seal.low", Rows.laid_chirograph_seal_low), ("chirograph/seal.high", Rows.laid_chirograph_seal_high)]
/-- What the condition gives: the tables lie there. -/
theorem tabsJ_of_laid {W : World} (h : laidMetH Tryz.prog laidJ W) : Tabs W := by
  rw [MakeChecks.laidMetH_plain _ _ _ (by kernel_rfl)] at h
  obtain ⟨ps, ⟨_, _, _, _, _, _, _, _, _, _, ⟨_, _, _, _, _, _, _, _, _, _, ⟨_, _, _, _, _, _, _, _, _, _, ⟨_, _, _, _, _, _, _, _, _, _, ⟨_, _, _, _, _, _, _, _, _, _, ⟨g0, t0, cs0, f0, p0, q0, hg0, ht0, hv0, hd0, ⟨g1, t1, cs1, f1, p1, q1, hg1, ht1, hv1, hd1, _, _⟩, _⟩, _⟩, _⟩, _⟩, _⟩, _⟩, _, _⟩ := h
  obtain rfl := Option.some.inj (gLow.symm.trans hg0)
  obtain rfl := Option.some.inj (gHigh.symm.trans hg1)
  obtain rfl := Option.some.inj (tLow.symm.trans ht0)
  obtain rfl := Option.some.inj (tHigh.symm.trans ht1)
  exact ⟨table_of (L := lowL) (World.var?_cell gLow hv0) Tryz.underlying125 Tryz.underlying82 cellsOf_u32 rfl hd0, table_of (L := highL) (World.var?_cell gHigh hv1) Tryz.underlying125 Tryz.underlying82 cellsOf_u32 rfl hd1⟩
/-- The door's own heap meets the condition. -/
theorem door_J (os : Os) (args : Array Value) : laidMetH Tryz.prog laidJ ((World.doorLaid Tryz.prog 2000 os).forCall (fun _ _ => 0) ⟨#[], args, []⟩).memory :=
  laidMetH_of_parts3 (fuel := 8) (laidMet_of_run' 8 (by kernel_rfl) (by kernel_rfl)) (by kernel_rfl) (by kernel_rfl)
end Go.Proofs.YtlhdnkfnhdkbkaaGreatDoor
