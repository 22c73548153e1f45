/- The listed tables, opened. Conditions: none. -/
import Derived.Test.YtlhdnkfnhdkbkaaGreatDoorRow
import Derived.Test.YtlhdnkfnhdkbkaaGreatDoorSeal1
import Derived.LaidMore
import Derived.Stop.Joined
import Derived.ChangeMaps5
namespace Go.Proofs.YtlhdnkfnhdkbkaaGreatDoor
open Go Go.ChangeShapes Go.WideShapes Go.ChangeAt Go.ChangeMaps Go.RowKit

theorem table_of {P : Program} {W : World} {enc : TypeId × Value → Unit} {sp : Nat → Bool} {T e n g fuel : Nat} {L : List Nat} {cs : Array Value} {ps : List MemPlace} (hcell : ∀ i, W.cell? ⟨g, i, none⟩ = cs[i]?)
    (hu : P.underlying T = some (.array n e)) (he : P.underlying e = some (.int .u32)) (ce : P.cellsOf e = 1) (hn : L.length = n)
    (hd : DataW.trod enc P W 0 sp false fuel T cs.toList = some (.agg (L.map fun k : Nat => .lit (.int .u32 (k : Int))), ps)) : ∀ i, i < n → W.cell? ⟨g, i, none⟩ = some (.int .u32 (L.getD i 0 : Nat)) := by
  obtain ⟨xs, m, _, hx, _, hl, hel⟩ := DataW.trod_array hu hd
  intro i hi
  have h1 := hel i hi
  rw [ce, List.getElem?_eq_getElem (show i < xs.length by omega)] at h1
  obtain ⟨k, e1, e2, _⟩ := DataW.trod_int he h1
  simp only [Prod.mk.injEq, DataW.agg.injEq] at hx
  have h2 : (L.map fun k : Nat => (DataW.lit (.int .u32 (k : Int)) : DataW Unit))[i]? = (xs.map (·.1))[i]? := by rw [hx.1]
  rw [List.getElem?_map, List.getElem?_map, List.getElem?_eq_getElem (show i < xs.length by omega), List.getElem?_eq_getElem (show i < L.length by omega), e2] at h2
  simp only [Option.map_some, Option.some.injEq, DataW.lit.injEq, Lit.int.injEq, true_and] at h2
  rw [hcell i, List.getD_eq_getElem?_getD, List.getElem?_eq_getElem (show i < L.length by omega)]
  have h3 : (List.take 1 (List.drop (i * 1) cs.toList))[0]? = some (.int .u32 k) := by rw [e1]; rfl
  have h4 : cs[i]? = some (.int .u32 k) := by simpa using h3
  rw [h4, ← h2]
  rfl

theorem gLow : Tryz.prog.globalNamed "chirograph/seal.low" = some 0 := by kernel_rfl
theorem gHigh : Tryz.prog.globalNamed "chirograph/seal.high" = some 1 := by kernel_rfl
theorem tLow : (Tryz.prog.globals[0]?).map (·.type) = some 125 := by kernel_rfl
theorem tHigh : (Tryz.prog.globals[1]?).map (·.type) = some 125 := by kernel_rfl
def laidSeal {H : Type} : List (String × DataW H) := [("chirograph/seal.low", Rows.laid_chirograph_seal_low), ("chirograph/seal.high", Rows.laid_chirograph_seal_high)]
theorem cellsOf_u32 : Tryz.prog.cellsOf 82 = 1 := by kernel_rfl
/-- What the condition gives: the tables lie there. -/
theorem tabs_of_laid {W : World} (h : laidMetH Tryz.prog laidSeal W) : Tabs W := by
  rw [MakeChecks.laidMetH_plain _ _ _ (by kernel_rfl)] at h
  obtain ⟨ps, ⟨g0, t0, cs0, f0, p0, q0, hg0, ht0, hv0, hd0, ⟨g1, t1, cs1, f1, p1, q1, hg1, ht1, hv1, hd1, _, _⟩, _⟩, _, _⟩ := h
  obtain rfl := Option.some.inj (gLow.symm.trans hg0)
  obtain rfl := Option.some.inj (gHigh.symm.trans hg1)
  obtain rfl := Option.some.inj (tLow.symm.trans ht0)
  obtain rfl := Option.some.inj (tHigh.symm.trans ht1)
  exact ⟨table_of (L := lowL) (World.var?_cell gLow hv0) Tryz.underlying125 Tryz.underlying82 cellsOf_u32 rfl hd0, table_of (L := highL) (World.var?_cell gHigh hv1) Tryz.underlying125 Tryz.underlying82 cellsOf_u32 rfl hd1⟩
/-- The door's own heap meets the condition. -/
theorem door_seal (os : Os) (args : Array Value) : laidMetH Tryz.prog laidSeal ((World.doorLaid Tryz.prog 2000 os).forCall (fun _ _ => 0) ⟨#[], args, []⟩).memory :=
  laidMetH_of_parts3 (fuel := 8) (laidMet_of_run' 8 (by kernel_rfl) (by kernel_rfl)) (by kernel_rfl) (by kernel_rfl)
end Go.Proofs.YtlhdnkfnhdkbkaaGreatDoor
