/- The listed table of the rounds' constants, opened. Conditions: none. -/
import Derived.Test.YtnffmgpnhlcakaaDoorRow
import Derived.Test.YtnffmgpnhlcakaaDoorSha3
import Derived.LaidMore
import Derived.Stop.Joined
import Derived.ChangeMaps5
namespace Go.Proofs.YtnffmgpnhlcakaaDoor
open Go Go.ChangeShapes Go.WideShapes Go.ChangeAt Go.ChangeMaps Go.RowKit

theorem words_of {P : Program} {W : World} {enc : TypeId × Value → Unit} {sp : Nat → Bool} {T e n g fuel : Nat} {L : List Nat} {cs : Array Value} {ps : List MemPlace} (hcell : ∀ i, W.cell? ⟨g, i, none⟩ = cs[i]?)
    (hu : P.underlying T = some (.array n e)) (he : P.underlying e = some (.int .u32)) (ce : P.cellsOf e = 1) (hn : L.length = n)
    (hd : DataW.trod enc P W 0 sp false fuel T cs.toList = some (.agg (L.map fun k : Nat => .lit (.int .u32 (k : Int))), ps)) : ∀ i, i < n → W.cell? ⟨g, i, none⟩ = some (.int .u32 (L.getD i 0 : Nat)) := by
  obtain ⟨xs, m, _, hx, _, hl, hel⟩ := DataW.trod_array hu hd
  intro i hi
  have h1 := hel i hi
  rw [ce, List.getElem?_eq_getElem (show i < xs.length by omega)] at h1
  obtain ⟨k, e1, e2, _⟩ := DataW.trod_int he h1
  simp only [Prod.mk.injEq, DataW.agg.injEq] at hx
  have h2 : (L.map fun k : Nat => (DataW.lit (.int .u32 (k : Int)) : DataW Unit))[i]? = (xs.map (·.1))[i]? := by rw [hx.1]
  rw [List.getElem?_map, List.getElem?_map, List.getElem?_eq_getElem (show i < xs.length by omega), List.getElem?_eq_getElem (show i < L.length by omega), e2] at h2
  simp only [Option.map_some, Option.some.injEq, DataW.lit.injEq, Lit.int.injEq, true_and] at h2
  rw [hcell i, List.getD_eq_getElem?_getD, List.getElem?_eq_getElem (show i < L.length by omega)]
  have h3 : (List.take 1 (List.drop (i * 1) cs.toList))[0]? = some (.int .u32 k) := by rw [e1]; rfl
  have h4 : cs[i]? = some (.int .u32 k) := by simpa using h3
  rw [h4, ← h2]
  rfl
theorem gCubes : Tryd.prog.globalNamed "chirograph/sha.cubes" = some 0 := by kernel_rfl
theorem tCubes : (Tryd.prog.globals[0]?).map (·.type) = some 134 := by kernel_rfl
def laidSha {H : Type} : List (String × DataW H) := [("chirograph/sha.cubes", Rows.laid_chirograph_sha_cubes)]
theorem cellsOf_w32 : Tryd.prog.cellsOf 109 = 1 := by kernel_rfl
theorem cubesL_wv : ∀ i, i < 64 → wv (cubeT i) = ((cubesL.getD i 0 : Nat) : Int) := by
  have h : ((List.range 64).all fun i => (cubeT i).toNat == cubesL.getD i 0) = true := by decide +kernel
  intro i hi
  have := List.all_eq_true.1 h i (by simpa using hi)
  rw [beq_iff_eq] at this
  rw [wv, this]
theorem cubes_of_cells {W : World} (h : ∀ i, i < 64 → W.cell? ⟨0, i, none⟩ = some (.int .u32 (cubesL.getD i 0 : Nat))) : Cubes W := fun i hi => by
  rw [cubesL_wv i hi]
  exact h i hi
/-- What the condition gives: the table lies there. -/
theorem cubes_of_laid {W : World} (h : laidMetH Tryd.prog laidSha W) : Cubes W := by
  rw [MakeChecks.laidMetH_plain _ _ _ (by kernel_rfl)] at h
  obtain ⟨ps, ⟨g0, t0, cs0, f0, p0, q0, hg0, ht0, hv0, hd0, _, _⟩, _, _⟩ := h
  obtain rfl := Option.some.inj (gCubes.symm.trans hg0)
  obtain rfl := Option.some.inj (tCubes.symm.trans ht0)
  exact cubes_of_cells (words_of (L := cubesL) (World.var?_cell gCubes hv0) Tryd.underlying134 Tryd.underlying109 cellsOf_w32 rfl hd0)
/-- The door's own heap meets the condition. -/
theorem door_sha (os : Os) (args : Array Value) : laidMetH Tryd.prog laidSha ((World.doorLaid Tryd.prog 2000 os).forCall (fun _ _ => 0) ⟨#[], args, []⟩).memory :=
  laidMetH_of_parts3 (fuel := 8) (laidMet_of_run' 8 (by kernel_rfl) (by kernel_rfl)) (by kernel_rfl) (by kernel_rfl)
end Go.Proofs.YtnffmgpnhlcakaaDoor
