/- Entries: a copy of one. Conditions: none. -/
import Derived.Test.YtpfkomglghmnfaaEnts
import Derived.Test.YtpfkomglghmnfaaWild
namespace Go.Proofs.Ytpfkomglghmnfaa
open Go Go.RowKit

def entZ : List Value := [.string ⟨#[]⟩, .string ⟨#[]⟩, .bool false]
set_option maxRecDepth 100000 in
set_option maxHeartbeats 1000000 in
theorem mOwn_any (x : Ent) (w : World) (h1 : x.key.length ≤ 281474976710656) (h2 : x.val.length ≤ 281474976710656) :
    Calls Try.prog 19 #[.agg (entC x).toArray] w fun e w' => e = .returned (.agg (entC x).toArray) ∧ Below w.heap.size w w' := by
  unfold entC
  have HK : ∀ W, Hid (Calls Try.prog 28 #[.string (stx x.key)] W fun r w' => r = .returned (.string (stx x.key)) ∧ Below W.heap.size W w') := fun W => Lib.hid (sClone_any _ W (by rw [stx_size]; exact h1))
  have HV : ∀ W, Hid (Calls Try.prog 28 #[.string (stx x.val)] W fun r w' => r = .returned (.string (stx x.val)) ∧ Below W.heap.size W w') := fun W => Lib.hid (sClone_any _ W (by rw [stx_size]; exact h2))
  have b0 : Below w.heap.size w ((w.alloc (.cells #[.string (stx x.key), .string (stx x.val), .bool x.gone] 28)).alloc (.cells #[.string ⟨#[]⟩, .string ⟨#[]⟩, .bool false] 28)) := ((Below.refl _ _).alloc (Nat.le_refl _) _).alloc (by simp only [World.size_alloc]; omega) _
  have r0 : rowAt ((w.alloc (.cells #[.string (stx x.key), .string (stx x.val), .bool x.gone] 28)).alloc (.cells #[.string ⟨#[]⟩, .string ⟨#[]⟩, .bool false] 28)) w.heap.size = some #[.string (stx x.key), .string (stx x.val), .bool x.gone] := (rowAt_alloc_past _ _ _ (by simp only [World.size_alloc]; omega)).trans (rowAt_alloc_at _ _ _ _ rfl)
  have r1 : rowAt ((w.alloc (.cells #[.string (stx x.key), .string (stx x.val), .bool x.gone] 28)).alloc (.cells #[.string ⟨#[]⟩, .string ⟨#[]⟩, .bool false] 28)) (w.heap.size + 1) = some #[.string ⟨#[]⟩, .string ⟨#[]⟩, .bool false] := rowAt_alloc_at _ _ _ _ (by simp only [World.size_alloc])
  have hz : w.heap.size ≤ ((w.alloc (.cells #[.string (stx x.key), .string (stx x.val), .bool x.gone] 28)).alloc (.cells #[.string ⟨#[]⟩, .string ⟨#[]⟩, .bool false] 28)).heap.size := b0.size
  clear h1 h2
  go_enter Try.func19, Try.ntmps19
  go_wp2_with fail
  generalize (w.alloc (.cells #[.string (stx x.key), .string (stx x.val), .bool x.gone] 28)).alloc (.cells #[.string ⟨#[]⟩, .string ⟨#[]⟩, .bool false] 28) = W at *
  have y0 : ∀ y : Past W, y.w.cell? ⟨w.heap.size, 0, none⟩ = some (.string (stx x.key)) := fun y => (cell_of_rowAt (Past.row r0 y) 0).trans rfl
  have y1 : ∀ y : Past W, y.w.cell? ⟨w.heap.size, 1, none⟩ = some (.string (stx x.val)) := fun y => (cell_of_rowAt (Past.row r0 y) 1).trans rfl
  have y2 : ∀ y : Past W, y.w.cell? ⟨w.heap.size, 2, none⟩ = some (.bool x.gone) := fun y => (cell_of_rowAt (Past.row r0 y) 2).trans rfl
  refine wp_region_wildL [] 9 (by kernel_rfl) (by kernel_rfl) ?_
  simp only [List.take_succ_cons, List.take_zero]
  iterate 2 (refine wildL_val (by decide) (by kernel_rfl) rfl ?_; intro K hK; go_big_quiet_op; go_big_quiet_on)
  refine wildL_call (by decide) (by kernel_rfl) (by kernel_rfl) ?_
  apply Exists.intro
  refine And.intro ?_ ?_
  focus
    intro x K hK
    go_big_quiet_op
    go_big_quiet_call (exact call_back (HK _).out)
    rfl
  iterate 2 (refine wildL_val (by decide) (by kernel_rfl) rfl ?_; intro K hK; go_big_quiet_op; go_big_quiet_on)
  refine wildL_call (by decide) (by kernel_rfl) (by kernel_rfl) ?_
  apply Exists.intro
  refine And.intro ?_ ?_
  focus
    intro x K hK
    go_big_quiet_op
    go_big_quiet_call (exact call_back (HV _).out)
    rfl
  iterate 3 (refine wildL_val (by decide) (by kernel_rfl) rfl ?_; intro K hK; go_big_quiet_op; go_big_quiet_on)
  refine wildL_nil ?_
  simp only [List.drop_succ_cons, List.drop_zero]
  rintro ⟨z, hz2⟩
  change wpList _ _ _ _ _ z
  have s1 := rowAt_past hz2 r1
  have bz := below_past b0 hz2 hz
  have c0 := (cell_of_rowAt s1 0).trans (rfl : _ = some (Value.string ⟨#[]⟩))
  have c1 := (cell_of_rowAt s1 1).trans (rfl : _ = some (Value.string ⟨#[]⟩))
  have c2 := (cell_of_rowAt s1 2).trans (rfl : _ = some (Value.bool false))
  have e0 := frozen_of_rowAt s1 0
  have e1 := frozen_of_rowAt s1 1
  have e2 := frozen_of_rowAt s1 2
  have S1 := Lib.hid s1
  clear s1 y0 y1 y2 r0 r1 b0 hz
  go_wp2_with fail
  have rr := rowAt_setCell_same (rowAt_setCell_same (rowAt_setCell_same S1.out 0 (.string (stx x.key))) 1 (.string (stx x.val))) 2 (.bool x.gone)
  have bb := ((bz.setCell (p := ⟨w.heap.size + 1, 0, none⟩) (Nat.le_succ w.heap.size) (.string (stx x.key))).setCell (p := ⟨w.heap.size + 1, 1, none⟩) (Nat.le_succ w.heap.size) (.string (stx x.val))).setCell (p := ⟨w.heap.size + 1, 2, none⟩) (Nat.le_succ w.heap.size) (.bool x.gone)
  exact bodyPost_ret (results_row rfl _ _ _ _ _ rfl rr Try.underlying28 rfl (by kernel_rfl)) rfl ⟨rfl, bb⟩
end Go.Proofs.Ytpfkomglghmnfaa
