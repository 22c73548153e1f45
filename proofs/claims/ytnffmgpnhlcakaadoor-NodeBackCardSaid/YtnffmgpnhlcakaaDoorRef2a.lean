/- The document's Flag and Label, written. Conditions: none. -/
import Derived.Test.YtnffmgpnhlcakaaDoorRef2n
import Derived.Test.YtnffmgpnhlcakaaDoorCodeMath
import Derived.Test.YtnffmgpnhlcakaaDoorCode8
namespace Go.Proofs.YtnffmgpnhlcakaaDoor
open Go Go.RowKit

set_option maxRecDepth 100000 in
theorem r2Flag_any (v : Bool) (w : World) :
    Calls Tryd.prog 17 #[.bool v] w fun e w' => e = .returned (.string (txt [if v then 1 else 0])) ∧ Below w.heap.size w w' := by
  cases v
  · go_enter Tryd.func17, Tryd.ntmps17
    go_wp2_with fail
    go_ret
    exact ⟨rfl, Below.refl _ _⟩
  · go_enter Tryd.func17, Tryd.ntmps17
    go_wp2_with fail
    go_ret
    exact ⟨rfl, Below.refl _ _⟩
set_option maxRecDepth 100000 in
theorem r2Label_any (a : Lab) (w : World) :
    Calls Tryd.prog 49 #[.agg (cellsL a)] w fun e w' => e = .returned (.string (txt a.l)) ∧ Below w.heap.size w w' := by
  have b0 : Below w.heap.size w (w.alloc (.cells (cellsL a) 29)) := (Below.refl _ _).alloc (Nat.le_refl _) _
  have r0 : rowAt (w.alloc (.cells (cellsL a) 29)) w.heap.size = some (cellsL a) := rowAt_alloc_at _ _ _ _ rfl
  generalize hg : w.heap.size = g at *
  have hconv : (convert 78 9 (.slice (some ⟨g, 0, none⟩) 32 32)).run Tryd.prog (w.alloc (.cells (cellsL a) 29)) = .ok (.string ⟨a.l.toArray⟩) (w.alloc (.cells (cellsL a) 29)) := by
    rw [← a.h]
    refine run_convert_bytes_back _ _ _ _ ⟨g, 0, none⟩ _ _ Tryd.underlying78 Tryd.underlying5 Tryd.underlying9 fun j hj => ?_
    rw [show (⟨g, 0, none⟩ : Addr).add j = ⟨g, j, none⟩ by simp [Addr.add]; exact fun e => e.symm, cell_of_rowAt r0, get_cellsL a j (by rw [← a.h]; exact hj)]
    simp [Lab.get, hj]
  go_enter Tryd.func49, Tryd.ntmps49
  go_wp2_with fail
  go_ret
  exact ⟨rfl, b0⟩
end Go.Proofs.YtnffmgpnhlcakaaDoor
