/- What the document's Common, Order, Set, Cut and Good answer. Conditions: none. -/
import Derived.Test.YtlldcgofjibdjaaDoorBits1
import Derived.Test.YtlldcgofjibdjaaDoorQuiet
import Derived.Test.YtlldcgofjibdjaaDoorMath2
namespace Go.Proofs.YtlldcgofjibdjaaDoor
open Go Go.RowKit

theorem bitI_nat (a : Lab) (i : Nat) (h : i < 256) : bitI a (i : Int) = (bit a i : Int) := by
  rw [bitI, if_pos ⟨by omega, by omega⟩, Int.toNat_natCast]

theorem row_ret_lab {fn : Func} {p : Tmp} (h : fn.results = #[.cell p 23]) {R : Ending → World → Prop} {a : Act} {w : World} {b : Nat} {l : Lab} (hp : a.tmps.getD p undef = .pointer (some ⟨b, 0, none⟩)) (hd : a.defers = [])
    (hr : rowAt w b = some (cellsL l)) (hR : R (.returned (.agg (cellsL l))) w) : bodyPost Tryd.prog fn R .ret a w :=
  bodyPost_ret (results_row h a.tmps w b _ _ hp hr Tryd.underlying23 rfl (by rw [size_cellsL]; kernel_rfl)) hd hR
end Go.Proofs.YtlldcgofjibdjaaDoor
