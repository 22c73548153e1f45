/- All frames are opened. Conditions: the tables lie where the program lays them. -/
import Derived.Test.YtpdfchaamedeoaaDoorSeal3
import Derived.Laws.AppendOwn
namespace Go.Proofs.YtpdfchaamedeoaaDoor
open Go Go.RowKit

/-- All frames' texts, and where they end. -/
def allR (l : List UInt8) : List (List UInt8) × Nat := allF (l.length + 1) l 0
def AllRet (w : World) (l : List UInt8) (e : Ending) (w' : World) : Prop :=
  ∃ v, e = .returned (.tuple #[v, .int .i64 (allR l).2]) ∧ OwnStrs w' w.heap.size v (allR l).1 ∧ Below w.heap.size w w'

end Go.Proofs.YtpdfchaamedeoaaDoor
