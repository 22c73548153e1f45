/- What the document's Common, Order, Set, Cut and Good answer. Conditions: none. -/
import Derived.Test.YtdedlekelkaabaaBits1
import Derived.Test.YtdedlekelkaabaaQuiet
import Derived.Test.YtdedlekelkaabaaMath2
namespace Go.Proofs.Ytdedlekelkaabaa
open Go Go.RowKit

theorem bitI_nat (a : Lab) (i : Nat) (h : i < 256) : bitI a (i : Int) = (bit a i : Int) := by
  rw [bitI, if_pos ⟨by omega, by omega⟩, Int.toNat_natCast]

end Go.Proofs.Ytdedlekelkaabaa
