/- What the program's Next answers. Conditions: none. -/
import Derived.Test.YtlldcgofjibdjaaDoorBits3
namespace Go.Proofs.YtlldcgofjibdjaaDoor
open Go Go.RowKit

/-- The prefix with one bit more. -/
def grown (a : Lab) (n : Nat) (b : Int) : Lab := if b = 1 then setBit a n else a

end Go.Proofs.YtlldcgofjibdjaaDoor
