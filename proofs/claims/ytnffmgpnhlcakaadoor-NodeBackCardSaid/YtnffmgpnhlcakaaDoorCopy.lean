/- A builder that a call has made itself: it hasn't been copied. Conditions: none. -/
import Derived.Test.YtnffmgpnhlcakaaDoorKit
import Derived.Test.YtnffmgpnhlcakaaDoorRows
import Derived.WalkLawsBesides
import Derived.Lib.Builder
import Derived.Lib.OthersKept
import Derived.Shelf.Strings.Builder1
namespace Go.Proofs.YtnffmgpnhlcakaaDoor
open Go Go.RowKit

end Go.Proofs.YtnffmgpnhlcakaaDoor
