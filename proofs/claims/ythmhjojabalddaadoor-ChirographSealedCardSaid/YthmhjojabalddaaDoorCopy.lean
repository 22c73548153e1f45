/- A builder that a call has made itself: it hasn't been copied. Conditions: none. -/
import Derived.Test.YthmhjojabalddaaDoorKit
import Derived.Test.YthmhjojabalddaaDoorRows
import Derived.WalkLawsBesides
import Derived.Lib.Builder
import Derived.Lib.OthersKept
import Derived.Shelf.Strings.Builder1
namespace Go.Proofs.YthmhjojabalddaaDoor
open Go Go.RowKit

end Go.Proofs.YthmhjojabalddaaDoor
