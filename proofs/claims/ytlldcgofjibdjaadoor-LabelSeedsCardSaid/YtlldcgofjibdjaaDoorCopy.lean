/- A builder that a call has made itself: it hasn't been copied. Conditions: none. -/
import Derived.Test.YtlldcgofjibdjaaDoorKit
import Derived.Test.YtlldcgofjibdjaaDoorRows
import Derived.WalkLawsBesides
import Derived.Lib.Builder
import Derived.Lib.OthersKept
import Derived.Shelf.Strings.Builder1
namespace Go.Proofs.YtlldcgofjibdjaaDoor
open Go Go.RowKit

end Go.Proofs.YtlldcgofjibdjaaDoor
