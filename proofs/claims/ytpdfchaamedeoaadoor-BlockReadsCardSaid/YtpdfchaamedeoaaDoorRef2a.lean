/- The document's Flag and Label, written. Conditions: none. -/
import Derived.Test.YtpdfchaamedeoaaDoorRef2n
import Derived.Test.YtpdfchaamedeoaaDoorCodeMath
import Derived.Test.YtpdfchaamedeoaaDoorCode8
namespace Go.Proofs.YtpdfchaamedeoaaDoor
open Go Go.RowKit

set_option maxRecDepth 100000 in
theorem r2Flag_any (v : Bool) (w : World) :
    Calls Tryd.prog 79 #[.bool v] w fun e w' => e = .returned (.string (txt [if v then 1 else 0])) ∧ Below w.heap.size w w' := by
  cases v
  · go_enter Tryd.func79, Tryd.ntmps79
    go_wp2_with fail
    go_ret
    exact ⟨rfl, Below.refl _ _⟩
  · go_enter Tryd.func79, Tryd.ntmps79
    go_wp2_with fail
    go_ret
    exact ⟨rfl, Below.refl _ _⟩
end Go.Proofs.YtpdfchaamedeoaaDoor
