/- A region that draws its order, whose operations read and whose callees may make memory of their own: one walk, in the order of the text. Conditions: none. -/
import Derived.Test.YtfklhkephdnhaaaKit
import Derived.Deep.QuietTactic
import Derived.BigQuiet
namespace Go.Proofs.Ytfklhkephdnhaaa
open Go Go.RowKit

theorem rowAt_past {W w' : World} (h : Below W.heap.size W w') {b : Nat} {c : Array Value} (hc : rowAt W b = some c) : rowAt w' b = some c :=
  (rowAt_below h (lt_of_rowAt hc)).trans hc
theorem rowG_past {W w' : World} (h : Below W.heap.size W w') {b : Nat} {c : Array Value} (hc : rowOr (rowAt W b) (rowF W b) = some c) : rowOr (rowAt w' b) (rowF w' b) = some c :=
  (rowG_below h (lt_of_rowG hc)).trans hc
theorem Below.step {a W w' : World} (h : Below a.heap.size a W) (k : Below W.heap.size W w') : Below a.heap.size a w' := h.trans (k.mono h.size)
theorem below_past {B : Nat} {a W w' : World} (h : Below B a W) (k : Below W.heap.size W w') (hB : B ≤ W.heap.size) : Below B a w' := h.trans (k.mono hB)

/-- A world in which all that lay in another one is as it was. -/
structure Past (W : World) where
  w : World
  h : Below W.heap.size W w
instance (W : World) : Nonempty (Past W) := ⟨⟨W, Below.refl _ _⟩⟩
theorem Past.row {W : World} {b : Nat} {c : Array Value} (hc : rowAt W b = some c) (x : Past W) : rowAt x.w b = some c := rowAt_past x.h hc
theorem Past.rowG {W : World} {b : Nat} {c : Array Value} (hc : rowOr (rowAt W b) (rowF W b) = some c) (x : Past W) : rowOr (rowAt x.w b) (rowF x.w b) = some c := rowG_past x.h hc
theorem Past.cell {W : World} {p : Addr} (hp : p.block < W.heap.size) (x : Past W) : x.w.cell? p = W.cell? p := x.h.cell hp
theorem Past.call {P : Program} {W : World} {f : FuncId} {args : Array Value} {v : Value} {x : Past W}
    (h : Calls P f args x.w fun e w' => e = .returned v ∧ Below x.w.heap.size x.w w') : Calls P f args x.w fun e w'' => e = .returned v ∧ ∃ y : Past W, w'' = y.w :=
  h.mono fun _ w'' ⟨he, hb⟩ => ⟨he, ⟨w'', Below.step x.h hb⟩, rfl⟩
theorem Past.call_same {P : Program} {W : World} {f : FuncId} {args : Array Value} {v : Value} {x : Past W}
    (h : Calls P f args x.w fun e w' => e = .returned v ∧ w' = x.w) : Calls P f args x.w fun e w'' => e = .returned v ∧ ∃ y : Past W, w'' = y.w :=
  h.mono fun _ _ ⟨he, hb⟩ => ⟨he, x, hb⟩

theorem wp_region_past {P : Program} {id : Nat} {Q : Exit → Act → World → Prop} {a : Act} {w : World} {l : List Oper} (hm : P.follows .mixedOrders = true) (hB : Region.lexB .any l.toArray = true)
    (h : wpQuiet P l.toArray (fun w' => ∃ x : Past w, w' = x.w) (fun a' => ∀ w', (∃ x : Past w, w' = x.w) → Q .normal a' w') l a) : (Code.region id l.toArray true).wp P Q a w :=
  wp_region_quiet (C := fun w' => ∃ x : Past w, w' = x.w) hm hB ⟨⟨_, (Below.refl _ _).drew⟩, rfl⟩ (by simpa using h)
end Go.Proofs.Ytfklhkephdnhaaa
