/- Bytes of the call's own, made of a text. Conditions: none. -/
import Derived.Test.YtlnijckgnchpbaaStrs
import Derived.Lib.Builder
import Derived.Laws.BytesArg
namespace Go.Proofs.Ytlnijckgnchpbaa
open Go Go.RowKit

/-- A row of bytes of the call's own, made of a text. -/
def BytesAt (w : World) (g : Nat) (G : List UInt8) : Prop :=
  ∃ cs : Array Value, w.heap[g]? = some (.cells cs 5 (cs.size, cs.size + 1)) ∧ G.length ≤ cs.size ∧ ∀ (j : Nat) (u : UInt8), G[j]? = some u → cs[j]? = some (Value.int .u8 u.toNat)
theorem BytesAt.cell {w : World} {g : Nat} {G : List UInt8} (h : BytesAt w g G) (j : Nat) (u : UInt8) (hu : G[j]? = some u) : w.cell? ⟨g, j, none⟩ = some (.int .u8 u.toNat) := by
  obtain ⟨cs, h1, _, h3⟩ := h
  rw [Lib.cell_of_heap h1]
  exact h3 j u hu
theorem BytesAt.free {w : World} {g : Nat} {G : List UInt8} (h : BytesAt w g G) (j : Nat) (hj : j < G.length) : w.frozen? ⟨g, j, none⟩ = false := by
  obtain ⟨cs, h1, h2, _⟩ := h
  simp [World.frozen?, h1]
  omega
theorem BytesAt.lt {w : World} {g : Nat} {G : List UInt8} (h : BytesAt w g G) : g < w.heap.size := by
  obtain ⟨cs, h1, _⟩ := h
  exact (Array.getElem?_eq_some_iff.1 h1).1
theorem BytesAt.put {w : World} {g : Nat} {G : List UInt8} (h : BytesAt w g G) (j : Nat) (x : UInt8) : BytesAt (w.setCell ⟨g, j, none⟩ (.int .u8 x.toNat)) g (G.set j x) := by
  obtain ⟨cs, h1, h2, h3⟩ := h
  refine ⟨cs.setIfInBounds j (.int .u8 x.toNat), ?_, by rw [List.length_set, Array.size_setIfInBounds]; exact h2, fun i u hu => ?_⟩
  · rw [Array.size_setIfInBounds]
    simp [World.setCell, Array.getElem?_modify, h1]
  · rw [List.getElem?_set] at hu
    rw [Array.getElem?_setIfInBounds]
    split at hu
    · rename_i e
      subst e
      split at hu
      · rename_i hj
        rw [if_pos rfl, if_pos (by omega)]
        cases hu
        rfl
      · cases hu
    · rename_i e
      rw [if_neg e]
      exact h3 i u hu
theorem BytesAt.conv {w : World} {g : Nat} {G : List UInt8} (cap : Nat) (h : BytesAt w g G) : (convert 68 9 (.slice (some ⟨g, 0, none⟩) G.length cap)).run Try.prog w = .ok (.string (stx G)) w := by
  refine run_convert_bytes_back _ _ _ _ ⟨g, 0, none⟩ cap G Try.underlying68 Try.underlying5 Try.underlying9 fun j hj => ?_
  rw [show (⟨g, 0, none⟩ : Addr).add j = ⟨g, j, none⟩ by simp [Addr.add]; exact fun e => e.symm]
  exact h.cell j _ (List.getElem?_eq_getElem hj)
theorem BytesAt.past {w w' : World} {g : Nat} {G : List UInt8} (h : BytesAt w g G) (k : Below w.heap.size w w') : BytesAt w' g G := by
  have hl := h.lt
  obtain ⟨cs, h1, h2⟩ := h
  exact ⟨cs, (k.block g hl).trans h1, h2⟩
theorem bytesAt_new (w : World) (l : List UInt8) (cap : Nat) : BytesAt (w.drew.alloc (.cells (bytesRow (stx l) cap) 5 ((bytesRow (stx l) cap).size, (bytesRow (stx l) cap).size + 1))) w.heap.size l := by
  have hcz : (bytesRow (stx l) cap).size ≥ l.length := by
    rw [bytesRow, Array.size_append, Array.size_map]
    exact Nat.le_add_right _ _
  refine ⟨_, heap_alloc_new w.drew _, hcz, fun j u hu => ?_⟩
  rw [bytesRow, Array.getElem?_append_left (by rw [Array.size_map]; exact (List.getElem?_eq_some_iff.1 hu).1), Array.getElem?_map]
  have : (stx l).data[j]? = some u := by rw [← hu]; exact List.getElem?_toArray
  rw [this]
  rfl
end Go.Proofs.Ytlnijckgnchpbaa
