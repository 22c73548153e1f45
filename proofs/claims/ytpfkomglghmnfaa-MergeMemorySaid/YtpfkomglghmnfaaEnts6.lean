/- Entries that rise, of entries that came in. Conditions: none. -/
import Derived.Test.YtpfkomglghmnfaaEnts5
import Derived.Test.YtpfkomglghmnfaaQuiet
import Derived.Deep.QuietTactic
import Derived.BigQuiet
namespace Go.Proofs.Ytpfkomglghmnfaa
open Go Go.RowKit

theorem OwnEnts.lieB {w : World} {B : Nat} {v : Value} {es : List Ent} (h : OwnEnts w B v es) : ∃ A cap, v = .slice A es.length cap ∧ ∀ i x, es[i]? = some x → ∃ g, A = some ⟨g, 0, none⟩ ∧ B ≤ g ∧ g < w.heap.size ∧ v.ownBlock = some g ∧ EntAt w g (i * 3) x := by
  obtain ⟨A, cap, h1, _, _, h4⟩ := h.lie
  refine ⟨A, cap, h1, fun i x hx => ?_⟩
  obtain ⟨g, o, h5, h6⟩ := h4 i x hx
  rcases h.2 with ⟨h7, h0⟩ | ⟨g', cap', cur, h7, hb, _⟩
  · rw [List.eq_nil_of_length_eq_zero h0] at hx
    simp at hx
  · rw [h1, h5] at h7
    obtain ⟨⟨rfl, rfl⟩, _⟩ : (g = g' ∧ o = 0) ∧ cap = cap' := by simpa using h7
    refine ⟨g, h5, hb, h6.lt, by rw [h1, h5]; rfl, by rwa [Nat.zero_add] at h6⟩
/-- All that lay there but one block is as it was. -/
def StayE (C : Nat) (a w : World) : Prop := a.heap.size ≤ w.heap.size ∧ ∀ k, k < a.heap.size → k ≠ C → w.heap[k]? = a.heap[k]?
theorem StayE.below {C : Nat} {a w w' : World} (h : StayE C a w) (k : Below w.heap.size w w') : StayE C a w' :=
  ⟨Nat.le_trans h.1 k.size, fun i h1 h2 => (k.block i (Nat.lt_of_lt_of_le h1 h.1)).trans (h.2 i h1 h2)⟩
theorem StayE.grown {C : Nat} {a w w' : World} {row : Option Nat} (h : StayE C a w) (hg : w.grownBy w' row) (hr : row = some C ∨ ∃ g, row = some g ∧ a.heap.size ≤ g) : StayE C a w' :=
  ⟨Nat.le_trans h.1 hg.size, fun i h1 h2 => (hg.block i (Nat.lt_of_lt_of_le h1 h.1) (fun e => by
    rcases hr with e2 | ⟨g, e2, h3⟩
    · rw [e2] at e; exact h2 (Option.some.inj e)
    · rw [e2] at e; have := Option.some.inj e; omega)).trans (h.2 i h1 h2)⟩
theorem EntAt.stay {C g o : Nat} {a w : World} {x : Ent} (h : EntAt a g o x) (s : StayE C a w) (hg : g ≠ C) : EntAt w g o x := by
  have hl := h.lt
  have e : ∀ k, w.cell? ⟨g, k, none⟩ = a.cell? ⟨g, k, none⟩ := fun k => World.cell?_of_block (s.2 g hl hg)
  exact ⟨(e _).trans h.1, (e _).trans h.2.1, (e _).trans h.2.2⟩
end Go.Proofs.Ytpfkomglghmnfaa
