/- Answers of merge that the document fixes. Conditions: none. -/
import Derived.Test.YtpfkomglghmnfaaMerge6
import Derived.Test.YtpfkomglghmnfaaEnts6
namespace Go.Proofs.Ytpfkomglghmnfaa
open Go Go.RowKit
attribute [local go_sem] Oper.semAt_some

theorem entsAt_row {w : World} {g : Nat} {es : List Ent} {c : Array Value} (h : rowAt w g = some c) (hc : c = (entCells es).toArray) (hm : es.length ≤ maxLen) (n : Nat) (hn : n = es.length) : EntsAt w (.slice (some ⟨g, 0, none⟩) n n) es := by
  subst hc hn
  refine ⟨_, _, rfl, Nat.le_refl _, hm, fun i x hx => ⟨g, 0, rfl, ?_⟩⟩
  obtain ⟨e0, e1, e2⟩ := entCells_get es i x hx
  unfold EntAt
  rw [Nat.zero_add]
  exact ⟨(cell_of_rowAt h _).trans (by rw [List.getElem?_toArray]; exact e0), (cell_of_rowAt h _).trans (by rw [List.getElem?_toArray]; exact e1), (cell_of_rowAt h _).trans (by rw [List.getElem?_toArray]; exact e2)⟩
def eA : List Ent := [⟨[98], [49], false⟩, ⟨[99], [], true⟩]
def eB : List Ent := [⟨[97], [50], false⟩, ⟨[98], [51], false⟩, ⟨[99], [52], false⟩]
theorem eA_rising : rising eA := by
  unfold rising eA
  decide
theorem eB_rising : rising eB := by
  unfold rising eB
  decide
theorem eAB : keptE true (mergeE [eA, eB]) = [⟨[97], [50], false⟩, ⟨[98], [49], false⟩] := by
  have h : mergeE [eA, eB] = [⟨[97], [50], false⟩, ⟨[98], [49], false⟩, ⟨[99], [], true⟩] := by
    refine rising_ext (mergeE_rising (fun l hl => ?_)) (by unfold rising; decide) fun k => ?_
    · simp only [List.mem_cons, List.mem_nil_iff, or_false] at hl
      rcases hl with rfl | rfl
      · exact eA_rising
      · exact eB_rising
    · rw [look_merge (fun l hl => ?_)]
      · unfold lookE
        simp only [List.findSome?_cons, List.findSome?_nil, eA, eB, look_cons, look_nil]
        by_cases h1 : [97] = k
        · subst h1; rfl
        · by_cases h2 : [98] = k
          · subst h2; rfl
          · by_cases h3 : [99] = k
            · subst h3; rfl
            · simp only [h1, h2, h3, if_false]
      · simp only [List.mem_cons, List.mem_nil_iff, or_false] at hl
        rcases hl with rfl | rfl
        · exact eA_rising
        · exact eB_rising
  rw [h]
  rfl
set_option maxRecDepth 100000 in
set_option maxHeartbeats 2000000 in
theorem awake12 (w : World) : Calls Try.prog 15 #[] w fun e w' => e = .returned (.bool true) ∧ Below w.heap.size w w' := by
  have b0 : Below w.heap.size w (((w.alloc (.cells #[.string ⟨#[98]⟩, .string ⟨#[49]⟩, .bool false, .string ⟨#[99]⟩, .string ⟨#[]⟩, .bool true] 28)).alloc (.cells #[.string ⟨#[97]⟩, .string ⟨#[50]⟩, .bool false, .string ⟨#[98]⟩, .string ⟨#[51]⟩, .bool false, .string ⟨#[99]⟩, .string ⟨#[52]⟩, .bool false] 28)).alloc (.cells #[.slice (some ⟨w.heap.size, 0, none⟩) 2 2, .slice (some ⟨w.heap.size + 1, 0, none⟩) 3 3] 22)) := (((Below.refl _ _).alloc (Nat.le_refl _) _).alloc (by simp only [World.size_alloc]; omega) _).alloc (by simp only [World.size_alloc]; omega) _
  have r0 : rowAt (((w.alloc (.cells #[.string ⟨#[98]⟩, .string ⟨#[49]⟩, .bool false, .string ⟨#[99]⟩, .string ⟨#[]⟩, .bool true] 28)).alloc (.cells #[.string ⟨#[97]⟩, .string ⟨#[50]⟩, .bool false, .string ⟨#[98]⟩, .string ⟨#[51]⟩, .bool false, .string ⟨#[99]⟩, .string ⟨#[52]⟩, .bool false] 28)).alloc (.cells #[.slice (some ⟨w.heap.size, 0, none⟩) 2 2, .slice (some ⟨w.heap.size + 1, 0, none⟩) 3 3] 22)) w.heap.size = some #[.string ⟨#[98]⟩, .string ⟨#[49]⟩, .bool false, .string ⟨#[99]⟩, .string ⟨#[]⟩, .bool true] := (rowAt_alloc_past _ _ _ (by simp only [World.size_alloc]; omega)).trans ((rowAt_alloc_past _ _ _ (by simp only [World.size_alloc]; omega)).trans (rowAt_alloc_at _ _ _ _ rfl))
  have r1 : rowAt (((w.alloc (.cells #[.string ⟨#[98]⟩, .string ⟨#[49]⟩, .bool false, .string ⟨#[99]⟩, .string ⟨#[]⟩, .bool true] 28)).alloc (.cells #[.string ⟨#[97]⟩, .string ⟨#[50]⟩, .bool false, .string ⟨#[98]⟩, .string ⟨#[51]⟩, .bool false, .string ⟨#[99]⟩, .string ⟨#[52]⟩, .bool false] 28)).alloc (.cells #[.slice (some ⟨w.heap.size, 0, none⟩) 2 2, .slice (some ⟨w.heap.size + 1, 0, none⟩) 3 3] 22)) (w.heap.size + 1) = some #[.string ⟨#[97]⟩, .string ⟨#[50]⟩, .bool false, .string ⟨#[98]⟩, .string ⟨#[51]⟩, .bool false, .string ⟨#[99]⟩, .string ⟨#[52]⟩, .bool false] := (rowAt_alloc_past _ _ _ (by simp only [World.size_alloc]; omega)).trans (rowAt_alloc_at _ _ _ _ (by simp only [World.size_alloc]))
  have r2 : rowAt (((w.alloc (.cells #[.string ⟨#[98]⟩, .string ⟨#[49]⟩, .bool false, .string ⟨#[99]⟩, .string ⟨#[]⟩, .bool true] 28)).alloc (.cells #[.string ⟨#[97]⟩, .string ⟨#[50]⟩, .bool false, .string ⟨#[98]⟩, .string ⟨#[51]⟩, .bool false, .string ⟨#[99]⟩, .string ⟨#[52]⟩, .bool false] 28)).alloc (.cells #[.slice (some ⟨w.heap.size, 0, none⟩) 2 2, .slice (some ⟨w.heap.size + 1, 0, none⟩) 3 3] 22)) (w.heap.size + 1 + 1) = some #[.slice (some ⟨w.heap.size, 0, none⟩) 2 2, .slice (some ⟨w.heap.size + 1, 0, none⟩) 3 3] := rowAt_alloc_at _ _ _ _ (by simp only [World.size_alloc])
  have hz := b0.size
  go_enter Try.func15, Try.ntmps15
  go_wp2_with fail
  generalize ((w.alloc (.cells #[.string ⟨#[98]⟩, .string ⟨#[49]⟩, .bool false, .string ⟨#[99]⟩, .string ⟨#[]⟩, .bool true] 28)).alloc (.cells #[.string ⟨#[97]⟩, .string ⟨#[50]⟩, .bool false, .string ⟨#[98]⟩, .string ⟨#[51]⟩, .bool false, .string ⟨#[99]⟩, .string ⟨#[52]⟩, .bool false] 28)).alloc (.cells #[.slice (some ⟨w.heap.size, 0, none⟩) 2 2, .slice (some ⟨w.heap.size + 1, 0, none⟩) 3 3] 22) = W at *
  have e1 : EntsAt W (.slice (some ⟨w.heap.size, 0, none⟩) 2 2) eA := entsAt_row r0 rfl (by decide) 2 rfl
  have e2 : EntsAt W (.slice (some ⟨w.heap.size + 1, 0, none⟩) 3 3) eB := entsAt_row r1 rfl (by decide) 3 rfl
  have es : EntssAt W (.slice (some ⟨w.heap.size + 1 + 1, 0, none⟩) 2 2) [eA, eB] := by
    refine ⟨_, 2, rfl, Nat.le_refl _, (by decide), fun i l hl => ?_⟩
    match i, hl with
    | 0, hl =>
      obtain rfl : eA = l := by simpa using hl
      exact ⟨_, 0, _, rfl, cell_of_rowAt r2 0, e1⟩
    | 1, hl =>
      obtain rfl : eB = l := by simpa using hl
      exact ⟨_, 0, _, rfl, cell_of_rowAt r2 1, e2⟩
  refine (mLists_any _ [eA, eB] true W es (fun l hl => ?_) (by decide) (by decide) (fun l hl x hx => ?_)).mono ?_
  · simp only [List.mem_cons, List.mem_nil_iff, or_false] at hl
    rcases hl with rfl | rfl
    · exact eA_rising
    · exact eB_rising
  · simp only [List.mem_cons, List.mem_nil_iff, or_false] at hl
    rcases hl with rfl | rfl
    · simp only [eA, List.mem_cons, List.mem_nil_iff, or_false] at hx
      rcases hx with rfl | rfl <;> exact ⟨by decide, by decide⟩
    · simp only [eB, List.mem_cons, List.mem_nil_iff, or_false] at hx
      rcases hx with rfl | rfl | rfl <;> exact ⟨by decide, by decide⟩
  rintro e w1 ⟨v1, rfl, o1, b1⟩
  rw [eAB] at o1
  obtain ⟨A, cap, rfl, h3⟩ := o1.lieB
  obtain ⟨g, rfl, _, _, _, k0⟩ := h3 0 _ rfl
  obtain ⟨g', e, _, _, _, k1⟩ := h3 1 _ rfl
  obtain rfl : g = g' := by simpa using e
  have c0 : w1.cell? ⟨g, 1, none⟩ = some (.string ⟨#[50]⟩) := k0.2.1
  have c1 : w1.cell? ⟨g, 4, none⟩ = some (.string ⟨#[49]⟩) := k1.2.1
  have bb := below_past b0 b1 hz
  clear h3 k0 k1 o1 es e1 e2 r0 r1 r2 b0 hz b1 e
  simp only [List.length_cons, List.length_nil]
  go_wp2_with fail
  go_ret
  exact ⟨rfl, bb⟩
end Go.Proofs.Ytpfkomglghmnfaa
