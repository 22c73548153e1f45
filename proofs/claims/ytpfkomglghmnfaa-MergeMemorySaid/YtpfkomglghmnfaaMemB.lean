/- slices.Insert of one entry: in place, and at the end. Conditions: lists of at most 1000 entries. -/
import Derived.Test.YtpfkomglghmnfaaMemA
namespace Go.Proofs.Ytpfkomglghmnfaa
open Go Go.RowKit Go.Lib

theorem u_ents : Try.prog.underlying 22 = some (.slice 28) := Try.underlying22
theorem size_ent : (Try.prog.info? 28).map (·.size) = some 3 := by kernel_rfl
/-- What s[k:] of an own list is, where something lies behind k. -/
theorem cells_from {w : World} {g n cap k : Nat} {l : List Ent} (h : EntsAt w (.slice (some ⟨g, 0, none⟩) n cap) l) (hk : k ≤ l.length) (hc : cap ≠ k) : ∀ j u, (entCells (l.drop k))[j]? = some u → w.cell? ((⟨g, k * 3, none⟩ : Addr).add j) = some u := by
  have := h.drop hk
  unfold cutV at this
  rw [if_neg hc, Option.map_some, add_lit, Nat.zero_add] at this
  exact this.cells
set_option maxRecDepth 100000 in
set_option maxHeartbeats 4000000 in
theorem ins_shift (g n cap i vb : Nat) (cur : Array Value) (l : List Ent) (x : Ent) (T : TypeId) (w : World) (hl : l.length = n) (hi : i < n) (hc : n + 1 ≤ cap) (hcm : cap ≤ maxLen) (hg : w.heap[g]? = some (.cells cur 28 (0, 0))) (hs : cur.size = cap * 3) (ht : cur.toList.take (n * 3) = entCells l)
    (hv : w.heap[vb]? = some (.cells (entC x).toArray T (0, 0))) (hne : vb ≠ g) :
    Calls Try.prog 23 #[.slice (some ⟨g, 0, none⟩) n cap, .int .i64 i, .slice (some ⟨vb, 0, none⟩) 1 1] w fun e w' =>
      e = .returned (.slice (some ⟨g, 0, none⟩) (n + 1) cap) ∧ w' = ((w.drew.setRow g (splice cur ((i + 1) * 3) (entCells (l.drop i)))).setRow g (splice (splice cur ((i + 1) * 3) (entCells (l.drop i))) (i * 3) (entC x))) := by
  have hr : rowAt w g = some cur := rowAt_of_heap hg
  have hrv : rowAt w vb = some (entC x).toArray := rowAt_of_heap hv
  have hdl : (entCells (l.drop i)).length = (n - i) * 3 := by rw [entCells_length, List.length_drop, hl]
  have hcells : ∀ j u, (entCells (l.drop i))[j]? = some u → w.cell? ((⟨g, i * 3, none⟩ : Addr).add j) = some u := fun j u hj => by
    rw [add_lit, cell_of_rowAt hr, ← Array.getElem?_toList]
    have hj2 : j < (n - i) * 3 := by rw [← hdl]; exact (List.getElem?_eq_some_iff.1 hj).1
    have e : entCells l = entCells (l.take i) ++ entCells (l.drop i) := by rw [← entCells_append, List.take_append_drop]
    have e1 : (entCells l)[i * 3 + j]? = some u := by
      rw [e, List.getElem?_append_right (by rw [entCells_length, List.length_take]; omega)]
      rw [show i * 3 + j - (entCells (l.take i)).length = j by rw [entCells_length, List.length_take]; omega]
      exact hj
    rw [← ht, List.getElem?_take, if_pos (by omega)] at e1
    exact e1
  have hov : ∀ lb cb, (callFunc 32 #[.slice (some ⟨vb, 0, none⟩) 1 1, .slice (some ⟨g, (i + 1) * 3, none⟩) lb cb]).run Try.prog w = .ok (.value (.bool false)) w := fun lb cb => by
    rw [run_callFunc_extern Try.func32 (by kernel_rfl) (by kernel_rfl) (by kernel_rfl) (e := Extern.SlicesOverlaps.overlaps #[22, 22] #[4]) (by kernel_rfl),
      Lib.run_overlaps_apart w 22 4 28 u_ents 3 (fun w => by simp [sizeOf, typeInfo]; rfl) ⟨vb, 0, none⟩ ⟨g, (i + 1) * 3, none⟩ 1 1 lb cb hne T 28 3 cur.size (by unfold World.shape?; rw [hv]; rfl) (by unfold World.shape?; rw [hg]) (by omega) (frozen_of_rowAt hrv _) (frozen_of_rowAt hrv _)]
    rfl
  have hcp1 : ∀ ty dc sc, (Builtin.copy_ #[22, 22] ty #[.slice (some ⟨g, (i + 1) * 3, none⟩) (n - i) dc, .slice (some ⟨g, i * 3, none⟩) (n + 1 - i) sc]).run Try.prog w.drew = .ok (goInt ((n - i : Nat))) (w.drew.setRow g (splice cur ((i + 1) * 3) (entCells (l.drop i)))) := fun ty dc sc =>
    run_copy_three w.drew 22 22 ty 28 g ((i + 1) * 3) (n - i) dc ⟨g, i * 3, none⟩ (n + 1 - i) sc (n - i) (entCells (l.drop i)) u_ents size_ent (by simp only [Nat.min_def]; split <;> omega) hdl hcells cur hr (by rw [hdl]; omega) (oneEs _)
  obtain ⟨C1, hC1⟩ : ∃ C1, splice cur ((i + 1) * 3) (entCells (l.drop i)) = C1 := ⟨_, rfl⟩
  have hz : C1.size = cur.size := by
    rw [← hC1, ← Array.length_toList]
    simp only [splice, List.length_append, List.length_take, List.length_drop, hdl, Array.length_toList]
    omega
  rw [hC1] at hcp1 ⊢
  have hr1 : rowAt (w.drew.setRow g C1) g = some C1 := rowAt_setRow_same (w := w.drew) hr C1
  have hv1 : rowAt (w.drew.setRow g C1) vb = some (entC x).toArray := (rowAt_setRow_other w.drew g vb C1 hne).trans hrv
  have hcp2 : ∀ ty dc, (Builtin.copy_ #[22, 22] ty #[.slice (some ⟨g, i * 3, none⟩) (n + 1 - i) dc, .slice (some ⟨vb, 0, none⟩) 1 1]).run Try.prog (w.setRow g C1).drew = .ok (goInt 1) ((w.drew.setRow g C1).setRow g (splice C1 (i * 3) (entC x))) := fun ty dc =>
    run_copy_three (w.drew.setRow g C1) 22 22 ty 28 g (i * 3) (n + 1 - i) dc ⟨vb, 0, none⟩ 1 1 1 (entC x) u_ents size_ent (by simp only [Nat.min_def]; split <;> omega) rfl (fun j u hj => by rw [add_lit, Nat.zero_add, cell_of_rowAt hv1, List.getElem?_toArray]; exact hj) C1 hr1 (by rw [entC_len]; omega) (oneE x)
  unfold maxLen at hcm
  have hb1 : (0 : Int) ≤ (i : Int) + 1 := by omega
  have hb2 : ¬ (cap = i + 1) := by omega
  have hb3 : ¬ (cap = i) := by omega
  have hb4 : (i : Int) ≤ (n : Int) + 1 := by omega
  have hb5 : ¬ ((i : Int) = (n : Int)) := by omega
  have hin : i ≤ n := by omega
  have htn : ((i : Int) + 1).toNat = i + 1 := by omega
  have hw1 : IntKind.i64.wrap ((i : Int) + 1) = (i : Int) + 1 := by rw [IntKind.wrap_i64]; omega
  have mixed : Try.prog.follows Departure.mixedOrders = true := by kernel_rfl
  clear hcells hdl hz hr1 hv1 hC1 hg hs ht hv hr hrv hl
  go_enter Try.func23, Try.ntmps23
  go_wp2_with (simp only [hov])
  go_region_law_o (refine step_copy_run3 rfl _ _ 22 22 rfl _ _ (by simp [Act.eval, Act.put]) (by simp [Act.eval, Act.put]) (hcp1 _ _ _) ?_)
  go_wp2_with (at_builtin; refine wpList_copy_run3 _ rfl _ _ 22 22 rfl _ _ rfl rfl (hcp2 _ _) ?_)
  go_ret
  exact ⟨rfl, rfl⟩
end Go.Proofs.Ytpfkomglghmnfaa
