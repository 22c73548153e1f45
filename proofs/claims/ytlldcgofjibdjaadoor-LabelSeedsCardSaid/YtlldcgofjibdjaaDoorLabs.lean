/- Lists of labels that a call makes of its own. Conditions: none. -/
import Derived.Test.YtlldcgofjibdjaaDoorLabRun
import Derived.Test.YtlldcgofjibdjaaDoorLists
import Derived.Laws.AppendOwn
namespace Go.Proofs.YtlldcgofjibdjaaDoor
open Go Go.RowKit

def labCells (L : List Lab) : List Value := L.flatMap fun a => (cellsL a).toList
theorem labCells_length (L : List Lab) : (labCells L).length = L.length * 32 := by
  induction L with
  | nil => rfl
  | cons a L ih =>
    have h : (cellsL a).toList.length = 32 := by rw [Array.length_toList, size_cellsL]
    have e : labCells (a :: L) = (cellsL a).toList ++ labCells L := rfl
    rw [e, List.length_append, h, ih, List.length_cons]
    omega
theorem labCells_put (L : List Lab) (a : Lab) : labCells L ++ (cellsL a).toList = labCells (L ++ [a]) := by simp [labCells]
theorem labCells_at (L : List Lab) : ∀ i, i < L.length → ((labCells L).drop (i * 32)).take 32 = (cellsL (L.getD i zeroLab)).toList := by
  induction L with
  | nil => intro i h; cases h
  | cons a L ih =>
    intro i h
    have hl : (cellsL a).toList.length = 32 := by rw [Array.length_toList, size_cellsL]
    have e : labCells (a :: L) = (cellsL a).toList ++ labCells L := rfl
    rw [e]
    cases i with
    | zero =>
      rw [Nat.zero_mul, List.drop_zero, ← hl, List.take_left]
      rfl
    | succ i =>
      rw [show (i + 1) * 32 = (cellsL a).toList.length + i * 32 by rw [hl]; omega, ← List.drop_drop, List.drop_left]
      exact ih i (by simpa using h)
def OwnLabs (w : World) (B : Nat) (v : Value) (L : List Lab) : Prop := w.ownsRow B 23 32 v L.length (labCells L)
theorem OwnLabs.below {w w' : World} {B : Nat} {v : Value} {L : List Lab} (h : OwnLabs w B v L) (k : Below w.heap.size w w') : OwnLabs w' B v L :=
  World.ownsRow.kept h (row := none) ⟨k.os, k.tape, k.output, k.size, fun j hj _ => k.block j hj⟩ (by cases hv : v.ownBlock <;> simp)
theorem OwnLabs.shape {w : World} {B : Nat} {v : Value} {L : List Lab} (h : OwnLabs w B v L) : ∃ ao cap, v = .slice ao L.length cap := by
  rcases h.2 with ⟨h1, h2⟩ | ⟨g, cap, cur, h1, _⟩
  · have : L = [] := List.eq_nil_of_length_eq_zero h2
    exact ⟨none, 0, by rw [h1, this]; rfl⟩
  · exact ⟨_, _, h1⟩
theorem ownLabs_new (w : World) (B n : Nat) (hn : n = w.heap.size) (hB : B ≤ n) : OwnLabs (w.alloc (.cells #[] 23)) B (.slice (some ⟨n, 0, none⟩) 0 0) [] := by
  subst hn
  exact ⟨rfl, .inr ⟨w.heap.size, 0, #[], rfl, hB, heap_alloc_new w _, Nat.le_refl _, Nat.zero_le _, rfl, rfl⟩⟩
theorem info_lab : ∃ i : TypeInfo, Tryd.prog.info? 23 = some i ∧ i.zero = some (.agg (cellsL zeroLab)) ∧ i.size = 32 ∧ i.bytes = 32 := by
  have h : (Tryd.prog.info? 23).map (fun i => (i.zero, i.size, i.bytes)) = some (some (.agg (cellsL zeroLab)), 32, 32) := by
    rw [zeroL_cells]
    kernel_rfl
  cases hq : Tryd.prog.info? 23 with
  | none => rw [hq] at h; cases h
  | some i =>
    rw [hq] at h
    simp only [Option.map_some, Option.some.injEq, Prod.mk.injEq] at h
    exact ⟨i, rfl, h.1, h.2.1, h.2.2⟩
theorem one_of_cellsL (a : Lab) : ∀ u ∈ (cellsL a).toList, u.oneCell' = true := by
  intro u hu
  simp only [cellsL, List.mem_map] at hu
  obtain ⟨x, _, rfl⟩ := hu
  rfl
/-- A label is put behind a list of the call's own. -/
theorem wpList_put_lab {ops : Array Oper} {rest : List Oper} {o : Oper} {a : Act} {w : World} {Q : Exit → Act → World → Prop} (hgd : o.guard = none) (s x : Operand)
    (ho : o.op = .call { callee := .builtin .append, args := #[s, x], argTypes := #[38, 38] }) (B : Nat) (v : Value) (L : List Lab) (hs : a.eval s = v) (hown : OwnLabs w B v L)
    (t : Lab) (g c : Nat) (hx : a.eval x = .slice (some ⟨g, 0, none⟩) 1 c) (hrow : rowAt w g = some (cellsL t)) (hB : B ≤ w.heap.size) (hl : L.length ≤ 1000000)
    (h : ∀ v' w', OwnLabs w' B v' (L ++ [t]) → w.grownBy w' v.ownBlock → (v'.ownBlock = v.ownBlock ∨ v'.ownBlock = some w.heap.size) → wpList Tryd.prog ops Q rest (a.put o.dst v') w') : wpList Tryd.prog ops Q (o :: rest) a w := by
  obtain ⟨i0, hi, hz0, hz1, hz2⟩ := info_lab
  refine wpList_append_own_at (P := Tryd.prog) w hgd s x 38 ho B 23 i0 (.agg (cellsL zeroLab)) 32 32 Tryd.underlying38 hi hz0 hz1 hz2 (by simp [Value.cells]) (by decide) v L.length (labCells L) hs hown ⟨g, 0, none⟩ 1 c (cellsL t).toList hx (by rw [Array.length_toList, size_cellsL]) ?_ (one_of_cellsL t) (by unfold maxLen; omega) (by omega) hB ?_
  · intro j u hu
    rw [show (⟨g, 0, none⟩ : Addr).add j = ⟨g, j, none⟩ by simp [Addr.add]; exact fun e => e.symm, cell_of_rowAt hrow]
    rwa [Array.getElem?_toList] at hu
  · intro v' w' h1 h2 _ h4
    refine h v' w' ?_ h2 h4
    show w'.ownsRow B 23 32 v' (L ++ [t]).length (labCells (L ++ [t]))
    rw [List.length_append, ← labCells_put]
    exact h1
theorem OwnLabs.apart {w w' : World} {B : Nat} {v u : Value} {us : List Lab} (hu : OwnLabs w B u us) (h : Apart v u) (hg : w.grownBy w' v.ownBlock) : OwnLabs w' B u us := by
  refine World.ownsRow.kept hu hg ?_
  cases hq : u.ownBlock with
  | none => exact .inl rfl
  | some g => exact .inr (fun e => h g e.symm hq)
theorem Apart.growL {w : World} {B : Nat} {v v' u : Value} {us : List Lab} {N : Nat} (h : Apart v u) (hu : OwnLabs w B u us) (hat : v'.ownBlock = v.ownBlock ∨ v'.ownBlock = some N) (hN : w.heap.size ≤ N) : Apart v' u := by
  intro g h1 h2
  rcases hat with e | e
  · exact h g (e ▸ h1) h2
  · rw [e] at h1
    have := (World.ownsRow.lt hu g h2).2
    simp only [Option.some.injEq] at h1
    omega
/-- Texts and labels share no block. -/
theorem OwnLabs.strs {w w' : World} {B : Nat} {v u : Value} {L : List Lab} {ts : List (List UInt8)} (h : OwnLabs w B v L) (k : OwnStrs w B u ts) (hg : w.grownBy w' u.ownBlock) : OwnLabs w' B v L :=
  own_other h k (by decide) hg
theorem OwnStrs.labs {w w' : World} {B : Nat} {v u : Value} {L : List Lab} {ts : List (List UInt8)} (h : OwnLabs w B v L) (k : OwnStrs w B u ts) (hg : w.grownBy w' v.ownBlock) : OwnStrs w' B u ts :=
  own_other k h (by decide) hg
/-- Where the labels of a list lie. -/
theorem OwnLabs.lie {w : World} {B : Nat} {v : Value} {L : List Lab} (h : OwnLabs w B v L) (hL : 0 < L.length) : ∃ g cap cur, v = .slice (some ⟨g, 0, none⟩) L.length cap ∧ L.length ≤ cap ∧ rowAt w g = some cur ∧ L.length * 32 ≤ cur.size ∧ ∀ i, i < L.length → cur.extract (i * 32) (i * 32 + 32) = cellsL (L.getD i zeroLab) := by
  rcases h.2 with ⟨h1, h2⟩ | ⟨g, cap, cur, h1, h2, h3, h4, h5, h6, h7⟩
  · exfalso
    omega
  · have hz : L.length * 32 ≤ cur.size := by rw [h6]; exact Nat.mul_le_mul_right 32 h4
    refine ⟨g, cap, cur, h1, h4, rowAt_of_heap h3, hz, fun i hi => ?_⟩
    apply Array.toList_inj.1
    rw [← labCells_at L i hi, ← h7, Array.toList_extract, List.extract_eq_take_drop, List.drop_take, List.take_take]
    congr 1
    omega
/-- Where the labels of a list lie, be it empty. -/
def LabsAt (w : World) (v : Value) (L : List Lab) : Prop := ∃ ao cap, v = .slice ao L.length cap ∧ ∀ i, i < L.length → ∃ g cur, ao = some ⟨g, 0, none⟩ ∧ rowAt w g = some cur ∧ i * 32 + 32 ≤ cur.size ∧ cur.extract (i * 32) (i * 32 + 32) = cellsL (L.getD i zeroLab)
theorem OwnLabs.at {w : World} {B : Nat} {v : Value} {L : List Lab} (h : OwnLabs w B v L) : LabsAt w v L := by
  obtain ⟨ao, cap, rfl⟩ := h.shape
  refine ⟨ao, cap, rfl, fun i hi => ?_⟩
  obtain ⟨g, cap', cur, h1, _, h3, h4, h5⟩ := h.lie (by omega)
  injection h1 with h1 _ _
  exact ⟨g, cur, h1, h3, by have := Nat.mul_le_mul_right 32 hi; omega, h5 i hi⟩
theorem LabsAt.below {w w' : World} {v : Value} {L : List Lab} (h : LabsAt w v L) (k : Below w.heap.size w w') : LabsAt w' v L := by
  obtain ⟨ao, cap, h1, h2⟩ := h
  refine ⟨ao, cap, h1, fun i hi => ?_⟩
  obtain ⟨g, cur, h3, h4, h5⟩ := h2 i hi
  exact ⟨g, cur, h3, rowAt_past k h4, h5⟩
theorem fold_put (l : List Value) : ∀ (k : Nat) (cs : List Value), k + l.length ≤ cs.length → (l.zipIdx k).foldl (fun (cs : List Value) x => cs.set x.2 x.1) cs = cs.take k ++ l ++ cs.drop (k + l.length) := by
  induction l with
  | nil => intro k cs _; simp
  | cons v l ih =>
    intro k cs h
    rw [List.zipIdx_cons, List.foldl_cons, ih (k + 1) _ (by rw [List.length_set]; simp at h; omega)]
    simp at h
    have h1 : (cs.set k v).take (k + 1) = cs.take k ++ [v] := by
      rw [List.take_succ_eq_append_getElem (by rw [List.length_set]; omega), List.getElem_set_self, List.take_set, List.set_eq_of_length_le (by rw [List.length_take]; omega)]
    have h2 : (cs.set k v).drop (k + 1 + l.length) = cs.drop (k + (v :: l).length) := by
      rw [List.drop_set_of_lt (by omega), List.length_cons]
      congr 1
      omega
    rw [h1, h2]
    simp
theorem fold_arr (l : List (Value × Nat)) : ∀ cs : List Value, l.foldl (fun (cs : Array Value) x => cs.setIfInBounds x.2 x.1) cs.toArray = (l.foldl (fun (cs : List Value) x => cs.set x.2 x.1) cs).toArray := by
  induction l with
  | nil => intro cs; rfl
  | cons x l ih => intro cs; rw [List.foldl_cons, List.foldl_cons, List.setIfInBounds_toArray, ih]
theorem fill_one (arr c : Array Value) (h : arr.size = 32) (hc : c.size = 32) : Instr.fill (fun i => some (i * 32, 32)) arr [(0, .agg c)] = some c := by
  simp [Instr.fill, Value.cells, hc]
  refine ⟨by omega, ?_⟩
  obtain ⟨l⟩ := c
  obtain ⟨m⟩ := arr
  have hl : l.length = 32 := by simpa using hc
  have hm : m.length = 32 := by simpa using h
  have := fold_put l 0 m (by omega)
  rw [Nat.zero_add, List.drop_eq_nil_of_le (by omega)] at this
  have e := fold_arr (l.zipIdx 0) m
  rw [this] at e
  simp only [List.take_zero, List.nil_append, List.append_nil] at e
  refine Eq.trans ?_ e
  rw [← hl]
  simp
theorem build_labs1 (w : World) (a : Lab) : (Instr.buildSlice 38 1 #[(0, .agg (cellsL a))]).run Tryd.prog w = .ok (.slice (some ⟨w.heap.size, 0, none⟩) 1 1) (w.alloc (.cells (cellsL a) 23)) := by
  have hu : (underlying 38).run Tryd.prog w = .ok (.slice 23) w := run_underlying Tryd.underlying38 w
  have hs : (sizeOf 23).run Tryd.prog w = .ok 32 w := by kernel_rfl
  unfold Instr.buildSlice
  simp [Sem.run_bind, hu, hs, Value.cells, newRow]
  rw [fill_one _ _ (by simp) (by simp)]
  simp
def labsOf (t : TypeId) (n : Nat) (p : Array (Nat × Value)) : Sem Value := Instr.buildSlice t n p
@[go_sem ↓] theorem labs_of (n : Nat) (p : Array (Nat × Value)) : Instr.buildSlice 38 n p = labsOf 38 n p := rfl
@[go_sem] theorem run_labs1 (w : World) (a : Lab) : (labsOf 38 1 #[(0, .agg (cellsL a))]).run Tryd.prog w = .ok (.slice (some ⟨w.heap.size, 0, none⟩) 1 1) (w.alloc (.cells (cellsL a) 23)) := build_labs1 w a
@[go_sem] theorem run_labs0 (w : World) : (labsOf 38 0 #[]).run Tryd.prog w = .ok (.slice (some ⟨w.heap.size, 0, none⟩) 0 0) (w.alloc (.cells #[] 23)) := by
  have hu : (underlying 38).run Tryd.prog w = .ok (.slice 23) w := run_underlying Tryd.underlying38 w
  have hs : (sizeOf 23).run Tryd.prog w = .ok 32 w := by kernel_rfl
  unfold labsOf Instr.buildSlice
  simp [Sem.run_bind, hu, hs, newRow, Instr.fill]
  have he : ∀ d : Value, Array.map (fun _ : Nat => d) (Array.range 0) = #[] := fun d => Array.eq_empty_of_size_eq_zero (by simp)
  rw [he]
end Go.Proofs.YtlldcgofjibdjaaDoor
