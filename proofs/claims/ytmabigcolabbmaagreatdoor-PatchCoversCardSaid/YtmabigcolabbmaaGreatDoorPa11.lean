/- Texts that the next ones stand on: Itms2, NodeT, L16a, L16b, Aw16, Aw16b, NodeIn, ItmsIn. -/
import Derived.Test.YtmabigcolabbmaaGreatDoorPa10
import Derived.ChangeMaps5
import Derived.Deep.Slices
namespace Go.Proofs.YtmabigcolabbmaaGreatDoor
open Go Go.RowKit

def listJ (L : List Itm) : List Value := L.flatMap fun a => (cellsI a).toList
theorem listJ_length (L : List Itm) : (listJ L).length = L.length * 66 := by
  induction L with
  | nil => rfl
  | cons a L ih =>
    have h : (cellsI a).toList.length = 66 := by rw [Array.length_toList, size_cellsI]
    have e : listJ (a :: L) = (cellsI a).toList ++ listJ L := rfl
    rw [e, List.length_append, h, ih, List.length_cons]
    omega
theorem listJ_put (L : List Itm) (a : Itm) : listJ L ++ (cellsI a).toList = listJ (L ++ [a]) := by simp [listJ]
theorem listJ_at (L : List Itm) : ∀ i, i < L.length → ((listJ L).drop (i * 66)).take 66 = (cellsI (L.getD i zeroItm)).toList := by
  induction L with
  | nil => intro i h; cases h
  | cons a L ih =>
    intro i h
    have hl : (cellsI a).toList.length = 66 := by rw [Array.length_toList, size_cellsI]
    have e : listJ (a :: L) = (cellsI a).toList ++ listJ L := rfl
    rw [e]
    cases i with
    | zero =>
      rw [Nat.zero_mul, List.drop_zero, ← hl, List.take_left]
      rfl
    | succ i =>
      rw [show (i + 1) * 66 = (cellsI a).toList.length + i * 66 by rw [hl]; omega, ← List.drop_drop, List.drop_left]
      exact ih i (by simpa using h)
def OwnJ (w : World) (B : Nat) (v : Value) (L : List Itm) : Prop := w.ownsRow B 53 66 v L.length (listJ L)
theorem OwnJ.below {w w' : World} {B : Nat} {v : Value} {L : List Itm} (h : OwnJ w B v L) (k : Below w.heap.size w w') : OwnJ w' B v L :=
  World.ownsRow.kept h (row := none) ⟨k.os, k.tape, k.output, k.size, fun j hj _ => k.block j hj⟩ (by cases hv : v.ownBlock <;> simp)
theorem OwnJ.base {w : World} {B B' : Nat} {v : Value} {L : List Itm} (h : OwnJ w B v L) (hB : B' ≤ B) : OwnJ w B' v L := by
  refine ⟨h.1, ?_⟩
  rcases h.2 with h1 | ⟨g, cap, cur, h1, h2, h3⟩
  · exact .inl h1
  · exact .inr ⟨g, cap, cur, h1, Nat.le_trans hB h2, h3⟩
theorem OwnJ.shape {w : World} {B : Nat} {v : Value} {L : List Itm} (h : OwnJ w B v L) : ∃ ao cap, v = .slice ao L.length cap := by
  rcases h.2 with ⟨h1, h2⟩ | ⟨g, cap, cur, h1, _⟩
  · have : L = [] := List.eq_nil_of_length_eq_zero h2
    exact ⟨none, 0, by rw [h1, this]; rfl⟩
  · exact ⟨_, _, h1⟩
theorem ownJ_nil (w : World) (B : Nat) : OwnJ w B (.slice none 0 0) [] := World.ownsRow_nil _ _ _ _
theorem rowinfo_ritem : ∃ i : TypeInfo, Tryz.prog.info? 53 = some i ∧ i.zero = some (.agg (cellsI zeroItm)) ∧ i.size = 66 ∧ i.bytes = 80 := by
  have h : (Tryz.prog.info? 53).map (fun i => (i.zero, i.size, i.bytes)) = some (some (.agg (cellsI zeroItm)), 66, 80) := by
    rw [zeroI_cells]
    kernel_rfl
  cases hq : Tryz.prog.info? 53 with
  | none => rw [hq] at h; cases h
  | some i =>
    rw [hq] at h
    simp only [Option.map_some, Option.some.injEq, Prod.mk.injEq] at h
    exact ⟨i, rfl, h.1, h.2.1, h.2.2⟩
theorem one_of_rowJ (a : Itm) : ∀ u ∈ (cellsI a).toList, u.oneCell' = true := one_icells a
/-- One is put behind a list of the call's own. -/
theorem wpList_putJ {ops : Array Oper} {rest : List Oper} {o : Oper} {a : Act} {w : World} {Q : Exit → Act → World → Prop} (hgd : o.guard = none) (s x : Operand)
    (ho : o.op = .call { callee := .builtin .append, args := #[s, x], argTypes := #[23, 23] }) (B : Nat) (v : Value) (L : List Itm) (hs : a.eval s = v) (hown : OwnJ w B v L)
    (t : Itm) (g c : Nat) (hx : a.eval x = .slice (some ⟨g, 0, none⟩) 1 c) (hrow : rowAt w g = some (cellsI t)) (hB : B ≤ w.heap.size) (hl : L.length ≤ 1000000)
    (h : ∀ v' w', OwnJ w' B v' (L ++ [t]) → w.grownBy w' v.ownBlock → (v'.ownBlock = v.ownBlock ∨ v'.ownBlock = some w.heap.size) → wpList Tryz.prog ops Q rest (a.put o.dst v') w') : wpList Tryz.prog ops Q (o :: rest) a w := by
  obtain ⟨i0, hi, hz0, hz1, hz2⟩ := rowinfo_ritem
  refine wpList_append_own_at (P := Tryz.prog) w hgd s x 23 ho B 53 i0 (.agg (cellsI zeroItm)) 66 80 Tryz.underlying23 hi hz0 hz1 hz2 (by simp [Value.cells]) (by decide) v L.length (listJ L) hs hown ⟨g, 0, none⟩ 1 c (cellsI t).toList hx (by rw [Array.length_toList, size_cellsI]) ?_ (one_of_rowJ t) (by unfold maxLen; omega) (by omega) hB ?_
  · intro j u hu
    rw [show (⟨g, 0, none⟩ : Addr).add j = ⟨g, j, none⟩ by simp [Addr.add]; exact fun e => e.symm, cell_of_rowAt hrow]
    rwa [Array.getElem?_toList] at hu
  · intro v' w' h1 h2 _ h4
    refine h v' w' ?_ h2 h4
    show w'.ownsRow B 53 66 v' (L ++ [t]).length (listJ (L ++ [t]))
    rw [List.length_append, ← listJ_put]
    exact h1
theorem wpListIn_putJ {F : Fence} {nF : Nat} {ops : Array Oper} {rest : List Oper} {o : Oper} {a : Act} {w : World} {Q : Exit → Act → World → Prop} (hgd : o.guard = none) (s x : Operand)
    (ho : o.op = .call { callee := .builtin .append, args := #[s, x], argTypes := #[23, 23] }) (B : Nat) (v : Value) (L : List Itm) (hs : a.eval s = v) (hown : OwnJ w B v L)
    (t : Itm) (g c : Nat) (hx : a.eval x = .slice (some ⟨g, 0, none⟩) 1 c) (hrow : rowAt w g = some (cellsI t)) (hB : B ≤ w.heap.size) (hl : L.length ≤ 1000000)
    (h : ∀ v' w', OwnJ w' B v' (L ++ [t]) → w.grownBy w' v.ownBlock → (v'.ownBlock = v.ownBlock ∨ v'.ownBlock = some w.heap.size) → wpListIn F nF Tryz.prog ops Q rest (a.put o.dst v') w') : wpListIn F nF Tryz.prog ops Q (o :: rest) a w := by
  obtain ⟨i0, hi, hz0, hz1, hz2⟩ := rowinfo_ritem
  refine wpListIn_append_own_at (P := Tryz.prog) w hgd s x 23 ho B 53 i0 (.agg (cellsI zeroItm)) 66 80 Tryz.underlying23 hi hz0 hz1 hz2 (by simp [Value.cells]) (by decide) v L.length (listJ L) hs hown ⟨g, 0, none⟩ 1 c (cellsI t).toList hx (by rw [Array.length_toList, size_cellsI]) ?_ (one_of_rowJ t) (by unfold maxLen; omega) (by omega) hB ?_
  · intro j u hu
    rw [show (⟨g, 0, none⟩ : Addr).add j = ⟨g, j, none⟩ by simp [Addr.add]; exact fun e => e.symm, cell_of_rowAt hrow]
    rwa [Array.getElem?_toList] at hu
  · intro v' w' h1 h2 _ h4
    refine h v' w' ?_ h2 h4
    show w'.ownsRow B 53 66 v' (L ++ [t]).length (listJ (L ++ [t]))
    rw [List.length_append, ← listJ_put]
    exact h1
theorem OwnJ.lie {w : World} {B : Nat} {v : Value} {L : List Itm} (h : OwnJ w B v L) (hL : 0 < L.length) : ∃ g cap cur, v = .slice (some ⟨g, 0, none⟩) L.length cap ∧ B ≤ g ∧ L.length ≤ cap ∧ rowAt w g = some cur ∧ L.length * 66 ≤ cur.size ∧ ∀ i, i < L.length → cur.extract (i * 66) (i * 66 + 66) = cellsI (L.getD i zeroItm) := by
  rcases h.2 with ⟨h1, h2⟩ | ⟨g, cap, cur, h1, h2, h3, h4, h5, h6, h7⟩
  · exfalso
    omega
  · have hz : L.length * 66 ≤ cur.size := by rw [h6]; exact Nat.mul_le_mul_right 66 h4
    refine ⟨g, cap, cur, h1, h2, h4, rowAt_of_heap h3, hz, fun i hi => ?_⟩
    apply Array.toList_inj.1
    rw [← listJ_at L i hi, ← h7, Array.toList_extract, List.extract_eq_take_drop, List.drop_take, List.take_take]
    congr 1
    omega
/-- The block of a list of one's own. -/
theorem OwnJ.block {w : World} {B : Nat} {v : Value} {L : List Itm} (h : OwnJ w B v L) {g : Nat} (hg : v.ownBlock = some g) : B ≤ g ∧ g < w.heap.size ∧ ∃ cur, w.heap[g]? = some (.cells cur 53 (0, 0)) := by
  rcases h.2 with ⟨h1, h2⟩ | ⟨g', cap, cur, h1, h2, h3, _⟩
  · rw [h1] at hg
    cases hg
  · rw [h1] at hg
    cases hg
    exact ⟨h2, (Array.getElem?_eq_some_iff.1 h3).1, cur, h3⟩
theorem OwnJ.keep {W W' : World} {B : Nat} {v : Value} {L : List Itm} {row : Option Nat} (h : OwnJ W B v L) (hg : W.grownBy W' row) (hr : ∀ r, row = some r → ∃ o : Obj, W.heap[r]? = some o ∧ o.isCells = false) : OwnJ W' B v L := by
  refine World.ownsRow.kept h hg ?_
  cases hq : v.ownBlock with
  | none => exact .inl rfl
  | some g =>
    refine .inr fun e => ?_
    obtain ⟨o, h1, h2⟩ := hr g e.symm
    obtain ⟨_, _, cur, h3⟩ := OwnJ.block h hq
    rw [h3] at h1
    cases h1
    cases h2
theorem OwnJ.apart {W : World} {B : Nat} {v : Value} {L : List Itm} {b : Nat} {c : Array Value} {t : TypeId} (h : OwnJ W B v L) (hb : W.heap[b]? = some (.cells c t (0, 0))) (hne : t ≠ 53) : v.ownBlock ≠ some b := fun e => by
  obtain ⟨_, _, cur, h3⟩ := OwnJ.block h e
  rw [hb] at h3
  cases h3
  exact hne rfl
/-- Another block may be written. -/
theorem OwnJ.aside {W W' : World} {B : Nat} {v : Value} {L : List Itm} {b : Nat} (h : OwnJ W B v L) (hg : W.grownBy W' (some b)) (hne : v.ownBlock ≠ some b) : OwnJ W' B v L := by
  refine World.ownsRow.kept h hg ?_
  cases hq : v.ownBlock with
  | none => exact .inl rfl
  | some g => exact .inr fun e => hne (by rw [hq]; exact e)
/-- Where a list lies, in blocks below n0, be it empty. -/
def AtJ (n0 : Nat) (w : World) (v : Value) (L : List Itm) : Prop := ∃ ao cap, v = .slice ao L.length cap ∧ ∀ i, i < L.length → ∃ g o cur, ao = some ⟨g, o, none⟩ ∧ g < n0 ∧ rowAt w g = some cur ∧ o + (i * 66 + 66) ≤ cur.size ∧ cur.extract (o + i * 66) (o + i * 66 + 66) = cellsI (L.getD i zeroItm)
theorem OwnJ.at {w : World} {B : Nat} {v : Value} {L : List Itm} (h : OwnJ w B v L) : AtJ w.heap.size w v L := by
  obtain ⟨ao, cap, rfl⟩ := h.shape
  refine ⟨ao, cap, rfl, fun i hi => ?_⟩
  obtain ⟨g, cap', cur, h1, h2, _, h3, h4, h5⟩ := h.lie (by omega)
  injection h1 with h1 _ _
  refine ⟨g, 0, cur, h1, (Array.getElem?_eq_some_iff.1 (heap_of_rowAt h3).choose_spec).1, h3, by have := Nat.mul_le_mul_right 66 hi; omega, ?_⟩
  rw [Nat.zero_add]
  exact h5 i hi
theorem AtJ.below {n0 n1 : Nat} {w w' : World} {v : Value} {L : List Itm} (h : AtJ n0 w v L) (hn : n0 ≤ n1) (k : Below n1 w w') : AtJ n1 w' v L := by
  obtain ⟨ao, cap, h1, h2⟩ := h
  refine ⟨ao, cap, h1, fun i hi => ?_⟩
  obtain ⟨g, o, cur, h3, h0, h4, h5⟩ := h2 i hi
  exact ⟨g, o, cur, h3, by omega, by rw [rowAt_below k (by omega)]; exact h4, h5⟩
theorem build_oneJ (w : World) (a : Itm) : (Instr.buildSlice 23 1 #[(0, .agg (cellsI a))]).run Tryz.prog w = .ok (.slice (some ⟨w.heap.size, 0, none⟩) 1 1) (w.alloc (.cells (cellsI a) 53)) := by
  have hu : (underlying 23).run Tryz.prog w = .ok (.slice 53) w := run_underlying Tryz.underlying23 w
  have hs : (sizeOf 53).run Tryz.prog w = .ok 66 w := by kernel_rfl
  unfold Instr.buildSlice
  simp [Sem.run_bind, hu, hs, Value.cells, newRow]
  rw [fillN_one 66 _ _ (by simp) (by simp)]
  simp
def buildJ (t : TypeId) (n : Nat) (p : Array (Nat × Value)) : Sem Value := Instr.buildSlice t n p
@[go_sem ↓] theorem buildJ_of (n : Nat) (p : Array (Nat × Value)) : Instr.buildSlice 23 n p = buildJ 23 n p := rfl
@[go_sem] theorem run_buildJ (w : World) (a : Itm) : (buildJ 23 1 #[(0, .agg (cellsI a))]).run Tryz.prog w = .ok (.slice (some ⟨w.heap.size, 0, none⟩) 1 1) (w.alloc (.cells (cellsI a) 53)) := build_oneJ w a
def listG (L : List Lf) : List Value := L.flatMap fun a => (cellsF a).toList
theorem listG_length (L : List Lf) : (listG L).length = L.length * 65 := by
  induction L with
  | nil => rfl
  | cons a L ih =>
    have h : (cellsF a).toList.length = 65 := by rw [Array.length_toList, size_cellsF]
    have e : listG (a :: L) = (cellsF a).toList ++ listG L := rfl
    rw [e, List.length_append, h, ih, List.length_cons]
    omega
theorem listG_put (L : List Lf) (a : Lf) : listG L ++ (cellsF a).toList = listG (L ++ [a]) := by simp [listG]
theorem listG_at (L : List Lf) : ∀ i, i < L.length → ((listG L).drop (i * 65)).take 65 = (cellsF (L.getD i zeroLf)).toList := by
  induction L with
  | nil => intro i h; cases h
  | cons a L ih =>
    intro i h
    have hl : (cellsF a).toList.length = 65 := by rw [Array.length_toList, size_cellsF]
    have e : listG (a :: L) = (cellsF a).toList ++ listG L := rfl
    rw [e]
    cases i with
    | zero =>
      rw [Nat.zero_mul, List.drop_zero, ← hl, List.take_left]
      rfl
    | succ i =>
      rw [show (i + 1) * 65 = (cellsF a).toList.length + i * 65 by rw [hl]; omega, ← List.drop_drop, List.drop_left]
      exact ih i (by simpa using h)
def OwnG (w : World) (B : Nat) (v : Value) (L : List Lf) : Prop := w.ownsRow B 55 65 v L.length (listG L)
theorem OwnG.below {w w' : World} {B : Nat} {v : Value} {L : List Lf} (h : OwnG w B v L) (k : Below w.heap.size w w') : OwnG w' B v L :=
  World.ownsRow.kept h (row := none) ⟨k.os, k.tape, k.output, k.size, fun j hj _ => k.block j hj⟩ (by cases hv : v.ownBlock <;> simp)
theorem OwnG.base {w : World} {B B' : Nat} {v : Value} {L : List Lf} (h : OwnG w B v L) (hB : B' ≤ B) : OwnG w B' v L := by
  refine ⟨h.1, ?_⟩
  rcases h.2 with h1 | ⟨g, cap, cur, h1, h2, h3⟩
  · exact .inl h1
  · exact .inr ⟨g, cap, cur, h1, Nat.le_trans hB h2, h3⟩
theorem OwnG.shape {w : World} {B : Nat} {v : Value} {L : List Lf} (h : OwnG w B v L) : ∃ ao cap, v = .slice ao L.length cap := by
  rcases h.2 with ⟨h1, h2⟩ | ⟨g, cap, cur, h1, _⟩
  · have : L = [] := List.eq_nil_of_length_eq_zero h2
    exact ⟨none, 0, by rw [h1, this]; rfl⟩
  · exact ⟨_, _, h1⟩
theorem ownG_nil (w : World) (B : Nat) : OwnG w B (.slice none 0 0) [] := World.ownsRow_nil _ _ _ _
theorem rowinfo_rleaf : ∃ i : TypeInfo, Tryz.prog.info? 55 = some i ∧ i.zero = some (.agg (cellsF zeroLf)) ∧ i.size = 65 ∧ i.bytes = 72 := by
  have h : (Tryz.prog.info? 55).map (fun i => (i.zero, i.size, i.bytes)) = some (some (.agg (cellsF zeroLf)), 65, 72) := by
    rw [zeroF_cells]
    kernel_rfl
  cases hq : Tryz.prog.info? 55 with
  | none => rw [hq] at h; cases h
  | some i =>
    rw [hq] at h
    simp only [Option.map_some, Option.some.injEq, Prod.mk.injEq] at h
    exact ⟨i, rfl, h.1, h.2.1, h.2.2⟩
theorem one_of_rowG (a : Lf) : ∀ u ∈ (cellsF a).toList, u.oneCell' = true := one_fcells a
/-- One is put behind a list of the call's own. -/
theorem wpList_putG {ops : Array Oper} {rest : List Oper} {o : Oper} {a : Act} {w : World} {Q : Exit → Act → World → Prop} (hgd : o.guard = none) (s x : Operand)
    (ho : o.op = .call { callee := .builtin .append, args := #[s, x], argTypes := #[43, 43] }) (B : Nat) (v : Value) (L : List Lf) (hs : a.eval s = v) (hown : OwnG w B v L)
    (t : Lf) (g c : Nat) (hx : a.eval x = .slice (some ⟨g, 0, none⟩) 1 c) (hrow : rowAt w g = some (cellsF t)) (hB : B ≤ w.heap.size) (hl : L.length ≤ 1000000)
    (h : ∀ v' w', OwnG w' B v' (L ++ [t]) → w.grownBy w' v.ownBlock → (v'.ownBlock = v.ownBlock ∨ v'.ownBlock = some w.heap.size) → wpList Tryz.prog ops Q rest (a.put o.dst v') w') : wpList Tryz.prog ops Q (o :: rest) a w := by
  obtain ⟨i0, hi, hz0, hz1, hz2⟩ := rowinfo_rleaf
  refine wpList_append_own_at (P := Tryz.prog) w hgd s x 43 ho B 55 i0 (.agg (cellsF zeroLf)) 65 72 Tryz.underlying43 hi hz0 hz1 hz2 (by simp [Value.cells]) (by decide) v L.length (listG L) hs hown ⟨g, 0, none⟩ 1 c (cellsF t).toList hx (by rw [Array.length_toList, size_cellsF]) ?_ (one_of_rowG t) (by unfold maxLen; omega) (by omega) hB ?_
  · intro j u hu
    rw [show (⟨g, 0, none⟩ : Addr).add j = ⟨g, j, none⟩ by simp [Addr.add]; exact fun e => e.symm, cell_of_rowAt hrow]
    rwa [Array.getElem?_toList] at hu
  · intro v' w' h1 h2 _ h4
    refine h v' w' ?_ h2 h4
    show w'.ownsRow B 55 65 v' (L ++ [t]).length (listG (L ++ [t]))
    rw [List.length_append, ← listG_put]
    exact h1
theorem wpListIn_putG {F : Fence} {nF : Nat} {ops : Array Oper} {rest : List Oper} {o : Oper} {a : Act} {w : World} {Q : Exit → Act → World → Prop} (hgd : o.guard = none) (s x : Operand)
    (ho : o.op = .call { callee := .builtin .append, args := #[s, x], argTypes := #[43, 43] }) (B : Nat) (v : Value) (L : List Lf) (hs : a.eval s = v) (hown : OwnG w B v L)
    (t : Lf) (g c : Nat) (hx : a.eval x = .slice (some ⟨g, 0, none⟩) 1 c) (hrow : rowAt w g = some (cellsF t)) (hB : B ≤ w.heap.size) (hl : L.length ≤ 1000000)
    (h : ∀ v' w', OwnG w' B v' (L ++ [t]) → w.grownBy w' v.ownBlock → (v'.ownBlock = v.ownBlock ∨ v'.ownBlock = some w.heap.size) → wpListIn F nF Tryz.prog ops Q rest (a.put o.dst v') w') : wpListIn F nF Tryz.prog ops Q (o :: rest) a w := by
  obtain ⟨i0, hi, hz0, hz1, hz2⟩ := rowinfo_rleaf
  refine wpListIn_append_own_at (P := Tryz.prog) w hgd s x 43 ho B 55 i0 (.agg (cellsF zeroLf)) 65 72 Tryz.underlying43 hi hz0 hz1 hz2 (by simp [Value.cells]) (by decide) v L.length (listG L) hs hown ⟨g, 0, none⟩ 1 c (cellsF t).toList hx (by rw [Array.length_toList, size_cellsF]) ?_ (one_of_rowG t) (by unfold maxLen; omega) (by omega) hB ?_
  · intro j u hu
    rw [show (⟨g, 0, none⟩ : Addr).add j = ⟨g, j, none⟩ by simp [Addr.add]; exact fun e => e.symm, cell_of_rowAt hrow]
    rwa [Array.getElem?_toList] at hu
  · intro v' w' h1 h2 _ h4
    refine h v' w' ?_ h2 h4
    show w'.ownsRow B 55 65 v' (L ++ [t]).length (listG (L ++ [t]))
    rw [List.length_append, ← listG_put]
    exact h1
theorem OwnG.lie {w : World} {B : Nat} {v : Value} {L : List Lf} (h : OwnG w B v L) (hL : 0 < L.length) : ∃ g cap cur, v = .slice (some ⟨g, 0, none⟩) L.length cap ∧ B ≤ g ∧ L.length ≤ cap ∧ rowAt w g = some cur ∧ L.length * 65 ≤ cur.size ∧ ∀ i, i < L.length → cur.extract (i * 65) (i * 65 + 65) = cellsF (L.getD i zeroLf) := by
  rcases h.2 with ⟨h1, h2⟩ | ⟨g, cap, cur, h1, h2, h3, h4, h5, h6, h7⟩
  · exfalso
    omega
  · have hz : L.length * 65 ≤ cur.size := by rw [h6]; exact Nat.mul_le_mul_right 65 h4
    refine ⟨g, cap, cur, h1, h2, h4, rowAt_of_heap h3, hz, fun i hi => ?_⟩
    apply Array.toList_inj.1
    rw [← listG_at L i hi, ← h7, Array.toList_extract, List.extract_eq_take_drop, List.drop_take, List.take_take]
    congr 1
    omega
/-- The block of a list of one's own. -/
theorem OwnG.block {w : World} {B : Nat} {v : Value} {L : List Lf} (h : OwnG w B v L) {g : Nat} (hg : v.ownBlock = some g) : B ≤ g ∧ g < w.heap.size ∧ ∃ cur, w.heap[g]? = some (.cells cur 55 (0, 0)) := by
  rcases h.2 with ⟨h1, h2⟩ | ⟨g', cap, cur, h1, h2, h3, _⟩
  · rw [h1] at hg
    cases hg
  · rw [h1] at hg
    cases hg
    exact ⟨h2, (Array.getElem?_eq_some_iff.1 h3).1, cur, h3⟩
theorem OwnG.keep {W W' : World} {B : Nat} {v : Value} {L : List Lf} {row : Option Nat} (h : OwnG W B v L) (hg : W.grownBy W' row) (hr : ∀ r, row = some r → ∃ o : Obj, W.heap[r]? = some o ∧ o.isCells = false) : OwnG W' B v L := by
  refine World.ownsRow.kept h hg ?_
  cases hq : v.ownBlock with
  | none => exact .inl rfl
  | some g =>
    refine .inr fun e => ?_
    obtain ⟨o, h1, h2⟩ := hr g e.symm
    obtain ⟨_, _, cur, h3⟩ := OwnG.block h hq
    rw [h3] at h1
    cases h1
    cases h2
theorem OwnG.apart {W : World} {B : Nat} {v : Value} {L : List Lf} {b : Nat} {c : Array Value} {t : TypeId} (h : OwnG W B v L) (hb : W.heap[b]? = some (.cells c t (0, 0))) (hne : t ≠ 55) : v.ownBlock ≠ some b := fun e => by
  obtain ⟨_, _, cur, h3⟩ := OwnG.block h e
  rw [hb] at h3
  cases h3
  exact hne rfl
/-- Another block may be written. -/
theorem OwnG.aside {W W' : World} {B : Nat} {v : Value} {L : List Lf} {b : Nat} (h : OwnG W B v L) (hg : W.grownBy W' (some b)) (hne : v.ownBlock ≠ some b) : OwnG W' B v L := by
  refine World.ownsRow.kept h hg ?_
  cases hq : v.ownBlock with
  | none => exact .inl rfl
  | some g => exact .inr fun e => hne (by rw [hq]; exact e)
/-- Where a list lies, in blocks below n0, be it empty. -/
def AtG (n0 : Nat) (w : World) (v : Value) (L : List Lf) : Prop := ∃ ao cap, v = .slice ao L.length cap ∧ ∀ i, i < L.length → ∃ g o cur, ao = some ⟨g, o, none⟩ ∧ g < n0 ∧ rowAt w g = some cur ∧ o + (i * 65 + 65) ≤ cur.size ∧ cur.extract (o + i * 65) (o + i * 65 + 65) = cellsF (L.getD i zeroLf)
theorem OwnG.at {w : World} {B : Nat} {v : Value} {L : List Lf} (h : OwnG w B v L) : AtG w.heap.size w v L := by
  obtain ⟨ao, cap, rfl⟩ := h.shape
  refine ⟨ao, cap, rfl, fun i hi => ?_⟩
  obtain ⟨g, cap', cur, h1, h2, _, h3, h4, h5⟩ := h.lie (by omega)
  injection h1 with h1 _ _
  refine ⟨g, 0, cur, h1, (Array.getElem?_eq_some_iff.1 (heap_of_rowAt h3).choose_spec).1, h3, by have := Nat.mul_le_mul_right 65 hi; omega, ?_⟩
  rw [Nat.zero_add]
  exact h5 i hi
theorem AtG.below {n0 n1 : Nat} {w w' : World} {v : Value} {L : List Lf} (h : AtG n0 w v L) (hn : n0 ≤ n1) (k : Below n1 w w') : AtG n1 w' v L := by
  obtain ⟨ao, cap, h1, h2⟩ := h
  refine ⟨ao, cap, h1, fun i hi => ?_⟩
  obtain ⟨g, o, cur, h3, h0, h4, h5⟩ := h2 i hi
  exact ⟨g, o, cur, h3, by omega, by rw [rowAt_below k (by omega)]; exact h4, h5⟩
theorem build_oneG (w : World) (a : Lf) : (Instr.buildSlice 43 1 #[(0, .agg (cellsF a))]).run Tryz.prog w = .ok (.slice (some ⟨w.heap.size, 0, none⟩) 1 1) (w.alloc (.cells (cellsF a) 55)) := by
  have hu : (underlying 43).run Tryz.prog w = .ok (.slice 55) w := run_underlying Tryz.underlying43 w
  have hs : (sizeOf 55).run Tryz.prog w = .ok 65 w := by kernel_rfl
  unfold Instr.buildSlice
  simp [Sem.run_bind, hu, hs, Value.cells, newRow]
  rw [fillN_one 65 _ _ (by simp) (by simp)]
  simp
def buildG (t : TypeId) (n : Nat) (p : Array (Nat × Value)) : Sem Value := Instr.buildSlice t n p
@[go_sem ↓] theorem buildG_of (n : Nat) (p : Array (Nat × Value)) : Instr.buildSlice 43 n p = buildG 43 n p := rfl
@[go_sem] theorem run_buildG (w : World) (a : Lf) : (buildG 43 1 #[(0, .agg (cellsF a))]).run Tryz.prog w = .ok (.slice (some ⟨w.heap.size, 0, none⟩) 1 1) (w.alloc (.cells (cellsF a) 55)) := build_oneG w a
theorem ownI_empty (w : World) : OwnI (w.alloc (.cells #[] 68)) w.heap.size (.slice (some ⟨w.heap.size, 0, none⟩) 0 0) [] :=
  ⟨rfl, .inr ⟨w.heap.size, 0, #[], rfl, Nat.le_refl _, heap_alloc_new w _, Nat.le_refl _, Nat.zero_le _, rfl, rfl⟩⟩
theorem build_noneI (w : World) : (Instr.buildSlice 22 0 #[]).run Tryz.prog w = .ok (.slice (some ⟨w.heap.size, 0, none⟩) 0 0) (w.alloc (.cells #[] 68)) := by
  have hu : (underlying 22).run Tryz.prog w = .ok (.slice 68) w := run_underlying Tryz.underlying22 w
  have hs : (sizeOf 68).run Tryz.prog w = .ok 66 w := by kernel_rfl
  unfold Instr.buildSlice
  simp [Sem.run_bind, hu, hs, Instr.fill, newRow]
  exact congrArg (fun c => w.alloc (.cells c 68)) (Array.eq_empty_of_size_eq_zero (by rw [Array.size_map, Array.size_range]))
@[go_sem] theorem run_build_noneI (w : World) : (buildI 22 0 #[]).run Tryz.prog w = .ok (.slice (some ⟨w.heap.size, 0, none⟩) 0 0) (w.alloc (.cells #[] 68)) := build_noneI w
theorem listI_append (L M : List Itm) : listI (L ++ M) = listI L ++ listI M := by simp [listI]
theorem listI_one (L : List Itm) : ∀ u ∈ listI L, u.oneCell' = true := by
  intro u hu
  obtain ⟨a, _, h⟩ := List.mem_flatMap.1 hu
  exact one_of_rowI a u h
theorem listI_get (L : List Itm) (j : Nat) (u : Value) (h : (listI L)[j]? = some u) : j / 66 < L.length ∧ (cellsI (L.getD (j / 66) zeroItm))[j % 66]? = some u := by
  have hj : j < (listI L).length := (List.getElem?_eq_some_iff.1 h).1
  rw [listI_length] at hj
  have hi : j / 66 < L.length := (Nat.div_lt_iff_lt_mul (by decide)).2 hj
  refine ⟨hi, ?_⟩
  have e := listI_at L (j / 66) hi
  have hm : j % 66 < 66 := Nat.mod_lt _ (by decide)
  have q : (((listI L).drop (j / 66 * 66)).take 66)[j % 66]? = some u := by
    rw [List.getElem?_take, if_pos hm, List.getElem?_drop, show j / 66 * 66 + j % 66 = j by omega]
    exact h
  rw [e, Array.getElem?_toList] at q
  exact q
theorem AtI.news {n0 : Nat} {w : World} {g o cap n : Nat} {L : List Itm} (h : AtI n0 w (.slice (some ⟨g, o, none⟩) n cap) L) : ∀ j u, (listI L)[j]? = some u → w.cell? ((⟨g, o, none⟩ : Addr).add j) = some u := by
  intro j u hu
  obtain ⟨hi, hx⟩ := listI_get L j u hu
  obtain ⟨ao, cap', e, h2⟩ := h
  obtain ⟨g', o', cur, h3, _, h4, h5, h6⟩ := h2 _ hi
  injection e with e1 e2 e3
  rw [← e1] at h3
  cases h3
  rw [show (⟨g, o, none⟩ : Addr).add j = ⟨g, o + j, none⟩ by simp [Addr.add], cell_of_rowAt h4]
  rw [← h6] at hx
  have hm : j % 66 < 66 := Nat.mod_lt _ (by decide)
  rw [Array.getElem?_extract] at hx
  split at hx
  · rw [← hx]
    congr 1
    omega
  · cases hx
/-- A whole list is put behind a list of the call's own. -/
theorem wpList_putsI {ops : Array Oper} {rest : List Oper} {o : Oper} {a : Act} {w : World} {Q : Exit → Act → World → Prop} (hgd : o.guard = none) (s x : Operand)
    (ho : o.op = .call { callee := .builtin .append, args := #[s, x], argTypes := #[22, 22] }) (B : Nat) (v : Value) (L : List Itm) (hs : a.eval s = v) (hown : OwnI w B v L)
    (n0 : Nat) (u : Value) (M : List Itm) (hx : a.eval x = u) (hu : AtI n0 w u M) (hB : B ≤ w.heap.size) (hl : L.length ≤ 1000000) (hl2 : M.length ≤ 500000)
    (h : ∀ v' w', OwnI w' B v' (L ++ M) → w.grownBy w' v.ownBlock → (v'.ownBlock = v.ownBlock ∨ v'.ownBlock = some w.heap.size) → wpList Tryz.prog ops Q rest (a.put o.dst v') w') : wpList Tryz.prog ops Q (o :: rest) a w := by
  obtain ⟨i0, hi, hz0, hz1, hz2⟩ := rowinfo_item
  obtain ⟨ao, cap, hu1, hu2⟩ := id hu
  have key : ∀ (ad : Addr), (∀ j u, (listI M)[j]? = some u → w.cell? (ad.add j) = some u) → u = .slice (some ad) M.length cap → wpList Tryz.prog ops Q (o :: rest) a w := fun ad hc hv => by
    refine wpList_append_own_at (P := Tryz.prog) w hgd s x 22 ho B 68 i0 (.agg (cellsI zeroItm)) 66 80 Tryz.underlying22 hi hz0 hz1 hz2 (by simp [Value.cells]) (by decide) v L.length (listI L) hs hown ad M.length cap (listI M) (hx.trans hv) (listI_length M) hc (listI_one M) (by unfold maxLen; omega) (by omega) hB ?_
    intro v' w' h1 h2 _ h4
    refine h v' w' ?_ h2 h4
    show w'.ownsRow B 68 66 v' (L ++ M).length (listI (L ++ M))
    rw [List.length_append, listI_append]
    exact h1
  by_cases h0 : M = []
  · subst h0
    cases ao with
    | some ad => exact key ad (fun j u hj => by simp [listI] at hj) hu1
    | none =>
      have hrun := run_append_none_len (w := w) Tryz.underlying22 hi hown cap o.type
      refine wpList_plain hgd fun K hK => ?_
      unfold Oper.wp execOp
      simp only [ho, resolve, invoke, builtin, Sem.run_bind, Sem.run_pure, Result.andThen_ok, List.map_toArray, List.map_cons, List.map_nil, hs, hx.trans hu1, List.length_nil, hrun]
      exact hK _ _ (h v w (by rw [List.append_nil]; exact hown) ⟨rfl, rfl, rfl, Nat.le_refl _, fun _ _ _ => rfl⟩ (.inl rfl))
  · obtain ⟨g, o', cur, h3, _⟩ := hu2 0 (List.length_pos_iff.2 h0)
    subst h3
    subst hu1
    exact key _ (AtI.news hu) rfl
theorem ownF_empty (w : World) : OwnF (w.alloc (.cells #[] 51)) w.heap.size (.slice (some ⟨w.heap.size, 0, none⟩) 0 0) [] :=
  ⟨rfl, .inr ⟨w.heap.size, 0, #[], rfl, Nat.le_refl _, heap_alloc_new w _, Nat.le_refl _, Nat.zero_le _, rfl, rfl⟩⟩
theorem build_noneF (w : World) : (Instr.buildSlice 38 0 #[]).run Tryz.prog w = .ok (.slice (some ⟨w.heap.size, 0, none⟩) 0 0) (w.alloc (.cells #[] 51)) := by
  have hu : (underlying 38).run Tryz.prog w = .ok (.slice 51) w := run_underlying Tryz.underlying38 w
  have hs : (sizeOf 51).run Tryz.prog w = .ok 65 w := by kernel_rfl
  unfold Instr.buildSlice
  simp [Sem.run_bind, hu, hs, Instr.fill, newRow]
  exact congrArg (fun c => w.alloc (.cells c 51)) (Array.eq_empty_of_size_eq_zero (by rw [Array.size_map, Array.size_range]))
@[go_sem] theorem run_build_noneF (w : World) : (buildF 38 0 #[]).run Tryz.prog w = .ok (.slice (some ⟨w.heap.size, 0, none⟩) 0 0) (w.alloc (.cells #[] 51)) := build_noneF w
theorem listF_append (L M : List Lf) : listF (L ++ M) = listF L ++ listF M := by simp [listF]
theorem listF_one (L : List Lf) : ∀ u ∈ listF L, u.oneCell' = true := by
  intro u hu
  obtain ⟨a, _, h⟩ := List.mem_flatMap.1 hu
  exact one_of_rowF a u h
theorem listF_get (L : List Lf) (j : Nat) (u : Value) (h : (listF L)[j]? = some u) : j / 65 < L.length ∧ (cellsF (L.getD (j / 65) zeroLf))[j % 65]? = some u := by
  have hj : j < (listF L).length := (List.getElem?_eq_some_iff.1 h).1
  rw [listF_length] at hj
  have hi : j / 65 < L.length := (Nat.div_lt_iff_lt_mul (by decide)).2 hj
  refine ⟨hi, ?_⟩
  have e := listF_at L (j / 65) hi
  have hm : j % 65 < 65 := Nat.mod_lt _ (by decide)
  have q : (((listF L).drop (j / 65 * 65)).take 65)[j % 65]? = some u := by
    rw [List.getElem?_take, if_pos hm, List.getElem?_drop, show j / 65 * 65 + j % 65 = j by omega]
    exact h
  rw [e, Array.getElem?_toList] at q
  exact q
theorem AtF.news {n0 : Nat} {w : World} {g o cap n : Nat} {L : List Lf} (h : AtF n0 w (.slice (some ⟨g, o, none⟩) n cap) L) : ∀ j u, (listF L)[j]? = some u → w.cell? ((⟨g, o, none⟩ : Addr).add j) = some u := by
  intro j u hu
  obtain ⟨hi, hx⟩ := listF_get L j u hu
  obtain ⟨ao, cap', e, h2⟩ := h
  obtain ⟨g', o', cur, h3, _, h4, h5, h6⟩ := h2 _ hi
  injection e with e1 e2 e3
  rw [← e1] at h3
  cases h3
  rw [show (⟨g, o, none⟩ : Addr).add j = ⟨g, o + j, none⟩ by simp [Addr.add], cell_of_rowAt h4]
  rw [← h6] at hx
  have hm : j % 65 < 65 := Nat.mod_lt _ (by decide)
  rw [Array.getElem?_extract] at hx
  split at hx
  · rw [← hx]
    congr 1
    omega
  · cases hx
/-- A whole list is put behind a list of the call's own. -/
theorem wpList_putsF {ops : Array Oper} {rest : List Oper} {o : Oper} {a : Act} {w : World} {Q : Exit → Act → World → Prop} (hgd : o.guard = none) (s x : Operand)
    (ho : o.op = .call { callee := .builtin .append, args := #[s, x], argTypes := #[38, 38] }) (B : Nat) (v : Value) (L : List Lf) (hs : a.eval s = v) (hown : OwnF w B v L)
    (n0 : Nat) (u : Value) (M : List Lf) (hx : a.eval x = u) (hu : AtF n0 w u M) (hB : B ≤ w.heap.size) (hl : L.length ≤ 1000000) (hl2 : M.length ≤ 500000)
    (h : ∀ v' w', OwnF w' B v' (L ++ M) → w.grownBy w' v.ownBlock → (v'.ownBlock = v.ownBlock ∨ v'.ownBlock = some w.heap.size) → wpList Tryz.prog ops Q rest (a.put o.dst v') w') : wpList Tryz.prog ops Q (o :: rest) a w := by
  obtain ⟨i0, hi, hz0, hz1, hz2⟩ := rowinfo_leaf
  obtain ⟨ao, cap, hu1, hu2⟩ := id hu
  have key : ∀ (ad : Addr), (∀ j u, (listF M)[j]? = some u → w.cell? (ad.add j) = some u) → u = .slice (some ad) M.length cap → wpList Tryz.prog ops Q (o :: rest) a w := fun ad hc hv => by
    refine wpList_append_own_at (P := Tryz.prog) w hgd s x 38 ho B 51 i0 (.agg (cellsF zeroLf)) 65 72 Tryz.underlying38 hi hz0 hz1 hz2 (by simp [Value.cells]) (by decide) v L.length (listF L) hs hown ad M.length cap (listF M) (hx.trans hv) (listF_length M) hc (listF_one M) (by unfold maxLen; omega) (by omega) hB ?_
    intro v' w' h1 h2 _ h4
    refine h v' w' ?_ h2 h4
    show w'.ownsRow B 51 65 v' (L ++ M).length (listF (L ++ M))
    rw [List.length_append, listF_append]
    exact h1
  by_cases h0 : M = []
  · subst h0
    cases ao with
    | some ad => exact key ad (fun j u hj => by simp [listF] at hj) hu1
    | none =>
      have hrun := run_append_none_len (w := w) Tryz.underlying38 hi hown cap o.type
      refine wpList_plain hgd fun K hK => ?_
      unfold Oper.wp execOp
      simp only [ho, resolve, invoke, builtin, Sem.run_bind, Sem.run_pure, Result.andThen_ok, List.map_toArray, List.map_cons, List.map_nil, hs, hx.trans hu1, List.length_nil, hrun]
      exact hK _ _ (h v w (by rw [List.append_nil]; exact hown) ⟨rfl, rfl, rfl, Nat.le_refl _, fun _ _ _ => rfl⟩ (.inl rfl))
  · obtain ⟨g, o', cur, h3, _⟩ := hu2 0 (List.length_pos_iff.2 h0)
    subst h3
    subst hu1
    exact key _ (AtF.news hu) rfl
theorem ownL_empty (w : World) : OwnL (w.alloc (.cells #[] 27)) w.heap.size (.slice (some ⟨w.heap.size, 0, none⟩) 0 0) [] :=
  ⟨rfl, .inr ⟨w.heap.size, 0, #[], rfl, Nat.le_refl _, heap_alloc_new w _, Nat.le_refl _, Nat.zero_le _, rfl, rfl⟩⟩
theorem build_noneL (w : World) : (Instr.buildSlice 39 0 #[]).run Tryz.prog w = .ok (.slice (some ⟨w.heap.size, 0, none⟩) 0 0) (w.alloc (.cells #[] 27)) := by
  have hu : (underlying 39).run Tryz.prog w = .ok (.slice 27) w := run_underlying Tryz.underlying39 w
  have hs : (sizeOf 27).run Tryz.prog w = .ok 32 w := by kernel_rfl
  unfold Instr.buildSlice
  simp [Sem.run_bind, hu, hs, Instr.fill, newRow]
  exact congrArg (fun c => w.alloc (.cells c 27)) (Array.eq_empty_of_size_eq_zero (by rw [Array.size_map, Array.size_range]))
@[go_sem] theorem run_build_noneL (w : World) : (buildL 39 0 #[]).run Tryz.prog w = .ok (.slice (some ⟨w.heap.size, 0, none⟩) 0 0) (w.alloc (.cells #[] 27)) := build_noneL w
theorem listL_append (L M : List Lab) : listL (L ++ M) = listL L ++ listL M := by simp [listL]
theorem listL_one (L : List Lab) : ∀ u ∈ listL L, u.oneCell' = true := by
  intro u hu
  obtain ⟨a, _, h⟩ := List.mem_flatMap.1 hu
  exact one_of_rowL a u h
theorem listL_get (L : List Lab) (j : Nat) (u : Value) (h : (listL L)[j]? = some u) : j / 32 < L.length ∧ (cellsL (L.getD (j / 32) zeroLab))[j % 32]? = some u := by
  have hj : j < (listL L).length := (List.getElem?_eq_some_iff.1 h).1
  rw [listL_length] at hj
  have hi : j / 32 < L.length := (Nat.div_lt_iff_lt_mul (by decide)).2 hj
  refine ⟨hi, ?_⟩
  have e := listL_at L (j / 32) hi
  have hm : j % 32 < 32 := Nat.mod_lt _ (by decide)
  have q : (((listL L).drop (j / 32 * 32)).take 32)[j % 32]? = some u := by
    rw [List.getElem?_take, if_pos hm, List.getElem?_drop, show j / 32 * 32 + j % 32 = j by omega]
    exact h
  rw [e, Array.getElem?_toList] at q
  exact q
theorem AtL.news {n0 : Nat} {w : World} {g o cap n : Nat} {L : List Lab} (h : AtL n0 w (.slice (some ⟨g, o, none⟩) n cap) L) : ∀ j u, (listL L)[j]? = some u → w.cell? ((⟨g, o, none⟩ : Addr).add j) = some u := by
  intro j u hu
  obtain ⟨hi, hx⟩ := listL_get L j u hu
  obtain ⟨ao, cap', e, h2⟩ := h
  obtain ⟨g', o', cur, h3, _, h4, h5, h6⟩ := h2 _ hi
  injection e with e1 e2 e3
  rw [← e1] at h3
  cases h3
  rw [show (⟨g, o, none⟩ : Addr).add j = ⟨g, o + j, none⟩ by simp [Addr.add], cell_of_rowAt h4]
  rw [← h6] at hx
  have hm : j % 32 < 32 := Nat.mod_lt _ (by decide)
  rw [Array.getElem?_extract] at hx
  split at hx
  · rw [← hx]
    congr 1
    omega
  · cases hx
/-- A whole list is put behind a list of the call's own. -/
theorem wpList_putsL {ops : Array Oper} {rest : List Oper} {o : Oper} {a : Act} {w : World} {Q : Exit → Act → World → Prop} (hgd : o.guard = none) (s x : Operand)
    (ho : o.op = .call { callee := .builtin .append, args := #[s, x], argTypes := #[39, 39] }) (B : Nat) (v : Value) (L : List Lab) (hs : a.eval s = v) (hown : OwnL w B v L)
    (n0 : Nat) (u : Value) (M : List Lab) (hx : a.eval x = u) (hu : AtL n0 w u M) (hB : B ≤ w.heap.size) (hl : L.length ≤ 1000000) (hl2 : M.length ≤ 500000)
    (h : ∀ v' w', OwnL w' B v' (L ++ M) → w.grownBy w' v.ownBlock → (v'.ownBlock = v.ownBlock ∨ v'.ownBlock = some w.heap.size) → wpList Tryz.prog ops Q rest (a.put o.dst v') w') : wpList Tryz.prog ops Q (o :: rest) a w := by
  obtain ⟨i0, hi, hz0, hz1, hz2⟩ := rowinfo_lab
  obtain ⟨ao, cap, hu1, hu2⟩ := id hu
  have key : ∀ (ad : Addr), (∀ j u, (listL M)[j]? = some u → w.cell? (ad.add j) = some u) → u = .slice (some ad) M.length cap → wpList Tryz.prog ops Q (o :: rest) a w := fun ad hc hv => by
    refine wpList_append_own_at (P := Tryz.prog) w hgd s x 39 ho B 27 i0 (.agg (cellsL zeroLab)) 32 32 Tryz.underlying39 hi hz0 hz1 hz2 (by simp [Value.cells]) (by decide) v L.length (listL L) hs hown ad M.length cap (listL M) (hx.trans hv) (listL_length M) hc (listL_one M) (by unfold maxLen; omega) (by omega) hB ?_
    intro v' w' h1 h2 _ h4
    refine h v' w' ?_ h2 h4
    show w'.ownsRow B 27 32 v' (L ++ M).length (listL (L ++ M))
    rw [List.length_append, listL_append]
    exact h1
  by_cases h0 : M = []
  · subst h0
    cases ao with
    | some ad => exact key ad (fun j u hj => by simp [listL] at hj) hu1
    | none =>
      have hrun := run_append_none_len (w := w) Tryz.underlying39 hi hown cap o.type
      refine wpList_plain hgd fun K hK => ?_
      unfold Oper.wp execOp
      simp only [ho, resolve, invoke, builtin, Sem.run_bind, Sem.run_pure, Result.andThen_ok, List.map_toArray, List.map_cons, List.map_nil, hs, hx.trans hu1, List.length_nil, hrun]
      exact hK _ _ (h v w (by rw [List.append_nil]; exact hown) ⟨rfl, rfl, rfl, Nat.le_refl _, fun _ _ _ => rfl⟩ (.inl rfl))
  · obtain ⟨g, o', cur, h3, _⟩ := hu2 0 (List.length_pos_iff.2 h0)
    subst h3
    subst hu1
    exact key _ (AtL.news hu) rfl
theorem ownJ_empty (w : World) : OwnJ (w.alloc (.cells #[] 53)) w.heap.size (.slice (some ⟨w.heap.size, 0, none⟩) 0 0) [] :=
  ⟨rfl, .inr ⟨w.heap.size, 0, #[], rfl, Nat.le_refl _, heap_alloc_new w _, Nat.le_refl _, Nat.zero_le _, rfl, rfl⟩⟩
theorem build_noneJ (w : World) : (Instr.buildSlice 23 0 #[]).run Tryz.prog w = .ok (.slice (some ⟨w.heap.size, 0, none⟩) 0 0) (w.alloc (.cells #[] 53)) := by
  have hu : (underlying 23).run Tryz.prog w = .ok (.slice 53) w := run_underlying Tryz.underlying23 w
  have hs : (sizeOf 53).run Tryz.prog w = .ok 66 w := by kernel_rfl
  unfold Instr.buildSlice
  simp [Sem.run_bind, hu, hs, Instr.fill, newRow]
  exact congrArg (fun c => w.alloc (.cells c 53)) (Array.eq_empty_of_size_eq_zero (by rw [Array.size_map, Array.size_range]))
@[go_sem] theorem run_build_noneJ (w : World) : (buildJ 23 0 #[]).run Tryz.prog w = .ok (.slice (some ⟨w.heap.size, 0, none⟩) 0 0) (w.alloc (.cells #[] 53)) := build_noneJ w
theorem listJ_append (L M : List Itm) : listJ (L ++ M) = listJ L ++ listJ M := by simp [listJ]
theorem listJ_one (L : List Itm) : ∀ u ∈ listJ L, u.oneCell' = true := by
  intro u hu
  obtain ⟨a, _, h⟩ := List.mem_flatMap.1 hu
  exact one_of_rowJ a u h
theorem listJ_get (L : List Itm) (j : Nat) (u : Value) (h : (listJ L)[j]? = some u) : j / 66 < L.length ∧ (cellsI (L.getD (j / 66) zeroItm))[j % 66]? = some u := by
  have hj : j < (listJ L).length := (List.getElem?_eq_some_iff.1 h).1
  rw [listJ_length] at hj
  have hi : j / 66 < L.length := (Nat.div_lt_iff_lt_mul (by decide)).2 hj
  refine ⟨hi, ?_⟩
  have e := listJ_at L (j / 66) hi
  have hm : j % 66 < 66 := Nat.mod_lt _ (by decide)
  have q : (((listJ L).drop (j / 66 * 66)).take 66)[j % 66]? = some u := by
    rw [List.getElem?_take, if_pos hm, List.getElem?_drop, show j / 66 * 66 + j % 66 = j by omega]
    exact h
  rw [e, Array.getElem?_toList] at q
  exact q
theorem AtJ.news {n0 : Nat} {w : World} {g o cap n : Nat} {L : List Itm} (h : AtJ n0 w (.slice (some ⟨g, o, none⟩) n cap) L) : ∀ j u, (listJ L)[j]? = some u → w.cell? ((⟨g, o, none⟩ : Addr).add j) = some u := by
  intro j u hu
  obtain ⟨hi, hx⟩ := listJ_get L j u hu
  obtain ⟨ao, cap', e, h2⟩ := h
  obtain ⟨g', o', cur, h3, _, h4, h5, h6⟩ := h2 _ hi
  injection e with e1 e2 e3
  rw [← e1] at h3
  cases h3
  rw [show (⟨g, o, none⟩ : Addr).add j = ⟨g, o + j, none⟩ by simp [Addr.add], cell_of_rowAt h4]
  rw [← h6] at hx
  have hm : j % 66 < 66 := Nat.mod_lt _ (by decide)
  rw [Array.getElem?_extract] at hx
  split at hx
  · rw [← hx]
    congr 1
    omega
  · cases hx
/-- A whole list is put behind a list of the call's own. -/
theorem wpList_putsJ {ops : Array Oper} {rest : List Oper} {o : Oper} {a : Act} {w : World} {Q : Exit → Act → World → Prop} (hgd : o.guard = none) (s x : Operand)
    (ho : o.op = .call { callee := .builtin .append, args := #[s, x], argTypes := #[23, 23] }) (B : Nat) (v : Value) (L : List Itm) (hs : a.eval s = v) (hown : OwnJ w B v L)
    (n0 : Nat) (u : Value) (M : List Itm) (hx : a.eval x = u) (hu : AtJ n0 w u M) (hB : B ≤ w.heap.size) (hl : L.length ≤ 1000000) (hl2 : M.length ≤ 500000)
    (h : ∀ v' w', OwnJ w' B v' (L ++ M) → w.grownBy w' v.ownBlock → (v'.ownBlock = v.ownBlock ∨ v'.ownBlock = some w.heap.size) → wpList Tryz.prog ops Q rest (a.put o.dst v') w') : wpList Tryz.prog ops Q (o :: rest) a w := by
  obtain ⟨i0, hi, hz0, hz1, hz2⟩ := rowinfo_ritem
  obtain ⟨ao, cap, hu1, hu2⟩ := id hu
  have key : ∀ (ad : Addr), (∀ j u, (listJ M)[j]? = some u → w.cell? (ad.add j) = some u) → u = .slice (some ad) M.length cap → wpList Tryz.prog ops Q (o :: rest) a w := fun ad hc hv => by
    refine wpList_append_own_at (P := Tryz.prog) w hgd s x 23 ho B 53 i0 (.agg (cellsI zeroItm)) 66 80 Tryz.underlying23 hi hz0 hz1 hz2 (by simp [Value.cells]) (by decide) v L.length (listJ L) hs hown ad M.length cap (listJ M) (hx.trans hv) (listJ_length M) hc (listJ_one M) (by unfold maxLen; omega) (by omega) hB ?_
    intro v' w' h1 h2 _ h4
    refine h v' w' ?_ h2 h4
    show w'.ownsRow B 53 66 v' (L ++ M).length (listJ (L ++ M))
    rw [List.length_append, listJ_append]
    exact h1
  by_cases h0 : M = []
  · subst h0
    cases ao with
    | some ad => exact key ad (fun j u hj => by simp [listJ] at hj) hu1
    | none =>
      have hrun := run_append_none_len (w := w) Tryz.underlying23 hi hown cap o.type
      refine wpList_plain hgd fun K hK => ?_
      unfold Oper.wp execOp
      simp only [ho, resolve, invoke, builtin, Sem.run_bind, Sem.run_pure, Result.andThen_ok, List.map_toArray, List.map_cons, List.map_nil, hs, hx.trans hu1, List.length_nil, hrun]
      exact hK _ _ (h v w (by rw [List.append_nil]; exact hown) ⟨rfl, rfl, rfl, Nat.le_refl _, fun _ _ _ => rfl⟩ (.inl rfl))
  · obtain ⟨g, o', cur, h3, _⟩ := hu2 0 (List.length_pos_iff.2 h0)
    subst h3
    subst hu1
    exact key _ (AtJ.news hu) rfl
theorem ownG_empty (w : World) : OwnG (w.alloc (.cells #[] 55)) w.heap.size (.slice (some ⟨w.heap.size, 0, none⟩) 0 0) [] :=
  ⟨rfl, .inr ⟨w.heap.size, 0, #[], rfl, Nat.le_refl _, heap_alloc_new w _, Nat.le_refl _, Nat.zero_le _, rfl, rfl⟩⟩
theorem build_noneG (w : World) : (Instr.buildSlice 43 0 #[]).run Tryz.prog w = .ok (.slice (some ⟨w.heap.size, 0, none⟩) 0 0) (w.alloc (.cells #[] 55)) := by
  have hu : (underlying 43).run Tryz.prog w = .ok (.slice 55) w := run_underlying Tryz.underlying43 w
  have hs : (sizeOf 55).run Tryz.prog w = .ok 65 w := by kernel_rfl
  unfold Instr.buildSlice
  simp [Sem.run_bind, hu, hs, Instr.fill, newRow]
  exact congrArg (fun c => w.alloc (.cells c 55)) (Array.eq_empty_of_size_eq_zero (by rw [Array.size_map, Array.size_range]))
@[go_sem] theorem run_build_noneG (w : World) : (buildG 43 0 #[]).run Tryz.prog w = .ok (.slice (some ⟨w.heap.size, 0, none⟩) 0 0) (w.alloc (.cells #[] 55)) := build_noneG w
theorem listG_append (L M : List Lf) : listG (L ++ M) = listG L ++ listG M := by simp [listG]
theorem listG_one (L : List Lf) : ∀ u ∈ listG L, u.oneCell' = true := by
  intro u hu
  obtain ⟨a, _, h⟩ := List.mem_flatMap.1 hu
  exact one_of_rowG a u h
theorem listG_get (L : List Lf) (j : Nat) (u : Value) (h : (listG L)[j]? = some u) : j / 65 < L.length ∧ (cellsF (L.getD (j / 65) zeroLf))[j % 65]? = some u := by
  have hj : j < (listG L).length := (List.getElem?_eq_some_iff.1 h).1
  rw [listG_length] at hj
  have hi : j / 65 < L.length := (Nat.div_lt_iff_lt_mul (by decide)).2 hj
  refine ⟨hi, ?_⟩
  have e := listG_at L (j / 65) hi
  have hm : j % 65 < 65 := Nat.mod_lt _ (by decide)
  have q : (((listG L).drop (j / 65 * 65)).take 65)[j % 65]? = some u := by
    rw [List.getElem?_take, if_pos hm, List.getElem?_drop, show j / 65 * 65 + j % 65 = j by omega]
    exact h
  rw [e, Array.getElem?_toList] at q
  exact q
theorem AtG.news {n0 : Nat} {w : World} {g o cap n : Nat} {L : List Lf} (h : AtG n0 w (.slice (some ⟨g, o, none⟩) n cap) L) : ∀ j u, (listG L)[j]? = some u → w.cell? ((⟨g, o, none⟩ : Addr).add j) = some u := by
  intro j u hu
  obtain ⟨hi, hx⟩ := listG_get L j u hu
  obtain ⟨ao, cap', e, h2⟩ := h
  obtain ⟨g', o', cur, h3, _, h4, h5, h6⟩ := h2 _ hi
  injection e with e1 e2 e3
  rw [← e1] at h3
  cases h3
  rw [show (⟨g, o, none⟩ : Addr).add j = ⟨g, o + j, none⟩ by simp [Addr.add], cell_of_rowAt h4]
  rw [← h6] at hx
  have hm : j % 65 < 65 := Nat.mod_lt _ (by decide)
  rw [Array.getElem?_extract] at hx
  split at hx
  · rw [← hx]
    congr 1
    omega
  · cases hx
/-- A whole list is put behind a list of the call's own. -/
theorem wpList_putsG {ops : Array Oper} {rest : List Oper} {o : Oper} {a : Act} {w : World} {Q : Exit → Act → World → Prop} (hgd : o.guard = none) (s x : Operand)
    (ho : o.op = .call { callee := .builtin .append, args := #[s, x], argTypes := #[43, 43] }) (B : Nat) (v : Value) (L : List Lf) (hs : a.eval s = v) (hown : OwnG w B v L)
    (n0 : Nat) (u : Value) (M : List Lf) (hx : a.eval x = u) (hu : AtG n0 w u M) (hB : B ≤ w.heap.size) (hl : L.length ≤ 1000000) (hl2 : M.length ≤ 500000)
    (h : ∀ v' w', OwnG w' B v' (L ++ M) → w.grownBy w' v.ownBlock → (v'.ownBlock = v.ownBlock ∨ v'.ownBlock = some w.heap.size) → wpList Tryz.prog ops Q rest (a.put o.dst v') w') : wpList Tryz.prog ops Q (o :: rest) a w := by
  obtain ⟨i0, hi, hz0, hz1, hz2⟩ := rowinfo_rleaf
  obtain ⟨ao, cap, hu1, hu2⟩ := id hu
  have key : ∀ (ad : Addr), (∀ j u, (listG M)[j]? = some u → w.cell? (ad.add j) = some u) → u = .slice (some ad) M.length cap → wpList Tryz.prog ops Q (o :: rest) a w := fun ad hc hv => by
    refine wpList_append_own_at (P := Tryz.prog) w hgd s x 43 ho B 55 i0 (.agg (cellsF zeroLf)) 65 72 Tryz.underlying43 hi hz0 hz1 hz2 (by simp [Value.cells]) (by decide) v L.length (listG L) hs hown ad M.length cap (listG M) (hx.trans hv) (listG_length M) hc (listG_one M) (by unfold maxLen; omega) (by omega) hB ?_
    intro v' w' h1 h2 _ h4
    refine h v' w' ?_ h2 h4
    show w'.ownsRow B 55 65 v' (L ++ M).length (listG (L ++ M))
    rw [List.length_append, listG_append]
    exact h1
  by_cases h0 : M = []
  · subst h0
    cases ao with
    | some ad => exact key ad (fun j u hj => by simp [listG] at hj) hu1
    | none =>
      have hrun := run_append_none_len (w := w) Tryz.underlying43 hi hown cap o.type
      refine wpList_plain hgd fun K hK => ?_
      unfold Oper.wp execOp
      simp only [ho, resolve, invoke, builtin, Sem.run_bind, Sem.run_pure, Result.andThen_ok, List.map_toArray, List.map_cons, List.map_nil, hs, hx.trans hu1, List.length_nil, hrun]
      exact hK _ _ (h v w (by rw [List.append_nil]; exact hown) ⟨rfl, rfl, rfl, Nat.le_refl _, fun _ _ _ => rfl⟩ (.inl rfl))
  · obtain ⟨g, o', cur, h3, _⟩ := hu2 0 (List.length_pos_iff.2 h0)
    subst h3
    subst hu1
    exact key _ (AtG.news hu) rfl
end Go.Proofs.YtmabigcolabbmaaGreatDoor
namespace Go.Proofs.YtmabigcolabbmaaGreatDoor
open Go Go.RowKit

theorem part_agg {P : Program} {t : TypeId} {n : Nat} (cs : Array Value) (off : Nat) (w : World) (h1 : (isAgg t).run P w = .ok true w) (h2 : (sizeOf t).run P w = .ok n w) : (part t cs off).run P w = .ok (.agg (cs.extract off (off + n))) w := by
  simp only [part, Sem.run_bind, h1, h2, Result.andThen_ok, if_true, Sem.run_pure]
theorem part_one {P : Program} {t : TypeId} {v : Value} (cs : Array Value) (off : Nat) (w : World) (h1 : (isAgg t).run P w = .ok false w) (hc : cs[off]? = some v) : (part t cs off).run P w = .ok v w := by
  simp only [part, Sem.run_bind, h1, Result.andThen_ok, Bool.false_eq_true, if_false, hc, Sem.run_pure]
theorem agg_lab (w : World) : (isAgg 27).run Tryz.prog w = .ok true w := by kernel_rfl
theorem agg_pre (w : World) : (isAgg 66).run Tryz.prog w = .ok true w := by kernel_rfl
theorem agg_item (w : World) : (isAgg 68).run Tryz.prog w = .ok true w := by kernel_rfl
theorem agg_int (w : World) : (isAgg 3).run Tryz.prog w = .ok false w := by kernel_rfl
theorem siz_lab (w : World) : (sizeOf 27).run Tryz.prog w = .ok 32 w := by kernel_rfl
theorem siz_pre (w : World) : (sizeOf 66).run Tryz.prog w = .ok 33 w := by kernel_rfl
theorem siz_item (w : World) : (sizeOf 68).run Tryz.prog w = .ok 66 w := by kernel_rfl
theorem p_I_pre (x : Itm) (w : World) : (part 66 (cellsI x) 0).run Tryz.prog w = .ok (.agg (cellsP x.n x.b)) w := by
  rw [part_agg _ _ w (agg_pre w) (siz_pre w), Nat.zero_add, extract_I0]
theorem p_I_sum (x : Itm) (w : World) : (part 27 (cellsI x) 33).run Tryz.prog w = .ok (.agg (cellsL x.s)) w := by
  rw [part_agg _ _ w (agg_lab w) (siz_lab w), extract_I2]
theorem p_I_at (x : Itm) (w : World) : (part 3 (cellsI x) 65).run Tryz.prog w = .ok (.int .i64 x.e) w := part_one _ _ w (agg_int w) (get_I65 x)
theorem p_I_len (x : Itm) (w : World) : (part 3 (cellsI x) 0).run Tryz.prog w = .ok (.int .i64 x.n) w := part_one _ _ w (agg_int w) (get_I0 x)
theorem p_I_bits (x : Itm) (w : World) : (part 27 (cellsI x) 1).run Tryz.prog w = .ok (.agg (cellsL x.b)) w := by
  rw [part_agg _ _ w (agg_lab w) (siz_lab w), extract_I1]
theorem p_F_lab (x : Lf) (w : World) : (part 27 (cellsF x) 0).run Tryz.prog w = .ok (.agg (cellsL x.a)) w := by
  rw [part_agg _ _ w (agg_lab w) (siz_lab w), Nat.zero_add, extract_F0]
theorem p_F_val (x : Lf) (w : World) : (part 27 (cellsF x) 32).run Tryz.prog w = .ok (.agg (cellsL x.v)) w := by
  rw [part_agg _ _ w (agg_lab w) (siz_lab w), extract_F1]
theorem p_F_at (x : Lf) (w : World) : (part 3 (cellsF x) 64).run Tryz.prog w = .ok (.int .i64 x.e) w := part_one _ _ w (agg_int w) (get_F64 x)
theorem p_N_fst (x y : Itm) (w : World) : (part 68 (cellsN x y) 0).run Tryz.prog w = .ok (.agg (cellsI x)) w := by
  rw [part_agg _ _ w (agg_item w) (siz_item w), Nat.zero_add, extract_N0]
theorem p_N_snd (x y : Itm) (w : World) : (part 68 (cellsN x y) 66).run Tryz.prog w = .ok (.agg (cellsI y)) w := by
  rw [part_agg _ _ w (agg_item w) (siz_item w), extract_N1]

def fieldOf (ty : TypeId) (v : Value) (k : Nat) : Sem Value := Instr.field ty v k
@[go_sem ↓] theorem field_item (v : Value) (k : Nat) : Instr.field 68 v k = fieldOf 68 v k := rfl
@[go_sem ↓] theorem field_pre (v : Value) (k : Nat) : Instr.field 66 v k = fieldOf 66 v k := rfl
theorem run_field {P : Program} {t : TypeId} {fs : Array Field} {f : Field} {k : Nat} (cs : Array Value) (w : World) (hu : P.underlying t = some (.struct fs)) (hf : fs[k]? = some f) : (fieldOf t (.agg cs) k).run P w = (part f.type cs f.offset).run P w := by
  simp only [fieldOf, Instr.field, Sem.run_bind, run_underlying hu, Result.andThen_ok, hf, asAgg, Sem.run_pure]
set_option maxRecDepth 100000 in
@[go_sem] theorem field_item0 (x : Itm) (w : World) : (fieldOf 68 (.agg (cellsI x)) 0).run Tryz.prog w = .ok (.agg (cellsP x.n x.b)) w :=
  (run_field _ w Tryz.underlying68 rfl).trans (p_I_pre x w)
set_option maxRecDepth 100000 in
@[go_sem] theorem field_item2 (x : Itm) (w : World) : (fieldOf 68 (.agg (cellsI x)) 2).run Tryz.prog w = .ok (.int .i64 x.e) w :=
  (run_field _ w Tryz.underlying68 rfl).trans (p_I_at x w)
set_option maxRecDepth 100000 in
@[go_sem] theorem field_pre0 (n : Int) (a : Lab) (w : World) : (fieldOf 66 (.agg (cellsP n a)) 0).run Tryz.prog w = .ok (.int .i64 n) w :=
  (run_field _ w Tryz.underlying66 rfl).trans (part_one _ _ w (agg_int w) (get_cellsP0 n a))

theorem itm_eq (x y : Itm) : x = y ↔ (x.n = y.n ∧ x.b = y.b) ∧ x.s = y.s ∧ x.e = y.e := by
  obtain ⟨n, b, s, e⟩ := x
  obtain ⟨m, c, t, f⟩ := y
  simp only [Itm.mk.injEq]
  exact ⟨fun ⟨h1, h2, h3, h4⟩ => ⟨⟨h1, h2⟩, h3, h4⟩, fun ⟨⟨h1, h2⟩, h3, h4⟩ => ⟨h1, h2, h3, h4⟩⟩
theorem equalIn_item (w : World) (d : Nat) (x y : Itm) : (Op.equalIn (d + 4) 68 (.agg (cellsI x)) (.agg (cellsI y))).run Tryz.prog w = .ok (decide (x = y)) w := by
  rw [run_equalIn_struct w (d + 3) 68 _ _ (by kernel_rfl) (by kernel_rfl)]
  rw [show (Program.fieldsOf Tryz.prog 68) = #[{ name := "Prefix", type := 66, offset := 0, embedded := false, tag := "", pkgPath := "", byteOffset := 0 }, { name := "Sum", type := 27, offset := 33, embedded := false, tag := "", pkgPath := "", byteOffset := 40 }, { name := "At", type := 3, offset := 65, embedded := false, tag := "", pkgPath := "", byteOffset := 72 }] from by kernel_rfl]
  simp only [Op.eqFields, ne_eq, String.reduceEq, not_false_eq_true, if_true, Sem.run_bind, p_I_pre, Result.andThen_ok, equalIn_pre w d]
  have e := itm_eq x y
  by_cases h1 : x.n = y.n ∧ x.b = y.b
  · by_cases h2 : x.s = y.s
    · by_cases h3 : x.e = y.e
      · have h : x = y := e.2 ⟨h1, h2, h3⟩
        subst h
        simp [equalIn_lab w (d + 1), run_equalIn_int w (d + 2) 3 .i64 .i64 _ _ Tryz.underlying3, p_I_sum, p_I_at]
      · have h : ¬ x = y := fun k => h3 (e.1 k).2.2
        simp [h1, h2, h3, h, equalIn_lab w (d + 1), run_equalIn_int w (d + 2) 3 .i64 .i64 _ _ Tryz.underlying3, p_I_sum, p_I_at]
    · have h : ¬ x = y := fun k => h2 (e.1 k).2.1
      simp [h1, h2, h, equalIn_lab w (d + 1), p_I_sum]
  · have h : ¬ x = y := fun k => h1 (e.1 k).1
    simp [h1, h]
@[go_sem high] theorem eql_item (w : World) (x y : Itm) : (binOp .eql 68 (.agg (cellsI x)) (.agg (cellsI y))).run Tryz.prog w = .ok (.bool (decide (x = y))) w := by
  rw [run_eql_struct, equalIn_item w 9996]
  rfl
theorem equalIn_ritem (w : World) (d : Nat) (x y : Itm) : (Op.equalIn (d + 4) 53 (.agg (cellsI x)) (.agg (cellsI y))).run Tryz.prog w = .ok (decide (x = y)) w := by
  rw [run_equalIn_struct w (d + 3) 53 _ _ (by kernel_rfl) (by kernel_rfl)]
  rw [show (Program.fieldsOf Tryz.prog 53) = #[{ name := "Len", type := 3, offset := 0, embedded := false, tag := "", pkgPath := "", byteOffset := 0 }, { name := "Bits", type := 27, offset := 1, embedded := false, tag := "", pkgPath := "", byteOffset := 8 }, { name := "Sum", type := 27, offset := 33, embedded := false, tag := "", pkgPath := "", byteOffset := 40 }, { name := "At", type := 3, offset := 65, embedded := false, tag := "", pkgPath := "", byteOffset := 72 }] from by kernel_rfl]
  have ei := fun a b => run_equalIn_int (P := Tryz.prog) w (d + 2) 3 .i64 .i64 a b Tryz.underlying3
  have el := equalIn_lab w (d + 1)
  simp only [Op.eqFields, ne_eq, String.reduceEq, not_false_eq_true, if_true, Sem.run_bind, p_I_len, Result.andThen_ok, ei]
  have e := itm_eq x y
  by_cases h0 : x.n = y.n
  · by_cases h1 : x.b = y.b
    · by_cases h2 : x.s = y.s
      · by_cases h3 : x.e = y.e
        · have h : x = y := e.2 ⟨⟨h0, h1⟩, h2, h3⟩
          subst h
          simp [el, ei, p_I_bits, p_I_sum, p_I_at]
        · have h : ¬ x = y := fun k => h3 (e.1 k).2.2
          simp [h0, h1, h2, h3, h, el, ei, p_I_bits, p_I_sum, p_I_at]
      · have h : ¬ x = y := fun k => h2 (e.1 k).2.1
        simp [h0, h1, h2, h, el, p_I_bits, p_I_sum]
    · have h : ¬ x = y := fun k => h1 (e.1 k).1.2
      simp [h0, h1, h, el, p_I_bits]
  · have h : ¬ x = y := fun k => h0 (e.1 k).1.1
    have h0' : (x.n == y.n) = false := by rw [beq_eq_false_iff_ne]; exact h0
    simp [h0', h]
@[go_sem high] theorem eql_ritem (w : World) (x y : Itm) : (binOp .eql 53 (.agg (cellsI x)) (.agg (cellsI y))).run Tryz.prog w = .ok (.bool (decide (x = y))) w := by
  rw [run_eql_struct, equalIn_ritem w 9996]
  rfl
theorem lf_eq (x y : Lf) : x = y ↔ x.a = y.a ∧ x.v = y.v ∧ x.e = y.e := by
  obtain ⟨a, v, e⟩ := x
  obtain ⟨b, u, f⟩ := y
  simp only [Lf.mk.injEq]
theorem equalIn_leaf (w : World) (d : Nat) (x y : Lf) : (Op.equalIn (d + 3) 51 (.agg (cellsF x)) (.agg (cellsF y))).run Tryz.prog w = .ok (decide (x = y)) w := by
  rw [run_equalIn_struct w (d + 2) 51 _ _ (by kernel_rfl) (by kernel_rfl)]
  rw [show (Program.fieldsOf Tryz.prog 51) = #[{ name := "Label", type := 27, offset := 0, embedded := false, tag := "", pkgPath := "", byteOffset := 0 }, { name := "Value", type := 27, offset := 32, embedded := false, tag := "", pkgPath := "", byteOffset := 32 }, { name := "At", type := 3, offset := 64, embedded := false, tag := "", pkgPath := "", byteOffset := 64 }] from by kernel_rfl]
  have ei := fun a b => run_equalIn_int (P := Tryz.prog) w (d + 1) 3 .i64 .i64 a b Tryz.underlying3
  have el := equalIn_lab w d
  simp only [Op.eqFields, ne_eq, String.reduceEq, not_false_eq_true, if_true, Sem.run_bind, p_F_lab, Result.andThen_ok, el]
  have e := lf_eq x y
  by_cases h1 : x.a = y.a
  · by_cases h2 : x.v = y.v
    · by_cases h3 : x.e = y.e
      · have h : x = y := e.2 ⟨h1, h2, h3⟩
        subst h
        simp [el, ei, p_F_val, p_F_at]
      · have h : ¬ x = y := fun k => h3 (e.1 k).2.2
        simp [h1, h2, h3, h, el, ei, p_F_val, p_F_at]
    · have h : ¬ x = y := fun k => h2 (e.1 k).2.1
      simp [h1, h2, h, el, p_F_val]
  · have h : ¬ x = y := fun k => h1 (e.1 k).1
    simp [h1, h]
@[go_sem high] theorem eql_leaf (w : World) (x y : Lf) : (binOp .eql 51 (.agg (cellsF x)) (.agg (cellsF y))).run Tryz.prog w = .ok (.bool (decide (x = y))) w := by
  rw [run_eql_struct, equalIn_leaf w 9997]
  rfl
@[go_sem high] theorem neq_leaf (w : World) (x y : Lf) : (binOp .neq 51 (.agg (cellsF x)) (.agg (cellsF y))).run Tryz.prog w = .ok (.bool (!decide (x = y))) w := by
  rw [run_neq_struct, equalIn_leaf w 9997]
  rfl
theorem equalIn_rleaf (w : World) (d : Nat) (x y : Lf) : (Op.equalIn (d + 3) 55 (.agg (cellsF x)) (.agg (cellsF y))).run Tryz.prog w = .ok (decide (x = y)) w := by
  rw [run_equalIn_struct w (d + 2) 55 _ _ (by kernel_rfl) (by kernel_rfl)]
  rw [show (Program.fieldsOf Tryz.prog 55) = #[{ name := "Label", type := 27, offset := 0, embedded := false, tag := "", pkgPath := "", byteOffset := 0 }, { name := "Value", type := 27, offset := 32, embedded := false, tag := "", pkgPath := "", byteOffset := 32 }, { name := "At", type := 3, offset := 64, embedded := false, tag := "", pkgPath := "", byteOffset := 64 }] from by kernel_rfl]
  have ei := fun a b => run_equalIn_int (P := Tryz.prog) w (d + 1) 3 .i64 .i64 a b Tryz.underlying3
  have el := equalIn_lab w d
  simp only [Op.eqFields, ne_eq, String.reduceEq, not_false_eq_true, if_true, Sem.run_bind, p_F_lab, Result.andThen_ok, el]
  have e := lf_eq x y
  by_cases h1 : x.a = y.a
  · by_cases h2 : x.v = y.v
    · by_cases h3 : x.e = y.e
      · have h : x = y := e.2 ⟨h1, h2, h3⟩
        subst h
        simp [el, ei, p_F_val, p_F_at]
      · have h : ¬ x = y := fun k => h3 (e.1 k).2.2
        simp [h1, h2, h3, h, el, ei, p_F_val, p_F_at]
    · have h : ¬ x = y := fun k => h2 (e.1 k).2.1
      simp [h1, h2, h, el, p_F_val]
  · have h : ¬ x = y := fun k => h1 (e.1 k).1
    simp [h1, h]
@[go_sem high] theorem eql_rleaf (w : World) (x y : Lf) : (binOp .eql 55 (.agg (cellsF x)) (.agg (cellsF y))).run Tryz.prog w = .ok (.bool (decide (x = y))) w := by
  rw [run_eql_struct, equalIn_rleaf w 9997]
  rfl
@[go_sem high] theorem neq_rleaf (w : World) (x y : Lf) : (binOp .neq 55 (.agg (cellsF x)) (.agg (cellsF y))).run Tryz.prog w = .ok (.bool (!decide (x = y))) w := by
  rw [run_neq_struct, equalIn_rleaf w 9997]
  rfl
theorem equalIn_inner (w : World) (d : Nat) (x y z u : Itm) : (Op.equalIn (d + 5) 77 (.agg (cellsN x y)) (.agg (cellsN z u))).run Tryz.prog w = .ok (decide (x = z ∧ y = u)) w := by
  rw [run_equalIn_struct w (d + 4) 77 _ _ (by kernel_rfl) (by kernel_rfl)]
  rw [show (Program.fieldsOf Tryz.prog 77) = #[{ name := "Left", type := 68, offset := 0, embedded := false, tag := "", pkgPath := "", byteOffset := 0 }, { name := "Right", type := 68, offset := 66, embedded := false, tag := "", pkgPath := "", byteOffset := 80 }] from by kernel_rfl]
  have ei := equalIn_item w d
  simp only [Op.eqFields, ne_eq, String.reduceEq, not_false_eq_true, if_true, Sem.run_bind, p_N_fst, Result.andThen_ok, ei]
  by_cases h1 : x = z
  · by_cases h2 : y = u
    · simp [h1, h2, ei, p_N_snd]
    · simp [h1, h2, ei, p_N_snd]
  · simp [h1]
@[go_sem high] theorem eql_inner (w : World) (x y z u : Itm) : (binOp .eql 77 (.agg (cellsN x y)) (.agg (cellsN z u))).run Tryz.prog w = .ok (.bool (decide (x = z) && decide (y = u))) w := by
  rw [run_eql_struct, equalIn_inner w 9995, Bool.decide_and]
  rfl
end Go.Proofs.YtmabigcolabbmaaGreatDoor
namespace Go.Proofs.YtmabigcolabbmaaGreatDoor
open Go Go.RowKit

set_option maxRecDepth 100000 in
theorem Told_any (x : Itm) (w : World) : Calls Tryz.prog 29 #[.agg (cellsI x)] w fun e w' => e = .returned (.agg (cellsI x)) ∧ Below w.heap.size w w' := by
  have b0 : Below w.heap.size w ((w.alloc (.cells (cellsI x) 68)).alloc (.cells (cellsI zeroItm) 53)) := ((Below.refl _ _).alloc (Nat.le_refl _) _).alloc (by simp only [World.size_alloc]; omega) _
  have r0 : rowAt ((w.alloc (.cells (cellsI x) 68)).alloc (.cells (cellsI zeroItm) 53)) w.heap.size = some (cellsI x) := (rowAt_alloc_past _ _ _ (by simp only [World.size_alloc]; omega)).trans (rowAt_alloc_at _ _ _ _ rfl)
  have r1 : rowAt ((w.alloc (.cells (cellsI x) 68)).alloc (.cells (cellsI zeroItm) 53)) (w.heap.size + 1) = some (cellsI zeroItm) := rowAt_alloc_at _ _ _ _ (by simp only [World.size_alloc])
  have c0 := (cell_of_rowAt r0 0).trans (get_I0 x)
  have c1 := (cell_of_rowAt r0 65).trans (get_I65 x)
  go_enter Tryz.func29, Tryz.ntmps29
  go_wp2_with fail
  exact row_ret_ritem rfl rfl rfl (rowAt_alloc_at _ _ _ _ (by simp only [World.size_alloc])) ⟨rfl, ((Below.refl _ _).alloc (Nat.le_refl _) _).alloc (by simp only [World.size_alloc]; omega) _⟩
end Go.Proofs.YtmabigcolabbmaaGreatDoor
namespace Go.Proofs.YtmabigcolabbmaaGreatDoor
open Go Go.RowKit

theorem AtF.take {n0 : Nat} {w : World} {ao : Option Addr} {cap c : Nat} {L : List Lf} (h : AtF n0 w (.slice ao L.length cap) L) (hc : c ≤ L.length) : AtF n0 w (.slice ao c cap) (L.take c) := by
  obtain ⟨ao', cap', e, h2⟩ := h
  injection e with e1 e2 e3
  subst e1
  have hl : (L.take c).length = c := by rw [List.length_take]; omega
  refine ⟨ao, cap, by rw [hl], fun i hi => ?_⟩
  rw [hl] at hi
  obtain ⟨g, o, cur, x1, x2, x3, x4, x5⟩ := h2 i (by omega)
  refine ⟨g, o, cur, x1, x2, x3, x4, ?_⟩
  rw [x5, List.getD_eq_getElem?_getD, List.getD_eq_getElem?_getD, List.getElem?_take, if_pos hi]
theorem AtL.take {n0 : Nat} {w : World} {ao : Option Addr} {cap c : Nat} {L : List Lab} (h : AtL n0 w (.slice ao L.length cap) L) (hc : c ≤ L.length) : AtL n0 w (.slice ao c cap) (L.take c) := by
  obtain ⟨ao', cap', e, h2⟩ := h
  injection e with e1 e2 e3
  subst e1
  have hl : (L.take c).length = c := by rw [List.length_take]; omega
  refine ⟨ao, cap, by rw [hl], fun i hi => ?_⟩
  rw [hl] at hi
  obtain ⟨g, o, cur, x1, x2, x3, x4, x5⟩ := h2 i (by omega)
  refine ⟨g, o, cur, x1, x2, x3, x4, ?_⟩
  rw [x5, List.getD_eq_getElem?_getD, List.getD_eq_getElem?_getD, List.getElem?_take, if_pos hi]
theorem take_next {α : Type} (L : List α) (d : α) (i : Nat) (h : i < L.length) : L.take i ++ [L.getD i d] = L.take (i + 1) := by
  rw [List.take_succ_eq_append_getElem h, List.getD_eq_getElem?_getD, List.getElem?_eq_getElem h]
  rfl

set_option maxRecDepth 100000 in
set_option maxHeartbeats 2000000 in
theorem l16Told_any (v : Value) (L : List Itm) (hL : L.length ≤ 1000000) (n : Nat) (hn : n ≤ 1000000) (w : World) (hA : AtI w.heap.size w v L) :
    Calls Tryz.prog 9 #[v, .int .i64 n] w fun e w' => ∃ u, e = .returned u ∧ OwnJ w' w.heap.size u (L.take n) ∧ Below w.heap.size w w' := by
  obtain ⟨ao, cap, rfl, hA2⟩ := hA
  obtain ⟨B, hB⟩ : ∃ B, w.heap.size = B := ⟨_, rfl⟩
  obtain ⟨m, hm⟩ : ∃ m, L.length = m := ⟨_, rfl⟩
  have HM : Hid (L.length = m) := hm
  have HB : Hid (w.heap.size = B) := hB
  have hm1 : (m : Int) ≤ 1000000 := by omega
  have HA := Lib.hid hA2
  have b0 : Below B w (w.alloc (.cells #[] 53)) := by rw [← hB]; exact (Below.refl _ _).alloc (Nat.le_refl _) _
  have o0 : OwnJ (w.alloc (.cells #[] 53)) B (.slice (some ⟨w.heap.size, 0, none⟩) 0 0) [] := by rw [← hB]; exact ownJ_empty w
  have s0 : B ≤ (w.alloc (.cells #[] 53)).heap.size := by rw [World.size_alloc]; omega
  rw [hm, hB] at HA
  rw [hm, hB]
  rw [hB] at o0
  clear hA2 hm hL hB
  go_enter Tryz.func9, Tryz.ntmps9
  go_wp2
  rw [HB.out]
  generalize w.alloc (.cells #[] 53) = W at *
  go_loopw [5, 6] (fun s5 s6 wr => ∃ (i : Nat) (u : Value), u = s5 ∧ s6 = .int .i64 i ∧ i ≤ m ∧ i ≤ n ∧ OwnJ wr B u (L.take i) ∧ Below B w wr ∧ B ≤ wr.heap.size) (fun _ s6 _ => (m - intOf s6).toNat)
  case atStart => exact ⟨0, _, rfl, rfl, Nat.zero_le _, Nat.zero_le _, o0, b0, s0⟩
  case round =>
    clear b0 o0 s0
    obtain ⟨i, u, rfl, rfl, hi, hin, O1, B1, S1⟩ := hrel
    by_cases hlt : i < m
    · have hlt' : (i : Int) < m := by omega
      by_cases hln : i < n
      · have hln' : (i : Int) < n := by omega
        obtain ⟨g, o, cur, rfl, hg, hr0, hsz, hex⟩ := HA.out i hlt
        have hr1 : rowAt wr g = some cur := (rowAt_below B1 hg).trans hr0
        have hsz1 : o + i * 66 + 66 ≤ cur.size := by omega
        have HX : Hid (L.take i ++ [L.getD i zeroItm] = L.take (i + 1)) := take_next L zeroItm i (by rw [HM.out]; exact hlt)
        generalize L.getD i zeroItm = x at hex HX
        have HC := Lib.hid (Told_any x wr)
        clear hr0 hsz
        go_wp2_with fail
        refine HC.out.mono ?_
        rintro e w2 ⟨rfl, b2⟩
        have O3 := O1.below b2
        have hB2 : B ≤ w2.heap.size := Nat.le_trans S1 b2.size
        have B2 : Below B w w2 := B1.trans (b2.mono S1)
        have O4 : OwnJ (w2.alloc (.cells (cellsI x) 53)) B u (L.take i) := O3.below ((Below.refl _ _).alloc (Nat.le_refl _) _)
        have r4 : rowAt (w2.alloc (.cells (cellsI x) 53)) w2.heap.size = some (cellsI x) := rowAt_of_heap (World.alloc_heap_new _ _)
        have hB4 : B ≤ (w2.alloc (.cells (cellsI x) 53)).heap.size := by rw [World.size_alloc]; omega
        have B4 : Below B w (w2.alloc (.cells (cellsI x) 53)) := B2.alloc hB2 _
        have hlen : (L.take i).length ≤ 1000000 := by rw [List.length_take]; omega
        clear HC O1 B1 hr1 hex hsz1 b2 O3 B2 S1
        go_wp2_with (at_builtin; refine wpList_putJ rfl _ _ rfl B _ _ rfl O4 x w2.heap.size 1 rfl r4 hB4 hlen ?_; intro v' w' u1 u2 _; have B5 := B4.grown u2 hB4 (fun k e => (O4.block e).1); have S5 := Nat.le_trans hB4 u2.size; clear O4 r4 B4 u2 hlen hB4)
        rw [HX.out] at u1
        obtain ⟨ao', cap', rfl⟩ := u1.shape
        have U1 := Lib.hid u1
        clear u1
        go_wp2
        go_roundw
        case rel => exact ⟨i + 1, _, rfl, by go_num, hlt, hln, U1.out, B5, S5⟩
        case measure => simp [intOf]; omega
      · obtain rfl : i = n := by omega
        have hln' : ¬ (i : Int) < i := by omega
        obtain ⟨ao', cap', rfl⟩ := O1.shape
        generalize (L.take i).length = kk at O1 ⊢
        have U1 := Lib.hid O1
        have B5 := Lib.hid B1
        clear O1 B1
        go_wp2
        go_ret
        exact ⟨_, rfl, U1.out, B5.out⟩
    · obtain rfl : i = m := by omega
      have hlt' : ¬ (i : Int) < i := by omega
      have e1 : L.take i = L.take n := by rw [List.take_of_length_le (by rw [HM.out]; exact Nat.le_refl _), List.take_of_length_le (by rw [HM.out]; exact hin)]
      rw [e1] at O1
      obtain ⟨ao', cap', rfl⟩ := O1.shape
      generalize (L.take n).length = kk at O1 ⊢
      have U1 := Lib.hid O1
      have B5 := Lib.hid B1
      clear O1 B1 e1
      go_wp2
      go_ret
      exact ⟨_, rfl, U1.out, B5.out⟩
set_option maxRecDepth 100000 in
set_option maxHeartbeats 2000000 in
theorem l16Leaves_any (v : Value) (L : List Lf) (hL : L.length ≤ 1000000) (w : World) (hA : AtF w.heap.size w v L) :
    Calls Tryz.prog 21 #[v] w fun e w' => ∃ u, e = .returned u ∧ OwnG w' w.heap.size u L ∧ Below w.heap.size w w' := by
  obtain ⟨ao, cap, rfl, hA2⟩ := hA
  obtain ⟨B, hB⟩ : ∃ B, w.heap.size = B := ⟨_, rfl⟩
  obtain ⟨m, hm⟩ : ∃ m, L.length = m := ⟨_, rfl⟩
  have HM : Hid (L.length = m) := hm
  have HB : Hid (w.heap.size = B) := hB
  have hm1 : (m : Int) ≤ 1000000 := by omega
  have HA := Lib.hid hA2
  have b0 : Below B w (w.alloc (.cells #[] 55)) := by rw [← hB]; exact (Below.refl _ _).alloc (Nat.le_refl _) _
  have o0 : OwnG (w.alloc (.cells #[] 55)) B (.slice (some ⟨w.heap.size, 0, none⟩) 0 0) [] := by rw [← hB]; exact ownG_empty w
  have s0 : B ≤ (w.alloc (.cells #[] 55)).heap.size := by rw [World.size_alloc]; omega
  rw [hm, hB] at HA
  rw [hm, hB]
  rw [hB] at o0
  clear hA2 hm hL hB
  go_enter Tryz.func21, Tryz.ntmps21
  go_wp2
  rw [HB.out]
  generalize w.alloc (.cells #[] 55) = W at *
  go_loopw [3, 9] (fun s3 s9 wr => ∃ (i : Nat) (u : Value), u = s3 ∧ s9 = .int .i64 i ∧ i ≤ m ∧ OwnG wr B u (L.take i) ∧ Below B w wr ∧ B ≤ wr.heap.size) (fun _ s9 _ => (m - intOf s9).toNat)
  case atStart => exact ⟨0, _, rfl, rfl, Nat.zero_le _, o0, b0, s0⟩
  case round =>
    clear b0 o0 s0
    obtain ⟨i, u, rfl, rfl, hi, O1, B1, S1⟩ := hrel
    by_cases hlt : i < m
    · have hlt' : (i : Int) < m := by omega
      obtain ⟨g, o, cur, rfl, hg, hr0, hsz, hex⟩ := HA.out i hlt
      have hr1 : rowAt wr g = some cur := (rowAt_below B1 hg).trans hr0
      have hsz1 : o + i * 65 + 65 ≤ cur.size := by omega
      have HX : Hid (L.take i ++ [L.getD i zeroLf] = L.take (i + 1)) := take_next L zeroLf i (by rw [HM.out]; exact hlt)
      generalize L.getD i zeroLf = x at hex HX
      have b2 : Below wr.heap.size wr (wr.alloc (.cells (cellsF x) 51)) := (Below.refl _ _).alloc (Nat.le_refl _) _
      have s2 : wr.heap.size ≤ (wr.alloc (.cells (cellsF x) 51)).heap.size := b2.size
      have B2 : Below B w (wr.alloc (.cells (cellsF x) 51)) := B1.trans (b2.mono S1)
      have O4 : OwnG ((wr.alloc (.cells (cellsF x) 51)).alloc (.cells (cellsF x) 55)) B u (L.take i) := (O1.below b2).below ((Below.refl _ _).alloc (Nat.le_refl _) _)
      have r4 : rowAt ((wr.alloc (.cells (cellsF x) 51)).alloc (.cells (cellsF x) 55)) (wr.heap.size + 1) = some (cellsF x) := rowAt_alloc_at _ _ _ _ (by simp only [World.size_alloc])
      have hB4 : B ≤ ((wr.alloc (.cells (cellsF x) 51)).alloc (.cells (cellsF x) 55)).heap.size := by rw [World.size_alloc]; omega
      have B4 : Below B w ((wr.alloc (.cells (cellsF x) 51)).alloc (.cells (cellsF x) 55)) := B2.alloc (by omega) _
      have hlen : (L.take i).length ≤ 1000000 := by rw [List.length_take]; omega
      clear hr0 hsz O1 B1 S1 b2 s2 B2
      go_wp2_with (at_builtin; refine wpList_putG rfl _ _ rfl B _ _ rfl O4 x (wr.heap.size + 1) 1 rfl r4 hB4 hlen ?_; intro v' w' u1 u2 _; have B5 := B4.grown u2 hB4 (fun k e => (O4.block e).1); have S5 := Nat.le_trans hB4 u2.size; clear O4 r4 B4 u2 hlen hB4 hr1)
      rw [HX.out] at u1
      obtain ⟨ao', cap', rfl⟩ := u1.shape
      have U1 := Lib.hid u1
      clear u1
      go_wp2
      go_roundw
      case rel => exact ⟨i + 1, _, rfl, by go_num, hlt, U1.out, B5, S5⟩
      case measure => simp [intOf]; omega
    · obtain rfl : i = m := by omega
      have hlt' : ¬ (i : Int) < i := by omega
      have e1 : L.take i = L := by rw [← HM.out, List.take_length]
      rw [e1] at O1
      obtain ⟨ao', cap', rfl⟩ := O1.shape
      have U1 := Lib.hid O1
      have B5 := Lib.hid B1
      clear O1 B1 e1
      go_wp2
      go_ret
      exact ⟨_, rfl, U1.out, B5.out⟩
set_option maxRecDepth 100000 in
set_option maxHeartbeats 2000000 in
theorem l16Few_any (ao : Option Addr) (cap : Nat) (L : List Lf) (hL : L.length ≤ 500000) (hcap : L.length ≤ cap) (n : Nat)(w : World) (hA : AtF w.heap.size w (.slice ao L.length cap) L) :
    Calls Tryz.prog 18 #[.slice ao L.length cap, .int .i64 n] w fun e w' => ∃ u, e = .returned u ∧ OwnF w' w.heap.size u (L.take n) ∧ Below w.heap.size w w' := by
  have HAA := Lib.hid hA
  obtain ⟨m, hm⟩ : ∃ m, L.length = m := ⟨_, rfl⟩
  have HM : Hid (L.length = m) := hm
  have b0 : Below w.heap.size w (w.alloc (.cells #[] 51)) := (Below.refl _ _).alloc (Nat.le_refl _) _
  have o0 := ownF_empty w
  have s0 : w.heap.size ≤ (w.alloc (.cells #[] 51)).heap.size := b0.size
  by_cases h : n < m
  · have hd : (n : Int) < m := by omega
    have hc : (n : Int) ≤ cap := by omega
    obtain ⟨ao', cap', e1, hA2⟩ := hA
    obtain ⟨g, o, cur, e2, _⟩ := hA2 0 (by omega)
    injection e1 with e3 e4 e5
    rw [e2] at e3
    subst e3
    clear e4 e5
    have A1 : AtF w.heap.size (w.alloc (.cells #[] 51)) (.slice (some ⟨g, o, none⟩) n cap) (L.take n) := (HAA.out.take (by omega)).below (Nat.le_refl _) b0
    have hl2 : (L.take n).length ≤ 500000 := by rw [List.length_take]; omega
    rw [hm]
    generalize L.take n = T at A1 hl2 ⊢
    clear hm hA2 HAA hL hcap e2
    go_enter Tryz.func18, Tryz.ntmps18
    go_wp2_with (at_builtin; refine wpList_putsF rfl _ _ rfl w.heap.size _ [] rfl o0 w.heap.size _ T rfl A1 s0 (Nat.zero_le _) hl2 ?_; intro v' w' u1 u2 _; have B5 := Lib.hid (b0.grown u2 s0 (fun k e => (o0.block e).1)); clear A1 o0 b0 hl2 u2 s0; rw [List.nil_append] at u1; obtain ⟨ao', cap', rfl⟩ := u1.shape; have U1 := Lib.hid u1; clear u1)
    go_ret
    exact ⟨_, rfl, U1.out, B5.out⟩
  · have hd : ¬ (n : Int) < m := by omega
    have A1 : AtF w.heap.size (w.alloc (.cells #[] 51)) (.slice ao m cap) L := by rw [← hm]; exact HAA.out.below (Nat.le_refl _) b0
    have he : L.take n = L := List.take_of_length_le (by omega)
    have hl2 := hL
    rw [he, hm]
    clear hm hA HAA hcap he
    go_enter Tryz.func18, Tryz.ntmps18
    go_wp2_with (at_builtin; refine wpList_putsF rfl _ _ rfl w.heap.size _ [] rfl o0 w.heap.size _ L rfl A1 s0 (Nat.zero_le _) hl2 ?_; intro v' w' u1 u2 _; have B5 := Lib.hid (b0.grown u2 s0 (fun k e => (o0.block e).1)); clear A1 o0 b0 hl2 u2 s0 hL; rw [List.nil_append] at u1; obtain ⟨ao', cap', rfl⟩ := u1.shape; have U1 := Lib.hid u1; clear u1)
    go_ret
    exact ⟨_, rfl, U1.out, B5.out⟩
set_option maxRecDepth 100000 in
set_option maxHeartbeats 2000000 in
theorem l16few_any (ao : Option Addr) (cap : Nat) (L : List Lab) (hL : L.length ≤ 500000) (hcap : L.length ≤ cap) (w : World) (hA : AtL w.heap.size w (.slice ao L.length cap) L) :
    Calls Tryz.prog 19 #[.slice ao L.length cap] w fun e w' => ∃ u, e = .returned u ∧ OwnL w' w.heap.size u (L.take 40) ∧ Below w.heap.size w w' := by
  have HAA := Lib.hid hA
  obtain ⟨m, hm⟩ : ∃ m, L.length = m := ⟨_, rfl⟩
  have HM : Hid (L.length = m) := hm
  have b0 : Below w.heap.size w (w.alloc (.cells #[] 27)) := (Below.refl _ _).alloc (Nat.le_refl _) _
  have o0 := ownL_empty w
  have s0 : w.heap.size ≤ (w.alloc (.cells #[] 27)).heap.size := b0.size
  by_cases h : 40 < m
  · have hd : (40 : Int) < m := by omega
    have hc : (40 : Int) ≤ cap := by omega
    obtain ⟨ao', cap', e1, hA2⟩ := hA
    obtain ⟨g, o, cur, e2, _⟩ := hA2 0 (by omega)
    injection e1 with e3 e4 e5
    rw [e2] at e3
    subst e3
    clear e4 e5
    have A1 : AtL w.heap.size (w.alloc (.cells #[] 27)) (.slice (some ⟨g, o, none⟩) 40 cap) (L.take 40) := (HAA.out.take (by omega)).below (Nat.le_refl _) b0
    have hl2 : (L.take 40).length ≤ 500000 := by rw [List.length_take]; omega
    rw [hm]
    generalize L.take 40 = T at A1 hl2 ⊢
    clear hm hA2 HAA hL hcap e2
    go_enter Tryz.func19, Tryz.ntmps19
    go_wp2_with (at_builtin; refine wpList_putsL rfl _ _ rfl w.heap.size _ [] rfl o0 w.heap.size _ T rfl A1 s0 (Nat.zero_le _) hl2 ?_; intro v' w' u1 u2 _; have B5 := Lib.hid (b0.grown u2 s0 (fun k e => (o0.block e).1)); clear A1 o0 b0 hl2 u2 s0; rw [List.nil_append] at u1; obtain ⟨ao', cap', rfl⟩ := u1.shape; have U1 := Lib.hid u1; clear u1)
    go_ret
    exact ⟨_, rfl, U1.out, B5.out⟩
  · have hd : ¬ (40 : Int) < m := by omega
    have A1 : AtL w.heap.size (w.alloc (.cells #[] 27)) (.slice ao m cap) L := by rw [← hm]; exact HAA.out.below (Nat.le_refl _) b0
    have he : L.take 40 = L := List.take_of_length_le (by omega)
    have hl2 := hL
    rw [he, hm]
    clear hm hA HAA hcap he
    go_enter Tryz.func19, Tryz.ntmps19
    go_wp2_with (at_builtin; refine wpList_putsL rfl _ _ rfl w.heap.size _ [] rfl o0 w.heap.size _ L rfl A1 s0 (Nat.zero_le _) hl2 ?_; intro v' w' u1 u2 _; have B5 := Lib.hid (b0.grown u2 s0 (fun k e => (o0.block e).1)); clear A1 o0 b0 hl2 u2 s0 hL; rw [List.nil_append] at u1; obtain ⟨ao', cap', rfl⟩ := u1.shape; have U1 := Lib.hid u1; clear u1)
    go_ret
    exact ⟨_, rfl, U1.out, B5.out⟩
end Go.Proofs.YtmabigcolabbmaaGreatDoor
namespace Go.Proofs.YtmabigcolabbmaaGreatDoor
open Go Go.RowKit

@[go_sem high] theorem neq_ritem (w : World) (x y : Itm) : (binOp .neq 53 (.agg (cellsI x)) (.agg (cellsI y))).run Tryz.prog w = .ok (.bool (!decide (x = y))) w := by
  rw [run_neq_struct, equalIn_ritem w 9996]
  rfl
set_option maxRecDepth 100000 in
set_option maxHeartbeats 2000000 in
theorem l16Same_any (v u : Value) (L : List Itm) (hL : L.length ≤ 1000000) (w : World) (hA : AtI w.heap.size w v L) (hB : AtJ w.heap.size w u L) :
    Calls Tryz.prog 15 #[v, u] w fun e w' => e = .returned (.int .i64 0) ∧ Below w.heap.size w w' := by
  obtain ⟨ao, cap, rfl, hA2⟩ := hA
  obtain ⟨ao2, cap2, rfl, hB2⟩ := hB
  obtain ⟨m, hm⟩ : ∃ m, L.length = m := ⟨_, rfl⟩
  have hm1 : (m : Int) ≤ 1000000 := by omega
  have HA := Lib.hid hA2
  have HB := Lib.hid hB2
  rw [hm] at HA HB
  rw [hm]
  clear hA2 hB2 hm hL
  go_enter Tryz.func15, Tryz.ntmps15
  go_wp2
  go_loopw [13] (fun s13 wr => ∃ (i : Nat), s13 = .int .i64 i ∧ i ≤ m ∧ Below w.heap.size w wr) (fun s13 _ => (m - intOf s13).toNat)
  case atStart => exact ⟨0, rfl, Nat.zero_le _, Below.refl _ _⟩
  case round =>
    obtain ⟨i, rfl, hi, B1⟩ := hrel
    by_cases hlt : i < m
    · have hlt' : (i : Int) < m := by omega
      obtain ⟨g, o, cur, rfl, hg, hr0, hsz, hex⟩ := HA.out i hlt
      obtain ⟨g2, o2, cur2, rfl, hg2, hr2, hsz2, hex2⟩ := HB.out i hlt
      have q1 := (rowAt_below B1 hg).trans hr0
      have q2 := (rowAt_below B1 hg2).trans hr2
      have s1 : o + i * 66 + 66 ≤ cur.size := by omega
      have s2 : o2 + i * 66 + 66 ≤ cur2.size := by omega
      have p1 := fun z => Past.row q1 z
      have p2 := fun z => Past.row q2 z
      generalize L.getD i zeroItm = x at *
      have HC := Lib.hid (fun w => Told_any x w)
      clear hr0 hr2 hsz hsz2 q1 q2 hg hg2
      go_wp2_with fail
      refine wp_region_past (by kernel_rfl) (by kernel_rfl) ?_
      iterate 4 go_big_quiet_step (fail)
      go_big_quiet_step (exact Past.call (HC.out _))
      iterate 5 go_big_quiet_step (fail)
      refine wpQuiet_nil ?_
      intro wn hw2
      obtain ⟨⟨wx, hn⟩, rfl⟩ := hw2
      try dsimp only
      have B3 := B1.trans (hn.mono B1.size)
      clear p1 p2 hn B1 HC
      go_wp2
      go_roundw
      case rel => exact ⟨i + 1, by go_num, hlt, B3⟩
      case measure => simp [intOf]; omega
    · obtain rfl : i = m := by omega
      have hlt' : ¬ (i : Int) < i := by omega
      have B5 := Lib.hid B1
      clear B1
      go_wp2
      go_ret
      exact ⟨rfl, B5.out⟩
end Go.Proofs.YtmabigcolabbmaaGreatDoor
namespace Go.Proofs.YtmabigcolabbmaaGreatDoor
open Go Go.RowKit Go.Sort Go.Lib

theorem paCount_any (n : Nat) (h : n ≤ 100000) (w : World) : Calls Tryz.prog 27 #[.int .i64 n] w fun e w' => e = .returned (.int .i64 ((2 * n - 1 : Nat) : Int)) ∧ w' = w := by
  by_cases h0 : n < 1
  · obtain rfl : n = 0 := by omega
    go_enter Tryz.func27, Tryz.ntmps27
    go_wp2_with fail
    go_ret
    exact ⟨rfl, rfl⟩
  · have h1 : ¬ (n : Int) < 1 := by omega
    have hi : (n : Int) ≤ 100000 := by omega
    have h2 : 2 * (n : Int) - 1 = ((2 * n - 1 : Nat) : Int) := by omega
    go_enter Tryz.func27, Tryz.ntmps27
    go_wp2_with fail
    go_ret
    exact ⟨by rw [← h2]; rfl, rfl⟩
def aw0 : Lf := zeroLf
def aw1 : Lf := ⟨zeroLab.set 0 64, zeroLab, 0⟩
def aw2 : Lf := ⟨zeroLab.set 0 128, zeroLab, 0⟩
theorem aw_ris : risingL [aw0, aw1, aw2] = [aw0, aw1, aw2] := by decide +kernel
theorem aw_common : common aw0.a aw2.a = 0 ∧ common aw0.a aw1.a = 1 := by decide +kernel
theorem aw_cover : chkL (itemsL [aw0, aw1, aw2]) = 0 ∧ (coverL [aw0, aw1, aw2] [zeroLab.set 0 128]).1.map (fun x => x.n) = [1] ∧ (coverL [aw0, aw1, aw2] [zeroLab.set 0 128]).2 = [aw2] := by decide +kernel
set_option maxRecDepth 100000 in
theorem run_aw3 (w : World) : (buildF 38 3 #[(0, .agg (cellsF aw0)), (1, .agg (cellsF aw1)), (2, .agg (cellsF aw2))]).run Tryz.prog w = .ok (.slice (some ⟨w.heap.size, 0, none⟩) 3 3) (w.alloc (.cells (cellsF aw0 ++ cellsF aw1 ++ cellsF aw2) 51)) := by
  kernel_rfl
theorem aw_x0 : (cellsF aw0 ++ cellsF aw1 ++ cellsF aw2).extract 0 65 = cellsF aw0 := by kernel_rfl
theorem aw_x1 : (cellsF aw0 ++ cellsF aw1 ++ cellsF aw2).extract 65 130 = cellsF aw1 := by kernel_rfl
theorem aw_x2 : (cellsF aw0 ++ cellsF aw1 ++ cellsF aw2).extract 130 195 = cellsF aw2 := by kernel_rfl
theorem aw_at (w : World) : AtF (w.alloc (.cells (cellsF aw0 ++ cellsF aw1 ++ cellsF aw2) 51)).heap.size (w.alloc (.cells (cellsF aw0 ++ cellsF aw1 ++ cellsF aw2) 51)) (.slice (some ⟨w.heap.size, 0, none⟩) 3 3) [aw0, aw1, aw2] := by
  refine ⟨_, _, rfl, fun i hi => ⟨w.heap.size, 0, _, rfl, by rw [World.size_alloc]; omega, rowAt_of_heap (World.alloc_heap_new _ _), ?_, ?_⟩⟩
  · simp at hi ⊢
    omega
  · have h3 : i = 0 ∨ i = 1 ∨ i = 2 := by simp at hi; omega
    rcases h3 with rfl | rfl | rfl
    · exact aw_x0
    · exact aw_x1
    · exact aw_x2
@[go_sem] theorem build_leaf0 (w : World) (a : Lab) : (buildOf 51 #[(0, .agg (cellsL a))]).run Tryz.prog w = .ok (.agg (cellsF ⟨a, zeroLab, 0⟩)) w := by
  obtain ⟨xb0, xb1, xb2, xb3, xb4, xb5, xb6, xb7, xb8, xb9, xb10, xb11, xb12, xb13, xb14, xb15, xb16, xb17, xb18, xb19, xb20, xb21, xb22, xb23, xb24, xb25, xb26, xb27, xb28, xb29, xb30, xb31, hx⟩ := Lab.open a
  rw [cellsL, cellsF, fcells, lcells, lcells, hx]
  kernel_rfl
theorem atL_one (w : World) (x : Lab) : AtL (w.alloc (.cells (cellsL x) 27)).heap.size (w.alloc (.cells (cellsL x) 27)) (.slice (some ⟨w.heap.size, 0, none⟩) 1 1) [x] := by
  refine ⟨_, _, rfl, fun i hi => ⟨w.heap.size, 0, cellsL x, rfl, by rw [World.size_alloc]; omega, rowAt_of_heap (World.alloc_heap_new _ _), ?_, ?_⟩⟩
  · have h1 : i = 0 := by simpa using hi
    subst h1
    rw [size_cellsL]
    decide
  · have h1 : i = 0 := by simpa using hi
    subst h1
    show (cellsL x).extract 0 32 = cellsL x
    have h := size_cellsL x
    conv => rhs; rw [← Array.extract_size (xs := cellsL x), h]
theorem atI_nil (n0 : Nat) (w : World) : AtI n0 w (.slice none 0 0) [] := ⟨none, 0, rfl, fun i hi => absurd hi (Nat.not_lt_zero i)⟩
end Go.Proofs.YtmabigcolabbmaaGreatDoor
namespace Go.Proofs.YtmabigcolabbmaaGreatDoor
open Go Go.RowKit Go.Sort Go.Lib

set_option maxRecDepth 100000 in
set_option maxHeartbeats 4000000 in
theorem awake16 (w : World) (ht : Cubes w) : Calls Tryz.prog 12 #[] w fun e w' => e = .returned (.bool true) ∧ Below w.heap.size w w' := by
  have hb3 := run_aw3
  have hat := Lib.hid (aw_at w)
  obtain ⟨hE, hn, hU⟩ := aw_cover
  have hset4 : (cellsL zeroLab).setIfInBounds 0 (.int .u8 64) = cellsL (zeroLab.set 0 64) := set_cellsL zeroLab 0 64 (by decide) (by decide)
  have hset8 : (cellsL zeroLab).setIfInBounds 0 (.int .u8 128) = cellsL (zeroLab.set 0 128) := set_cellsL zeroLab 0 128 (by decide) (by decide)
  have HT := Lib.hid ht
  obtain ⟨X, hX, hXn⟩ : ∃ X : Itm, (coverL [aw0, aw1, aw2] [zeroLab.set 0 128]).1 = [X] ∧ X.n = 1 := by
    generalize (coverL [aw0, aw1, aw2] [zeroLab.set 0 128]).1 = C at hn ⊢
    rcases C with _ | ⟨y, _ | ⟨z, r⟩⟩
    · cases hn
    · exact ⟨y, rfl, by simpa using hn⟩
    · simp at hn
  have b3 : Below w.heap.size w (w.alloc (.cells (cellsF aw0 ++ cellsF aw1 ++ cellsF aw2) 51)) := (Below.refl _ _).alloc (Nat.le_refl _) _
  have s3 : (w.alloc (.cells (cellsF aw0 ++ cellsF aw1 ++ cellsF aw2) 51)).heap.size = w.heap.size + 1 := World.size_alloc _ _
  have r3 : rowAt (w.alloc (.cells (cellsF aw0 ++ cellsF aw1 ++ cellsF aw2) 51)) w.heap.size = some (cellsF aw0 ++ cellsF aw1 ++ cellsF aw2) := rowAt_of_heap (World.alloc_heap_new _ _)
  have x3 : (cellsF aw0 ++ cellsF aw1 ++ cellsF aw2).extract 130 195 = cellsF aw2 := aw_x2
  have z3 : (cellsF aw0 ++ cellsF aw1 ++ cellsF aw2).size = 195 := by simp
  have b4 : Below (w.alloc (.cells (cellsF aw0 ++ cellsF aw1 ++ cellsF aw2) 51)).heap.size (w.alloc (.cells (cellsF aw0 ++ cellsF aw1 ++ cellsF aw2) 51)) ((w.alloc (.cells (cellsF aw0 ++ cellsF aw1 ++ cellsF aw2) 51)).alloc (.cells (cellsL (zeroLab.set 0 128)) 27)) := (Below.refl _ _).alloc (Nat.le_refl _) _
  have al := atL_one (w.alloc (.cells (cellsF aw0 ++ cellsF aw1 ++ cellsF aw2) 51)) (zeroLab.set 0 128)
  rw [s3] at al
  have b5 := b3.trans (b4.mono (by omega))
  have HC := Lib.hid (paCover_any _ _ [aw0, aw1, aw2] [zeroLab.set 0 128] (by decide) (by decide) _ (ht.below b5) (AtF.below (hat.out.below (Nat.le_refl _) b4) b4.size (Below.refl _ _)) al)
  rw [hE, hX, hU] at HC
  have r4 := rowAt_past b4 r3
  unfold aw0 aw1 aw2 at *
  generalize zeroLab.set 0 64 = L40 at *
  generalize zeroLab.set 0 128 = L80 at *
  generalize cellsF zeroLf ++ cellsF ⟨L40, zeroLab, 0⟩ ++ cellsF ⟨L80, zeroLab, 0⟩ = R3 at *
  have HTP : Hid (∀ w2, Cubes w2 → Calls Tryz.prog 11 #[.slice none 0 0] w2 fun e w' => e = .returned (.tuple #[.agg (cellsL (shaLab [18])), .int .i64 0]) ∧ Below w2.heap.size w2 w') := Lib.hid fun w2 h2 => paTop_any [] none 0 w2 (by decide) (Nat.le_refl _) (by unfold maxLen; omega) h2 (atI_nil _ _)
  have HE2 : Hid (∀ w2, Cubes w2 → Calls Tryz.prog 33 #[] w2 fun e w' => e = .returned (.agg (cellsL (shaLab [18]))) ∧ Below w2.heap.size w2 w') := Lib.hid fun w2 h => nEmpty_any w2 h
  have HCN : Hid (∀ w2, Calls Tryz.prog 27 #[.int .i64 3] w2 fun e w' => e = .returned (.int .i64 5) ∧ w' = w2) := Lib.hid fun w2 => paCount_any 3 (by decide) w2
  have hq : decide (shaLab [18] = shaLab [18]) = true := decide_eq_true rfl
  generalize shaLab [18] = Z at *
  have B5 := Lib.hid b5
  have S3 := Lib.hid s3
  clear hat hE hn hU hX b3 b4 al b5 s3 ht r3
  go_enter Tryz.func12, Tryz.ntmps12
  go_wp2_with fail
  refine HC.out.mono ?_
  rintro e w6 ⟨⟨us, uu, rfl, o1, o2⟩, b6⟩
  have B6 := B5.out.trans (b6.mono B5.out.size)
  obtain ⟨gs, caps, cus, rfl, _, _, rs, zs, xs⟩ := o1.lie (Nat.zero_lt_one)
  obtain ⟨gu, capu, cuu, rfl, _, _, ru, zu, xu⟩ := o2.lie (Nat.zero_lt_one)
  have xs0 := xs 0 Nat.zero_lt_one
  have xu0 := xu 0 Nat.zero_lt_one
  have ks : w6.cell? ⟨gs, 0, none⟩ = some (.int .i64 1) := by
    rw [cell_of_rowAt rs]
    have h0 : (cus.extract 0 66)[0]? = some (.int .i64 1) := by
      rw [show cus.extract 0 66 = cellsI X from xs0, get_I0, hXn]
    rw [Array.getElem?_extract] at h0
    simp at h0
    exact h0.2
  have r6 := rowAt_past b6 r4
  have HT2 := Lib.hid (HT.out.below B6)
  have HB6 := Lib.hid B6
  have zu2 : 65 ≤ cuu.size := by simpa using zu
  have xu2 : cuu.extract 0 65 = cellsF ⟨L80, zeroLab, 0⟩ := xu0
  clear HC o1 o2 xs xu b6 B6 r4 xs0 xu0 hXn zs rs zu
  have HTP2 := Lib.hid (HTP.out w6 HT2.out)
  clear HTP
  go_wp2_with fail
  refine HTP2.out.mono ?_
  rintro e w7 ⟨rfl, b7⟩
  have b8 : Below w7.heap.size w7 (w7.alloc (.cells (cellsL Z) 27)) := (Below.refl _ _).alloc (Nat.le_refl _) _
  have b68 := b7.trans (b8.mono b7.size)
  have r8 := rowAt_past b68 r6
  have ru8 := rowAt_past b68 ru
  have ks8 := (b68.cell (p := ⟨gs, 0, none⟩) (cellLt ks)).trans ks
  have rz8 : rowAt (w7.alloc (.cells (cellsL Z) 27)) w7.heap.size = some (cellsL Z) := rowAt_of_heap (World.alloc_heap_new _ _)
  have p1 := fun z => Past.row r8 z
  have p2 := fun z => Past.row ru8 z
  have p3 := fun z => Past.row rz8 z
  have p4 := fun z => (Past.cell (cellLt ks8) z).trans ks8
  have HB8 := Lib.hid (HB6.out.trans (b68.mono HB6.out.size))
  have HT8 := Lib.hid (HT2.out.below b68)
  clear HTP2 b7 b8 b68 r8 ru8 ks8 rz8 r6 ru ks HT2 HB6
  go_wp2_with fail
  refine wp_region_past (by kernel_rfl) (by kernel_rfl) ?_
  iterate 35 go_big_quiet_step (fail)
  go_big_quiet_step (exact Past.call (HE2.out _ (HT8.out.below (Past.h _))))
  iterate 3 go_big_quiet_step (fail)
  go_big_quiet_step (exact Past.call_same (HCN.out _))
  iterate 3 go_big_quiet_step (fail)
  refine wpQuiet_nil ?_
  intro wn hw2
  obtain ⟨⟨wx, hn⟩, rfl⟩ := hw2
  try dsimp only
  have B9 := Lib.hid (HB8.out.trans (hn.mono HB8.out.size))
  clear p1 p2 p3 p4 hn HB8 HT8 HE2 HCN
  go_wp2
  go_ret
  exact ⟨rfl, B9.out⟩
end Go.Proofs.YtmabigcolabbmaaGreatDoor
namespace Go.Proofs.YtmabigcolabbmaaGreatDoor
open Go Go.RowKit Go.ChangeShapes Go.WideShapes Go.Deep

section
variable {P : Program} {H : Type} {enc : TypeId × Value → H} {W : World} {sp : Nat → Bool} {held : Bool} {base : Nat} {t tp tl ti : TypeId}
theorem take_drop3 {α : Type} (cs : List α) (n m k : Nat) (h : cs.length = n + m + k) : cs = cs.take n ++ ((cs.drop n).take m ++ (cs.drop (n + m)).take k) := by
  rw [show (cs.drop (n + m)).take k = cs.drop (n + m) from List.take_of_length_le (by rw [List.length_drop]; omega), ← List.drop_drop, List.take_append_drop, List.take_append_drop]
theorem pre_of_cells {fuel : Nat} {cs : List Value} {x : DataW H × List MemPlace} {f0 f1 : Field} (hs : P.underlying t = some (.struct #[f0, f1])) (hi : P.underlying f0.type = some (.int .i64)) (ci : P.cellsOf f0.type = 1) (o0 : f0.offset = 0) (o1 : f1.offset = 1)
    (hl : ∀ (fuel : Nat) (cs : List Value) (x : DataW H × List MemPlace), DataW.trod enc P W 0 sp held fuel f1.type cs = some x → ∃ a : Lab, cs = lcells a) (ct : P.cellsOf f1.type = 32) (cp : P.cellsOf t = 33)
    (hf : DataW.trod enc P W 0 sp held fuel t cs = some x) : ∃ (n : Int) (a : Lab), cs = Value.int .i64 n :: lcells a ∧ (Lit.int .i64 n).wf = true := by
  obtain ⟨y0, y1, m, _, hlen, h0, h1⟩ := trod_struct2 hs hf
  rw [cp] at hlen
  rw [ci, o0] at h0
  rw [ct, o1] at h1
  obtain ⟨n, e1, _, e3⟩ := DataW.trod_int hi h0
  obtain ⟨a, ha⟩ := hl _ _ _ h1
  refine ⟨n, a, ?_, e3⟩
  rw [← ha]
  match cs, hlen with
  | c :: r, hr =>
    simp only [List.drop_zero, List.take_succ_cons, List.take_zero, List.cons.injEq, and_true] at e1
    rw [e1, List.drop_succ_cons, List.drop_zero, List.take_of_length_le (by simp at hr; omega)]
/-- An item that came in. -/
theorem open_item {v : Value} {d : DataW H} {p : List MemPlace} {f0 f1 f2 : Field} (hs : P.underlying t = some (.struct #[f0, f1, f2])) (o0 : f0.offset = 0) (o1 : f1.offset = 33) (o2 : f2.offset = 65)
    (c0 : P.cellsOf f0.type = 33) (c1 : P.cellsOf f1.type = 32) (c2 : P.cellsOf f2.type = 1) (ct : P.cellsOf t = 66)
    (hp : ∀ (fuel : Nat) (cs : List Value) (x : DataW H × List MemPlace), DataW.trod enc P W 0 sp held fuel f0.type cs = some x → ∃ (n : Int) (a : Lab), cs = Value.int .i64 n :: lcells a ∧ (Lit.int .i64 n).wf = true)
    (hl : ∀ (fuel : Nat) (cs : List Value) (x : DataW H × List MemPlace), DataW.trod enc P W 0 sp held fuel f1.type cs = some x → ∃ a : Lab, cs = lcells a)
    (hi : P.underlying f2.type = some (.int .i64))
    (hval : Value.okWide P W .any base t v) (hd : DataW.Trod enc P W 0 sp held t v d p) : ∃ x : Itm, v = .agg (cellsI x) ∧ (Lit.int .i64 x.n).wf = true ∧ (Lit.int .i64 x.e).wf = true := by
  obtain ⟨cs, rfl⟩ := agg_of_struct hs hval
  obtain ⟨fuel, hf⟩ := hd
  obtain ⟨xs, m, _, _, hlen, hxl, hg⟩ := DataW.trod_struct hs hf
  rw [ct] at hlen
  have g0 := hg 0 f0 rfl
  have g1 := hg 1 f1 rfl
  have g2 := hg 2 f2 rfl
  rw [o0, c0] at g0
  rw [o1, c1] at g1
  rw [o2, c2] at g2
  have hx : xs.length = 3 := hxl
  rw [List.getElem?_eq_getElem (by omega)] at g0 g1 g2
  obtain ⟨n, b, e0, w0⟩ := hp _ _ _ g0
  obtain ⟨s, e1⟩ := hl _ _ _ g1
  obtain ⟨k, e2, _, w2⟩ := DataW.trod_int hi g2
  refine ⟨⟨n, b, s, k⟩, ?_, w0, w2⟩
  have hcl : cs.toList.length = 33 + 32 + 1 := hlen
  have h := take_drop3 cs.toList 33 32 1 hcl
  have e0 : List.take 33 cs.toList = Value.int .i64 n :: lcells b := e0
  rw [e0, show List.take 32 (List.drop 33 cs.toList) = lcells s from e1, show List.take 1 (List.drop (33 + 32) cs.toList) = [Value.int .i64 k] from e2] at h
  rw [cellsI, icells, show cs = cs.toList.toArray from by simp, h]
  simp
/-- A leaf that came in. -/
theorem open_leaf {v : Value} {d : DataW H} {p : List MemPlace} {f0 f1 f2 : Field} (hs : P.underlying t = some (.struct #[f0, f1, f2])) (o0 : f0.offset = 0) (o1 : f1.offset = 32) (o2 : f2.offset = 64)
    (c0 : P.cellsOf f0.type = 32) (c1 : P.cellsOf f1.type = 32) (c2 : P.cellsOf f2.type = 1) (ct : P.cellsOf t = 65)
    (hl0 : ∀ (fuel : Nat) (cs : List Value) (x : DataW H × List MemPlace), DataW.trod enc P W 0 sp held fuel f0.type cs = some x → ∃ a : Lab, cs = lcells a)
    (hl : ∀ (fuel : Nat) (cs : List Value) (x : DataW H × List MemPlace), DataW.trod enc P W 0 sp held fuel f1.type cs = some x → ∃ a : Lab, cs = lcells a)
    (hi : P.underlying f2.type = some (.int .i64))
    (hval : Value.okWide P W .any base t v) (hd : DataW.Trod enc P W 0 sp held t v d p) : ∃ x : Lf, v = .agg (cellsF x) ∧ (Lit.int .i64 x.e).wf = true := by
  obtain ⟨cs, rfl⟩ := agg_of_struct hs hval
  obtain ⟨fuel, hf⟩ := hd
  obtain ⟨xs, m, _, _, hlen, hxl, hg⟩ := DataW.trod_struct hs hf
  rw [ct] at hlen
  have g0 := hg 0 f0 rfl
  have g1 := hg 1 f1 rfl
  have g2 := hg 2 f2 rfl
  rw [o0, c0] at g0
  rw [o1, c1] at g1
  rw [o2, c2] at g2
  have hx : xs.length = 3 := hxl
  rw [List.getElem?_eq_getElem (by omega)] at g0 g1 g2
  obtain ⟨a, e0⟩ := hl0 _ _ _ g0
  obtain ⟨s, e1⟩ := hl _ _ _ g1
  obtain ⟨k, e2, _, w2⟩ := DataW.trod_int hi g2
  refine ⟨⟨a, s, k⟩, ?_, w2⟩
  have hcl : cs.toList.length = 32 + 32 + 1 := hlen
  have h := take_drop3 cs.toList 32 32 1 hcl
  have e0 : List.take 32 cs.toList = lcells a := e0
  rw [e0, show List.take 32 (List.drop 32 cs.toList) = lcells s from e1, show List.take 1 (List.drop (32 + 32) cs.toList) = [Value.int .i64 k] from e2] at h
  rw [cellsF, fcells, show cs = cs.toList.toArray from by simp, h]
end
section
variable {H : Type} {enc : TypeId × Value → H} {W : World} {sp : Nat → Bool} {held : Bool} {base : Nat}
theorem lab_in {fuel : Nat} {cs : List Value} {x : DataW H × List MemPlace} (h : DataW.trod enc Tryz.prog W 0 sp held fuel 27 cs = some x) : ∃ a : Lab, cs = lcells a :=
  lab_of_cells Tryz.underlying27 Tryz.underlying5 cellsOf_u8 cellsOf_lab h
theorem pre_in {fuel : Nat} {cs : List Value} {x : DataW H × List MemPlace} (h : DataW.trod enc Tryz.prog W 0 sp held fuel 66 cs = some x) : ∃ (n : Int) (a : Lab), cs = Value.int .i64 n :: lcells a ∧ (Lit.int .i64 n).wf = true :=
  pre_of_cells Tryz.underlying66 Tryz.underlying3 cellsOf_int rfl rfl (fun _ _ _ h => lab_in h) cellsOf_lab cellsOf_pre h
theorem cellsOf_item : Tryz.prog.cellsOf 68 = 66 := by kernel_rfl
theorem cellsOf_leaf : Tryz.prog.cellsOf 51 = 65 := by kernel_rfl
end
theorem trodAll_six {P : Program} {H : Type} {enc : TypeId × Value → H} {W : World} {base : Nat} {sp : Nat → Bool} {held : Bool} {t0 t1 t2 t3 t4 t5 : TypeId} {args : Array Value} {ds : List (DataW H)} {ps : List MemPlace} (h : DataW.TrodAll enc P W base sp held [t0, t1, t2, t3, t4, t5] args.toList ds ps) :
    ∃ v0 v1 v2 v3 v4 v5 d0 d1 d2 d3 d4 d5 p0 p1 p2 p3 p4 p5, args = #[v0, v1, v2, v3, v4, v5] ∧ ds = [d0, d1, d2, d3, d4, d5] ∧ DataW.Trod enc P W base sp held t0 v0 d0 p0 ∧ DataW.Trod enc P W base sp held t1 v1 d1 p1 ∧ DataW.Trod enc P W base sp held t2 v2 d2 p2 ∧ DataW.Trod enc P W base sp held t3 v3 d3 p3 ∧ DataW.Trod enc P W base sp held t4 v4 d4 p4 ∧ DataW.Trod enc P W base sp held t5 v5 d5 p5 := by
  obtain ⟨v0, vs0, d0, ds0, p0, q0, e0, rfl, rfl, h0, r0⟩ := trodAll_cons h
  obtain ⟨v1, vs1, d1, ds1, p1, q1, rfl, rfl, rfl, h1, r1⟩ := trodAll_cons r0
  obtain ⟨v2, vs2, d2, ds2, p2, q2, rfl, rfl, rfl, h2, r2⟩ := trodAll_cons r1
  obtain ⟨v3, vs3, d3, ds3, p3, q3, rfl, rfl, rfl, h3, r3⟩ := trodAll_cons r2
  obtain ⟨v4, vs4, d4, ds4, p4, q4, rfl, rfl, rfl, h4, r4⟩ := trodAll_cons r3
  obtain ⟨v5, vs5, d5, ds5, p5, q5, rfl, rfl, rfl, h5, r5⟩ := trodAll_cons r4
  obtain ⟨rfl, rfl, rfl⟩ := trodAll_nil r5
  refine ⟨v0, v1, v2, v3, v4, v5, d0, d1, d2, d3, d4, d5, p0, p1, p2, p3, p4, p5, ?_, rfl, h0, h1, h2, h3, h4, h5⟩
  cases args
  simp_all
end Go.Proofs.YtmabigcolabbmaaGreatDoor
namespace Go.Proofs.YtmabigcolabbmaaGreatDoor
open Go Go.RowKit Go.ChangeShapes Go.WideShapes Go.Deep

/-- A list that came in. -/
def InF (w : World) (v : Value) (L : List Lf) : Prop := (v = .slice none 0 0 ∧ L = []) ∨ ∃ a cap, v = .slice (some a) L.length cap ∧ L.length ≤ cap ∧ ∀ j u, (listF L)[j]? = some u → w.cell? (a.add j) = some u
theorem InF.below {w w' : World} {v : Value} {L : List Lf} (h : InF w v L) (k : Below w.heap.size w w') : InF w' v L := by
  rcases h with h | ⟨a, cap, h1, h2, h3⟩
  · exact .inl h
  · exact .inr ⟨a, cap, h1, h2, fun j u hj => (k.cell (cellLt (h3 j u hj))).trans (h3 j u hj)⟩
theorem listF_take (L : List Lf) : ∀ n, listF (L.take n) = (listF L).take (n * 65) := by
  induction L with
  | nil => intro n; simp [listF]
  | cons a L ih =>
    intro n
    have hl : (cellsF a).toList.length = 65 := by rw [Array.length_toList, size_cellsF]
    have e : listF (a :: L) = (cellsF a).toList ++ listF L := rfl
    cases n with
    | zero => simp [listF]
    | succ n =>
      rw [List.take_succ_cons, show listF (a :: L.take n) = (cellsF a).toList ++ listF (L.take n) from rfl, ih, e, show (n + 1) * 65 = (cellsF a).toList.length + n * 65 by rw [hl]; omega, List.take_length_add_append]
/-- .. is put behind a list of the call's own. -/
theorem wpList_inF {ops : Array Oper} {rest : List Oper} {o : Oper} {a : Act} {w : World} {Q : Exit → Act → World → Prop} (hgd : o.guard = none) (s x : Operand)
    (ho : o.op = .call { callee := .builtin .append, args := #[s, x], argTypes := #[38, 38] }) (B : Nat) (v : Value) (L : List Lf) (hs : a.eval s = v) (hown : OwnF w B v L)
    (ad : Addr) (m cap : Nat) (M : List Lf) (hx : a.eval x = .slice (some ad) m cap) (hm : M.length = m) (hu : ∀ j u, (listF M)[j]? = some u → w.cell? (ad.add j) = some u) (hB : B ≤ w.heap.size) (hl : L.length ≤ 1000000) (hl2 : m ≤ 500000)
    (h : ∀ v' w', OwnF w' B v' (L ++ M) → w.grownBy w' v.ownBlock → (v'.ownBlock = v.ownBlock ∨ v'.ownBlock = some w.heap.size) → wpList Tryz.prog ops Q rest (a.put o.dst v') w') : wpList Tryz.prog ops Q (o :: rest) a w := by
  obtain ⟨i0, hi, hz0, hz1, hz2⟩ := rowinfo_leaf
  subst hm
  refine wpList_append_own_at (P := Tryz.prog) w hgd s x 38 ho B 51 i0 (.agg (cellsF zeroLf)) 65 72 Tryz.underlying38 hi hz0 hz1 hz2 (by simp [Value.cells]) (by decide) v L.length (listF L) hs hown ad M.length cap (listF M) hx (listF_length M) hu (listF_one M) (by unfold maxLen; omega) (by omega) hB ?_
  intro v' w' h1 h2 _ h4
  refine h v' w' ?_ h2 h4
  show w'.ownsRow B 51 65 v' (L ++ M).length (listF (L ++ M))
  rw [List.length_append, listF_append]
  exact h1
theorem inF_of {P : Program} {tt te : TypeId} {H : Type} {enc : TypeId × Value → H} {W : World} {sp : Nat → Bool} {held : Bool} {base : Nat} {v : Value} {d : DataW H} {p : List MemPlace} (hu : P.underlying tt = some (.slice te)) (hce : P.cellsOf te = 65) (hth : ∀ (fuel : Nat) (cs : List Value) (x : DataW H × List MemPlace), DataW.trod enc P W 0 sp held fuel te cs = some x → ∃ t : Lf, cs = (cellsF t).toList)
    (hval : Value.okWide P W .any base tt v) (hd : DataW.Trod enc P W 0 sp held tt v d p) : ∃ L : List Lf, InF W v L := by
  obtain ⟨ao, len, cap, rfl⟩ := okWide_slice hu hval
  obtain ⟨fuel, hf⟩ := hd
  rcases open_slice hu hf with ⟨h, _⟩ | ⟨a, len', cap', m, n, D, Pl, hcs, _, hl, hm, hmm, _, hx⟩
  · exact ⟨[], .inl ⟨by simpa [Value.cells] using h, rfl⟩⟩
  · have hc : (ao = some a ∧ len = len' ∧ cap = cap') := by simpa [Value.cells] using hcs
    obtain ⟨rfl, rfl, rfl⟩ := hc
    have hlm : len ≤ m := by rw [hmm]; split <;> omega
    have : ∀ i, ∃ t : Lf, i < len → ∀ j, j < 65 → W.cell? (a.add (i * 65 + j)) = (cellsF t)[j]? := fun i => by
      by_cases hi : i < len
      · obtain ⟨cs, h1, h2⟩ := hx i (by omega)
        rw [hce] at h1
        obtain ⟨t, ht⟩ := hth _ _ _ h2
        obtain ⟨_, hcl, hat⟩ := World.cells?_some h1
        refine ⟨t, fun _ j hj => ?_⟩
        have := hat j hj
        rw [ht, Array.getElem?_toList, Deep.add_add] at this
        exact this
      · exact ⟨zeroLf, fun h => absurd h hi⟩
    obtain ⟨T, hT⟩ := Classical.axiomOfChoice this
    have hl2 : ((List.range len).map T).length = len := by simp
    refine ⟨(List.range len).map T, .inr ⟨a, cap, by rw [hl2], by rw [hl2]; exact hl, fun j u hj => ?_⟩⟩
    obtain ⟨h1, h2⟩ := listF_get _ j u hj
    rw [hl2] at h1
    have h3 := hT (j / 65) h1 (j % 65) (Nat.mod_lt _ (by decide))
    rw [show j / 65 * 65 + j % 65 = j by omega] at h3
    rw [h3]
    have h4 : ((List.range len).map T).getD (j / 65) zeroLf = T (j / 65) := by
      rw [List.getD_eq_getElem?_getD, List.getElem?_map, List.getElem?_range h1]
      rfl
    rw [h4] at h2
    exact h2
/-- A list that came in. -/
def InL (w : World) (v : Value) (L : List Lab) : Prop := (v = .slice none 0 0 ∧ L = []) ∨ ∃ a cap, v = .slice (some a) L.length cap ∧ L.length ≤ cap ∧ ∀ j u, (listL L)[j]? = some u → w.cell? (a.add j) = some u
theorem InL.below {w w' : World} {v : Value} {L : List Lab} (h : InL w v L) (k : Below w.heap.size w w') : InL w' v L := by
  rcases h with h | ⟨a, cap, h1, h2, h3⟩
  · exact .inl h
  · exact .inr ⟨a, cap, h1, h2, fun j u hj => (k.cell (cellLt (h3 j u hj))).trans (h3 j u hj)⟩
theorem listL_take (L : List Lab) : ∀ n, listL (L.take n) = (listL L).take (n * 32) := by
  induction L with
  | nil => intro n; simp [listL]
  | cons a L ih =>
    intro n
    have hl : (cellsL a).toList.length = 32 := by rw [Array.length_toList, size_cellsL]
    have e : listL (a :: L) = (cellsL a).toList ++ listL L := rfl
    cases n with
    | zero => simp [listL]
    | succ n =>
      rw [List.take_succ_cons, show listL (a :: L.take n) = (cellsL a).toList ++ listL (L.take n) from rfl, ih, e, show (n + 1) * 32 = (cellsL a).toList.length + n * 32 by rw [hl]; omega, List.take_length_add_append]
/-- .. is put behind a list of the call's own. -/
theorem wpList_inL {ops : Array Oper} {rest : List Oper} {o : Oper} {a : Act} {w : World} {Q : Exit → Act → World → Prop} (hgd : o.guard = none) (s x : Operand)
    (ho : o.op = .call { callee := .builtin .append, args := #[s, x], argTypes := #[39, 39] }) (B : Nat) (v : Value) (L : List Lab) (hs : a.eval s = v) (hown : OwnL w B v L)
    (ad : Addr) (m cap : Nat) (M : List Lab) (hx : a.eval x = .slice (some ad) m cap) (hm : M.length = m) (hu : ∀ j u, (listL M)[j]? = some u → w.cell? (ad.add j) = some u) (hB : B ≤ w.heap.size) (hl : L.length ≤ 1000000) (hl2 : m ≤ 500000)
    (h : ∀ v' w', OwnL w' B v' (L ++ M) → w.grownBy w' v.ownBlock → (v'.ownBlock = v.ownBlock ∨ v'.ownBlock = some w.heap.size) → wpList Tryz.prog ops Q rest (a.put o.dst v') w') : wpList Tryz.prog ops Q (o :: rest) a w := by
  obtain ⟨i0, hi, hz0, hz1, hz2⟩ := rowinfo_lab
  subst hm
  refine wpList_append_own_at (P := Tryz.prog) w hgd s x 39 ho B 27 i0 (.agg (cellsL zeroLab)) 32 32 Tryz.underlying39 hi hz0 hz1 hz2 (by simp [Value.cells]) (by decide) v L.length (listL L) hs hown ad M.length cap (listL M) hx (listL_length M) hu (listL_one M) (by unfold maxLen; omega) (by omega) hB ?_
  intro v' w' h1 h2 _ h4
  refine h v' w' ?_ h2 h4
  show w'.ownsRow B 27 32 v' (L ++ M).length (listL (L ++ M))
  rw [List.length_append, listL_append]
  exact h1
theorem inL_of {P : Program} {tt te : TypeId} {H : Type} {enc : TypeId × Value → H} {W : World} {sp : Nat → Bool} {held : Bool} {base : Nat} {v : Value} {d : DataW H} {p : List MemPlace} (hu : P.underlying tt = some (.slice te)) (hce : P.cellsOf te = 32) (hth : ∀ (fuel : Nat) (cs : List Value) (x : DataW H × List MemPlace), DataW.trod enc P W 0 sp held fuel te cs = some x → ∃ t : Lab, cs = (cellsL t).toList)
    (hval : Value.okWide P W .any base tt v) (hd : DataW.Trod enc P W 0 sp held tt v d p) : ∃ L : List Lab, InL W v L := by
  obtain ⟨ao, len, cap, rfl⟩ := okWide_slice hu hval
  obtain ⟨fuel, hf⟩ := hd
  rcases open_slice hu hf with ⟨h, _⟩ | ⟨a, len', cap', m, n, D, Pl, hcs, _, hl, hm, hmm, _, hx⟩
  · exact ⟨[], .inl ⟨by simpa [Value.cells] using h, rfl⟩⟩
  · have hc : (ao = some a ∧ len = len' ∧ cap = cap') := by simpa [Value.cells] using hcs
    obtain ⟨rfl, rfl, rfl⟩ := hc
    have hlm : len ≤ m := by rw [hmm]; split <;> omega
    have : ∀ i, ∃ t : Lab, i < len → ∀ j, j < 32 → W.cell? (a.add (i * 32 + j)) = (cellsL t)[j]? := fun i => by
      by_cases hi : i < len
      · obtain ⟨cs, h1, h2⟩ := hx i (by omega)
        rw [hce] at h1
        obtain ⟨t, ht⟩ := hth _ _ _ h2
        obtain ⟨_, hcl, hat⟩ := World.cells?_some h1
        refine ⟨t, fun _ j hj => ?_⟩
        have := hat j hj
        rw [ht, Array.getElem?_toList, Deep.add_add] at this
        exact this
      · exact ⟨zeroLab, fun h => absurd h hi⟩
    obtain ⟨T, hT⟩ := Classical.axiomOfChoice this
    have hl2 : ((List.range len).map T).length = len := by simp
    refine ⟨(List.range len).map T, .inr ⟨a, cap, by rw [hl2], by rw [hl2]; exact hl, fun j u hj => ?_⟩⟩
    obtain ⟨h1, h2⟩ := listL_get _ j u hj
    rw [hl2] at h1
    have h3 := hT (j / 32) h1 (j % 32) (Nat.mod_lt _ (by decide))
    rw [show j / 32 * 32 + j % 32 = j by omega] at h3
    rw [h3]
    have h4 : ((List.range len).map T).getD (j / 32) zeroLab = T (j / 32) := by
      rw [List.getD_eq_getElem?_getD, List.getElem?_map, List.getElem?_range h1]
      rfl
    rw [h4] at h2
    exact h2
set_option maxRecDepth 100000 in
set_option maxHeartbeats 2000000 in
theorem l16Few_in (v : Value) (L : List Lf) (n : Nat)(hn : n ≤ 500000) (w : World) (hA : InF w v L) :
    Calls Tryz.prog 18 #[v, .int .i64 n] w fun e w' => ∃ u, e = .returned u ∧ OwnF w' w.heap.size u (L.take n) ∧ Below w.heap.size w w' := by
  have b0 : Below w.heap.size w (w.alloc (.cells #[] 51)) := (Below.refl _ _).alloc (Nat.le_refl _) _
  have o0 := ownF_empty w
  have s0 : w.heap.size ≤ (w.alloc (.cells #[] 51)).heap.size := b0.size
  rcases hA with ⟨rfl, rfl⟩ | ⟨ad, cap, rfl, hcap, hc⟩
  · have hd : ¬ (n : Int) < 0 := by omega
    obtain ⟨i0, hi, hz0, hz1, hz2⟩ := rowinfo_leaf
    rw [List.take_nil]
    go_enter Tryz.func18, Tryz.ntmps18
    go_wp2_with (at_builtin; refine wpList_append_own_none rfl _ _ 38 rfl w.heap.size 51 i0 65 Tryz.underlying38 hi _ 0 [] rfl o0 rfl ?_)
    go_wp2_with fail
    go_ret
    exact ⟨_, rfl, o0, b0⟩
  · obtain ⟨m, hm⟩ : ∃ m, L.length = m := ⟨_, rfl⟩
    by_cases h : n < m
    · have hd : (n : Int) < m := by omega
      have hc2 : (n : Int) ≤ cap := by omega
      have hl : (L.take n).length = n := by rw [List.length_take]; omega
      have hc3 : ∀ j u, (listF (L.take n))[j]? = some u → (w.alloc (.cells #[] 51)).cell? (ad.add j) = some u := fun j u hj => by
        rw [listF_take, List.getElem?_take] at hj
        split at hj
        · exact (b0.cell (cellLt (hc j u hj))).trans (hc j u hj)
        · cases hj
      have HC3 := Lib.hid hc3
      rw [hm]
      generalize L.take n = T at *
      clear hm hcap hc hc3
      go_enter Tryz.func18, Tryz.ntmps18
      go_wp2_with (at_builtin; refine wpList_inF rfl _ _ rfl w.heap.size _ [] rfl o0 ad n cap T rfl hl HC3.out s0 (Nat.zero_le _) hn ?_; intro v' w' u1 u2 _; have B5 := Lib.hid (b0.grown u2 s0 (fun k e => (o0.block e).1)); clear HC3 o0 b0 u2 s0; rw [List.nil_append] at u1; obtain ⟨ao', cap', rfl⟩ := u1.shape; rw [hl] at u1; have U1 := Lib.hid u1; clear u1)
      go_ret
      exact ⟨_, rfl, U1.out, B5.out⟩
    · have hd : ¬ (n : Int) < m := by omega
      have he : L.take n = L := List.take_of_length_le (by omega)
      have hc3 : ∀ j u, (listF L)[j]? = some u → (w.alloc (.cells #[] 51)).cell? (ad.add j) = some u := fun j u hj => (b0.cell (cellLt (hc j u hj))).trans (hc j u hj)
      have HC3 := Lib.hid hc3
      have hl := hm
      have hl2 : m ≤ 500000 := by omega
      rw [he, hm]
      clear hm hcap hc hc3 he
      go_enter Tryz.func18, Tryz.ntmps18
      go_wp2_with (at_builtin; refine wpList_inF rfl _ _ rfl w.heap.size _ [] rfl o0 ad m cap L rfl hl HC3.out s0 (Nat.zero_le _) hl2 ?_; intro v' w' u1 u2 _; have B5 := Lib.hid (b0.grown u2 s0 (fun k e => (o0.block e).1)); clear HC3 o0 b0 u2 s0 hl; rw [List.nil_append] at u1; obtain ⟨ao', cap', rfl⟩ := u1.shape; have U1 := Lib.hid u1; clear u1)
      go_ret
      exact ⟨_, rfl, U1.out, B5.out⟩
set_option maxRecDepth 100000 in
set_option maxHeartbeats 2000000 in
theorem l16few_in (v : Value) (L : List Lab) (hn : 40 ≤ 500000) (w : World) (hA : InL w v L) :
    Calls Tryz.prog 19 #[v] w fun e w' => ∃ u, e = .returned u ∧ OwnL w' w.heap.size u (L.take 40) ∧ Below w.heap.size w w' := by
  have b0 : Below w.heap.size w (w.alloc (.cells #[] 27)) := (Below.refl _ _).alloc (Nat.le_refl _) _
  have o0 := ownL_empty w
  have s0 : w.heap.size ≤ (w.alloc (.cells #[] 27)).heap.size := b0.size
  rcases hA with ⟨rfl, rfl⟩ | ⟨ad, cap, rfl, hcap, hc⟩
  · have hd : ¬ (40 : Int) < 0 := by omega
    obtain ⟨i0, hi, hz0, hz1, hz2⟩ := rowinfo_lab
    rw [List.take_nil]
    go_enter Tryz.func19, Tryz.ntmps19
    go_wp2_with (at_builtin; refine wpList_append_own_none rfl _ _ 39 rfl w.heap.size 27 i0 32 Tryz.underlying39 hi _ 0 [] rfl o0 rfl ?_)
    go_wp2_with fail
    go_ret
    exact ⟨_, rfl, o0, b0⟩
  · obtain ⟨m, hm⟩ : ∃ m, L.length = m := ⟨_, rfl⟩
    by_cases h : 40 < m
    · have hd : (40 : Int) < m := by omega
      have hc2 : (40 : Int) ≤ cap := by omega
      have hl : (L.take 40).length = 40 := by rw [List.length_take]; omega
      have hc3 : ∀ j u, (listL (L.take 40))[j]? = some u → (w.alloc (.cells #[] 27)).cell? (ad.add j) = some u := fun j u hj => by
        rw [listL_take, List.getElem?_take] at hj
        split at hj
        · exact (b0.cell (cellLt (hc j u hj))).trans (hc j u hj)
        · cases hj
      have HC3 := Lib.hid hc3
      rw [hm]
      generalize L.take 40 = T at *
      clear hm hcap hc hc3
      go_enter Tryz.func19, Tryz.ntmps19
      go_wp2_with (at_builtin; refine wpList_inL rfl _ _ rfl w.heap.size _ [] rfl o0 ad 40 cap T rfl hl HC3.out s0 (Nat.zero_le _) hn ?_; intro v' w' u1 u2 _; have B5 := Lib.hid (b0.grown u2 s0 (fun k e => (o0.block e).1)); clear HC3 o0 b0 u2 s0; rw [List.nil_append] at u1; obtain ⟨ao', cap', rfl⟩ := u1.shape; rw [hl] at u1; have U1 := Lib.hid u1; clear u1)
      go_ret
      exact ⟨_, rfl, U1.out, B5.out⟩
    · have hd : ¬ (40 : Int) < m := by omega
      have he : L.take 40 = L := List.take_of_length_le (by omega)
      have hc3 : ∀ j u, (listL L)[j]? = some u → (w.alloc (.cells #[] 27)).cell? (ad.add j) = some u := fun j u hj => (b0.cell (cellLt (hc j u hj))).trans (hc j u hj)
      have HC3 := Lib.hid hc3
      have hl := hm
      have hl2 : m ≤ 500000 := by omega
      rw [he, hm]
      clear hm hcap hc hc3 he
      go_enter Tryz.func19, Tryz.ntmps19
      go_wp2_with (at_builtin; refine wpList_inL rfl _ _ rfl w.heap.size _ [] rfl o0 ad m cap L rfl hl HC3.out s0 (Nat.zero_le _) hl2 ?_; intro v' w' u1 u2 _; have B5 := Lib.hid (b0.grown u2 s0 (fun k e => (o0.block e).1)); clear HC3 o0 b0 u2 s0 hl; rw [List.nil_append] at u1; obtain ⟨ao', cap', rfl⟩ := u1.shape; have U1 := Lib.hid u1; clear u1)
      go_ret
      exact ⟨_, rfl, U1.out, B5.out⟩
section
variable {P : Program} {H : Type} {enc : TypeId × Value → H} {W : World} {sp : Nat → Bool} {held : Bool} {t : TypeId}
theorem leaf_cells {fuel : Nat} {cs : List Value} {x : DataW H × List MemPlace} {f0 f1 f2 : Field} (hs : P.underlying t = some (.struct #[f0, f1, f2])) (o0 : f0.offset = 0) (o1 : f1.offset = 32) (o2 : f2.offset = 64)
    (c0 : P.cellsOf f0.type = 32) (c1 : P.cellsOf f1.type = 32) (c2 : P.cellsOf f2.type = 1) (ct : P.cellsOf t = 65)
    (hl0 : ∀ (fuel : Nat) (cs : List Value) (x : DataW H × List MemPlace), DataW.trod enc P W 0 sp held fuel f0.type cs = some x → ∃ a : Lab, cs = lcells a)
    (hl : ∀ (fuel : Nat) (cs : List Value) (x : DataW H × List MemPlace), DataW.trod enc P W 0 sp held fuel f1.type cs = some x → ∃ a : Lab, cs = lcells a)
    (hi : P.underlying f2.type = some (.int .i64)) (hf : DataW.trod enc P W 0 sp held fuel t cs = some x) : ∃ a : Lf, cs = (cellsF a).toList := by
  obtain ⟨xs, m, _, _, hlen, hxl, hg⟩ := DataW.trod_struct hs hf
  rw [ct] at hlen
  have g0 := hg 0 f0 rfl
  have g1 := hg 1 f1 rfl
  have g2 := hg 2 f2 rfl
  rw [o0, c0] at g0
  rw [o1, c1] at g1
  rw [o2, c2] at g2
  have hx : xs.length = 3 := hxl
  rw [List.getElem?_eq_getElem (by omega)] at g0 g1 g2
  obtain ⟨a, e0⟩ := hl0 _ _ _ g0
  obtain ⟨s, e1⟩ := hl _ _ _ g1
  obtain ⟨k, e2, _, w2⟩ := DataW.trod_int hi g2
  refine ⟨⟨a, s, k⟩, ?_⟩
  have h := take_drop3 cs 32 32 1 hlen
  have e0 : List.take 32 cs = lcells a := e0
  rw [e0, show List.take 32 (List.drop 32 cs) = lcells s from e1, show List.take 1 (List.drop (32 + 32) cs) = [Value.int .i64 k] from e2] at h
  rw [cellsF, fcells, h]
end
section
variable {H : Type} {enc : TypeId × Value → H} {W : World} {sp : Nat → Bool} {held : Bool}
theorem leaf_in {fuel : Nat} {cs : List Value} {x : DataW H × List MemPlace} (h : DataW.trod enc Tryz.prog W 0 sp held fuel 51 cs = some x) : ∃ a : Lf, cs = (cellsF a).toList :=
  leaf_cells Tryz.underlying51 rfl rfl rfl cellsOf_lab cellsOf_lab cellsOf_int cellsOf_leaf (fun _ _ _ h => lab_in h) (fun _ _ _ h => lab_in h) Tryz.underlying3 h
theorem labl_in {fuel : Nat} {cs : List Value} {x : DataW H × List MemPlace} (h : DataW.trod enc Tryz.prog W 0 sp held fuel 27 cs = some x) : ∃ a : Lab, cs = (cellsL a).toList := by
  obtain ⟨a, rfl⟩ := lab_in h
  exact ⟨a, by rw [cellsL_eq]⟩
end
end Go.Proofs.YtmabigcolabbmaaGreatDoor
