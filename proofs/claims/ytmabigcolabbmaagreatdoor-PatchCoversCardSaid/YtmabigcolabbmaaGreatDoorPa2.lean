/- Texts that the next ones stand on: Itms, Vals, Segs, SortW. -/
import Derived.Test.YtmabigcolabbmaaGreatDoorPa1
import Derived.Laws.AppendOwn
import Derived.Maps.OwnIn
import Derived.RangeFuncWrites
import Derived.RangeFuncNested
import Derived.RangeFuncBound
import Derived.RangeFuncCalls
import Derived.RangeFuncLeaves
import Derived.Shelf.Abstract
import Derived.Shelf.RegionOpen
import Derived.WalkKit
import Derived.OwnWalkIn
import Derived.TacticsInMore
import Derived.LoopNIn
import Derived.LoopIn
import Derived.Lib.Hide
import Derived.Sort.Defs
import Derived.Sort.Lot0
import Derived.Sort.LotA
import Derived.Test.YtmabigcolabbmaaGreatDoorProg
import Derived.Shelf.SlSortCmp.KitK
namespace Go.Proofs.YtmabigcolabbmaaGreatDoor
open Go Go.RowKit

theorem foldN_put (l : List Value) : ∀ (k : Nat) (cs : List Value), k + l.length ≤ cs.length → (l.zipIdx k).foldl (fun (cs : List Value) x => cs.set x.2 x.1) cs = cs.take k ++ l ++ cs.drop (k + l.length) := by
  induction l with
  | nil => intro k cs _; simp
  | cons v l ih =>
    intro k cs h
    rw [List.zipIdx_cons, List.foldl_cons, ih (k + 1) _ (by rw [List.length_set]; simp at h; omega)]
    simp at h
    have h1 : (cs.set k v).take (k + 1) = cs.take k ++ [v] := by
      rw [List.take_succ_eq_append_getElem (by rw [List.length_set]; omega), List.getElem_set_self, List.take_set, List.set_eq_of_length_le (by rw [List.length_take]; omega)]
    have h2 : (cs.set k v).drop (k + 1 + l.length) = cs.drop (k + (v :: l).length) := by
      rw [List.drop_set_of_lt (by omega), List.length_cons]
      congr 1
      omega
    rw [h1, h2]
    simp
theorem foldN_arr (l : List (Value × Nat)) : ∀ cs : List Value, l.foldl (fun (cs : Array Value) x => cs.setIfInBounds x.2 x.1) cs.toArray = (l.foldl (fun (cs : List Value) x => cs.set x.2 x.1) cs).toArray := by
  induction l with
  | nil => intro cs; rfl
  | cons x l ih => intro cs; rw [List.foldl_cons, List.foldl_cons, List.setIfInBounds_toArray, ih]
theorem fillN_one (N : Nat) (arr c : Array Value) (h : arr.size = N) (hc : c.size = N) : Instr.fill (fun i => some (i * N, N)) arr [(0, .agg c)] = some c := by
  simp [Instr.fill, Value.cells, hc]
  refine ⟨by omega, ?_⟩
  obtain ⟨l⟩ := c
  obtain ⟨m⟩ := arr
  have hl : l.length = N := by simpa using hc
  have hm : m.length = N := by simpa using h
  have := foldN_put l 0 m (by omega)
  rw [Nat.zero_add, List.drop_eq_nil_of_le (by omega)] at this
  have e := foldN_arr (l.zipIdx 0) m
  rw [this] at e
  simp only [List.take_zero, List.nil_append, List.append_nil] at e
  refine Eq.trans ?_ e
  rw [← hl]
  simp
def listI (L : List Itm) : List Value := L.flatMap fun a => (cellsI a).toList
theorem listI_length (L : List Itm) : (listI L).length = L.length * 66 := by
  induction L with
  | nil => rfl
  | cons a L ih =>
    have h : (cellsI a).toList.length = 66 := by rw [Array.length_toList, size_cellsI]
    have e : listI (a :: L) = (cellsI a).toList ++ listI L := rfl
    rw [e, List.length_append, h, ih, List.length_cons]
    omega
theorem listI_put (L : List Itm) (a : Itm) : listI L ++ (cellsI a).toList = listI (L ++ [a]) := by simp [listI]
theorem listI_at (L : List Itm) : ∀ i, i < L.length → ((listI L).drop (i * 66)).take 66 = (cellsI (L.getD i zeroItm)).toList := by
  induction L with
  | nil => intro i h; cases h
  | cons a L ih =>
    intro i h
    have hl : (cellsI a).toList.length = 66 := by rw [Array.length_toList, size_cellsI]
    have e : listI (a :: L) = (cellsI a).toList ++ listI L := rfl
    rw [e]
    cases i with
    | zero =>
      rw [Nat.zero_mul, List.drop_zero, ← hl, List.take_left]
      rfl
    | succ i =>
      rw [show (i + 1) * 66 = (cellsI a).toList.length + i * 66 by rw [hl]; omega, ← List.drop_drop, List.drop_left]
      exact ih i (by simpa using h)
def OwnI (w : World) (B : Nat) (v : Value) (L : List Itm) : Prop := w.ownsRow B 68 66 v L.length (listI L)
theorem OwnI.below {w w' : World} {B : Nat} {v : Value} {L : List Itm} (h : OwnI w B v L) (k : Below w.heap.size w w') : OwnI w' B v L :=
  World.ownsRow.kept h (row := none) ⟨k.os, k.tape, k.output, k.size, fun j hj _ => k.block j hj⟩ (by cases hv : v.ownBlock <;> simp)
theorem OwnI.base {w : World} {B B' : Nat} {v : Value} {L : List Itm} (h : OwnI w B v L) (hB : B' ≤ B) : OwnI w B' v L := by
  refine ⟨h.1, ?_⟩
  rcases h.2 with h1 | ⟨g, cap, cur, h1, h2, h3⟩
  · exact .inl h1
  · exact .inr ⟨g, cap, cur, h1, Nat.le_trans hB h2, h3⟩
theorem OwnI.shape {w : World} {B : Nat} {v : Value} {L : List Itm} (h : OwnI w B v L) : ∃ ao cap, v = .slice ao L.length cap := by
  rcases h.2 with ⟨h1, h2⟩ | ⟨g, cap, cur, h1, _⟩
  · have : L = [] := List.eq_nil_of_length_eq_zero h2
    exact ⟨none, 0, by rw [h1, this]; rfl⟩
  · exact ⟨_, _, h1⟩
theorem ownI_nil (w : World) (B : Nat) : OwnI w B (.slice none 0 0) [] := World.ownsRow_nil _ _ _ _
theorem rowinfo_item : ∃ i : TypeInfo, Tryz.prog.info? 68 = some i ∧ i.zero = some (.agg (cellsI zeroItm)) ∧ i.size = 66 ∧ i.bytes = 80 := by
  have h : (Tryz.prog.info? 68).map (fun i => (i.zero, i.size, i.bytes)) = some (some (.agg (cellsI zeroItm)), 66, 80) := by
    rw [zeroI_cells]
    kernel_rfl
  cases hq : Tryz.prog.info? 68 with
  | none => rw [hq] at h; cases h
  | some i =>
    rw [hq] at h
    simp only [Option.map_some, Option.some.injEq, Prod.mk.injEq] at h
    exact ⟨i, rfl, h.1, h.2.1, h.2.2⟩
theorem one_of_rowI (a : Itm) : ∀ u ∈ (cellsI a).toList, u.oneCell' = true := one_icells a
/-- One is put behind a list of the call's own. -/
theorem wpList_putI {ops : Array Oper} {rest : List Oper} {o : Oper} {a : Act} {w : World} {Q : Exit → Act → World → Prop} (hgd : o.guard = none) (s x : Operand)
    (ho : o.op = .call { callee := .builtin .append, args := #[s, x], argTypes := #[22, 22] }) (B : Nat) (v : Value) (L : List Itm) (hs : a.eval s = v) (hown : OwnI w B v L)
    (t : Itm) (g c : Nat) (hx : a.eval x = .slice (some ⟨g, 0, none⟩) 1 c) (hrow : rowAt w g = some (cellsI t)) (hB : B ≤ w.heap.size) (hl : L.length ≤ 1000000)
    (h : ∀ v' w', OwnI w' B v' (L ++ [t]) → w.grownBy w' v.ownBlock → (v'.ownBlock = v.ownBlock ∨ v'.ownBlock = some w.heap.size) → wpList Tryz.prog ops Q rest (a.put o.dst v') w') : wpList Tryz.prog ops Q (o :: rest) a w := by
  obtain ⟨i0, hi, hz0, hz1, hz2⟩ := rowinfo_item
  refine wpList_append_own_at (P := Tryz.prog) w hgd s x 22 ho B 68 i0 (.agg (cellsI zeroItm)) 66 80 Tryz.underlying22 hi hz0 hz1 hz2 (by simp [Value.cells]) (by decide) v L.length (listI L) hs hown ⟨g, 0, none⟩ 1 c (cellsI t).toList hx (by rw [Array.length_toList, size_cellsI]) ?_ (one_of_rowI t) (by unfold maxLen; omega) (by omega) hB ?_
  · intro j u hu
    rw [show (⟨g, 0, none⟩ : Addr).add j = ⟨g, j, none⟩ by simp [Addr.add]; exact fun e => e.symm, cell_of_rowAt hrow]
    rwa [Array.getElem?_toList] at hu
  · intro v' w' h1 h2 _ h4
    refine h v' w' ?_ h2 h4
    show w'.ownsRow B 68 66 v' (L ++ [t]).length (listI (L ++ [t]))
    rw [List.length_append, ← listI_put]
    exact h1
theorem wpListIn_putI {F : Fence} {nF : Nat} {ops : Array Oper} {rest : List Oper} {o : Oper} {a : Act} {w : World} {Q : Exit → Act → World → Prop} (hgd : o.guard = none) (s x : Operand)
    (ho : o.op = .call { callee := .builtin .append, args := #[s, x], argTypes := #[22, 22] }) (B : Nat) (v : Value) (L : List Itm) (hs : a.eval s = v) (hown : OwnI w B v L)
    (t : Itm) (g c : Nat) (hx : a.eval x = .slice (some ⟨g, 0, none⟩) 1 c) (hrow : rowAt w g = some (cellsI t)) (hB : B ≤ w.heap.size) (hl : L.length ≤ 1000000)
    (h : ∀ v' w', OwnI w' B v' (L ++ [t]) → w.grownBy w' v.ownBlock → (v'.ownBlock = v.ownBlock ∨ v'.ownBlock = some w.heap.size) → wpListIn F nF Tryz.prog ops Q rest (a.put o.dst v') w') : wpListIn F nF Tryz.prog ops Q (o :: rest) a w := by
  obtain ⟨i0, hi, hz0, hz1, hz2⟩ := rowinfo_item
  refine wpListIn_append_own_at (P := Tryz.prog) w hgd s x 22 ho B 68 i0 (.agg (cellsI zeroItm)) 66 80 Tryz.underlying22 hi hz0 hz1 hz2 (by simp [Value.cells]) (by decide) v L.length (listI L) hs hown ⟨g, 0, none⟩ 1 c (cellsI t).toList hx (by rw [Array.length_toList, size_cellsI]) ?_ (one_of_rowI t) (by unfold maxLen; omega) (by omega) hB ?_
  · intro j u hu
    rw [show (⟨g, 0, none⟩ : Addr).add j = ⟨g, j, none⟩ by simp [Addr.add]; exact fun e => e.symm, cell_of_rowAt hrow]
    rwa [Array.getElem?_toList] at hu
  · intro v' w' h1 h2 _ h4
    refine h v' w' ?_ h2 h4
    show w'.ownsRow B 68 66 v' (L ++ [t]).length (listI (L ++ [t]))
    rw [List.length_append, ← listI_put]
    exact h1
theorem OwnI.lie {w : World} {B : Nat} {v : Value} {L : List Itm} (h : OwnI w B v L) (hL : 0 < L.length) : ∃ g cap cur, v = .slice (some ⟨g, 0, none⟩) L.length cap ∧ B ≤ g ∧ L.length ≤ cap ∧ rowAt w g = some cur ∧ L.length * 66 ≤ cur.size ∧ ∀ i, i < L.length → cur.extract (i * 66) (i * 66 + 66) = cellsI (L.getD i zeroItm) := by
  rcases h.2 with ⟨h1, h2⟩ | ⟨g, cap, cur, h1, h2, h3, h4, h5, h6, h7⟩
  · exfalso
    omega
  · have hz : L.length * 66 ≤ cur.size := by rw [h6]; exact Nat.mul_le_mul_right 66 h4
    refine ⟨g, cap, cur, h1, h2, h4, rowAt_of_heap h3, hz, fun i hi => ?_⟩
    apply Array.toList_inj.1
    rw [← listI_at L i hi, ← h7, Array.toList_extract, List.extract_eq_take_drop, List.drop_take, List.take_take]
    congr 1
    omega
/-- The block of a list of one's own. -/
theorem OwnI.block {w : World} {B : Nat} {v : Value} {L : List Itm} (h : OwnI w B v L) {g : Nat} (hg : v.ownBlock = some g) : B ≤ g ∧ g < w.heap.size ∧ ∃ cur, w.heap[g]? = some (.cells cur 68 (0, 0)) := by
  rcases h.2 with ⟨h1, h2⟩ | ⟨g', cap, cur, h1, h2, h3, _⟩
  · rw [h1] at hg
    cases hg
  · rw [h1] at hg
    cases hg
    exact ⟨h2, (Array.getElem?_eq_some_iff.1 h3).1, cur, h3⟩
theorem OwnI.keep {W W' : World} {B : Nat} {v : Value} {L : List Itm} {row : Option Nat} (h : OwnI W B v L) (hg : W.grownBy W' row) (hr : ∀ r, row = some r → ∃ o : Obj, W.heap[r]? = some o ∧ o.isCells = false) : OwnI W' B v L := by
  refine World.ownsRow.kept h hg ?_
  cases hq : v.ownBlock with
  | none => exact .inl rfl
  | some g =>
    refine .inr fun e => ?_
    obtain ⟨o, h1, h2⟩ := hr g e.symm
    obtain ⟨_, _, cur, h3⟩ := OwnI.block h hq
    rw [h3] at h1
    cases h1
    cases h2
theorem OwnI.apart {W : World} {B : Nat} {v : Value} {L : List Itm} {b : Nat} {c : Array Value} {t : TypeId} (h : OwnI W B v L) (hb : W.heap[b]? = some (.cells c t (0, 0))) (hne : t ≠ 68) : v.ownBlock ≠ some b := fun e => by
  obtain ⟨_, _, cur, h3⟩ := OwnI.block h e
  rw [hb] at h3
  cases h3
  exact hne rfl
/-- Another block may be written. -/
theorem OwnI.aside {W W' : World} {B : Nat} {v : Value} {L : List Itm} {b : Nat} (h : OwnI W B v L) (hg : W.grownBy W' (some b)) (hne : v.ownBlock ≠ some b) : OwnI W' B v L := by
  refine World.ownsRow.kept h hg ?_
  cases hq : v.ownBlock with
  | none => exact .inl rfl
  | some g => exact .inr fun e => hne (by rw [hq]; exact e)
/-- Where a list lies, in blocks below n0, be it empty. -/
def AtI (n0 : Nat) (w : World) (v : Value) (L : List Itm) : Prop := ∃ ao cap, v = .slice ao L.length cap ∧ ∀ i, i < L.length → ∃ g o cur, ao = some ⟨g, o, none⟩ ∧ g < n0 ∧ rowAt w g = some cur ∧ o + (i * 66 + 66) ≤ cur.size ∧ cur.extract (o + i * 66) (o + i * 66 + 66) = cellsI (L.getD i zeroItm)
theorem OwnI.at {w : World} {B : Nat} {v : Value} {L : List Itm} (h : OwnI w B v L) : AtI w.heap.size w v L := by
  obtain ⟨ao, cap, rfl⟩ := h.shape
  refine ⟨ao, cap, rfl, fun i hi => ?_⟩
  obtain ⟨g, cap', cur, h1, h2, _, h3, h4, h5⟩ := h.lie (by omega)
  injection h1 with h1 _ _
  refine ⟨g, 0, cur, h1, (Array.getElem?_eq_some_iff.1 (heap_of_rowAt h3).choose_spec).1, h3, by have := Nat.mul_le_mul_right 66 hi; omega, ?_⟩
  rw [Nat.zero_add]
  exact h5 i hi
theorem AtI.below {n0 n1 : Nat} {w w' : World} {v : Value} {L : List Itm} (h : AtI n0 w v L) (hn : n0 ≤ n1) (k : Below n1 w w') : AtI n1 w' v L := by
  obtain ⟨ao, cap, h1, h2⟩ := h
  refine ⟨ao, cap, h1, fun i hi => ?_⟩
  obtain ⟨g, o, cur, h3, h0, h4, h5⟩ := h2 i hi
  exact ⟨g, o, cur, h3, by omega, by rw [rowAt_below k (by omega)]; exact h4, h5⟩
theorem build_oneI (w : World) (a : Itm) : (Instr.buildSlice 22 1 #[(0, .agg (cellsI a))]).run Tryz.prog w = .ok (.slice (some ⟨w.heap.size, 0, none⟩) 1 1) (w.alloc (.cells (cellsI a) 68)) := by
  have hu : (underlying 22).run Tryz.prog w = .ok (.slice 68) w := run_underlying Tryz.underlying22 w
  have hs : (sizeOf 68).run Tryz.prog w = .ok 66 w := by kernel_rfl
  unfold Instr.buildSlice
  simp [Sem.run_bind, hu, hs, Value.cells, newRow]
  rw [fillN_one 66 _ _ (by simp) (by simp)]
  simp
def buildI (t : TypeId) (n : Nat) (p : Array (Nat × Value)) : Sem Value := Instr.buildSlice t n p
@[go_sem ↓] theorem buildI_of (n : Nat) (p : Array (Nat × Value)) : Instr.buildSlice 22 n p = buildI 22 n p := rfl
@[go_sem] theorem run_buildI (w : World) (a : Itm) : (buildI 22 1 #[(0, .agg (cellsI a))]).run Tryz.prog w = .ok (.slice (some ⟨w.heap.size, 0, none⟩) 1 1) (w.alloc (.cells (cellsI a) 68)) := build_oneI w a
def listF (L : List Lf) : List Value := L.flatMap fun a => (cellsF a).toList
theorem listF_length (L : List Lf) : (listF L).length = L.length * 65 := by
  induction L with
  | nil => rfl
  | cons a L ih =>
    have h : (cellsF a).toList.length = 65 := by rw [Array.length_toList, size_cellsF]
    have e : listF (a :: L) = (cellsF a).toList ++ listF L := rfl
    rw [e, List.length_append, h, ih, List.length_cons]
    omega
theorem listF_put (L : List Lf) (a : Lf) : listF L ++ (cellsF a).toList = listF (L ++ [a]) := by simp [listF]
theorem listF_at (L : List Lf) : ∀ i, i < L.length → ((listF L).drop (i * 65)).take 65 = (cellsF (L.getD i zeroLf)).toList := by
  induction L with
  | nil => intro i h; cases h
  | cons a L ih =>
    intro i h
    have hl : (cellsF a).toList.length = 65 := by rw [Array.length_toList, size_cellsF]
    have e : listF (a :: L) = (cellsF a).toList ++ listF L := rfl
    rw [e]
    cases i with
    | zero =>
      rw [Nat.zero_mul, List.drop_zero, ← hl, List.take_left]
      rfl
    | succ i =>
      rw [show (i + 1) * 65 = (cellsF a).toList.length + i * 65 by rw [hl]; omega, ← List.drop_drop, List.drop_left]
      exact ih i (by simpa using h)
def OwnF (w : World) (B : Nat) (v : Value) (L : List Lf) : Prop := w.ownsRow B 51 65 v L.length (listF L)
theorem OwnF.below {w w' : World} {B : Nat} {v : Value} {L : List Lf} (h : OwnF w B v L) (k : Below w.heap.size w w') : OwnF w' B v L :=
  World.ownsRow.kept h (row := none) ⟨k.os, k.tape, k.output, k.size, fun j hj _ => k.block j hj⟩ (by cases hv : v.ownBlock <;> simp)
theorem OwnF.base {w : World} {B B' : Nat} {v : Value} {L : List Lf} (h : OwnF w B v L) (hB : B' ≤ B) : OwnF w B' v L := by
  refine ⟨h.1, ?_⟩
  rcases h.2 with h1 | ⟨g, cap, cur, h1, h2, h3⟩
  · exact .inl h1
  · exact .inr ⟨g, cap, cur, h1, Nat.le_trans hB h2, h3⟩
theorem OwnF.shape {w : World} {B : Nat} {v : Value} {L : List Lf} (h : OwnF w B v L) : ∃ ao cap, v = .slice ao L.length cap := by
  rcases h.2 with ⟨h1, h2⟩ | ⟨g, cap, cur, h1, _⟩
  · have : L = [] := List.eq_nil_of_length_eq_zero h2
    exact ⟨none, 0, by rw [h1, this]; rfl⟩
  · exact ⟨_, _, h1⟩
theorem ownF_nil (w : World) (B : Nat) : OwnF w B (.slice none 0 0) [] := World.ownsRow_nil _ _ _ _
theorem rowinfo_leaf : ∃ i : TypeInfo, Tryz.prog.info? 51 = some i ∧ i.zero = some (.agg (cellsF zeroLf)) ∧ i.size = 65 ∧ i.bytes = 72 := by
  have h : (Tryz.prog.info? 51).map (fun i => (i.zero, i.size, i.bytes)) = some (some (.agg (cellsF zeroLf)), 65, 72) := by
    rw [zeroF_cells]
    kernel_rfl
  cases hq : Tryz.prog.info? 51 with
  | none => rw [hq] at h; cases h
  | some i =>
    rw [hq] at h
    simp only [Option.map_some, Option.some.injEq, Prod.mk.injEq] at h
    exact ⟨i, rfl, h.1, h.2.1, h.2.2⟩
theorem one_of_rowF (a : Lf) : ∀ u ∈ (cellsF a).toList, u.oneCell' = true := one_fcells a
/-- One is put behind a list of the call's own. -/
theorem wpList_putF {ops : Array Oper} {rest : List Oper} {o : Oper} {a : Act} {w : World} {Q : Exit → Act → World → Prop} (hgd : o.guard = none) (s x : Operand)
    (ho : o.op = .call { callee := .builtin .append, args := #[s, x], argTypes := #[38, 38] }) (B : Nat) (v : Value) (L : List Lf) (hs : a.eval s = v) (hown : OwnF w B v L)
    (t : Lf) (g c : Nat) (hx : a.eval x = .slice (some ⟨g, 0, none⟩) 1 c) (hrow : rowAt w g = some (cellsF t)) (hB : B ≤ w.heap.size) (hl : L.length ≤ 1000000)
    (h : ∀ v' w', OwnF w' B v' (L ++ [t]) → w.grownBy w' v.ownBlock → (v'.ownBlock = v.ownBlock ∨ v'.ownBlock = some w.heap.size) → wpList Tryz.prog ops Q rest (a.put o.dst v') w') : wpList Tryz.prog ops Q (o :: rest) a w := by
  obtain ⟨i0, hi, hz0, hz1, hz2⟩ := rowinfo_leaf
  refine wpList_append_own_at (P := Tryz.prog) w hgd s x 38 ho B 51 i0 (.agg (cellsF zeroLf)) 65 72 Tryz.underlying38 hi hz0 hz1 hz2 (by simp [Value.cells]) (by decide) v L.length (listF L) hs hown ⟨g, 0, none⟩ 1 c (cellsF t).toList hx (by rw [Array.length_toList, size_cellsF]) ?_ (one_of_rowF t) (by unfold maxLen; omega) (by omega) hB ?_
  · intro j u hu
    rw [show (⟨g, 0, none⟩ : Addr).add j = ⟨g, j, none⟩ by simp [Addr.add]; exact fun e => e.symm, cell_of_rowAt hrow]
    rwa [Array.getElem?_toList] at hu
  · intro v' w' h1 h2 _ h4
    refine h v' w' ?_ h2 h4
    show w'.ownsRow B 51 65 v' (L ++ [t]).length (listF (L ++ [t]))
    rw [List.length_append, ← listF_put]
    exact h1
theorem wpListIn_putF {F : Fence} {nF : Nat} {ops : Array Oper} {rest : List Oper} {o : Oper} {a : Act} {w : World} {Q : Exit → Act → World → Prop} (hgd : o.guard = none) (s x : Operand)
    (ho : o.op = .call { callee := .builtin .append, args := #[s, x], argTypes := #[38, 38] }) (B : Nat) (v : Value) (L : List Lf) (hs : a.eval s = v) (hown : OwnF w B v L)
    (t : Lf) (g c : Nat) (hx : a.eval x = .slice (some ⟨g, 0, none⟩) 1 c) (hrow : rowAt w g = some (cellsF t)) (hB : B ≤ w.heap.size) (hl : L.length ≤ 1000000)
    (h : ∀ v' w', OwnF w' B v' (L ++ [t]) → w.grownBy w' v.ownBlock → (v'.ownBlock = v.ownBlock ∨ v'.ownBlock = some w.heap.size) → wpListIn F nF Tryz.prog ops Q rest (a.put o.dst v') w') : wpListIn F nF Tryz.prog ops Q (o :: rest) a w := by
  obtain ⟨i0, hi, hz0, hz1, hz2⟩ := rowinfo_leaf
  refine wpListIn_append_own_at (P := Tryz.prog) w hgd s x 38 ho B 51 i0 (.agg (cellsF zeroLf)) 65 72 Tryz.underlying38 hi hz0 hz1 hz2 (by simp [Value.cells]) (by decide) v L.length (listF L) hs hown ⟨g, 0, none⟩ 1 c (cellsF t).toList hx (by rw [Array.length_toList, size_cellsF]) ?_ (one_of_rowF t) (by unfold maxLen; omega) (by omega) hB ?_
  · intro j u hu
    rw [show (⟨g, 0, none⟩ : Addr).add j = ⟨g, j, none⟩ by simp [Addr.add]; exact fun e => e.symm, cell_of_rowAt hrow]
    rwa [Array.getElem?_toList] at hu
  · intro v' w' h1 h2 _ h4
    refine h v' w' ?_ h2 h4
    show w'.ownsRow B 51 65 v' (L ++ [t]).length (listF (L ++ [t]))
    rw [List.length_append, ← listF_put]
    exact h1
theorem OwnF.lie {w : World} {B : Nat} {v : Value} {L : List Lf} (h : OwnF w B v L) (hL : 0 < L.length) : ∃ g cap cur, v = .slice (some ⟨g, 0, none⟩) L.length cap ∧ B ≤ g ∧ L.length ≤ cap ∧ rowAt w g = some cur ∧ L.length * 65 ≤ cur.size ∧ ∀ i, i < L.length → cur.extract (i * 65) (i * 65 + 65) = cellsF (L.getD i zeroLf) := by
  rcases h.2 with ⟨h1, h2⟩ | ⟨g, cap, cur, h1, h2, h3, h4, h5, h6, h7⟩
  · exfalso
    omega
  · have hz : L.length * 65 ≤ cur.size := by rw [h6]; exact Nat.mul_le_mul_right 65 h4
    refine ⟨g, cap, cur, h1, h2, h4, rowAt_of_heap h3, hz, fun i hi => ?_⟩
    apply Array.toList_inj.1
    rw [← listF_at L i hi, ← h7, Array.toList_extract, List.extract_eq_take_drop, List.drop_take, List.take_take]
    congr 1
    omega
/-- The block of a list of one's own. -/
theorem OwnF.block {w : World} {B : Nat} {v : Value} {L : List Lf} (h : OwnF w B v L) {g : Nat} (hg : v.ownBlock = some g) : B ≤ g ∧ g < w.heap.size ∧ ∃ cur, w.heap[g]? = some (.cells cur 51 (0, 0)) := by
  rcases h.2 with ⟨h1, h2⟩ | ⟨g', cap, cur, h1, h2, h3, _⟩
  · rw [h1] at hg
    cases hg
  · rw [h1] at hg
    cases hg
    exact ⟨h2, (Array.getElem?_eq_some_iff.1 h3).1, cur, h3⟩
theorem OwnF.keep {W W' : World} {B : Nat} {v : Value} {L : List Lf} {row : Option Nat} (h : OwnF W B v L) (hg : W.grownBy W' row) (hr : ∀ r, row = some r → ∃ o : Obj, W.heap[r]? = some o ∧ o.isCells = false) : OwnF W' B v L := by
  refine World.ownsRow.kept h hg ?_
  cases hq : v.ownBlock with
  | none => exact .inl rfl
  | some g =>
    refine .inr fun e => ?_
    obtain ⟨o, h1, h2⟩ := hr g e.symm
    obtain ⟨_, _, cur, h3⟩ := OwnF.block h hq
    rw [h3] at h1
    cases h1
    cases h2
theorem OwnF.apart {W : World} {B : Nat} {v : Value} {L : List Lf} {b : Nat} {c : Array Value} {t : TypeId} (h : OwnF W B v L) (hb : W.heap[b]? = some (.cells c t (0, 0))) (hne : t ≠ 51) : v.ownBlock ≠ some b := fun e => by
  obtain ⟨_, _, cur, h3⟩ := OwnF.block h e
  rw [hb] at h3
  cases h3
  exact hne rfl
/-- Another block may be written. -/
theorem OwnF.aside {W W' : World} {B : Nat} {v : Value} {L : List Lf} {b : Nat} (h : OwnF W B v L) (hg : W.grownBy W' (some b)) (hne : v.ownBlock ≠ some b) : OwnF W' B v L := by
  refine World.ownsRow.kept h hg ?_
  cases hq : v.ownBlock with
  | none => exact .inl rfl
  | some g => exact .inr fun e => hne (by rw [hq]; exact e)
/-- Where a list lies, in blocks below n0, be it empty. -/
def AtF (n0 : Nat) (w : World) (v : Value) (L : List Lf) : Prop := ∃ ao cap, v = .slice ao L.length cap ∧ ∀ i, i < L.length → ∃ g o cur, ao = some ⟨g, o, none⟩ ∧ g < n0 ∧ rowAt w g = some cur ∧ o + (i * 65 + 65) ≤ cur.size ∧ cur.extract (o + i * 65) (o + i * 65 + 65) = cellsF (L.getD i zeroLf)
theorem OwnF.at {w : World} {B : Nat} {v : Value} {L : List Lf} (h : OwnF w B v L) : AtF w.heap.size w v L := by
  obtain ⟨ao, cap, rfl⟩ := h.shape
  refine ⟨ao, cap, rfl, fun i hi => ?_⟩
  obtain ⟨g, cap', cur, h1, h2, _, h3, h4, h5⟩ := h.lie (by omega)
  injection h1 with h1 _ _
  refine ⟨g, 0, cur, h1, (Array.getElem?_eq_some_iff.1 (heap_of_rowAt h3).choose_spec).1, h3, by have := Nat.mul_le_mul_right 65 hi; omega, ?_⟩
  rw [Nat.zero_add]
  exact h5 i hi
theorem AtF.below {n0 n1 : Nat} {w w' : World} {v : Value} {L : List Lf} (h : AtF n0 w v L) (hn : n0 ≤ n1) (k : Below n1 w w') : AtF n1 w' v L := by
  obtain ⟨ao, cap, h1, h2⟩ := h
  refine ⟨ao, cap, h1, fun i hi => ?_⟩
  obtain ⟨g, o, cur, h3, h0, h4, h5⟩ := h2 i hi
  exact ⟨g, o, cur, h3, by omega, by rw [rowAt_below k (by omega)]; exact h4, h5⟩
theorem build_oneF (w : World) (a : Lf) : (Instr.buildSlice 38 1 #[(0, .agg (cellsF a))]).run Tryz.prog w = .ok (.slice (some ⟨w.heap.size, 0, none⟩) 1 1) (w.alloc (.cells (cellsF a) 51)) := by
  have hu : (underlying 38).run Tryz.prog w = .ok (.slice 51) w := run_underlying Tryz.underlying38 w
  have hs : (sizeOf 51).run Tryz.prog w = .ok 65 w := by kernel_rfl
  unfold Instr.buildSlice
  simp [Sem.run_bind, hu, hs, Value.cells, newRow]
  rw [fillN_one 65 _ _ (by simp) (by simp)]
  simp
def buildF (t : TypeId) (n : Nat) (p : Array (Nat × Value)) : Sem Value := Instr.buildSlice t n p
@[go_sem ↓] theorem buildF_of (n : Nat) (p : Array (Nat × Value)) : Instr.buildSlice 38 n p = buildF 38 n p := rfl
@[go_sem] theorem run_buildF (w : World) (a : Lf) : (buildF 38 1 #[(0, .agg (cellsF a))]).run Tryz.prog w = .ok (.slice (some ⟨w.heap.size, 0, none⟩) 1 1) (w.alloc (.cells (cellsF a) 51)) := build_oneF w a
def listL (L : List Lab) : List Value := L.flatMap fun a => (cellsL a).toList
theorem listL_length (L : List Lab) : (listL L).length = L.length * 32 := by
  induction L with
  | nil => rfl
  | cons a L ih =>
    have h : (cellsL a).toList.length = 32 := by rw [Array.length_toList, size_cellsL]
    have e : listL (a :: L) = (cellsL a).toList ++ listL L := rfl
    rw [e, List.length_append, h, ih, List.length_cons]
    omega
theorem listL_put (L : List Lab) (a : Lab) : listL L ++ (cellsL a).toList = listL (L ++ [a]) := by simp [listL]
theorem listL_at (L : List Lab) : ∀ i, i < L.length → ((listL L).drop (i * 32)).take 32 = (cellsL (L.getD i zeroLab)).toList := by
  induction L with
  | nil => intro i h; cases h
  | cons a L ih =>
    intro i h
    have hl : (cellsL a).toList.length = 32 := by rw [Array.length_toList, size_cellsL]
    have e : listL (a :: L) = (cellsL a).toList ++ listL L := rfl
    rw [e]
    cases i with
    | zero =>
      rw [Nat.zero_mul, List.drop_zero, ← hl, List.take_left]
      rfl
    | succ i =>
      rw [show (i + 1) * 32 = (cellsL a).toList.length + i * 32 by rw [hl]; omega, ← List.drop_drop, List.drop_left]
      exact ih i (by simpa using h)
def OwnL (w : World) (B : Nat) (v : Value) (L : List Lab) : Prop := w.ownsRow B 27 32 v L.length (listL L)
theorem OwnL.below {w w' : World} {B : Nat} {v : Value} {L : List Lab} (h : OwnL w B v L) (k : Below w.heap.size w w') : OwnL w' B v L :=
  World.ownsRow.kept h (row := none) ⟨k.os, k.tape, k.output, k.size, fun j hj _ => k.block j hj⟩ (by cases hv : v.ownBlock <;> simp)
theorem OwnL.base {w : World} {B B' : Nat} {v : Value} {L : List Lab} (h : OwnL w B v L) (hB : B' ≤ B) : OwnL w B' v L := by
  refine ⟨h.1, ?_⟩
  rcases h.2 with h1 | ⟨g, cap, cur, h1, h2, h3⟩
  · exact .inl h1
  · exact .inr ⟨g, cap, cur, h1, Nat.le_trans hB h2, h3⟩
theorem OwnL.shape {w : World} {B : Nat} {v : Value} {L : List Lab} (h : OwnL w B v L) : ∃ ao cap, v = .slice ao L.length cap := by
  rcases h.2 with ⟨h1, h2⟩ | ⟨g, cap, cur, h1, _⟩
  · have : L = [] := List.eq_nil_of_length_eq_zero h2
    exact ⟨none, 0, by rw [h1, this]; rfl⟩
  · exact ⟨_, _, h1⟩
theorem ownL_nil (w : World) (B : Nat) : OwnL w B (.slice none 0 0) [] := World.ownsRow_nil _ _ _ _
theorem rowinfo_lab : ∃ i : TypeInfo, Tryz.prog.info? 27 = some i ∧ i.zero = some (.agg (cellsL zeroLab)) ∧ i.size = 32 ∧ i.bytes = 32 := by
  have h : (Tryz.prog.info? 27).map (fun i => (i.zero, i.size, i.bytes)) = some (some (.agg (cellsL zeroLab)), 32, 32) := by
    rw [zeroL_cells]
    kernel_rfl
  cases hq : Tryz.prog.info? 27 with
  | none => rw [hq] at h; cases h
  | some i =>
    rw [hq] at h
    simp only [Option.map_some, Option.some.injEq, Prod.mk.injEq] at h
    exact ⟨i, rfl, h.1, h.2.1, h.2.2⟩
theorem one_of_rowL (a : Lab) : ∀ u ∈ (cellsL a).toList, u.oneCell' = true := one_lcells a
/-- One is put behind a list of the call's own. -/
theorem wpList_putL {ops : Array Oper} {rest : List Oper} {o : Oper} {a : Act} {w : World} {Q : Exit → Act → World → Prop} (hgd : o.guard = none) (s x : Operand)
    (ho : o.op = .call { callee := .builtin .append, args := #[s, x], argTypes := #[39, 39] }) (B : Nat) (v : Value) (L : List Lab) (hs : a.eval s = v) (hown : OwnL w B v L)
    (t : Lab) (g c : Nat) (hx : a.eval x = .slice (some ⟨g, 0, none⟩) 1 c) (hrow : rowAt w g = some (cellsL t)) (hB : B ≤ w.heap.size) (hl : L.length ≤ 1000000)
    (h : ∀ v' w', OwnL w' B v' (L ++ [t]) → w.grownBy w' v.ownBlock → (v'.ownBlock = v.ownBlock ∨ v'.ownBlock = some w.heap.size) → wpList Tryz.prog ops Q rest (a.put o.dst v') w') : wpList Tryz.prog ops Q (o :: rest) a w := by
  obtain ⟨i0, hi, hz0, hz1, hz2⟩ := rowinfo_lab
  refine wpList_append_own_at (P := Tryz.prog) w hgd s x 39 ho B 27 i0 (.agg (cellsL zeroLab)) 32 32 Tryz.underlying39 hi hz0 hz1 hz2 (by simp [Value.cells]) (by decide) v L.length (listL L) hs hown ⟨g, 0, none⟩ 1 c (cellsL t).toList hx (by rw [Array.length_toList, size_cellsL]) ?_ (one_of_rowL t) (by unfold maxLen; omega) (by omega) hB ?_
  · intro j u hu
    rw [show (⟨g, 0, none⟩ : Addr).add j = ⟨g, j, none⟩ by simp [Addr.add]; exact fun e => e.symm, cell_of_rowAt hrow]
    rwa [Array.getElem?_toList] at hu
  · intro v' w' h1 h2 _ h4
    refine h v' w' ?_ h2 h4
    show w'.ownsRow B 27 32 v' (L ++ [t]).length (listL (L ++ [t]))
    rw [List.length_append, ← listL_put]
    exact h1
theorem wpListIn_putL {F : Fence} {nF : Nat} {ops : Array Oper} {rest : List Oper} {o : Oper} {a : Act} {w : World} {Q : Exit → Act → World → Prop} (hgd : o.guard = none) (s x : Operand)
    (ho : o.op = .call { callee := .builtin .append, args := #[s, x], argTypes := #[39, 39] }) (B : Nat) (v : Value) (L : List Lab) (hs : a.eval s = v) (hown : OwnL w B v L)
    (t : Lab) (g c : Nat) (hx : a.eval x = .slice (some ⟨g, 0, none⟩) 1 c) (hrow : rowAt w g = some (cellsL t)) (hB : B ≤ w.heap.size) (hl : L.length ≤ 1000000)
    (h : ∀ v' w', OwnL w' B v' (L ++ [t]) → w.grownBy w' v.ownBlock → (v'.ownBlock = v.ownBlock ∨ v'.ownBlock = some w.heap.size) → wpListIn F nF Tryz.prog ops Q rest (a.put o.dst v') w') : wpListIn F nF Tryz.prog ops Q (o :: rest) a w := by
  obtain ⟨i0, hi, hz0, hz1, hz2⟩ := rowinfo_lab
  refine wpListIn_append_own_at (P := Tryz.prog) w hgd s x 39 ho B 27 i0 (.agg (cellsL zeroLab)) 32 32 Tryz.underlying39 hi hz0 hz1 hz2 (by simp [Value.cells]) (by decide) v L.length (listL L) hs hown ⟨g, 0, none⟩ 1 c (cellsL t).toList hx (by rw [Array.length_toList, size_cellsL]) ?_ (one_of_rowL t) (by unfold maxLen; omega) (by omega) hB ?_
  · intro j u hu
    rw [show (⟨g, 0, none⟩ : Addr).add j = ⟨g, j, none⟩ by simp [Addr.add]; exact fun e => e.symm, cell_of_rowAt hrow]
    rwa [Array.getElem?_toList] at hu
  · intro v' w' h1 h2 _ h4
    refine h v' w' ?_ h2 h4
    show w'.ownsRow B 27 32 v' (L ++ [t]).length (listL (L ++ [t]))
    rw [List.length_append, ← listL_put]
    exact h1
theorem OwnL.lie {w : World} {B : Nat} {v : Value} {L : List Lab} (h : OwnL w B v L) (hL : 0 < L.length) : ∃ g cap cur, v = .slice (some ⟨g, 0, none⟩) L.length cap ∧ B ≤ g ∧ L.length ≤ cap ∧ rowAt w g = some cur ∧ L.length * 32 ≤ cur.size ∧ ∀ i, i < L.length → cur.extract (i * 32) (i * 32 + 32) = cellsL (L.getD i zeroLab) := by
  rcases h.2 with ⟨h1, h2⟩ | ⟨g, cap, cur, h1, h2, h3, h4, h5, h6, h7⟩
  · exfalso
    omega
  · have hz : L.length * 32 ≤ cur.size := by rw [h6]; exact Nat.mul_le_mul_right 32 h4
    refine ⟨g, cap, cur, h1, h2, h4, rowAt_of_heap h3, hz, fun i hi => ?_⟩
    apply Array.toList_inj.1
    rw [← listL_at L i hi, ← h7, Array.toList_extract, List.extract_eq_take_drop, List.drop_take, List.take_take]
    congr 1
    omega
/-- The block of a list of one's own. -/
theorem OwnL.block {w : World} {B : Nat} {v : Value} {L : List Lab} (h : OwnL w B v L) {g : Nat} (hg : v.ownBlock = some g) : B ≤ g ∧ g < w.heap.size ∧ ∃ cur, w.heap[g]? = some (.cells cur 27 (0, 0)) := by
  rcases h.2 with ⟨h1, h2⟩ | ⟨g', cap, cur, h1, h2, h3, _⟩
  · rw [h1] at hg
    cases hg
  · rw [h1] at hg
    cases hg
    exact ⟨h2, (Array.getElem?_eq_some_iff.1 h3).1, cur, h3⟩
theorem OwnL.keep {W W' : World} {B : Nat} {v : Value} {L : List Lab} {row : Option Nat} (h : OwnL W B v L) (hg : W.grownBy W' row) (hr : ∀ r, row = some r → ∃ o : Obj, W.heap[r]? = some o ∧ o.isCells = false) : OwnL W' B v L := by
  refine World.ownsRow.kept h hg ?_
  cases hq : v.ownBlock with
  | none => exact .inl rfl
  | some g =>
    refine .inr fun e => ?_
    obtain ⟨o, h1, h2⟩ := hr g e.symm
    obtain ⟨_, _, cur, h3⟩ := OwnL.block h hq
    rw [h3] at h1
    cases h1
    cases h2
theorem OwnL.apart {W : World} {B : Nat} {v : Value} {L : List Lab} {b : Nat} {c : Array Value} {t : TypeId} (h : OwnL W B v L) (hb : W.heap[b]? = some (.cells c t (0, 0))) (hne : t ≠ 27) : v.ownBlock ≠ some b := fun e => by
  obtain ⟨_, _, cur, h3⟩ := OwnL.block h e
  rw [hb] at h3
  cases h3
  exact hne rfl
/-- Another block may be written. -/
theorem OwnL.aside {W W' : World} {B : Nat} {v : Value} {L : List Lab} {b : Nat} (h : OwnL W B v L) (hg : W.grownBy W' (some b)) (hne : v.ownBlock ≠ some b) : OwnL W' B v L := by
  refine World.ownsRow.kept h hg ?_
  cases hq : v.ownBlock with
  | none => exact .inl rfl
  | some g => exact .inr fun e => hne (by rw [hq]; exact e)
/-- Where a list lies, in blocks below n0, be it empty. -/
def AtL (n0 : Nat) (w : World) (v : Value) (L : List Lab) : Prop := ∃ ao cap, v = .slice ao L.length cap ∧ ∀ i, i < L.length → ∃ g o cur, ao = some ⟨g, o, none⟩ ∧ g < n0 ∧ rowAt w g = some cur ∧ o + (i * 32 + 32) ≤ cur.size ∧ cur.extract (o + i * 32) (o + i * 32 + 32) = cellsL (L.getD i zeroLab)
theorem OwnL.at {w : World} {B : Nat} {v : Value} {L : List Lab} (h : OwnL w B v L) : AtL w.heap.size w v L := by
  obtain ⟨ao, cap, rfl⟩ := h.shape
  refine ⟨ao, cap, rfl, fun i hi => ?_⟩
  obtain ⟨g, cap', cur, h1, h2, _, h3, h4, h5⟩ := h.lie (by omega)
  injection h1 with h1 _ _
  refine ⟨g, 0, cur, h1, (Array.getElem?_eq_some_iff.1 (heap_of_rowAt h3).choose_spec).1, h3, by have := Nat.mul_le_mul_right 32 hi; omega, ?_⟩
  rw [Nat.zero_add]
  exact h5 i hi
theorem AtL.below {n0 n1 : Nat} {w w' : World} {v : Value} {L : List Lab} (h : AtL n0 w v L) (hn : n0 ≤ n1) (k : Below n1 w w') : AtL n1 w' v L := by
  obtain ⟨ao, cap, h1, h2⟩ := h
  refine ⟨ao, cap, h1, fun i hi => ?_⟩
  obtain ⟨g, o, cur, h3, h0, h4, h5⟩ := h2 i hi
  exact ⟨g, o, cur, h3, by omega, by rw [rowAt_below k (by omega)]; exact h4, h5⟩
theorem build_oneL (w : World) (a : Lab) : (Instr.buildSlice 39 1 #[(0, .agg (cellsL a))]).run Tryz.prog w = .ok (.slice (some ⟨w.heap.size, 0, none⟩) 1 1) (w.alloc (.cells (cellsL a) 27)) := by
  have hu : (underlying 39).run Tryz.prog w = .ok (.slice 27) w := run_underlying Tryz.underlying39 w
  have hs : (sizeOf 27).run Tryz.prog w = .ok 32 w := by kernel_rfl
  unfold Instr.buildSlice
  simp [Sem.run_bind, hu, hs, Value.cells, newRow]
  rw [fillN_one 32 _ _ (by simp) (by simp)]
  simp
def buildL (t : TypeId) (n : Nat) (p : Array (Nat × Value)) : Sem Value := Instr.buildSlice t n p
@[go_sem ↓] theorem buildL_of (n : Nat) (p : Array (Nat × Value)) : Instr.buildSlice 39 n p = buildL 39 n p := rfl
@[go_sem] theorem run_buildL (w : World) (a : Lab) : (buildL 39 1 #[(0, .agg (cellsL a))]).run Tryz.prog w = .ok (.slice (some ⟨w.heap.size, 0, none⟩) 1 1) (w.alloc (.cells (cellsL a) 27)) := build_oneL w a
end Go.Proofs.YtmabigcolabbmaaGreatDoor
namespace Go.Proofs.YtmabigcolabbmaaGreatDoor
open Go Go.RowKit Go.Shelf
attribute [local go_sem] Oper.semAt_some

theorem take_succD {α : Type} (L : List α) (z : α) (k : Nat) (h : k < L.length) : L.take (k + 1) = L.take k ++ [L.getD k z] := by
  rw [List.take_add_one, List.getD_eq_getElem?_getD, List.getElem?_eq_getElem h]
  rfl
set_option maxRecDepth 100000 in
set_option maxHeartbeats 2000000 in
theorem vals1I_in (F : Fence) (n : Nat) (hF : F.fn 67) (hro : F.round = none) (hn : 1 ≤ n) (l Bs n0 cap : Nat) (ao : Option Addr) (L : List Itm) (hL : L.length ≤ 1000000) (J Jx : List Itm → World → Prop)
    (hY : ∀ pre x W, J pre W → pre.length < L.length → YieldAt F (n - 1) Tryz.prog l #[.agg (cellsI x)] W fun e W' =>
      (e = .returned (.bool true) ∧ J (pre ++ [x]) W' ∧ Below n0 W W') ∨ (e = .returned (.bool false) ∧ Jx (pre ++ [x]) W'))
    (W : World) (hJ : AbidesFrom W.heap.size J) (hBs : W.cell? ⟨Bs, 0, none⟩ = some (.slice ao L.length cap)) (hn0 : n0 ≤ W.heap.size) (hA : AtI n0 W (.slice ao L.length cap) L) (h0 : J [] W) :
    CallsIn F n Tryz.prog 67 #[.func (.yield l) #[] #[], .pointer (some ⟨Bs, 0, none⟩)] W fun e W' => (∃ v, e = .returned v) ∧
      ((∃ ys, ys = L ∧ J ys W') ∨ (∃ pre, pre <+: L ∧ Jx pre W')) := by
  obtain ⟨m, hm⟩ : ∃ m, L.length = m := ⟨_, rfl⟩
  have HM : Hid (L.length = m) := hm
  have hm1 : (m : Int) ≤ 1000000 := by omega
  have HA : Hid (∀ i, i < m → ∃ g o cur, ao = some ⟨g, o, none⟩ ∧ g < n0 ∧ rowAt W g = some cur ∧ o + (i * 66 + 66) ≤ cur.size ∧ cur.extract (o + i * 66) (o + i * 66 + 66) = cellsI (L.getD i zeroItm)) := by
    obtain ⟨ao', cap', h1, h2⟩ := hA
    injection h1 with e1 e2 e3
    rw [← hm, e1]
    exact h2
  rw [hm] at hBs hY
  clear hm hL hA
  refine callsIn_of_wp Tryz.func67 rfl hF ?_ hro
  simp only [Tryz.ntmps67, List.size_toArray, List.length_cons, List.length_nil, Nat.reduceAdd, Nat.reduceSub, Array.replicate_succ, Array.replicate_zero, List.push_toArray, List.append_toArray, List.nil_append, List.cons_append]
  gi_wp2
  gi_loopw [7] (fun i wr => ∃ k : Nat, k ≤ m ∧ i = .int .i64 k ∧ J (L.take k) wr ∧ Below n0 W wr) (fun i _ => m - (intOf i).toNat)
  case atStart => exact ⟨0, Nat.zero_le _, rfl, h0, Below.refl _ _⟩
  case round =>
    obtain ⟨k, hk, rfl, hJs, hnx⟩ := hrel
    by_cases hlt : k < m
    · have hlt' : (k : Int) < m := by omega
      obtain ⟨g, o, cur, rfl, hg, hr0, hsz, hex⟩ := HA.out k hlt
      have hr1 : rowAt wr g = some cur := (rowAt_below hnx hg).trans hr0
      have hsz1 : o + k * 66 + 66 ≤ cur.size := by omega
      obtain ⟨x, hx⟩ : ∃ x, L.getD k zeroItm = x := ⟨_, rfl⟩
      rw [hx] at hex
      have hJ1 : J (L.take k) (wr.alloc (.cells (cellsI x) 68)) := hJ _ _ _ none hJs (World.grownBy_alloc _ _ none) (fun r h => by cases h)
      have b1 : Below n0 wr (wr.alloc (.cells (cellsI x) 68)) := (Below.refl _ _).alloc (Nat.le_trans hn0 hnx.size) _
      obtain ⟨fn, tmps, assign, body, hy, hR⟩ := hY _ x _ hJ1 (by rw [List.length_take, HM.out]; omega)
      have HR := Lib.hid hR
      have HT : Hid (L.take k ++ [x] = L.take (k + 1)) := by
        show _ = _
        rw [← hx]
        exact (take_succD L _ k (by rw [HM.out]; exact hlt)).symm
      have HP : Hid (L.take (k + 1) <+: L) := List.take_prefix _ _
      clear hY hR hsz hJ1 hr0
      gi_wp2
      refine HR.out.mono ?_
      rintro e W3 (⟨rfl, hJ3, hk3⟩ | ⟨rfl, hJx3⟩)
      · have hJ4 : J (L.take (k + 1)) W3 := by rw [← HT.out]; exact hJ3
        have hn4 : Below n0 W W3 := (hnx.trans b1).trans hk3
        clear hJ3 hk3 HR b1 hy hr1 hex hsz1 hJs hnx
        gi_wp2
        exact ⟨⟨k + 1, hlt, by go_num, hJ4, hn4⟩, by simp [intOf]; omega⟩
      · have J3 : Jx (L.take (k + 1)) W3 := by rw [← HT.out]; exact hJx3
        clear hJx3 HR b1 hy hr1 hex hsz1 hJs hnx
        gi_wp2
        refine bodyPost_ret (results_none rfl _ _ _) rfl ?_
        exact ⟨⟨_, rfl⟩, .inr ⟨_, HP.out, J3⟩⟩
    · obtain rfl : k = m := by omega
      gi_wp2
      go_end0
      exact ⟨⟨_, rfl⟩, .inl ⟨_, by rw [← HM.out, List.take_length], hJs⟩⟩
theorem vals1I_stops (F : Fence) (n : Nat) (hF : F.fn 67) (hro : F.round = none) (hn : 1 ≤ n) (Bs n0 cap : Nat) (ao : Option Addr) (L : List Itm) (hL : L.length ≤ 1000000) (w : World) (hBs : w.cell? ⟨Bs, 0, none⟩ = some (.slice ao L.length cap)) (hb : Bs < w.heap.size) (hn0 : n0 ≤ w.heap.size) (hA : AtI n0 w (.slice ao L.length cap) L) :
    SeqStopsK F n Tryz.prog 67 #[.pointer (some ⟨Bs, 0, none⟩)] (fun x : Itm => #[.agg (cellsI x)]) (Below n0) (fun xs => xs = L) (fun pre => pre <+: L) L.length w :=
  fun l J Jx W hW hJ _ hY h0 => vals1I_in F n hF hro hn l Bs n0 cap ao L hL J Jx hY W hJ ((hW.cell (p := ⟨Bs, 0, none⟩) hb).trans hBs) (Nat.le_trans hn0 hW.size) (hA.below (Nat.le_refl _) (hW.mono hn0)) h0
set_option maxHeartbeats 1000000 in
theorem valsI_any (ao : Option Addr) (len cap : Nat) (w : World) :
    Calls Tryz.prog 40 #[.slice ao len cap] w fun e w' => e = .returned (.func (.func 67) #[] #[.pointer (some ⟨w.heap.size, 0, none⟩)]) ∧ w' = w.alloc (.cells #[.slice ao len cap] 22) := by
  go_enter Tryz.func40, Tryz.ntmps40
  go_wp2
  go_ret
  exact ⟨rfl, rfl⟩
theorem putI_done {W W2 w' : World} {n0 : Nat} {v v' : Value} {pre : List Itm} {x : Itm} (b2 : Below n0 W W2) (k2 : KeepsOthers W W2) (o2 : OwnI W2 n0 v pre) (y2 : W2.heap[n0]? = some (.cells #[v] 22 (0, 0))) (hz2 : n0 ≤ W2.heap.size) (u1 : OwnI w' n0 v' (pre ++ [x])) (u2 : W2.grownBy w' v.ownBlock) :
    w'.heap[n0]? = some (.cells #[v] 22 (0, 0)) ∧ KeepsOthers W (w'.setCell ⟨n0, 0, none⟩ v') ∧ Below n0 W (w'.setCell ⟨n0, 0, none⟩ v') ∧ (w'.setCell ⟨n0, 0, none⟩ v').heap[n0]? = some (.cells #[v'] 22 (0, 0)) ∧ OwnI (w'.setCell ⟨n0, 0, none⟩ v') n0 v' (pre ++ [x]) := by
  have np : v.ownBlock ≠ some n0 := o2.apart y2 (by decide)
  have y3 : w'.heap[n0]? = some (.cells #[v] 22 (0, 0)) := (u2.block n0 (Array.getElem?_eq_some_iff.1 y2).1 (fun e => np e.symm)).trans y2
  refine ⟨y3, (k2.trans (KeepsOthers.of_grownBy u2 fun j o e hj => ?_)).trans (KeepsOthers.setCell _ _ _), (b2.grown u2 hz2 fun k e => (o2.block e).1).setCell (p := ⟨n0, 0, none⟩) (Nat.le_refl _) _, heap_setCell_same w' n0 0 _ _ _ y3, u1.aside (grownBy_setCell' _ _ _) (u1.apart y3 (by decide))⟩
  obtain ⟨_, _, cur, h⟩ := o2.block e
  rw [h] at hj
  cases hj
  rfl
set_option maxRecDepth 100000 in
set_option maxHeartbeats 2000000 in
theorem appendI_any (Bs cap : Nat) (ao : Option Addr) (L : List Itm) (hL : L.length ≤ 1000000) (w : World) (hBs : w.cell? ⟨Bs, 0, none⟩ = some (.slice ao L.length cap)) (hb : Bs < w.heap.size) (hA : AtI w.heap.size w (.slice ao L.length cap) L) :
    Calls Tryz.prog 95 #[.slice none 0 0, .func (.func 67) #[] #[.pointer (some ⟨Bs, 0, none⟩)]] w fun e w' => ∃ v, e = .returned v ∧ OwnI w' w.heap.size v L ∧ Below w.heap.size w w' := by
  have h3 : Fence.wide.fn 95 := trivial
  have h4 : Fence.wide.fn 67 := trivial
  refine (callsIn_wide (n := 6)).1 ?_
  refine callsIn_of_wp_marks Tryz.func95 rfl h3 ?_ rfl
  simp only [Tryz.ntmps95, List.size_toArray, List.length_cons, List.length_nil, Nat.reduceAdd, Nat.reduceSub, Array.replicate_succ, Array.replicate_zero, List.push_toArray, List.append_toArray, List.nil_append, List.cons_append]
  gi_wp2
  obtain ⟨n0, hn0⟩ : ∃ n0, w.heap.size = n0 := ⟨_, rfl⟩
  obtain ⟨w1, hw1⟩ : ∃ w1, w.alloc (.cells #[.slice none 0 0] 22) = w1 := ⟨_, rfl⟩
  have x0 : w1.heap[n0]? = some (.cells #[.slice none 0 0] 22 (0, 0)) := by
    rw [← hw1, ← hn0]
    exact World.alloc_heap_new w _
  have x1 : w1.heap.size = n0 + 1 := by rw [← hw1, ← hn0, World.size_alloc]
  have a1 : Below n0 w w1 := by
    rw [← hw1, ← hn0]
    exact (Below.refl _ _).alloc (Nat.le_refl _) _
  have hBs1 := (a1.cell (p := ⟨Bs, 0, none⟩) (by rw [← hn0]; exact hb)).trans hBs
  have hA1 : AtI n0 w1 (.slice ao L.length cap) L := by
    rw [hn0] at hA
    exact hA.below (Nat.le_refl _) a1
  have hb1 : Bs < w1.heap.size := by omega
  rw [hw1, hn0]
  clear hBs hb hA hw1
  refine wpIn_rangeFunc_ownH (by rfl) (by decide) (gf := 67) (lb := #[.pointer (some ⟨Bs, 0, none⟩)]) rfl h4 (enters_of Tryz.func67 (by kernel_rfl) rfl)
    (vals1I_stops Fence.wide 5 h4 (by rfl) (by decide) Bs n0 cap ao L hL w1 hBs1 hb1 (by omega) hA1) belowK_t (belowK_b (by omega)) (Below.refl _ _) (fun _ => rfl)
    (fun pre W => (∃ v, W.heap[n0]? = some (.cells #[v] 22 (0, 0)) ∧ OwnI W n0 v pre) ∧ Below n0 w W) (fun _ _ _ => False)
    (OwnFrom.and (fun pre W W' row hs hg hr => ?ownI) (ownFrom_below (by omega) (by omega))) (fun _ _ _ _ _ hs _ _ => hs) ⟨⟨_, x0, ownI_nil _ _⟩, a1⟩
    (fun x a' W => ∃ Bx, n0 < Bx ∧ W.heap[Bx]? = some (.cells (cellsI x) 68 (0, 0)) ∧ a' = { tmps := #[.slice none 0 0, .func (.func 67) #[] #[.pointer (some ⟨Bs, 0, none⟩)], .pointer (some ⟨n0, 0, none⟩), undef, .slice none 0 0, .pointer (some ⟨Bx, 0, none⟩), .func (.func 67) #[] #[.pointer (some ⟨Bs, 0, none⟩)], .agg (cellsI x), undef, undef, undef, undef, undef], defers := [] })
    (fun x a' _ W W' row hs hg hr => ?ownA) ?assign ?body ?done ?stop
  case ownI =>
    obtain ⟨v, h1, h2⟩ := hs
    refine ⟨v, (hg.block n0 (Array.getElem?_eq_some_iff.1 h1).1 fun e => ?_).trans h1, h2.keep hg fun r e => (hr r e).2⟩
    obtain ⟨_, o, h5, h6⟩ := hr n0 e.symm
    rw [h1] at h5
    cases h5
    cases h6
  case ownA =>
    obtain ⟨Bx, h0, h1, h2⟩ := hs
    refine ⟨Bx, h0, (hg.block Bx (Array.getElem?_eq_some_iff.1 h1).1 fun e => ?_).trans h1, h2⟩
    obtain ⟨_, o, h5, h6⟩ := hr Bx e.symm
    rw [h1] at h5
    cases h5
    cases h6
  case assign =>
    rintro l pre x W K ⟨⟨v, h1, h2⟩, hB⟩ hK
    have hsz : n0 < W.heap.size := (Array.getElem?_eq_some_iff.1 h1).1
    have q1 : (W.alloc (.cells (cellsI x) 68)).heap[n0]? = some (.cells #[v] 22 (0, 0)) := (Below.heap_alloc _ _ _ hsz).trans h1
    have q2 : OwnI (W.alloc (.cells (cellsI x) 68)) n0 v pre := h2.below ((Below.refl _ _).alloc (Nat.le_refl _) _)
    have q3 : Below n0 W (W.alloc (.cells (cellsI x) 68)) := (Below.refl _ _).alloc (by omega) _
    have q4 := World.alloc_heap_new W (.cells (cellsI x) 68)
    have HK := Lib.hid hK
    clear hK
    gi_wp2
    exact HK.out _ _ ((KeepsOthers.alloc _ _).from _) q3 ⟨⟨v, q1, q2⟩, hB.trans q3⟩ ⟨W.heap.size, hsz, q4, rfl⟩
  case body =>
    rintro l pre x a' W hl ⟨r, hlr⟩ ⟨⟨v, h1, h2⟩, hB⟩ ⟨Bx, hx0, hx1, rfl⟩ hlen
    have hc : W.cell? ⟨n0, 0, none⟩ = some v := (Lib.cell_of_heap h1 0).trans rfl
    have hr := rowAt_of_heap hx1
    have hsz : n0 < W.heap.size := (Array.getElem?_eq_some_iff.1 h1).1
    have b2 : Below n0 W (W.alloc (.cells (cellsI x) 68)) := (Below.refl _ _).alloc (by omega) _
    have o2 : OwnI (W.alloc (.cells (cellsI x) 68)) n0 v pre := h2.below ((Below.refl _ _).alloc (Nat.le_refl _) _)
    have r2 : rowAt (W.alloc (.cells (cellsI x) 68)) W.heap.size = some (cellsI x) := rowAt_of_heap (World.alloc_heap_new W _)
    have hz2 : n0 ≤ (W.alloc (.cells (cellsI x) 68)).heap.size := by rw [World.size_alloc]; omega
    have k2 : KeepsOthers W (W.alloc (.cells (cellsI x) 68)) := KeepsOthers.alloc _ _
    have y2 : (W.alloc (.cells (cellsI x) 68)).heap[n0]? = some (.cells #[v] 22 (0, 0)) := (Below.heap_alloc _ _ _ hsz).trans h1
    generalize hW2 : W.alloc (.cells (cellsI x) 68) = W2 at b2 o2 r2 hz2 k2 y2
    gi_wp2_with (gi_at_builtin; refine wpListIn_putI rfl (.tmp 8) (.tmp 10) (by rfl) n0 v pre (by rfl) o2 x W.heap.size 1 (by rfl) r2 hz2 (by omega) ?_; intro v' w' u1 u2 _; obtain ⟨y3, z1, z2, z3, z4⟩ := putI_done b2 k2 o2 y2 hz2 u1 u2; obtain ⟨ao', cap', rfl⟩ := u1.shape; have c3 : w'.cell? ⟨n0, 0, none⟩ = some v := (Lib.cell_of_heap y3 0).trans rfl; have f3 := frozen_of_rowAt (rowAt_of_heap y3) 0; have e9 : (pre ++ [x]).length = pre.length + 1 := (by rw [List.length_append]; rfl); rw [e9] at z1 z2 z3 z4; clear h1 h2 hc hr b2 o2 r2 y2 k2 u2 y3 hx1 e9)
    exact ⟨z1.from _, z2, ⟨_, z3, z4⟩, hB.trans z2⟩
  case done =>
    rintro D xs W hD rfl ⟨⟨v, h1, h2⟩, hB⟩ hK
    have hc : W.cell? ⟨n0, 0, none⟩ = some v := (Lib.cell_of_heap h1 0).trans rfl
    obtain ⟨ao', cap', rfl⟩ := h2.shape
    have q := Lib.hid h2
    clear h1 h2
    gi_wp2
    refine ⟨by simp, .inl ⟨_, _, rfl, run_takeDeferred hK, ?_⟩⟩
    have q2 : Below n0 W (W.putObj D (.deferred none)) := belowK_b (w := w1) (by omega) W D _ _ (by omega) hK rfl rfl
    subst hn0
    exact ⟨_, results_tmp rfl _ _ _, _, rfl, q.out.keep (grownBy_putObj' _ D _) (fun r e => by cases e; exact ⟨_, hK, rfl⟩), hB.trans q2⟩
  case stop =>
    rintro D c pre W _ _ h _
    exact h.elim
set_option maxRecDepth 100000 in
set_option maxHeartbeats 2000000 in
theorem vals1F_in (F : Fence) (n : Nat) (hF : F.fn 100) (hro : F.round = none) (hn : 1 ≤ n) (l Bs n0 cap : Nat) (ao : Option Addr) (L : List Lf) (hL : L.length ≤ 1000000) (J Jx : List Lf → World → Prop)
    (hY : ∀ pre x W, J pre W → pre.length < L.length → YieldAt F (n - 1) Tryz.prog l #[.agg (cellsF x)] W fun e W' =>
      (e = .returned (.bool true) ∧ J (pre ++ [x]) W' ∧ Below n0 W W') ∨ (e = .returned (.bool false) ∧ Jx (pre ++ [x]) W'))
    (W : World) (hJ : AbidesFrom W.heap.size J) (hBs : W.cell? ⟨Bs, 0, none⟩ = some (.slice ao L.length cap)) (hn0 : n0 ≤ W.heap.size) (hA : AtF n0 W (.slice ao L.length cap) L) (h0 : J [] W) :
    CallsIn F n Tryz.prog 100 #[.func (.yield l) #[] #[], .pointer (some ⟨Bs, 0, none⟩)] W fun e W' => (∃ v, e = .returned v) ∧
      ((∃ ys, ys = L ∧ J ys W') ∨ (∃ pre, pre <+: L ∧ Jx pre W')) := by
  obtain ⟨m, hm⟩ : ∃ m, L.length = m := ⟨_, rfl⟩
  have HM : Hid (L.length = m) := hm
  have hm1 : (m : Int) ≤ 1000000 := by omega
  have HA : Hid (∀ i, i < m → ∃ g o cur, ao = some ⟨g, o, none⟩ ∧ g < n0 ∧ rowAt W g = some cur ∧ o + (i * 65 + 65) ≤ cur.size ∧ cur.extract (o + i * 65) (o + i * 65 + 65) = cellsF (L.getD i zeroLf)) := by
    obtain ⟨ao', cap', h1, h2⟩ := hA
    injection h1 with e1 e2 e3
    rw [← hm, e1]
    exact h2
  rw [hm] at hBs hY
  clear hm hL hA
  refine callsIn_of_wp Tryz.func100 rfl hF ?_ hro
  simp only [Tryz.ntmps100, List.size_toArray, List.length_cons, List.length_nil, Nat.reduceAdd, Nat.reduceSub, Array.replicate_succ, Array.replicate_zero, List.push_toArray, List.append_toArray, List.nil_append, List.cons_append]
  gi_wp2
  gi_loopw [7] (fun i wr => ∃ k : Nat, k ≤ m ∧ i = .int .i64 k ∧ J (L.take k) wr ∧ Below n0 W wr) (fun i _ => m - (intOf i).toNat)
  case atStart => exact ⟨0, Nat.zero_le _, rfl, h0, Below.refl _ _⟩
  case round =>
    obtain ⟨k, hk, rfl, hJs, hnx⟩ := hrel
    by_cases hlt : k < m
    · have hlt' : (k : Int) < m := by omega
      obtain ⟨g, o, cur, rfl, hg, hr0, hsz, hex⟩ := HA.out k hlt
      have hr1 : rowAt wr g = some cur := (rowAt_below hnx hg).trans hr0
      have hsz1 : o + k * 65 + 65 ≤ cur.size := by omega
      obtain ⟨x, hx⟩ : ∃ x, L.getD k zeroLf = x := ⟨_, rfl⟩
      rw [hx] at hex
      have hJ1 : J (L.take k) (wr.alloc (.cells (cellsF x) 51)) := hJ _ _ _ none hJs (World.grownBy_alloc _ _ none) (fun r h => by cases h)
      have b1 : Below n0 wr (wr.alloc (.cells (cellsF x) 51)) := (Below.refl _ _).alloc (Nat.le_trans hn0 hnx.size) _
      obtain ⟨fn, tmps, assign, body, hy, hR⟩ := hY _ x _ hJ1 (by rw [List.length_take, HM.out]; omega)
      have HR := Lib.hid hR
      have HT : Hid (L.take k ++ [x] = L.take (k + 1)) := by
        show _ = _
        rw [← hx]
        exact (take_succD L _ k (by rw [HM.out]; exact hlt)).symm
      have HP : Hid (L.take (k + 1) <+: L) := List.take_prefix _ _
      clear hY hR hsz hJ1 hr0
      gi_wp2
      refine HR.out.mono ?_
      rintro e W3 (⟨rfl, hJ3, hk3⟩ | ⟨rfl, hJx3⟩)
      · have hJ4 : J (L.take (k + 1)) W3 := by rw [← HT.out]; exact hJ3
        have hn4 : Below n0 W W3 := (hnx.trans b1).trans hk3
        clear hJ3 hk3 HR b1 hy hr1 hex hsz1 hJs hnx
        gi_wp2
        exact ⟨⟨k + 1, hlt, by go_num, hJ4, hn4⟩, by simp [intOf]; omega⟩
      · have J3 : Jx (L.take (k + 1)) W3 := by rw [← HT.out]; exact hJx3
        clear hJx3 HR b1 hy hr1 hex hsz1 hJs hnx
        gi_wp2
        refine bodyPost_ret (results_none rfl _ _ _) rfl ?_
        exact ⟨⟨_, rfl⟩, .inr ⟨_, HP.out, J3⟩⟩
    · obtain rfl : k = m := by omega
      gi_wp2
      go_end0
      exact ⟨⟨_, rfl⟩, .inl ⟨_, by rw [← HM.out, List.take_length], hJs⟩⟩
theorem vals1F_stops (F : Fence) (n : Nat) (hF : F.fn 100) (hro : F.round = none) (hn : 1 ≤ n) (Bs n0 cap : Nat) (ao : Option Addr) (L : List Lf) (hL : L.length ≤ 1000000) (w : World) (hBs : w.cell? ⟨Bs, 0, none⟩ = some (.slice ao L.length cap)) (hb : Bs < w.heap.size) (hn0 : n0 ≤ w.heap.size) (hA : AtF n0 w (.slice ao L.length cap) L) :
    SeqStopsK F n Tryz.prog 100 #[.pointer (some ⟨Bs, 0, none⟩)] (fun x : Lf => #[.agg (cellsF x)]) (Below n0) (fun xs => xs = L) (fun pre => pre <+: L) L.length w :=
  fun l J Jx W hW hJ _ hY h0 => vals1F_in F n hF hro hn l Bs n0 cap ao L hL J Jx hY W hJ ((hW.cell (p := ⟨Bs, 0, none⟩) hb).trans hBs) (Nat.le_trans hn0 hW.size) (hA.below (Nat.le_refl _) (hW.mono hn0)) h0
set_option maxHeartbeats 1000000 in
theorem valsF_any (ao : Option Addr) (len cap : Nat) (w : World) :
    Calls Tryz.prog 70 #[.slice ao len cap] w fun e w' => e = .returned (.func (.func 100) #[] #[.pointer (some ⟨w.heap.size, 0, none⟩)]) ∧ w' = w.alloc (.cells #[.slice ao len cap] 38) := by
  go_enter Tryz.func70, Tryz.ntmps70
  go_wp2
  go_ret
  exact ⟨rfl, rfl⟩
theorem putF_done {W W2 w' : World} {n0 : Nat} {v v' : Value} {pre : List Lf} {x : Lf} (b2 : Below n0 W W2) (k2 : KeepsOthers W W2) (o2 : OwnF W2 n0 v pre) (y2 : W2.heap[n0]? = some (.cells #[v] 38 (0, 0))) (hz2 : n0 ≤ W2.heap.size) (u1 : OwnF w' n0 v' (pre ++ [x])) (u2 : W2.grownBy w' v.ownBlock) :
    w'.heap[n0]? = some (.cells #[v] 38 (0, 0)) ∧ KeepsOthers W (w'.setCell ⟨n0, 0, none⟩ v') ∧ Below n0 W (w'.setCell ⟨n0, 0, none⟩ v') ∧ (w'.setCell ⟨n0, 0, none⟩ v').heap[n0]? = some (.cells #[v'] 38 (0, 0)) ∧ OwnF (w'.setCell ⟨n0, 0, none⟩ v') n0 v' (pre ++ [x]) := by
  have np : v.ownBlock ≠ some n0 := o2.apart y2 (by decide)
  have y3 : w'.heap[n0]? = some (.cells #[v] 38 (0, 0)) := (u2.block n0 (Array.getElem?_eq_some_iff.1 y2).1 (fun e => np e.symm)).trans y2
  refine ⟨y3, (k2.trans (KeepsOthers.of_grownBy u2 fun j o e hj => ?_)).trans (KeepsOthers.setCell _ _ _), (b2.grown u2 hz2 fun k e => (o2.block e).1).setCell (p := ⟨n0, 0, none⟩) (Nat.le_refl _) _, heap_setCell_same w' n0 0 _ _ _ y3, u1.aside (grownBy_setCell' _ _ _) (u1.apart y3 (by decide))⟩
  obtain ⟨_, _, cur, h⟩ := o2.block e
  rw [h] at hj
  cases hj
  rfl
set_option maxRecDepth 100000 in
set_option maxHeartbeats 2000000 in
theorem appendF_any (Bs cap : Nat) (ao : Option Addr) (L : List Lf) (hL : L.length ≤ 1000000) (w : World) (hBs : w.cell? ⟨Bs, 0, none⟩ = some (.slice ao L.length cap)) (hb : Bs < w.heap.size) (hA : AtF w.heap.size w (.slice ao L.length cap) L) :
    Calls Tryz.prog 114 #[.slice none 0 0, .func (.func 100) #[] #[.pointer (some ⟨Bs, 0, none⟩)]] w fun e w' => ∃ v, e = .returned v ∧ OwnF w' w.heap.size v L ∧ Below w.heap.size w w' := by
  have h3 : Fence.wide.fn 114 := trivial
  have h4 : Fence.wide.fn 100 := trivial
  refine (callsIn_wide (n := 6)).1 ?_
  refine callsIn_of_wp_marks Tryz.func114 rfl h3 ?_ rfl
  simp only [Tryz.ntmps114, List.size_toArray, List.length_cons, List.length_nil, Nat.reduceAdd, Nat.reduceSub, Array.replicate_succ, Array.replicate_zero, List.push_toArray, List.append_toArray, List.nil_append, List.cons_append]
  gi_wp2
  obtain ⟨n0, hn0⟩ : ∃ n0, w.heap.size = n0 := ⟨_, rfl⟩
  obtain ⟨w1, hw1⟩ : ∃ w1, w.alloc (.cells #[.slice none 0 0] 38) = w1 := ⟨_, rfl⟩
  have x0 : w1.heap[n0]? = some (.cells #[.slice none 0 0] 38 (0, 0)) := by
    rw [← hw1, ← hn0]
    exact World.alloc_heap_new w _
  have x1 : w1.heap.size = n0 + 1 := by rw [← hw1, ← hn0, World.size_alloc]
  have a1 : Below n0 w w1 := by
    rw [← hw1, ← hn0]
    exact (Below.refl _ _).alloc (Nat.le_refl _) _
  have hBs1 := (a1.cell (p := ⟨Bs, 0, none⟩) (by rw [← hn0]; exact hb)).trans hBs
  have hA1 : AtF n0 w1 (.slice ao L.length cap) L := by
    rw [hn0] at hA
    exact hA.below (Nat.le_refl _) a1
  have hb1 : Bs < w1.heap.size := by omega
  rw [hw1, hn0]
  clear hBs hb hA hw1
  refine wpIn_rangeFunc_ownH (by rfl) (by decide) (gf := 100) (lb := #[.pointer (some ⟨Bs, 0, none⟩)]) rfl h4 (enters_of Tryz.func100 (by kernel_rfl) rfl)
    (vals1F_stops Fence.wide 5 h4 (by rfl) (by decide) Bs n0 cap ao L hL w1 hBs1 hb1 (by omega) hA1) belowK_t (belowK_b (by omega)) (Below.refl _ _) (fun _ => rfl)
    (fun pre W => (∃ v, W.heap[n0]? = some (.cells #[v] 38 (0, 0)) ∧ OwnF W n0 v pre) ∧ Below n0 w W) (fun _ _ _ => False)
    (OwnFrom.and (fun pre W W' row hs hg hr => ?ownI) (ownFrom_below (by omega) (by omega))) (fun _ _ _ _ _ hs _ _ => hs) ⟨⟨_, x0, ownF_nil _ _⟩, a1⟩
    (fun x a' W => ∃ Bx, n0 < Bx ∧ W.heap[Bx]? = some (.cells (cellsF x) 51 (0, 0)) ∧ a' = { tmps := #[.slice none 0 0, .func (.func 100) #[] #[.pointer (some ⟨Bs, 0, none⟩)], .pointer (some ⟨n0, 0, none⟩), undef, .slice none 0 0, .pointer (some ⟨Bx, 0, none⟩), .func (.func 100) #[] #[.pointer (some ⟨Bs, 0, none⟩)], .agg (cellsF x), undef, undef, undef, undef, undef], defers := [] })
    (fun x a' _ W W' row hs hg hr => ?ownA) ?assign ?body ?done ?stop
  case ownI =>
    obtain ⟨v, h1, h2⟩ := hs
    refine ⟨v, (hg.block n0 (Array.getElem?_eq_some_iff.1 h1).1 fun e => ?_).trans h1, h2.keep hg fun r e => (hr r e).2⟩
    obtain ⟨_, o, h5, h6⟩ := hr n0 e.symm
    rw [h1] at h5
    cases h5
    cases h6
  case ownA =>
    obtain ⟨Bx, h0, h1, h2⟩ := hs
    refine ⟨Bx, h0, (hg.block Bx (Array.getElem?_eq_some_iff.1 h1).1 fun e => ?_).trans h1, h2⟩
    obtain ⟨_, o, h5, h6⟩ := hr Bx e.symm
    rw [h1] at h5
    cases h5
    cases h6
  case assign =>
    rintro l pre x W K ⟨⟨v, h1, h2⟩, hB⟩ hK
    have hsz : n0 < W.heap.size := (Array.getElem?_eq_some_iff.1 h1).1
    have q1 : (W.alloc (.cells (cellsF x) 51)).heap[n0]? = some (.cells #[v] 38 (0, 0)) := (Below.heap_alloc _ _ _ hsz).trans h1
    have q2 : OwnF (W.alloc (.cells (cellsF x) 51)) n0 v pre := h2.below ((Below.refl _ _).alloc (Nat.le_refl _) _)
    have q3 : Below n0 W (W.alloc (.cells (cellsF x) 51)) := (Below.refl _ _).alloc (by omega) _
    have q4 := World.alloc_heap_new W (.cells (cellsF x) 51)
    have HK := Lib.hid hK
    clear hK
    gi_wp2
    exact HK.out _ _ ((KeepsOthers.alloc _ _).from _) q3 ⟨⟨v, q1, q2⟩, hB.trans q3⟩ ⟨W.heap.size, hsz, q4, rfl⟩
  case body =>
    rintro l pre x a' W hl ⟨r, hlr⟩ ⟨⟨v, h1, h2⟩, hB⟩ ⟨Bx, hx0, hx1, rfl⟩ hlen
    have hc : W.cell? ⟨n0, 0, none⟩ = some v := (Lib.cell_of_heap h1 0).trans rfl
    have hr := rowAt_of_heap hx1
    have hsz : n0 < W.heap.size := (Array.getElem?_eq_some_iff.1 h1).1
    have b2 : Below n0 W (W.alloc (.cells (cellsF x) 51)) := (Below.refl _ _).alloc (by omega) _
    have o2 : OwnF (W.alloc (.cells (cellsF x) 51)) n0 v pre := h2.below ((Below.refl _ _).alloc (Nat.le_refl _) _)
    have r2 : rowAt (W.alloc (.cells (cellsF x) 51)) W.heap.size = some (cellsF x) := rowAt_of_heap (World.alloc_heap_new W _)
    have hz2 : n0 ≤ (W.alloc (.cells (cellsF x) 51)).heap.size := by rw [World.size_alloc]; omega
    have k2 : KeepsOthers W (W.alloc (.cells (cellsF x) 51)) := KeepsOthers.alloc _ _
    have y2 : (W.alloc (.cells (cellsF x) 51)).heap[n0]? = some (.cells #[v] 38 (0, 0)) := (Below.heap_alloc _ _ _ hsz).trans h1
    generalize hW2 : W.alloc (.cells (cellsF x) 51) = W2 at b2 o2 r2 hz2 k2 y2
    gi_wp2_with (gi_at_builtin; refine wpListIn_putF rfl (.tmp 8) (.tmp 10) (by rfl) n0 v pre (by rfl) o2 x W.heap.size 1 (by rfl) r2 hz2 (by omega) ?_; intro v' w' u1 u2 _; obtain ⟨y3, z1, z2, z3, z4⟩ := putF_done b2 k2 o2 y2 hz2 u1 u2; obtain ⟨ao', cap', rfl⟩ := u1.shape; have c3 : w'.cell? ⟨n0, 0, none⟩ = some v := (Lib.cell_of_heap y3 0).trans rfl; have f3 := frozen_of_rowAt (rowAt_of_heap y3) 0; have e9 : (pre ++ [x]).length = pre.length + 1 := (by rw [List.length_append]; rfl); rw [e9] at z1 z2 z3 z4; clear h1 h2 hc hr b2 o2 r2 y2 k2 u2 y3 hx1 e9)
    exact ⟨z1.from _, z2, ⟨_, z3, z4⟩, hB.trans z2⟩
  case done =>
    rintro D xs W hD rfl ⟨⟨v, h1, h2⟩, hB⟩ hK
    have hc : W.cell? ⟨n0, 0, none⟩ = some v := (Lib.cell_of_heap h1 0).trans rfl
    obtain ⟨ao', cap', rfl⟩ := h2.shape
    have q := Lib.hid h2
    clear h1 h2
    gi_wp2
    refine ⟨by simp, .inl ⟨_, _, rfl, run_takeDeferred hK, ?_⟩⟩
    have q2 : Below n0 W (W.putObj D (.deferred none)) := belowK_b (w := w1) (by omega) W D _ _ (by omega) hK rfl rfl
    subst hn0
    exact ⟨_, results_tmp rfl _ _ _, _, rfl, q.out.keep (grownBy_putObj' _ D _) (fun r e => by cases e; exact ⟨_, hK, rfl⟩), hB.trans q2⟩
  case stop =>
    rintro D c pre W _ _ h _
    exact h.elim
set_option maxRecDepth 100000 in
set_option maxHeartbeats 2000000 in
theorem vals1L_in (F : Fence) (n : Nat) (hF : F.fn 103) (hro : F.round = none) (hn : 1 ≤ n) (l Bs n0 cap : Nat) (ao : Option Addr) (L : List Lab) (hL : L.length ≤ 1000000) (J Jx : List Lab → World → Prop)
    (hY : ∀ pre x W, J pre W → pre.length < L.length → YieldAt F (n - 1) Tryz.prog l #[.agg (cellsL x)] W fun e W' =>
      (e = .returned (.bool true) ∧ J (pre ++ [x]) W' ∧ Below n0 W W') ∨ (e = .returned (.bool false) ∧ Jx (pre ++ [x]) W'))
    (W : World) (hJ : AbidesFrom W.heap.size J) (hBs : W.cell? ⟨Bs, 0, none⟩ = some (.slice ao L.length cap)) (hn0 : n0 ≤ W.heap.size) (hA : AtL n0 W (.slice ao L.length cap) L) (h0 : J [] W) :
    CallsIn F n Tryz.prog 103 #[.func (.yield l) #[] #[], .pointer (some ⟨Bs, 0, none⟩)] W fun e W' => (∃ v, e = .returned v) ∧
      ((∃ ys, ys = L ∧ J ys W') ∨ (∃ pre, pre <+: L ∧ Jx pre W')) := by
  obtain ⟨m, hm⟩ : ∃ m, L.length = m := ⟨_, rfl⟩
  have HM : Hid (L.length = m) := hm
  have hm1 : (m : Int) ≤ 1000000 := by omega
  have HA : Hid (∀ i, i < m → ∃ g o cur, ao = some ⟨g, o, none⟩ ∧ g < n0 ∧ rowAt W g = some cur ∧ o + (i * 32 + 32) ≤ cur.size ∧ cur.extract (o + i * 32) (o + i * 32 + 32) = cellsL (L.getD i zeroLab)) := by
    obtain ⟨ao', cap', h1, h2⟩ := hA
    injection h1 with e1 e2 e3
    rw [← hm, e1]
    exact h2
  rw [hm] at hBs hY
  clear hm hL hA
  refine callsIn_of_wp Tryz.func103 rfl hF ?_ hro
  simp only [Tryz.ntmps103, List.size_toArray, List.length_cons, List.length_nil, Nat.reduceAdd, Nat.reduceSub, Array.replicate_succ, Array.replicate_zero, List.push_toArray, List.append_toArray, List.nil_append, List.cons_append]
  gi_wp2
  gi_loopw [7] (fun i wr => ∃ k : Nat, k ≤ m ∧ i = .int .i64 k ∧ J (L.take k) wr ∧ Below n0 W wr) (fun i _ => m - (intOf i).toNat)
  case atStart => exact ⟨0, Nat.zero_le _, rfl, h0, Below.refl _ _⟩
  case round =>
    obtain ⟨k, hk, rfl, hJs, hnx⟩ := hrel
    by_cases hlt : k < m
    · have hlt' : (k : Int) < m := by omega
      obtain ⟨g, o, cur, rfl, hg, hr0, hsz, hex⟩ := HA.out k hlt
      have hr1 : rowAt wr g = some cur := (rowAt_below hnx hg).trans hr0
      have hsz1 : o + k * 32 + 32 ≤ cur.size := by omega
      obtain ⟨x, hx⟩ : ∃ x, L.getD k zeroLab = x := ⟨_, rfl⟩
      rw [hx] at hex
      have hJ1 : J (L.take k) (wr.alloc (.cells (cellsL x) 27)) := hJ _ _ _ none hJs (World.grownBy_alloc _ _ none) (fun r h => by cases h)
      have b1 : Below n0 wr (wr.alloc (.cells (cellsL x) 27)) := (Below.refl _ _).alloc (Nat.le_trans hn0 hnx.size) _
      obtain ⟨fn, tmps, assign, body, hy, hR⟩ := hY _ x _ hJ1 (by rw [List.length_take, HM.out]; omega)
      have HR := Lib.hid hR
      have HT : Hid (L.take k ++ [x] = L.take (k + 1)) := by
        show _ = _
        rw [← hx]
        exact (take_succD L _ k (by rw [HM.out]; exact hlt)).symm
      have HP : Hid (L.take (k + 1) <+: L) := List.take_prefix _ _
      clear hY hR hsz hJ1 hr0
      gi_wp2
      refine HR.out.mono ?_
      rintro e W3 (⟨rfl, hJ3, hk3⟩ | ⟨rfl, hJx3⟩)
      · have hJ4 : J (L.take (k + 1)) W3 := by rw [← HT.out]; exact hJ3
        have hn4 : Below n0 W W3 := (hnx.trans b1).trans hk3
        clear hJ3 hk3 HR b1 hy hr1 hex hsz1 hJs hnx
        gi_wp2
        exact ⟨⟨k + 1, hlt, by go_num, hJ4, hn4⟩, by simp [intOf]; omega⟩
      · have J3 : Jx (L.take (k + 1)) W3 := by rw [← HT.out]; exact hJx3
        clear hJx3 HR b1 hy hr1 hex hsz1 hJs hnx
        gi_wp2
        refine bodyPost_ret (results_none rfl _ _ _) rfl ?_
        exact ⟨⟨_, rfl⟩, .inr ⟨_, HP.out, J3⟩⟩
    · obtain rfl : k = m := by omega
      gi_wp2
      go_end0
      exact ⟨⟨_, rfl⟩, .inl ⟨_, by rw [← HM.out, List.take_length], hJs⟩⟩
theorem vals1L_stops (F : Fence) (n : Nat) (hF : F.fn 103) (hro : F.round = none) (hn : 1 ≤ n) (Bs n0 cap : Nat) (ao : Option Addr) (L : List Lab) (hL : L.length ≤ 1000000) (w : World) (hBs : w.cell? ⟨Bs, 0, none⟩ = some (.slice ao L.length cap)) (hb : Bs < w.heap.size) (hn0 : n0 ≤ w.heap.size) (hA : AtL n0 w (.slice ao L.length cap) L) :
    SeqStopsK F n Tryz.prog 103 #[.pointer (some ⟨Bs, 0, none⟩)] (fun x : Lab => #[.agg (cellsL x)]) (Below n0) (fun xs => xs = L) (fun pre => pre <+: L) L.length w :=
  fun l J Jx W hW hJ _ hY h0 => vals1L_in F n hF hro hn l Bs n0 cap ao L hL J Jx hY W hJ ((hW.cell (p := ⟨Bs, 0, none⟩) hb).trans hBs) (Nat.le_trans hn0 hW.size) (hA.below (Nat.le_refl _) (hW.mono hn0)) h0
set_option maxHeartbeats 1000000 in
theorem valsL_any (ao : Option Addr) (len cap : Nat) (w : World) :
    Calls Tryz.prog 73 #[.slice ao len cap] w fun e w' => e = .returned (.func (.func 103) #[] #[.pointer (some ⟨w.heap.size, 0, none⟩)]) ∧ w' = w.alloc (.cells #[.slice ao len cap] 39) := by
  go_enter Tryz.func73, Tryz.ntmps73
  go_wp2
  go_ret
  exact ⟨rfl, rfl⟩
theorem putL_done {W W2 w' : World} {n0 : Nat} {v v' : Value} {pre : List Lab} {x : Lab} (b2 : Below n0 W W2) (k2 : KeepsOthers W W2) (o2 : OwnL W2 n0 v pre) (y2 : W2.heap[n0]? = some (.cells #[v] 39 (0, 0))) (hz2 : n0 ≤ W2.heap.size) (u1 : OwnL w' n0 v' (pre ++ [x])) (u2 : W2.grownBy w' v.ownBlock) :
    w'.heap[n0]? = some (.cells #[v] 39 (0, 0)) ∧ KeepsOthers W (w'.setCell ⟨n0, 0, none⟩ v') ∧ Below n0 W (w'.setCell ⟨n0, 0, none⟩ v') ∧ (w'.setCell ⟨n0, 0, none⟩ v').heap[n0]? = some (.cells #[v'] 39 (0, 0)) ∧ OwnL (w'.setCell ⟨n0, 0, none⟩ v') n0 v' (pre ++ [x]) := by
  have np : v.ownBlock ≠ some n0 := o2.apart y2 (by decide)
  have y3 : w'.heap[n0]? = some (.cells #[v] 39 (0, 0)) := (u2.block n0 (Array.getElem?_eq_some_iff.1 y2).1 (fun e => np e.symm)).trans y2
  refine ⟨y3, (k2.trans (KeepsOthers.of_grownBy u2 fun j o e hj => ?_)).trans (KeepsOthers.setCell _ _ _), (b2.grown u2 hz2 fun k e => (o2.block e).1).setCell (p := ⟨n0, 0, none⟩) (Nat.le_refl _) _, heap_setCell_same w' n0 0 _ _ _ y3, u1.aside (grownBy_setCell' _ _ _) (u1.apart y3 (by decide))⟩
  obtain ⟨_, _, cur, h⟩ := o2.block e
  rw [h] at hj
  cases hj
  rfl
set_option maxRecDepth 100000 in
set_option maxHeartbeats 2000000 in
theorem appendL_any (Bs cap : Nat) (ao : Option Addr) (L : List Lab) (hL : L.length ≤ 1000000) (w : World) (hBs : w.cell? ⟨Bs, 0, none⟩ = some (.slice ao L.length cap)) (hb : Bs < w.heap.size) (hA : AtL w.heap.size w (.slice ao L.length cap) L) :
    Calls Tryz.prog 116 #[.slice none 0 0, .func (.func 103) #[] #[.pointer (some ⟨Bs, 0, none⟩)]] w fun e w' => ∃ v, e = .returned v ∧ OwnL w' w.heap.size v L ∧ Below w.heap.size w w' := by
  have h3 : Fence.wide.fn 116 := trivial
  have h4 : Fence.wide.fn 103 := trivial
  refine (callsIn_wide (n := 6)).1 ?_
  refine callsIn_of_wp_marks Tryz.func116 rfl h3 ?_ rfl
  simp only [Tryz.ntmps116, List.size_toArray, List.length_cons, List.length_nil, Nat.reduceAdd, Nat.reduceSub, Array.replicate_succ, Array.replicate_zero, List.push_toArray, List.append_toArray, List.nil_append, List.cons_append]
  gi_wp2
  obtain ⟨n0, hn0⟩ : ∃ n0, w.heap.size = n0 := ⟨_, rfl⟩
  obtain ⟨w1, hw1⟩ : ∃ w1, w.alloc (.cells #[.slice none 0 0] 39) = w1 := ⟨_, rfl⟩
  have x0 : w1.heap[n0]? = some (.cells #[.slice none 0 0] 39 (0, 0)) := by
    rw [← hw1, ← hn0]
    exact World.alloc_heap_new w _
  have x1 : w1.heap.size = n0 + 1 := by rw [← hw1, ← hn0, World.size_alloc]
  have a1 : Below n0 w w1 := by
    rw [← hw1, ← hn0]
    exact (Below.refl _ _).alloc (Nat.le_refl _) _
  have hBs1 := (a1.cell (p := ⟨Bs, 0, none⟩) (by rw [← hn0]; exact hb)).trans hBs
  have hA1 : AtL n0 w1 (.slice ao L.length cap) L := by
    rw [hn0] at hA
    exact hA.below (Nat.le_refl _) a1
  have hb1 : Bs < w1.heap.size := by omega
  rw [hw1, hn0]
  clear hBs hb hA hw1
  refine wpIn_rangeFunc_ownH (by rfl) (by decide) (gf := 103) (lb := #[.pointer (some ⟨Bs, 0, none⟩)]) rfl h4 (enters_of Tryz.func103 (by kernel_rfl) rfl)
    (vals1L_stops Fence.wide 5 h4 (by rfl) (by decide) Bs n0 cap ao L hL w1 hBs1 hb1 (by omega) hA1) belowK_t (belowK_b (by omega)) (Below.refl _ _) (fun _ => rfl)
    (fun pre W => (∃ v, W.heap[n0]? = some (.cells #[v] 39 (0, 0)) ∧ OwnL W n0 v pre) ∧ Below n0 w W) (fun _ _ _ => False)
    (OwnFrom.and (fun pre W W' row hs hg hr => ?ownI) (ownFrom_below (by omega) (by omega))) (fun _ _ _ _ _ hs _ _ => hs) ⟨⟨_, x0, ownL_nil _ _⟩, a1⟩
    (fun x a' W => ∃ Bx, n0 < Bx ∧ W.heap[Bx]? = some (.cells (cellsL x) 27 (0, 0)) ∧ a' = { tmps := #[.slice none 0 0, .func (.func 103) #[] #[.pointer (some ⟨Bs, 0, none⟩)], .pointer (some ⟨n0, 0, none⟩), undef, .slice none 0 0, .pointer (some ⟨Bx, 0, none⟩), .func (.func 103) #[] #[.pointer (some ⟨Bs, 0, none⟩)], .agg (cellsL x), undef, undef, undef, undef, undef], defers := [] })
    (fun x a' _ W W' row hs hg hr => ?ownA) ?assign ?body ?done ?stop
  case ownI =>
    obtain ⟨v, h1, h2⟩ := hs
    refine ⟨v, (hg.block n0 (Array.getElem?_eq_some_iff.1 h1).1 fun e => ?_).trans h1, h2.keep hg fun r e => (hr r e).2⟩
    obtain ⟨_, o, h5, h6⟩ := hr n0 e.symm
    rw [h1] at h5
    cases h5
    cases h6
  case ownA =>
    obtain ⟨Bx, h0, h1, h2⟩ := hs
    refine ⟨Bx, h0, (hg.block Bx (Array.getElem?_eq_some_iff.1 h1).1 fun e => ?_).trans h1, h2⟩
    obtain ⟨_, o, h5, h6⟩ := hr Bx e.symm
    rw [h1] at h5
    cases h5
    cases h6
  case assign =>
    rintro l pre x W K ⟨⟨v, h1, h2⟩, hB⟩ hK
    have hsz : n0 < W.heap.size := (Array.getElem?_eq_some_iff.1 h1).1
    have q1 : (W.alloc (.cells (cellsL x) 27)).heap[n0]? = some (.cells #[v] 39 (0, 0)) := (Below.heap_alloc _ _ _ hsz).trans h1
    have q2 : OwnL (W.alloc (.cells (cellsL x) 27)) n0 v pre := h2.below ((Below.refl _ _).alloc (Nat.le_refl _) _)
    have q3 : Below n0 W (W.alloc (.cells (cellsL x) 27)) := (Below.refl _ _).alloc (by omega) _
    have q4 := World.alloc_heap_new W (.cells (cellsL x) 27)
    have HK := Lib.hid hK
    clear hK
    gi_wp2
    exact HK.out _ _ ((KeepsOthers.alloc _ _).from _) q3 ⟨⟨v, q1, q2⟩, hB.trans q3⟩ ⟨W.heap.size, hsz, q4, rfl⟩
  case body =>
    rintro l pre x a' W hl ⟨r, hlr⟩ ⟨⟨v, h1, h2⟩, hB⟩ ⟨Bx, hx0, hx1, rfl⟩ hlen
    have hc : W.cell? ⟨n0, 0, none⟩ = some v := (Lib.cell_of_heap h1 0).trans rfl
    have hr := rowAt_of_heap hx1
    have hsz : n0 < W.heap.size := (Array.getElem?_eq_some_iff.1 h1).1
    have b2 : Below n0 W (W.alloc (.cells (cellsL x) 27)) := (Below.refl _ _).alloc (by omega) _
    have o2 : OwnL (W.alloc (.cells (cellsL x) 27)) n0 v pre := h2.below ((Below.refl _ _).alloc (Nat.le_refl _) _)
    have r2 : rowAt (W.alloc (.cells (cellsL x) 27)) W.heap.size = some (cellsL x) := rowAt_of_heap (World.alloc_heap_new W _)
    have hz2 : n0 ≤ (W.alloc (.cells (cellsL x) 27)).heap.size := by rw [World.size_alloc]; omega
    have k2 : KeepsOthers W (W.alloc (.cells (cellsL x) 27)) := KeepsOthers.alloc _ _
    have y2 : (W.alloc (.cells (cellsL x) 27)).heap[n0]? = some (.cells #[v] 39 (0, 0)) := (Below.heap_alloc _ _ _ hsz).trans h1
    generalize hW2 : W.alloc (.cells (cellsL x) 27) = W2 at b2 o2 r2 hz2 k2 y2
    gi_wp2_with (gi_at_builtin; refine wpListIn_putL rfl (.tmp 8) (.tmp 10) (by rfl) n0 v pre (by rfl) o2 x W.heap.size 1 (by rfl) r2 hz2 (by omega) ?_; intro v' w' u1 u2 _; obtain ⟨y3, z1, z2, z3, z4⟩ := putL_done b2 k2 o2 y2 hz2 u1 u2; obtain ⟨ao', cap', rfl⟩ := u1.shape; have c3 : w'.cell? ⟨n0, 0, none⟩ = some v := (Lib.cell_of_heap y3 0).trans rfl; have f3 := frozen_of_rowAt (rowAt_of_heap y3) 0; have e9 : (pre ++ [x]).length = pre.length + 1 := (by rw [List.length_append]; rfl); rw [e9] at z1 z2 z3 z4; clear h1 h2 hc hr b2 o2 r2 y2 k2 u2 y3 hx1 e9)
    exact ⟨z1.from _, z2, ⟨_, z3, z4⟩, hB.trans z2⟩
  case done =>
    rintro D xs W hD rfl ⟨⟨v, h1, h2⟩, hB⟩ hK
    have hc : W.cell? ⟨n0, 0, none⟩ = some v := (Lib.cell_of_heap h1 0).trans rfl
    obtain ⟨ao', cap', rfl⟩ := h2.shape
    have q := Lib.hid h2
    clear h1 h2
    gi_wp2
    refine ⟨by simp, .inl ⟨_, _, rfl, run_takeDeferred hK, ?_⟩⟩
    have q2 : Below n0 W (W.putObj D (.deferred none)) := belowK_b (w := w1) (by omega) W D _ _ (by omega) hK rfl rfl
    subst hn0
    exact ⟨_, results_tmp rfl _ _ _, _, rfl, q.out.keep (grownBy_putObj' _ D _) (fun r e => by cases e; exact ⟨_, hK, rfl⟩), hB.trans q2⟩
  case stop =>
    rintro D c pre W _ _ h _
    exact h.elim
end Go.Proofs.YtmabigcolabbmaaGreatDoor
namespace Go.Proofs.YtmabigcolabbmaaGreatDoor
open Go.Sort

section
variable {α : Type} [Inhabited α]
/-- Each place of d' has what place σ of d has. -/
structure Via (σ : Nat → Nat) (d d' : Array α) : Prop where
  size : d'.size = d.size
  get : ∀ t, t < d.size → d'[t]! = d[σ t]!
theorem Via.refl (d : Array α) : Via id d d := ⟨rfl, fun _ _ => rfl⟩
theorem Via.congr {σ τ : Nat → Nat} {d d' : Array α} (h : Via σ d d') (e : ∀ t, t < d.size → σ t = τ t) : Via τ d d' := ⟨h.size, fun t ht => by rw [h.get t ht, e t ht]⟩
theorem Via.trans {σ τ : Nat → Nat} {d d1 d2 : Array α} (h : Via σ d d1) (k : Via τ d1 d2) (hτ : ∀ t, t < d.size → τ t < d.size) : Via (fun t => σ (τ t)) d d2 :=
  ⟨k.size.trans h.size, fun t ht => by rw [k.get t (by rw [h.size]; exact ht), h.get (τ t) (hτ t ht)]⟩
def oneσ (i j t : Nat) : Nat := if t = j then i else if t = i then j else t
theorem via_swp (d : Array α) {i j : Nat} (hi : i < d.size) (hj : j < d.size) : Via (oneσ i j) d (swp d i j) := by
  refine ⟨size_swp d i j, fun t _ => ?_⟩
  rw [swp_get d hi hj]
  unfold oneσ
  split
  · rfl
  · split <;> rfl
/-- n places from a on and n from b on, one for the other. -/
def swσ (a b n t : Nat) : Nat := if a ≤ t ∧ t < a + n then t - a + b else if b ≤ t ∧ t < b + n then t - b + a else t
/-- What stands from a to m goes behind what stands from m to b. -/
def rotσ (a m b t : Nat) : Nat := if a ≤ t ∧ t < a + (b - m) then t + (m - a) else if a + (b - m) ≤ t ∧ t < b then t - (b - m) else t
theorem swσ_zero (a b t : Nat) : swσ a b 0 t = t := by unfold swσ; rw [if_neg (by omega), if_neg (by omega)]
theorem sw_step {a b i t : Nat} (h : a + i < b) : swσ a b i (oneσ (a + i) (b + i) t) = swσ a b (i + 1) t := by
  unfold swσ oneσ
  repeat' split
  all_goals omega
theorem sw_lt {a b n t s : Nat} (h : a + n ≤ b) (hb : b + n ≤ s) (ht : t < s) : swσ a b n t < s := by
  unfold swσ
  repeat' split
  all_goals omega
theorem rot_lt {a m b t s : Nat} (h : a ≤ m) (hm : m ≤ b) (hb : b ≤ s) (ht : t < s) : rotσ a m b t < s := by
  unfold rotσ
  repeat' split
  all_goals omega
theorem one_lt {i j t s : Nat} (hi : i < s) (hj : j < s) (ht : t < s) : oneσ i j t < s := by
  unfold oneσ
  repeat' split
  all_goals omega
/-- More on the left. -/
theorem rot_left {m i j t : Nat} (hi : i ≤ m) (hj : 0 < j) (h : j < i) : swσ (m - i) m j (rotσ (m - (i - j)) m (m + j) t) = rotσ (m - i) m (m + j) t := by
  unfold swσ rotσ
  repeat' split
  all_goals omega
/-- More on the right. -/
theorem rot_right {m i j t : Nat} (hi : i ≤ m) (h0 : 0 < i) (h : i < j) : swσ (m - i) (m + j - i) i (rotσ (m - i) m (m + (j - i)) t) = rotσ (m - i) m (m + j) t := by
  unfold swσ rotσ
  repeat' split
  all_goals omega
theorem rot_even {m i t : Nat} (hi : i ≤ m) : swσ (m - i) m i t = rotσ (m - i) m (m + i) t := by
  unfold swσ rotσ
  repeat' split
  all_goals omega
/-- The first one goes on by one. -/
theorem rot_up {a k t : Nat} (h : a ≤ k) : rotσ a (a + 1) (k + 1) (oneσ k (k + 1) t) = rotσ a (a + 1) (k + 2) t := by
  unfold oneσ rotσ
  repeat' split
  all_goals omega
theorem rot_none {a t : Nat} : rotσ a (a + 1) (a + 1) t = t := by
  unfold rotσ
  repeat' split
  all_goals omega
/-- The last one goes back by one. -/
theorem rot_down {k m t : Nat} (h : 0 < k) (hm : k ≤ m) : rotσ k m (m + 1) (oneσ k (k - 1) t) = rotσ (k - 1) m (m + 1) t := by
  unfold oneσ rotσ
  repeat' split
  all_goals omega
theorem rot_none' {m t : Nat} : rotσ m m (m + 1) t = t := by
  unfold rotσ
  repeat' split
  all_goals omega

/-- n elements from a on. -/
def seg (d : Array α) (a n : Nat) : List α := (List.range n).map fun i => d[a + i]!
theorem seg_length (d : Array α) (a n : Nat) : (seg d a n).length = n := by simp [seg]
theorem seg_get (d : Array α) (a n : Nat) {i : Nat} (h : i < n) : (seg d a n)[i]? = some d[a + i]! := by simp [seg, h]
theorem seg_some {d : Array α} {a n i : Nat} {x : α} (h : (seg d a n)[i]? = some x) : i < n ∧ x = d[a + i]! := by
  have hi : i < n := by
    have := (List.getElem?_eq_some_iff.1 h).1
    rwa [seg_length] at this
  rw [seg_get d a n hi] at h
  exact ⟨hi, (Option.some.inj h).symm⟩
theorem seg_congr {d d' : Array α} {a a' n : Nat} (h : ∀ i, i < n → d'[a' + i]! = d[a + i]!) : seg d' a' n = seg d a n := by
  unfold seg
  refine List.map_congr_left fun i hi => ?_
  exact h i (by simpa using hi)
theorem seg_add (d : Array α) (a n m : Nat) : seg d a (n + m) = seg d a n ++ seg d (a + n) m := by
  apply List.ext_getElem?
  intro i
  by_cases h1 : i < n
  · rw [seg_get _ _ _ (by omega), List.getElem?_append_left (by rw [seg_length]; exact h1), seg_get _ _ _ h1]
  · rw [List.getElem?_append_right (by rw [seg_length]; omega), seg_length]
    by_cases h2 : i < n + m
    · rw [seg_get _ _ _ h2, seg_get _ _ _ (by omega), Nat.add_assoc, show n + (i - n) = i by omega]
    · rw [List.getElem?_eq_none (by rw [seg_length]; omega), List.getElem?_eq_none (by rw [seg_length]; omega)]
theorem seg_one (d : Array α) (a : Nat) : seg d a 1 = [d[a]!] := by simp [seg]
theorem seg_zero (d : Array α) (a : Nat) : seg d a 0 = [] := by simp [seg]
theorem seg_take (d : Array α) (a n i : Nat) (h : i ≤ n) : (seg d a n).take i = seg d a i := by
  obtain ⟨m, rfl⟩ : ∃ m, n = i + m := ⟨n - i, by omega⟩
  rw [seg_add, List.take_append_of_le_length (by rw [seg_length]; exact Nat.le_refl _), List.take_of_length_le (by rw [seg_length]; exact Nat.le_refl _)]
theorem seg_drop (d : Array α) (a n i : Nat) (h : i ≤ n) : (seg d a n).drop i = seg d (a + i) (n - i) := by
  obtain ⟨m, rfl⟩ : ∃ m, n = i + m := ⟨n - i, by omega⟩
  rw [seg_add, List.drop_append_of_le_length (by rw [seg_length]; exact Nat.le_refl _), List.drop_eq_nil_of_le (by rw [seg_length]; exact Nat.le_refl _), List.nil_append, show i + m - i = m by omega]
theorem seg_all (d : Array α) : seg d 0 d.size = d.toList := by
  apply List.ext_getElem?
  intro i
  by_cases h : i < d.size
  · rw [seg_get _ _ _ h]
    simp [h]
  · rw [List.getElem?_eq_none (by rw [seg_length]; omega), List.getElem?_eq_none (by simpa using h)]
/-- What a turning leaves where. -/
theorem Via.rot {a m b : Nat} {d d' : Array α} (h : Via (rotσ a m b) d d') (ha : a ≤ m) (hm : m ≤ b) (hb : b ≤ d.size) :
    seg d' a (b - m) = seg d m (b - m) ∧ seg d' (a + (b - m)) (m - a) = seg d a (m - a) ∧ ∀ t, t < d.size → (t < a ∨ b ≤ t) → d'[t]! = d[t]! := by
  refine ⟨seg_congr fun i hi => ?_, seg_congr fun i hi => ?_, fun t ht hc => ?_⟩
  · rw [h.get _ (by omega)]
    congr 1
    unfold rotσ
    repeat' split
    all_goals omega
  · rw [h.get _ (by omega)]
    congr 1
    unfold rotσ
    repeat' split
    all_goals omega
  · rw [h.get _ ht]
    congr 1
    unfold rotσ
    repeat' split
    all_goals omega

variable {lt : α → α → Bool}
/-- Two neighbours' parts are merged, the rest is as it was. -/
structure Merged (lt : α → α → Bool) (a m b : Nat) (d d' : Array α) : Prop where
  size : d'.size = d.size
  out : ∀ t, t < d.size → (t < a ∨ b ≤ t) → d'[t]! = d[t]!
  part : seg d' a (b - a) = mergeL lt (seg d a (m - a)) (seg d m (b - m))
/-- One ahead of a list. -/
theorem merged_one (hw : Weak lt) {a b i : Nat} {d d' : Array α} (h : Via (rotσ a (a + 1) i) d d') (h1 : a + 1 ≤ i) (h2 : i ≤ b) (hb : b ≤ d.size) (hs : NoInv lt (seg d (a + 1) (b - (a + 1))))
    (hA : i = a + 1 ∨ lt d[i - 1]! d[a]! = true) (hB : i = b ∨ lt d[i]! d[a]! = false) : Merged lt a (a + 1) b d d' := by
  obtain ⟨r1, r2, r3⟩ := h.rot (by omega) h1 (by omega)
  refine ⟨h.size, fun t ht hc => ?_, ?_⟩
  · by_cases e : t < i
    · exact r3 t ht (by omega)
    · exact r3 t ht (by omega)
  · rw [show a + 1 - a = 1 by omega, seg_one, mergeL_first]
    have hc : i - (a + 1) ≤ (seg d (a + 1) (b - (a + 1))).length := by rw [seg_length]; omega
    obtain ⟨t1, t2⟩ := takeWhile_at (p := fun y => lt y d[a]!) hc (fun t x ht hx => by
      obtain ⟨k1, rfl⟩ := seg_some hx
      rcases hA with hA | hA
      · omega
      · have hlast : (seg d (a + 1) (b - (a + 1)))[i - 1 - (a + 1)]? = some d[i - 1]! := by
          rw [seg_get _ _ _ (by omega), show a + 1 + (i - 1 - (a + 1)) = i - 1 by omega]
        have := hs.at_le hw (i := t) (j := i - 1 - (a + 1)) (by omega) hx hlast
        exact hw.lt_of' this hA) (fun x hx => by
      obtain ⟨k1, rfl⟩ := seg_some hx
      rcases hB with hB | hB
      · omega
      · rw [show a + 1 + (i - (a + 1)) = i by omega]; exact hB)
    rw [t1, t2, seg_take _ _ _ _ (by omega), seg_drop _ _ _ _ (by omega), show a + 1 + (i - (a + 1)) = i by omega]
    have e : b - a = (i - (a + 1)) + (1 + (b - i)) := by omega
    have r2' : seg d' (a + (i - (a + 1))) 1 = [d[a]!] := by
      rw [show a + 1 - a = 1 by omega] at r2
      rw [r2, seg_one]
    rw [e, seg_add, seg_add, r1, r2', show b - (a + 1) - (i - (a + 1)) = b - i by omega]
    show seg d (a + 1) (i - (a + 1)) ++ ([d[a]!] ++ _) = seg d (a + 1) (i - (a + 1)) ++ d[a]! :: seg d i (b - i)
    have r4 : seg d' (a + (i - (a + 1)) + 1) (b - i) = seg d i (b - i) := seg_congr fun k hk => by
      rw [show a + (i - (a + 1)) + 1 + k = i + k by omega]
      exact r3 (i + k) (by omega) (by omega)
    rw [r4]
    rfl
/-- One behind a list. -/
theorem merged_last (hw : Weak lt) {a m i : Nat} {d d' : Array α} (h : Via (rotσ i m (m + 1)) d d') (h1 : a ≤ i) (h2 : i ≤ m) (hb : m + 1 ≤ d.size) (hs : NoInv lt (seg d a (m - a)))
    (hA : i = a ∨ lt d[m]! d[i - 1]! = false) (hB : i = m ∨ lt d[m]! d[i]! = true) : Merged lt a m (m + 1) d d' := by
  obtain ⟨r1, r2, r3⟩ := h.rot h2 (by omega) hb
  refine ⟨h.size, fun t ht hc => r3 t ht (by omega), ?_⟩
  rw [show m + 1 - m = 1 by omega] at r1 r2 ⊢
  rw [seg_one d m] at r1 ⊢
  rw [mergeL_one hw _ _ hs, insL_part]
  have hc : i - a ≤ (seg d a (m - a)).length := by rw [seg_length]; omega
  obtain ⟨t1, t2⟩ := takeWhile_at (p := fun y => !lt d[m]! y) hc (fun t x ht hx => by
    obtain ⟨k1, rfl⟩ := seg_some hx
    rcases hA with hA | hA
    · omega
    · have hlast : (seg d a (m - a))[i - 1 - a]? = some d[i - 1]! := by rw [seg_get _ _ _ (by omega), show a + (i - 1 - a) = i - 1 by omega]
      have := hs.at_le hw (i := t) (j := i - 1 - a) (by omega) hx hlast
      have := hw.ntr _ _ _ hA this
      rw [this]; rfl) (fun x hx => by
    obtain ⟨k1, rfl⟩ := seg_some hx
    rcases hB with hB | hB
    · omega
    · rw [show a + (i - a) = i by omega, hB]; rfl)
  rw [t1, t2, seg_take _ _ _ _ (by omega), seg_drop _ _ _ _ (by omega), show a + (i - a) = i by omega, show m - a - (i - a) = m - i by omega]
  have e : m + 1 - a = (i - a) + (1 + (m - i)) := by omega
  rw [e, seg_add, seg_add, show a + (i - a) = i by omega, r1, r2]
  show _ ++ ([d[m]!] ++ _) = _ ++ d[m]! :: _
  congr 1
  exact seg_congr fun k hk => r3 (a + k) (by omega) (by omega)
/-- A merging that is parted in two behind a turning. -/
theorem merged_parts (hw : Weak lt) {a m b s e : Nat} {d d1 d2 d3 : Array α} (ha : a ≤ s) (hs : s ≤ m) (hm : m ≤ e) (he : e ≤ b) (hb : b ≤ d.size) (hx : NoInv lt (seg d a (m - a))) (hy : NoInv lt (seg d m (b - m)))
    (hA : s = a ∨ e = b ∨ lt d[e]! d[s - 1]! = false) (hB : s = m ∨ e = m ∨ lt d[e - 1]! d[s]! = true)
    (h1 : Via (rotσ s m e) d d1) (h2 : Merged lt a s (s + (e - m)) d1 d2) (h3 : Merged lt (s + (e - m)) e b d2 d3) : Merged lt a m b d d3 := by
  obtain ⟨r1, r2, r3⟩ := h1.rot hs hm (by omega)
  have z1 := h1.size
  have z2 := h2.size
  have z3 := h3.size
  refine ⟨by omega, fun t ht hc => ?_, ?_⟩
  · rw [h3.out t (by omega) (by omega), h2.out t (by omega) (by omega), r3 t ht (by omega)]
  · have ecut := mergeL_cut hw hx hy (i := s - a) (j := e - m) (by rw [seg_length]; omega) (by rw [seg_length]; omega) (fun x y h0 hxx hyy => by
      obtain ⟨k1, rfl⟩ := seg_some hxx
      obtain ⟨k2, rfl⟩ := seg_some hyy
      rw [show a + (s - a - 1) = s - 1 by omega, show m + (e - m) = e by omega]
      rcases hA with h | h | h
      · omega
      · omega
      · exact h) (fun x y h0 hxx hyy => by
      obtain ⟨k1, rfl⟩ := seg_some hxx
      obtain ⟨k2, rfl⟩ := seg_some hyy
      rw [show a + (s - a) = s by omega, show m + (e - m - 1) = e - 1 by omega]
      rcases hB with h | h | h
      · omega
      · omega
      · exact h)
    rw [ecut, seg_take _ _ _ _ (by omega), seg_take _ _ _ _ (by omega), seg_drop _ _ _ _ (by omega), seg_drop _ _ _ _ (by omega), show a + (s - a) = s by omega, show m + (e - m) = e by omega, show m - a - (s - a) = m - s by omega, show b - m - (e - m) = b - e by omega]
    have p1 : seg d1 a (s - a) = seg d a (s - a) := seg_congr fun k hk => r3 (a + k) (by omega) (by omega)
    have p2 : seg d1 s (s + (e - m) - s) = seg d m (e - m) := by rw [show s + (e - m) - s = e - m by omega]; exact r1
    have q1 := h2.part
    rw [p1, p2] at q1
    have p3 : seg d2 (s + (e - m)) (e - (s + (e - m))) = seg d s (m - s) := by
      rw [show e - (s + (e - m)) = m - s by omega, ← r2]
      exact seg_congr fun k hk => h2.out _ (by omega) (by omega)
    have p4 : seg d2 e (b - e) = seg d e (b - e) := seg_congr fun k hk => by rw [h2.out _ (by omega) (by omega), r3 _ (by omega) (by omega)]
    have q2 := h3.part
    rw [p3, p4] at q2
    rw [← q1, ← q2]
    have p5 : seg d3 a (s + (e - m) - a) = seg d2 a (s + (e - m) - a) := seg_congr fun k hk => h3.out _ (by omega) (by omega)
    rw [← p5, show b - a = (s + (e - m) - a) + (b - (s + (e - m))) by omega, seg_add, show a + (s + (e - m) - a) = s + (e - m) by omega]
theorem merged_skip {a b : Nat} {d : Array α} : Merged lt a a b d d := ⟨rfl, fun _ _ _ => rfl, by rw [Nat.sub_self, seg_zero, mergeL_nil']⟩
theorem merged_skip' {a b : Nat} {d : Array α} : Merged lt a b b d d := ⟨rfl, fun _ _ _ => rfl, by rw [Nat.sub_self, seg_zero, mergeL_nil]⟩
theorem Merged.sorted (hw : Weak lt) {a m b : Nat} {d d' : Array α} (h : Merged lt a m b d d') (hx : NoInv lt (seg d a (m - a))) (hy : NoInv lt (seg d m (b - m))) : NoInv lt (seg d' a (b - a)) := by
  rw [h.part]
  exact mergeL_sorted hw _ _ hx hy

/-! ### insertion -/
theorem insInner_is (hw : Weak lt) {a : Nat} : ∀ (j : Nat) (d : Array α), a ≤ j → j < d.size → NoInv lt (seg d a (j - a)) →
    (insInner lt a j d).size = d.size ∧ (∀ t, t < d.size → (t < a ∨ j < t) → (insInner lt a j d)[t]! = d[t]!) ∧ seg (insInner lt a j d) a (j + 1 - a) = insL lt d[j]! (seg d a (j - a))
  | 0, d, h, hd, _ => by
    obtain rfl : a = 0 := by omega
    refine ⟨rfl, fun _ _ _ => rfl, ?_⟩
    show seg d 0 1 = insL lt d[0]! (seg d 0 0)
    rw [seg_one, seg_zero]
    rfl
  | j + 1, d, h, hd, hs => by
    by_cases hj : a = j + 1
    · have e : insInner lt a (j + 1) d = d := by
        rw [insInner, if_neg (by simp; omega)]
      rw [e]
      refine ⟨rfl, fun _ _ _ => rfl, ?_⟩
      rw [hj, show j + 1 + 1 - (j + 1) = 1 by omega, Nat.sub_self, seg_one, seg_zero]
      rfl
    · have hlen : j + 1 - a = (j - a) + 1 := by omega
      have hsp : seg d a (j + 1 - a) = seg d a (j - a) ++ [d[j]!] := by rw [hlen, seg_add, seg_one, show a + (j - a) = j by omega]
      by_cases hlt : lt d[j + 1]! d[j]! = true
      · have e : insInner lt a (j + 1) d = insInner lt a j (swp d (j + 1) j) := by
          rw [insInner, if_pos (by simp; exact ⟨by omega, hlt⟩)]
        have hsw := via_swp d (i := j + 1) (j := j) hd (by omega)
        have g1 : ∀ t, t < d.size → t ≠ j → t ≠ j + 1 → (swp d (j + 1) j)[t]! = d[t]! := fun t ht h1 h2 => by
          rw [hsw.get t ht]; unfold oneσ; rw [if_neg h1, if_neg h2]
        have g2 : (swp d (j + 1) j)[j]! = d[j + 1]! := by rw [hsw.get j (by omega)]; unfold oneσ; rw [if_pos rfl]
        have g3 : (swp d (j + 1) j)[j + 1]! = d[j]! := by rw [hsw.get (j + 1) hd]; unfold oneσ; rw [if_neg (by omega), if_pos rfl]
        have hpre : seg (swp d (j + 1) j) a (j - a) = seg d a (j - a) := seg_congr fun i hi => g1 (a + i) (by omega) (by omega) (by omega)
        have hs2 : NoInv lt (seg d a (j - a)) := by rw [hsp] at hs; exact (List.pairwise_append.1 hs).1
        obtain ⟨i1, i2, i3⟩ := insInner_is hw (a := a) j (swp d (j + 1) j) (by omega) (by rw [hsw.size]; omega) (by rw [hpre]; exact hs2)
        rw [e]
        rw [hsw.size] at i1 i2
        refine ⟨i1, fun t ht hc => ?_, ?_⟩
        · rw [i2 t ht (by omega), g1 t ht (by omega) (by omega)]
        · rw [hpre, g2] at i3
          rw [show j + 1 + 1 - a = (j + 1 - a) + 1 by omega, seg_add, i3, seg_one, show a + (j + 1 - a) = j + 1 by omega, i2 (j + 1) hd (.inr (by omega)), g3, hsp]
          -- the one that is above goes behind
          have : ∀ (l : List α), (∀ y ∈ l, lt d[j]! y = false) → insL lt d[j + 1]! l ++ [d[j]!] = insL lt d[j + 1]! (l ++ [d[j]!]) := by
            intro l
            induction l with
            | nil => intro _; simp [insL, hlt]
            | cons y l ih =>
              intro hy
              rw [List.cons_append]
              unfold insL
              split
              · rfl
              · rw [List.cons_append, ih (fun z hz => hy z (by simp [hz]))]
          refine this _ fun y hy => ?_
          rw [hsp] at hs
          exact (List.pairwise_append.1 hs).2.2 y hy d[j]! (by simp)
      · have hlt' : lt d[j + 1]! d[j]! = false := by simpa using hlt
        have e : insInner lt a (j + 1) d = d := by
          rw [insInner, if_neg (by simp [hlt'])]
        rw [e]
        refine ⟨rfl, fun _ _ _ => rfl, ?_⟩
        rw [show j + 1 + 1 - a = (j + 1 - a) + 1 by omega, seg_add, seg_one, show a + (j + 1 - a) = j + 1 by omega]
        rw [insL_part]
        have hall : ∀ y ∈ seg d a (j + 1 - a), lt d[j + 1]! y = false := by
          intro y hy
          rw [hsp] at hy hs
          rcases List.mem_append.1 hy with h1 | h1
          · exact hw.ntr _ _ _ hlt' ((List.pairwise_append.1 hs).2.2 y h1 d[j]! (by simp))
          · rw [List.mem_singleton.1 h1]; exact hlt'
        obtain ⟨t1, t2⟩ := takeWhile_at (p := fun y => !lt d[j + 1]! y) (l := seg d a (j + 1 - a)) (c := j + 1 - a) (by rw [seg_length]; exact Nat.le_refl _) (fun t x ht hx => by
          rw [hall x (List.mem_of_getElem? hx)]; rfl) (fun x hx => by have := (seg_some hx).1; omega)
        rw [t1, t2, List.take_of_length_le (by rw [seg_length]; exact Nat.le_refl _), List.drop_eq_nil_of_le (by rw [seg_length]; exact Nat.le_refl _)]
theorem insOuter_is (hw : Weak lt) {a b : Nat} (l0 : List α) : ∀ (g i : Nat) (d : Array α), b - i ≤ g → a ≤ i → i ≤ b → b ≤ d.size → seg d a (i - a) = isortL lt (l0.take (i - a)) → (∀ t, i ≤ t → t < b → l0[t - a]? = some d[t]!) →
    (insOuter lt a b i d).size = d.size ∧ (∀ t, t < d.size → (t < a ∨ b ≤ t) → (insOuter lt a b i d)[t]! = d[t]!) ∧ seg (insOuter lt a b i d) a (b - a) = isortL lt (l0.take (b - a))
  | g, i, d, hg, ha, hb, hd, hs, hr => by
    by_cases hlt : i < b
    · rw [insOuter, if_pos hlt]
      have hno : NoInv lt (seg d a (i - a)) := by rw [hs]; exact isortL_sorted hw _
      obtain ⟨n1, n2, n3⟩ := insInner_is hw i d ha (by omega) hno
      obtain ⟨g', rfl⟩ : ∃ g', g = g' + 1 := ⟨g - 1, by omega⟩
      have hi := hr i (Nat.le_refl _) hlt
      have := insOuter_is hw (a := a) (b := b) l0 g' (i + 1) (insInner lt a i d) (by omega) (by omega) (by omega) (by omega) (by
        rw [n3, hs, ← isortL_put]
        congr 1
        rw [show i + 1 - a = (i - a) + 1 by omega, List.take_add_one, hi]
        rfl) (fun t h1 h2 => by rw [n2 t (by omega) (by omega)]; exact hr t (by omega) h2)
      obtain ⟨m1, m2, m3⟩ := this
      exact ⟨by omega, fun t ht hc => by rw [m2 t (by omega) hc, n2 t ht (by omega)], m3⟩
    · obtain rfl : i = b := by omega
      rw [insOuter, if_neg hlt]
      exact ⟨rfl, fun _ _ _ => rfl, hs⟩
/-- Insertion sort of a part. -/
theorem insertion_is (hw : Weak lt) (d : Array α) {a b : Nat} (hab : a ≤ b) (hb : b ≤ d.size) :
    (Go.Sort.insertionSort lt d a b).size = d.size ∧ (∀ t, t < d.size → (t < a ∨ b ≤ t) → (Go.Sort.insertionSort lt d a b)[t]! = d[t]!) ∧ seg (Go.Sort.insertionSort lt d a b) a (b - a) = isortL lt (seg d a (b - a)) := by
  unfold Go.Sort.insertionSort
  by_cases h : a < b
  · have := insOuter_is hw (a := a) (b := b) (seg d a (b - a)) (b - (a + 1)) (a + 1) d (Nat.le_refl _) (by omega) (by omega) hb (by
      rw [show a + 1 - a = 1 by omega, seg_one, seg_take _ _ _ _ (by omega), seg_one]
      rfl) (fun t h1 h2 => by rw [seg_get _ _ _ (by omega), show a + (t - a) = t by omega])
    rwa [List.take_of_length_le (by rw [seg_length]; exact Nat.le_refl _)] at this
  · obtain rfl : a = b := by omega
    rw [insOuter, if_neg (by omega), Nat.sub_self, seg_zero]
    exact ⟨rfl, fun _ _ _ => rfl, rfl⟩

/-! ### blocks -/
/-- From block lo on, below block hi, the blocks of s are sorted, each for itself. -/
def Blocks (lt : α → α → Bool) (s lo hi : Nat) (l : List α) (d : Array α) : Prop := ∀ j, lo ≤ j → j < hi → s * j < l.length → seg d (s * j) (min s (l.length - s * j)) = isortL lt ((l.drop (s * j)).take s)
theorem Blocks.all {s hi : Nat} {l : List α} {d : Array α} (h : Blocks lt s 0 hi l d) (h0 : 0 < hi) (hs : l.length ≤ s) : seg d 0 l.length = isortL lt l := by
  by_cases hl : 0 < l.length
  · have := h 0 (Nat.le_refl _) h0 (by omega)
    rw [Nat.mul_zero, Nat.sub_zero, Nat.min_eq_right hs, List.drop_zero, List.take_of_length_le hs] at this
    exact this
  · rw [List.eq_nil_of_length_eq_zero (l := l) (by omega)]
    rfl
/-- Two blocks that are merged are one of twice as many. -/
theorem blocks_merge (hw : Weak lt) {s i : Nat} {l : List α} {d d' : Array α} (hs : 0 < s) (hd : d.size = l.length) (hlt : s * (2 * i + 1) < l.length)
    (h1 : Blocks lt (2 * s) 0 i l d) (h2 : Blocks lt s (2 * i) (l.length + 1) l d) (hm : Merged lt (s * (2 * i)) (s * (2 * i + 1)) (min (s * (2 * i + 2)) l.length) d d') :
    Blocks lt (2 * s) 0 (i + 1) l d' ∧ Blocks lt s (2 * (i + 1)) (l.length + 1) l d' := by
  have e0 : s * (2 * i) = 2 * s * i := by rw [Nat.mul_comm 2 s, Nat.mul_assoc]
  have e1 : s * (2 * i + 1) = s * (2 * i) + s := by rw [Nat.mul_add, Nat.mul_one]
  have e2 : s * (2 * i + 2) = s * (2 * i) + (s + s) := by rw [Nat.mul_add]; omega
  constructor
  · intro j hj0 hj hjl
    by_cases hji : j < i
    · rw [← h1 j hj0 hji hjl]
      refine seg_congr fun k hk => hm.out _ (by omega) (.inl ?_)
      have : 2 * s * (j + 1) ≤ 2 * s * i := Nat.mul_le_mul_left _ hji
      rw [Nat.mul_add] at this
      omega
    · obtain rfl : j = i := by omega
      have hA := h2 (2 * j) (Nat.le_refl _) (by
        have : 2 * j ≤ s * (2 * j) := Nat.le_mul_of_pos_left _ hs
        omega) (by omega)
      have hB := h2 (2 * j + 1) (by omega) (by
        have : 2 * j + 1 ≤ s * (2 * j + 1) := Nat.le_mul_of_pos_left _ hs
        omega) hlt
      have hq := hm.part
      rw [Nat.min_eq_left (by omega)] at hA
      have x1 : s * (2 * j + 1) - s * (2 * j) = s := by omega
      have x2 : min (s * (2 * j + 2)) l.length - s * (2 * j + 1) = min s (l.length - s * (2 * j + 1)) := by omega
      have x3 : min (s * (2 * j + 2)) l.length - s * (2 * j) = min (2 * s) (l.length - 2 * s * j) := by omega
      rw [x1, x2, x3, hA, hB, ← isortL_append hw, e0] at hq
      rw [hq]
      congr 1
      rw [e1, e0, ← List.drop_drop, show 2 * s = s + s by omega, ← List.take_append_drop s ((l.drop ((s + s) * j)).take (s + s)), List.take_take, Nat.min_eq_left (by omega), List.drop_take, show s + s - s = s by omega]
  · intro j hj0 hj hjl
    rw [← h2 j (by omega) hj hjl]
    refine seg_congr fun k hk => hm.out _ (by omega) (.inr ?_)
    have : s * (2 * i + 2) ≤ s * j := Nat.mul_le_mul_left _ (by omega)
    omega
/-- A block that has no neighbour is one of twice as many. -/
theorem blocks_last {s i : Nat} {l : List α} {d : Array α} (hs : 0 < s) (hlt : l.length ≤ s * (2 * i + 1))
    (h1 : Blocks lt (2 * s) 0 i l d) (h2 : Blocks lt s (2 * i) (l.length + 1) l d) : Blocks lt (2 * s) 0 (l.length + 1) l d := by
  have e0 : s * (2 * i) = 2 * s * i := by rw [Nat.mul_comm 2 s, Nat.mul_assoc]
  have e1 : s * (2 * i + 1) = s * (2 * i) + s := by rw [Nat.mul_add, Nat.mul_one]
  intro j hj0 hj hjl
  by_cases hji : j < i
  · exact h1 j hj0 hji hjl
  · by_cases hje : j = i
    · subst hje
      have hA := h2 (2 * j) (Nat.le_refl _) (by
        have : 2 * j ≤ s * (2 * j) := Nat.le_mul_of_pos_left _ hs
        omega) (by omega)
      rw [e0] at hA
      rw [show min (2 * s) (l.length - 2 * s * j) = min s (l.length - 2 * s * j) by omega, hA]
      congr 1
      rw [List.take_of_length_le (by rw [List.length_drop]; omega), List.take_of_length_le (by rw [List.length_drop]; omega)]
    · exfalso
      have : 2 * s * (i + 1) ≤ 2 * s * j := Nat.mul_le_mul_left _ (by omega)
      rw [Nat.mul_add] at this
      omega
/-- The first blocks are sorted, one behind the other. -/
theorem blocks_first (hw : Weak lt) {s q : Nat} {l : List α} {d : Array α} (hd : d.size = l.length) {b : Nat} (hb : b = min (s * (q + 1)) l.length) (hle : s * q ≤ l.length)
    (h1 : Blocks lt s 0 q l d) (h2 : ∀ t, s * q ≤ t → t < l.length → l[t]? = some d[t]!) :
    Blocks lt s 0 (q + 1) l (Go.Sort.insertionSort lt d (s * q) b) ∧ (Go.Sort.insertionSort lt d (s * q) b).size = l.length ∧ ∀ t, b ≤ t → t < l.length → l[t]? = some (Go.Sort.insertionSort lt d (s * q) b)[t]! := by
  have e1 : s * (q + 1) = s * q + s := by rw [Nat.mul_add, Nat.mul_one]
  obtain ⟨n1, n2, n3⟩ := insertion_is hw d (a := s * q) (b := b) (by omega) (by omega)
  refine ⟨fun j hj0 hj hjl => ?_, by omega, fun t ht hl => ?_⟩
  · by_cases hjq : j < q
    · rw [← h1 j hj0 hjq hjl]
      refine seg_congr fun k hk => n2 _ (by omega) (.inl ?_)
      have : s * (j + 1) ≤ s * q := Nat.mul_le_mul_left _ hjq
      rw [Nat.mul_add] at this
      omega
    · obtain rfl : j = q := by omega
      rw [show min s (l.length - s * j) = b - s * j by omega, n3]
      congr 1
      apply List.ext_getElem?
      intro i
      by_cases hi : i < b - s * j
      · rw [seg_get _ _ _ hi, List.getElem?_take, if_pos (by omega), List.getElem?_drop, h2 _ (by omega) (by omega)]
      · rw [List.getElem?_eq_none (by rw [seg_length]; omega), List.getElem?_eq_none (by rw [List.length_take, List.length_drop]; omega)]
  · rw [n2 t (by omega) (.inr ht)]
    exact h2 t (by omega) hl
end
end Go.Proofs.YtmabigcolabbmaaGreatDoor
namespace Go.Proofs.YtmabigcolabbmaaGreatDoor
open Go Go.Shelf Go.RowKit Go.Lib Go.Sort

section
variable {P : Program} {α : Type} [Inhabited α]
theorem half_lt {i j m : Nat} (h : i < j) (hm : (i + j) / 2 = m) : i ≤ m ∧ m < j := by omega
theorem via_none {d : Array α} {s m e : Nat} (h : s = m ∨ e = m) (hs : s ≤ m) (he : m ≤ e) : Via (rotσ s m e) d d := (Via.refl d).congr fun t _ => by
  unfold rotσ
  show t = _
  repeat' split
  all_goals omega
/-- What a sort leans on of a program's types. -/
structure SortPI (P : Program) (k : Nat) : Prop where
  mixed : P.follows .mixedOrders = true
  t0 : P.underlying 0 = some (TypeDesc.tuple #[])
  a0 : ∀ w, (isAgg 0).run P w = .ok false w
  z0 : ∀ w, (Go.sizeOf 0).run P w = .ok 1 w
  v0 : ∀ w, (zeroValue 0).run P w = .ok (Value.tuple #[]) w
  t3 : P.underlying 3 = some (TypeDesc.int IntKind.i64)
  a3 : ∀ w, (isAgg 3).run P w = .ok false w
  z3 : ∀ w, (Go.sizeOf 3).run P w = .ok 1 w
  v3 : ∀ w, (zeroValue 3).run P w = .ok (Value.int IntKind.i64 0) w
  t4 : P.underlying 4 = some (TypeDesc.bool)
  a4 : ∀ w, (isAgg 4).run P w = .ok false w
  z4 : ∀ w, (Go.sizeOf 4).run P w = .ok 1 w
  v4 : ∀ w, (zeroValue 4).run P w = .ok (Value.bool false) w
  tu : P.underlying 142 = some (TypeDesc.int IntKind.u64)
  au : ∀ w, (isAgg 142).run P w = .ok false w
  zu : ∀ w, (Go.sizeOf 142).run P w = .ok 1 w
  vu : ∀ w, (zeroValue 142).run P w = .ok (Value.int IntKind.u64 0) w
  ts : P.underlying 22 = some (TypeDesc.slice 68)
  ags : ∀ w, (isAgg 22).run P w = .ok false w
  zs : ∀ w, (Go.sizeOf 22).run P w = .ok 1 w
  vs : ∀ w, (zeroValue 22).run P w = .ok (Value.slice none 0 0) w
  tf : P.underlying 84 = some (TypeDesc.func #[68, 68] #[3] false)
  af : ∀ w, (isAgg 84).run P w = .ok false w
  zf : ∀ w, (Go.sizeOf 84).run P w = .ok 1 w
  vf : ∀ w, (zeroValue 84).run P w = .ok (Value.nilFunc) w
  aE : ∀ w, (isAgg 68).run P w = .ok true w
  zE : ∀ w, (Go.sizeOf 68).run P w = .ok k w
  hSwap : P.funcs[136]? = some Tryz.f136
  hRot : P.funcs[122]? = some Tryz.f122
  hSym : P.funcs[113]? = some Tryz.f113
  hIns : P.funcs[112]? = some Tryz.f112
  hStable : P.funcs[96]? = some Tryz.f96
  hSort : P.funcs[66]? = some Tryz.f66
set_option maxHeartbeats 4000000 in
set_option maxRecDepth 1000000 in
theorem swapRangeI {k : Nat} (L : SortPI P k) (enc : α → List Value) (fv : Value) (blk off cap a b n : Nat) (d0 d : Array α) (w0 w : World)
    (R : RowK enc k w0 blk off d0) (hs : d0.size = d.size) (S : SWK enc k w0 blk off d w) (hab : a + n ≤ b) (hb : b + n ≤ d.size) (hsz : d.size < 4611686018427387904) :
    Calls P 136 #[.slice (some ⟨blk, off, none⟩) d.size cap, .int .i64 a, .int .i64 b, .int .i64 n, fv] w fun e w' => e = .returned (.tuple #[]) ∧ ∃ d', Via (swσ a b n) d d' ∧ SWK enc k w0 blk off d' w' := by
  have mixed := L.mixed; have t0 := L.t0; have a0 := L.a0; have z0 := L.z0; have v0 := L.v0; have t3 := L.t3; have a3 := L.a3; have z3 := L.z3; have v3 := L.v3; have t4 := L.t4; have a4 := L.a4; have z4 := L.z4; have v4 := L.v4; have ts := L.ts; have ags := L.ags; have zs := L.zs; have vs := L.vs; have tf := L.tf; have af := L.af; have zf := L.zf; have vf := L.vf; have aE := L.aE; have zE := L.zE
  have S0 : Aside (SWK enc k w0 blk off d w) := S
  clear S
  go_enter L.hSwap, Tryz.ntmps136
  go_wp2
  go_loopw [10] (fun s10 wr => ∃ (i : Nat) (dk : Array α), s10 = .int .i64 i ∧ i ≤ n ∧ dk.size = d.size ∧ Aside (SWK enc k w0 blk off dk wr) ∧ Hid (Via (swσ a b i) d dk)) (fun s10 _ => (n - intOf s10).toNat)
  case atStart => exact ⟨0, d, rfl, Nat.zero_le _, rfl, S0, (Via.refl d).congr fun t _ => (swσ_zero a b t).symm⟩
  case round =>
    clear S0
    obtain ⟨i, dk, rfl, hi, hds, S1, hv⟩ := hrel
    by_cases hlt : i < n
    · have hltz : (i : Int) < (n : Int) := by omega
      go_wp2_with fail
      have ea : ((a : Int) + (i : Int)).toNat = a + i := by omega
      have pa : (0 : Int) ≤ (a : Int) + (i : Int) := by omega
      have ba : (a : Int) + (i : Int) < (d.size : Int) := by omega
      have ra : IntKind.i64.wrap ((a : Int) + (i : Int)) = (a : Int) + (i : Int) := by rw [IntKind.wrap_i64]; omega
      have ec : ((b : Int) + (i : Int)).toNat = b + i := by omega
      have pc : (0 : Int) ≤ (b : Int) + (i : Int) := by omega
      have bc : (b : Int) + (i : Int) < (d.size : Int) := by omega
      have rc : IntKind.i64.wrap ((b : Int) + (i : Int)) = (b : Int) + (i : Int) := by rw [IntKind.wrap_i64]; omega
      have S2 : Aside (SWK enc k w0 blk off (swp dk (a + i) (b + i)) ((wr.drew.setCells blk (off + (a + i) * k) (enc dk[b + i]!)).setCells blk (off + (b + i) * k) (enc dk[a + i]!))) := S1.out.swapped R (a + i) (b + i) (by omega) (by omega)
      have la := S1.out.ld1 R (by omega) P (a + i) (by omega)
      have lb := S1.out.ld1 R (by omega) P (b + i) (by omega)
      have sa := S1.out.st1 R (by omega) P (a + i) (by omega) dk[b + i]!
      have sb := S1.out.st2 R (by omega) P (a + i) (b + i) (by omega) (by omega) dk[b + i]! dk[a + i]!
      have na : (enc dk[a + i]!).length = k := R.hk _
      have nb : (enc dk[b + i]!).length = k := R.hk _
      have V2 : Hid (Via (swσ a b (i + 1)) d (swp dk (a + i) (b + i))) := (hv.out.trans (via_swp dk (i := a + i) (j := b + i) (by omega) (by omega)) (fun t ht => one_lt (by omega) (by omega) ht)).congr fun t _ => sw_step (by omega)
      generalize enc dk[a + i]! = cI at S2 la sb na
      generalize enc dk[b + i]! = cJ at S2 lb sa sb nb
      clear S1 hv
      go_wp2_with fail
      go_big_region_o
      clear la lb sa sb
      generalize (wr.drew.setCells blk (off + (a + i) * k) cJ).setCells blk (off + (b + i) * k) cI = w2 at S2 ⊢
      go_wp2
      go_roundw
      case rel => exact ⟨i + 1, _, by go_num, hlt, by rw [size_swp]; exact hds, S2, V2⟩
      case measure => simp [intOf]; omega
    · obtain rfl : i = n := by omega
      have hltz : ¬ (i : Int) < (i : Int) := by omega
      go_wp2
      go_end0
      exact ⟨rfl, dk, hv.out, S1.out⟩
set_option maxHeartbeats 4000000 in
set_option maxRecDepth 1000000 in
theorem rotateI {k : Nat} (L : SortPI P k) (enc : α → List Value) (fv : Value) (blk off cap a m b : Nat) (d0 d : Array α) (w0 w : World)
    (R : RowK enc k w0 blk off d0) (hs : d0.size = d.size) (S : SWK enc k w0 blk off d w) (ham : a < m) (hmb : m < b) (hb : b ≤ d.size) (hsz : d.size < 4611686018427387904) :
    Calls P 122 #[.slice (some ⟨blk, off, none⟩) d.size cap, .int .i64 a, .int .i64 m, .int .i64 b, fv] w fun e w' => e = .returned (.tuple #[]) ∧ ∃ d', Via (rotσ a m b) d d' ∧ SWK enc k w0 blk off d' w' := by
  have mixed := L.mixed; have t0 := L.t0; have a0 := L.a0; have z0 := L.z0; have v0 := L.v0; have t3 := L.t3; have a3 := L.a3; have z3 := L.z3; have v3 := L.v3; have t4 := L.t4; have a4 := L.a4; have z4 := L.z4; have v4 := L.v4; have ts := L.ts; have ags := L.ags; have zs := L.zs; have vs := L.vs; have tf := L.tf; have af := L.af; have zf := L.zf; have vf := L.vf; have aE := L.aE; have zE := L.zE
  have S0 : Aside (SWK enc k w0 blk off d w) := S
  have es : ∀ args w, (callFunc 136 args).run P w = .ok (.enter 136 args) w := enters_of L.hSwap (by kernel_rfl) rfl
  clear S
  go_enter L.hRot, Tryz.ntmps122
  have wa : IntKind.i64.wrap ((m : Int) - (a : Int)) = (m : Int) - (a : Int) := by rw [IntKind.wrap_i64]; omega
  have wb : IntKind.i64.wrap ((b : Int) - (m : Int)) = (b : Int) - (m : Int) := by rw [IntKind.wrap_i64]; omega
  go_wp2
  go_loopw [10, 11] (fun s10 s11 wr => ∃ (i j : Nat) (dk : Array α) (σ : Nat → Nat), s10 = .int .i64 i ∧ s11 = .int .i64 j ∧ 0 < i ∧ i ≤ m - a ∧ 0 < j ∧ j ≤ b - m ∧ dk.size = d.size ∧ Aside (SWK enc k w0 blk off dk wr) ∧ Hid (Via σ d dk ∧ ∀ t, σ (rotσ (m - i) m (m + j) t) = rotσ a m b t)) (fun s10 s11 _ => (intOf s10 + intOf s11).toNat)
  case atStart =>
    refine ⟨m - a, b - m, d, id, ?_, ?_, by omega, Nat.le_refl _, by omega, Nat.le_refl _, rfl, S0, Via.refl d, fun t => ?_⟩
    · congr 1; omega
    · congr 1; omega
    · show rotσ (m - (m - a)) m (m + (b - m)) t = _
      rw [show m - (m - a) = a by omega, show m + (b - m) = b by omega]
  case round =>
    clear S0
    obtain ⟨i, j, dk, σ, rfl, rfl, hi0, him, hj0, hjb, hds, S1, hv⟩ := hrel
    have hii : (i : Int) ≤ m := by omega
    have wmi : IntKind.i64.wrap ((m : Int) - (i : Int)) = (m : Int) - (i : Int) := by rw [IntKind.wrap_i64]; omega
    by_cases hlt : j < i
    · have q1 : ((i : Int) != (j : Int)) = true := by rw [bne_iff_ne]; omega
      have q1' : (i != j) = true := by rw [bne_iff_ne]; omega
      have q2 : (j : Int) < (i : Int) := by omega
      have hc := swapRangeI L enc fv blk off cap (m - i) m j d0 dk w0 wr R (by omega) S1.out (by omega) (by omega) (by omega)
      rw [hds, show ((m - i : Nat) : Int) = (m : Int) - (i : Int) by omega] at hc
      have wij : IntKind.i64.wrap ((i : Int) - (j : Int)) = (i : Int) - (j : Int) := by rw [IntKind.wrap_i64]; omega
      go_wp2_with (go_at_fn 136; refine hc.mono ?_; rintro e w2 ⟨rfl, d2, hv2, S2'⟩)
      have S2 : Aside (SWK enc k w0 blk off d2 w2) := S2'
      have V2 : Hid (Via (fun t => σ (swσ (m - i) m j t)) d d2 ∧ ∀ t, σ (swσ (m - i) m j (rotσ (m - (i - j)) m (m + j) t)) = rotσ a m b t) := ⟨hv.out.1.trans hv2 (fun t ht => sw_lt (by omega) (by omega) ht), fun t => by rw [rot_left (by omega) hj0 hlt]; exact hv.out.2 t⟩
      have z2 : d2.size = d.size := hv2.size.trans hds
      clear hc S1 S2' hv hv2
      go_wp2
      go_roundw
      case rel => exact ⟨i - j, j, d2, _, by congr 1; omega, rfl, by omega, by omega, hj0, hjb, z2, S2, V2⟩
      case measure => simp [intOf]; omega
    · by_cases hgt : i < j
      · have q1 : ((i : Int) != (j : Int)) = true := by rw [bne_iff_ne]; omega
        have q1' : (i != j) = true := by rw [bne_iff_ne]; omega
        have q2 : ¬ (j : Int) < (i : Int) := by omega
        have hc := swapRangeI L enc fv blk off cap (m - i) (m + j - i) i d0 dk w0 wr R (by omega) S1.out (by omega) (by omega) (by omega)
        rw [hds, show ((m - i : Nat) : Int) = (m : Int) - (i : Int) by omega, show ((m + j - i : Nat) : Int) = (m : Int) + (j : Int) - (i : Int) by omega] at hc
        have wij : IntKind.i64.wrap ((j : Int) - (i : Int)) = (j : Int) - (i : Int) := by rw [IntKind.wrap_i64]; omega
        have wmj : IntKind.i64.wrap ((m : Int) + (j : Int)) = (m : Int) + (j : Int) := by rw [IntKind.wrap_i64]; omega
        have wmji : IntKind.i64.wrap ((m : Int) + (j : Int) - (i : Int)) = (m : Int) + (j : Int) - (i : Int) := by rw [IntKind.wrap_i64]; omega
        go_wp2_with (go_at_fn 136; refine hc.mono ?_; rintro e w2 ⟨rfl, d2, hv2, S2'⟩)
        have S2 : Aside (SWK enc k w0 blk off d2 w2) := S2'
        have V2 : Hid (Via (fun t => σ (swσ (m - i) (m + j - i) i t)) d d2 ∧ ∀ t, σ (swσ (m - i) (m + j - i) i (rotσ (m - i) m (m + (j - i)) t)) = rotσ a m b t) := ⟨hv.out.1.trans hv2 (fun t ht => sw_lt (by omega) (by omega) ht), fun t => by rw [rot_right (by omega) hi0 hgt]; exact hv.out.2 t⟩
        have z2 : d2.size = d.size := hv2.size.trans hds
        clear hc S1 S2' hv hv2
        go_wp2
        go_roundw
        case rel => exact ⟨i, j - i, d2, _, rfl, by congr 1; omega, hi0, him, by omega, by omega, z2, S2, V2⟩
        case measure => simp [intOf]; omega
      · obtain rfl : i = j := by omega
        have q1 : ((i : Int) != (i : Int)) = false := by simp
        have q1' : (i != i) = false := by simp
        have hc := swapRangeI L enc fv blk off cap (m - i) m i d0 dk w0 wr R (by omega) S1.out (by omega) (by omega) (by omega)
        rw [hds, show ((m - i : Nat) : Int) = (m : Int) - (i : Int) by omega] at hc
        go_wp2_with (go_at_fn 136; refine hc.mono ?_; rintro e w2 ⟨rfl, d2, hv2, S2'⟩)
        go_end0
        exact ⟨rfl, d2, (hv.out.1.trans hv2 (fun t ht => sw_lt (by omega) (by omega) ht)).congr fun t _ => by rw [rot_even (by omega)]; exact hv.out.2 t, S2'⟩
end
end Go.Proofs.YtmabigcolabbmaaGreatDoor
