/- Texts that the next ones stand on: Itms, Vals, Sorted, Patch1, Quiet, Strs. -/
import Derived.Test.YtppgmphojklaeaaGreatDoorPc5
import Derived.Laws.AppendOwn
import Derived.Maps.OwnIn
import Derived.RangeFuncWrites
import Derived.RangeFuncNested
import Derived.RangeFuncBound
import Derived.RangeFuncCalls
import Derived.RangeFuncLeaves
import Derived.Shelf.Abstract
import Derived.Shelf.RegionOpen
import Derived.WalkKit
import Derived.OwnWalkIn
import Derived.TacticsInMore
import Derived.LoopNIn
import Derived.LoopIn
import Derived.Lib.Hide
import Derived.Deep.QuietTactic
import Derived.BigQuiet
import Derived.Test.YtppgmphojklaeaaGreatDoorShelf
import Derived.Laws.BytesArg
import Derived.Laws.IdiomStrings
import Derived.IntWalk
namespace Go.Proofs.YtppgmphojklaeaaGreatDoor
open Go Go.RowKit

theorem foldN_put (l : List Value) : ∀ (k : Nat) (cs : List Value), k + l.length ≤ cs.length → (l.zipIdx k).foldl (fun (cs : List Value) x => cs.set x.2 x.1) cs = cs.take k ++ l ++ cs.drop (k + l.length) := by
  induction l with
  | nil => intro k cs _; simp
  | cons v l ih =>
    intro k cs h
    rw [List.zipIdx_cons, List.foldl_cons, ih (k + 1) _ (by rw [List.length_set]; simp at h; omega)]
    simp at h
    have h1 : (cs.set k v).take (k + 1) = cs.take k ++ [v] := by
      rw [List.take_succ_eq_append_getElem (by rw [List.length_set]; omega), List.getElem_set_self, List.take_set, List.set_eq_of_length_le (by rw [List.length_take]; omega)]
    have h2 : (cs.set k v).drop (k + 1 + l.length) = cs.drop (k + (v :: l).length) := by
      rw [List.drop_set_of_lt (by omega), List.length_cons]
      congr 1
      omega
    rw [h1, h2]
    simp
theorem foldN_arr (l : List (Value × Nat)) : ∀ cs : List Value, l.foldl (fun (cs : Array Value) x => cs.setIfInBounds x.2 x.1) cs.toArray = (l.foldl (fun (cs : List Value) x => cs.set x.2 x.1) cs).toArray := by
  induction l with
  | nil => intro cs; rfl
  | cons x l ih => intro cs; rw [List.foldl_cons, List.foldl_cons, List.setIfInBounds_toArray, ih]
theorem fillN_one (N : Nat) (arr c : Array Value) (h : arr.size = N) (hc : c.size = N) : Instr.fill (fun i => some (i * N, N)) arr [(0, .agg c)] = some c := by
  simp [Instr.fill, Value.cells, hc]
  refine ⟨by omega, ?_⟩
  obtain ⟨l⟩ := c
  obtain ⟨m⟩ := arr
  have hl : l.length = N := by simpa using hc
  have hm : m.length = N := by simpa using h
  have := foldN_put l 0 m (by omega)
  rw [Nat.zero_add, List.drop_eq_nil_of_le (by omega)] at this
  have e := foldN_arr (l.zipIdx 0) m
  rw [this] at e
  simp only [List.take_zero, List.nil_append, List.append_nil] at e
  refine Eq.trans ?_ e
  rw [← hl]
  simp
def listI (L : List Itm) : List Value := L.flatMap fun a => (cellsI a).toList
theorem listI_length (L : List Itm) : (listI L).length = L.length * 66 := by
  induction L with
  | nil => rfl
  | cons a L ih =>
    have h : (cellsI a).toList.length = 66 := by rw [Array.length_toList, size_cellsI]
    have e : listI (a :: L) = (cellsI a).toList ++ listI L := rfl
    rw [e, List.length_append, h, ih, List.length_cons]
    omega
theorem listI_put (L : List Itm) (a : Itm) : listI L ++ (cellsI a).toList = listI (L ++ [a]) := by simp [listI]
theorem listI_at (L : List Itm) : ∀ i, i < L.length → ((listI L).drop (i * 66)).take 66 = (cellsI (L.getD i zeroItm)).toList := by
  induction L with
  | nil => intro i h; cases h
  | cons a L ih =>
    intro i h
    have hl : (cellsI a).toList.length = 66 := by rw [Array.length_toList, size_cellsI]
    have e : listI (a :: L) = (cellsI a).toList ++ listI L := rfl
    rw [e]
    cases i with
    | zero =>
      rw [Nat.zero_mul, List.drop_zero, ← hl, List.take_left]
      rfl
    | succ i =>
      rw [show (i + 1) * 66 = (cellsI a).toList.length + i * 66 by rw [hl]; omega, ← List.drop_drop, List.drop_left]
      exact ih i (by simpa using h)
def OwnI (w : World) (B : Nat) (v : Value) (L : List Itm) : Prop := w.ownsRow B 55 66 v L.length (listI L)
theorem OwnI.below {w w' : World} {B : Nat} {v : Value} {L : List Itm} (h : OwnI w B v L) (k : Below w.heap.size w w') : OwnI w' B v L :=
  World.ownsRow.kept h (row := none) ⟨k.os, k.tape, k.output, k.size, fun j hj _ => k.block j hj⟩ (by cases hv : v.ownBlock <;> simp)
theorem OwnI.base {w : World} {B B' : Nat} {v : Value} {L : List Itm} (h : OwnI w B v L) (hB : B' ≤ B) : OwnI w B' v L := by
  refine ⟨h.1, ?_⟩
  rcases h.2 with h1 | ⟨g, cap, cur, h1, h2, h3⟩
  · exact .inl h1
  · exact .inr ⟨g, cap, cur, h1, Nat.le_trans hB h2, h3⟩
theorem OwnI.shape {w : World} {B : Nat} {v : Value} {L : List Itm} (h : OwnI w B v L) : ∃ ao cap, v = .slice ao L.length cap := by
  rcases h.2 with ⟨h1, h2⟩ | ⟨g, cap, cur, h1, _⟩
  · have : L = [] := List.eq_nil_of_length_eq_zero h2
    exact ⟨none, 0, by rw [h1, this]; rfl⟩
  · exact ⟨_, _, h1⟩
theorem ownI_nil (w : World) (B : Nat) : OwnI w B (.slice none 0 0) [] := World.ownsRow_nil _ _ _ _
theorem rowinfo_item : ∃ i : TypeInfo, Tryz.prog.info? 55 = some i ∧ i.zero = some (.agg (cellsI zeroItm)) ∧ i.size = 66 ∧ i.bytes = 80 := by
  have h : (Tryz.prog.info? 55).map (fun i => (i.zero, i.size, i.bytes)) = some (some (.agg (cellsI zeroItm)), 66, 80) := by
    rw [zeroI_cells]
    kernel_rfl
  cases hq : Tryz.prog.info? 55 with
  | none => rw [hq] at h; cases h
  | some i =>
    rw [hq] at h
    simp only [Option.map_some, Option.some.injEq, Prod.mk.injEq] at h
    exact ⟨i, rfl, h.1, h.2.1, h.2.2⟩
theorem one_of_rowI (a : Itm) : ∀ u ∈ (cellsI a).toList, u.oneCell' = true := one_icells a
/-- One is put behind a list of the call's own. -/
theorem wpList_putI {ops : Array Oper} {rest : List Oper} {o : Oper} {a : Act} {w : World} {Q : Exit → Act → World → Prop} (hgd : o.guard = none) (s x : Operand)
    (ho : o.op = .call { callee := .builtin .append, args := #[s, x], argTypes := #[22, 22] }) (B : Nat) (v : Value) (L : List Itm) (hs : a.eval s = v) (hown : OwnI w B v L)
    (t : Itm) (g c : Nat) (hx : a.eval x = .slice (some ⟨g, 0, none⟩) 1 c) (hrow : rowAt w g = some (cellsI t)) (hB : B ≤ w.heap.size) (hl : L.length ≤ 1000000)
    (h : ∀ v' w', OwnI w' B v' (L ++ [t]) → w.grownBy w' v.ownBlock → (v'.ownBlock = v.ownBlock ∨ v'.ownBlock = some w.heap.size) → wpList Tryz.prog ops Q rest (a.put o.dst v') w') : wpList Tryz.prog ops Q (o :: rest) a w := by
  obtain ⟨i0, hi, hz0, hz1, hz2⟩ := rowinfo_item
  refine wpList_append_own_at (P := Tryz.prog) w hgd s x 22 ho B 55 i0 (.agg (cellsI zeroItm)) 66 80 Tryz.underlying22 hi hz0 hz1 hz2 (by simp [Value.cells]) (by decide) v L.length (listI L) hs hown ⟨g, 0, none⟩ 1 c (cellsI t).toList hx (by rw [Array.length_toList, size_cellsI]) ?_ (one_of_rowI t) (by unfold maxLen; omega) (by omega) hB ?_
  · intro j u hu
    rw [show (⟨g, 0, none⟩ : Addr).add j = ⟨g, j, none⟩ by simp [Addr.add]; exact fun e => e.symm, cell_of_rowAt hrow]
    rwa [Array.getElem?_toList] at hu
  · intro v' w' h1 h2 _ h4
    refine h v' w' ?_ h2 h4
    show w'.ownsRow B 55 66 v' (L ++ [t]).length (listI (L ++ [t]))
    rw [List.length_append, ← listI_put]
    exact h1
theorem wpListIn_putI {F : Fence} {nF : Nat} {ops : Array Oper} {rest : List Oper} {o : Oper} {a : Act} {w : World} {Q : Exit → Act → World → Prop} (hgd : o.guard = none) (s x : Operand)
    (ho : o.op = .call { callee := .builtin .append, args := #[s, x], argTypes := #[22, 22] }) (B : Nat) (v : Value) (L : List Itm) (hs : a.eval s = v) (hown : OwnI w B v L)
    (t : Itm) (g c : Nat) (hx : a.eval x = .slice (some ⟨g, 0, none⟩) 1 c) (hrow : rowAt w g = some (cellsI t)) (hB : B ≤ w.heap.size) (hl : L.length ≤ 1000000)
    (h : ∀ v' w', OwnI w' B v' (L ++ [t]) → w.grownBy w' v.ownBlock → (v'.ownBlock = v.ownBlock ∨ v'.ownBlock = some w.heap.size) → wpListIn F nF Tryz.prog ops Q rest (a.put o.dst v') w') : wpListIn F nF Tryz.prog ops Q (o :: rest) a w := by
  obtain ⟨i0, hi, hz0, hz1, hz2⟩ := rowinfo_item
  refine wpListIn_append_own_at (P := Tryz.prog) w hgd s x 22 ho B 55 i0 (.agg (cellsI zeroItm)) 66 80 Tryz.underlying22 hi hz0 hz1 hz2 (by simp [Value.cells]) (by decide) v L.length (listI L) hs hown ⟨g, 0, none⟩ 1 c (cellsI t).toList hx (by rw [Array.length_toList, size_cellsI]) ?_ (one_of_rowI t) (by unfold maxLen; omega) (by omega) hB ?_
  · intro j u hu
    rw [show (⟨g, 0, none⟩ : Addr).add j = ⟨g, j, none⟩ by simp [Addr.add]; exact fun e => e.symm, cell_of_rowAt hrow]
    rwa [Array.getElem?_toList] at hu
  · intro v' w' h1 h2 _ h4
    refine h v' w' ?_ h2 h4
    show w'.ownsRow B 55 66 v' (L ++ [t]).length (listI (L ++ [t]))
    rw [List.length_append, ← listI_put]
    exact h1
theorem OwnI.lie {w : World} {B : Nat} {v : Value} {L : List Itm} (h : OwnI w B v L) (hL : 0 < L.length) : ∃ g cap cur, v = .slice (some ⟨g, 0, none⟩) L.length cap ∧ B ≤ g ∧ L.length ≤ cap ∧ rowAt w g = some cur ∧ L.length * 66 ≤ cur.size ∧ ∀ i, i < L.length → cur.extract (i * 66) (i * 66 + 66) = cellsI (L.getD i zeroItm) := by
  rcases h.2 with ⟨h1, h2⟩ | ⟨g, cap, cur, h1, h2, h3, h4, h5, h6, h7⟩
  · exfalso
    omega
  · have hz : L.length * 66 ≤ cur.size := by rw [h6]; exact Nat.mul_le_mul_right 66 h4
    refine ⟨g, cap, cur, h1, h2, h4, rowAt_of_heap h3, hz, fun i hi => ?_⟩
    apply Array.toList_inj.1
    rw [← listI_at L i hi, ← h7, Array.toList_extract, List.extract_eq_take_drop, List.drop_take, List.take_take]
    congr 1
    omega
/-- The block of a list of one's own. -/
theorem OwnI.block {w : World} {B : Nat} {v : Value} {L : List Itm} (h : OwnI w B v L) {g : Nat} (hg : v.ownBlock = some g) : B ≤ g ∧ g < w.heap.size ∧ ∃ cur, w.heap[g]? = some (.cells cur 55 (0, 0)) := by
  rcases h.2 with ⟨h1, h2⟩ | ⟨g', cap, cur, h1, h2, h3, _⟩
  · rw [h1] at hg
    cases hg
  · rw [h1] at hg
    cases hg
    exact ⟨h2, (Array.getElem?_eq_some_iff.1 h3).1, cur, h3⟩
theorem OwnI.keep {W W' : World} {B : Nat} {v : Value} {L : List Itm} {row : Option Nat} (h : OwnI W B v L) (hg : W.grownBy W' row) (hr : ∀ r, row = some r → ∃ o : Obj, W.heap[r]? = some o ∧ o.isCells = false) : OwnI W' B v L := by
  refine World.ownsRow.kept h hg ?_
  cases hq : v.ownBlock with
  | none => exact .inl rfl
  | some g =>
    refine .inr fun e => ?_
    obtain ⟨o, h1, h2⟩ := hr g e.symm
    obtain ⟨_, _, cur, h3⟩ := OwnI.block h hq
    rw [h3] at h1
    cases h1
    cases h2
theorem OwnI.apart {W : World} {B : Nat} {v : Value} {L : List Itm} {b : Nat} {c : Array Value} {t : TypeId} (h : OwnI W B v L) (hb : W.heap[b]? = some (.cells c t (0, 0))) (hne : t ≠ 55) : v.ownBlock ≠ some b := fun e => by
  obtain ⟨_, _, cur, h3⟩ := OwnI.block h e
  rw [hb] at h3
  cases h3
  exact hne rfl
/-- Another block may be written. -/
theorem OwnI.aside {W W' : World} {B : Nat} {v : Value} {L : List Itm} {b : Nat} (h : OwnI W B v L) (hg : W.grownBy W' (some b)) (hne : v.ownBlock ≠ some b) : OwnI W' B v L := by
  refine World.ownsRow.kept h hg ?_
  cases hq : v.ownBlock with
  | none => exact .inl rfl
  | some g => exact .inr fun e => hne (by rw [hq]; exact e)
/-- Where a list lies, in blocks below n0, be it empty. -/
def AtI (n0 : Nat) (w : World) (v : Value) (L : List Itm) : Prop := ∃ ao cap, v = .slice ao L.length cap ∧ ∀ i, i < L.length → ∃ g o cur, ao = some ⟨g, o, none⟩ ∧ g < n0 ∧ rowOr (rowAt w g) (rowF w g) = some cur ∧ o + (i * 66 + 66) ≤ cur.size ∧ cur.extract (o + i * 66) (o + i * 66 + 66) = cellsI (L.getD i zeroItm)
theorem OwnI.at {w : World} {B : Nat} {v : Value} {L : List Itm} (h : OwnI w B v L) : AtI w.heap.size w v L := by
  obtain ⟨ao, cap, rfl⟩ := h.shape
  refine ⟨ao, cap, rfl, fun i hi => ?_⟩
  obtain ⟨g, cap', cur, h1, h2, _, h3, h4, h5⟩ := h.lie (by omega)
  injection h1 with h1 _ _
  refine ⟨g, 0, cur, h1, (Array.getElem?_eq_some_iff.1 (heap_of_rowAt h3).choose_spec).1, rowG_of h3, by have := Nat.mul_le_mul_right 66 hi; omega, ?_⟩
  rw [Nat.zero_add]
  exact h5 i hi
theorem AtI.below {n0 n1 : Nat} {w w' : World} {v : Value} {L : List Itm} (h : AtI n0 w v L) (hn : n0 ≤ n1) (k : Below n1 w w') : AtI n1 w' v L := by
  obtain ⟨ao, cap, h1, h2⟩ := h
  refine ⟨ao, cap, h1, fun i hi => ?_⟩
  obtain ⟨g, o, cur, h3, h0, h4, h5⟩ := h2 i hi
  exact ⟨g, o, cur, h3, by omega, by rw [rowG_below k (by omega)]; exact h4, h5⟩
theorem build_oneI (w : World) (a : Itm) : (Instr.buildSlice 22 1 #[(0, .agg (cellsI a))]).run Tryz.prog w = .ok (.slice (some ⟨w.heap.size, 0, none⟩) 1 1) (w.alloc (.cells (cellsI a) 55)) := by
  have hu : (underlying 22).run Tryz.prog w = .ok (.slice 55) w := run_underlying Tryz.underlying22 w
  have hs : (sizeOf 55).run Tryz.prog w = .ok 66 w := by kernel_rfl
  unfold Instr.buildSlice
  simp [Sem.run_bind, hu, hs, Value.cells, newRow]
  rw [fillN_one 66 _ _ (by simp) (by simp)]
  simp
def buildI (t : TypeId) (n : Nat) (p : Array (Nat × Value)) : Sem Value := Instr.buildSlice t n p
@[go_sem ↓] theorem buildI_of (n : Nat) (p : Array (Nat × Value)) : Instr.buildSlice 22 n p = buildI 22 n p := rfl
@[go_sem] theorem run_buildI (w : World) (a : Itm) : (buildI 22 1 #[(0, .agg (cellsI a))]).run Tryz.prog w = .ok (.slice (some ⟨w.heap.size, 0, none⟩) 1 1) (w.alloc (.cells (cellsI a) 55)) := build_oneI w a
def listF (L : List Lf) : List Value := L.flatMap fun a => (cellsF a).toList
theorem listF_length (L : List Lf) : (listF L).length = L.length * 65 := by
  induction L with
  | nil => rfl
  | cons a L ih =>
    have h : (cellsF a).toList.length = 65 := by rw [Array.length_toList, size_cellsF]
    have e : listF (a :: L) = (cellsF a).toList ++ listF L := rfl
    rw [e, List.length_append, h, ih, List.length_cons]
    omega
theorem listF_put (L : List Lf) (a : Lf) : listF L ++ (cellsF a).toList = listF (L ++ [a]) := by simp [listF]
theorem listF_at (L : List Lf) : ∀ i, i < L.length → ((listF L).drop (i * 65)).take 65 = (cellsF (L.getD i zeroLf)).toList := by
  induction L with
  | nil => intro i h; cases h
  | cons a L ih =>
    intro i h
    have hl : (cellsF a).toList.length = 65 := by rw [Array.length_toList, size_cellsF]
    have e : listF (a :: L) = (cellsF a).toList ++ listF L := rfl
    rw [e]
    cases i with
    | zero =>
      rw [Nat.zero_mul, List.drop_zero, ← hl, List.take_left]
      rfl
    | succ i =>
      rw [show (i + 1) * 65 = (cellsF a).toList.length + i * 65 by rw [hl]; omega, ← List.drop_drop, List.drop_left]
      exact ih i (by simpa using h)
def OwnF (w : World) (B : Nat) (v : Value) (L : List Lf) : Prop := w.ownsRow B 46 65 v L.length (listF L)
theorem OwnF.below {w w' : World} {B : Nat} {v : Value} {L : List Lf} (h : OwnF w B v L) (k : Below w.heap.size w w') : OwnF w' B v L :=
  World.ownsRow.kept h (row := none) ⟨k.os, k.tape, k.output, k.size, fun j hj _ => k.block j hj⟩ (by cases hv : v.ownBlock <;> simp)
theorem OwnF.base {w : World} {B B' : Nat} {v : Value} {L : List Lf} (h : OwnF w B v L) (hB : B' ≤ B) : OwnF w B' v L := by
  refine ⟨h.1, ?_⟩
  rcases h.2 with h1 | ⟨g, cap, cur, h1, h2, h3⟩
  · exact .inl h1
  · exact .inr ⟨g, cap, cur, h1, Nat.le_trans hB h2, h3⟩
theorem OwnF.shape {w : World} {B : Nat} {v : Value} {L : List Lf} (h : OwnF w B v L) : ∃ ao cap, v = .slice ao L.length cap := by
  rcases h.2 with ⟨h1, h2⟩ | ⟨g, cap, cur, h1, _⟩
  · have : L = [] := List.eq_nil_of_length_eq_zero h2
    exact ⟨none, 0, by rw [h1, this]; rfl⟩
  · exact ⟨_, _, h1⟩
theorem ownF_nil (w : World) (B : Nat) : OwnF w B (.slice none 0 0) [] := World.ownsRow_nil _ _ _ _
theorem rowinfo_leaf : ∃ i : TypeInfo, Tryz.prog.info? 46 = some i ∧ i.zero = some (.agg (cellsF zeroLf)) ∧ i.size = 65 ∧ i.bytes = 72 := by
  have h : (Tryz.prog.info? 46).map (fun i => (i.zero, i.size, i.bytes)) = some (some (.agg (cellsF zeroLf)), 65, 72) := by
    rw [zeroF_cells]
    kernel_rfl
  cases hq : Tryz.prog.info? 46 with
  | none => rw [hq] at h; cases h
  | some i =>
    rw [hq] at h
    simp only [Option.map_some, Option.some.injEq, Prod.mk.injEq] at h
    exact ⟨i, rfl, h.1, h.2.1, h.2.2⟩
theorem one_of_rowF (a : Lf) : ∀ u ∈ (cellsF a).toList, u.oneCell' = true := one_fcells a
/-- One is put behind a list of the call's own. -/
theorem wpList_putF {ops : Array Oper} {rest : List Oper} {o : Oper} {a : Act} {w : World} {Q : Exit → Act → World → Prop} (hgd : o.guard = none) (s x : Operand)
    (ho : o.op = .call { callee := .builtin .append, args := #[s, x], argTypes := #[38, 38] }) (B : Nat) (v : Value) (L : List Lf) (hs : a.eval s = v) (hown : OwnF w B v L)
    (t : Lf) (g c : Nat) (hx : a.eval x = .slice (some ⟨g, 0, none⟩) 1 c) (hrow : rowAt w g = some (cellsF t)) (hB : B ≤ w.heap.size) (hl : L.length ≤ 1000000)
    (h : ∀ v' w', OwnF w' B v' (L ++ [t]) → w.grownBy w' v.ownBlock → (v'.ownBlock = v.ownBlock ∨ v'.ownBlock = some w.heap.size) → wpList Tryz.prog ops Q rest (a.put o.dst v') w') : wpList Tryz.prog ops Q (o :: rest) a w := by
  obtain ⟨i0, hi, hz0, hz1, hz2⟩ := rowinfo_leaf
  refine wpList_append_own_at (P := Tryz.prog) w hgd s x 38 ho B 46 i0 (.agg (cellsF zeroLf)) 65 72 Tryz.underlying38 hi hz0 hz1 hz2 (by simp [Value.cells]) (by decide) v L.length (listF L) hs hown ⟨g, 0, none⟩ 1 c (cellsF t).toList hx (by rw [Array.length_toList, size_cellsF]) ?_ (one_of_rowF t) (by unfold maxLen; omega) (by omega) hB ?_
  · intro j u hu
    rw [show (⟨g, 0, none⟩ : Addr).add j = ⟨g, j, none⟩ by simp [Addr.add]; exact fun e => e.symm, cell_of_rowAt hrow]
    rwa [Array.getElem?_toList] at hu
  · intro v' w' h1 h2 _ h4
    refine h v' w' ?_ h2 h4
    show w'.ownsRow B 46 65 v' (L ++ [t]).length (listF (L ++ [t]))
    rw [List.length_append, ← listF_put]
    exact h1
theorem wpListIn_putF {F : Fence} {nF : Nat} {ops : Array Oper} {rest : List Oper} {o : Oper} {a : Act} {w : World} {Q : Exit → Act → World → Prop} (hgd : o.guard = none) (s x : Operand)
    (ho : o.op = .call { callee := .builtin .append, args := #[s, x], argTypes := #[38, 38] }) (B : Nat) (v : Value) (L : List Lf) (hs : a.eval s = v) (hown : OwnF w B v L)
    (t : Lf) (g c : Nat) (hx : a.eval x = .slice (some ⟨g, 0, none⟩) 1 c) (hrow : rowAt w g = some (cellsF t)) (hB : B ≤ w.heap.size) (hl : L.length ≤ 1000000)
    (h : ∀ v' w', OwnF w' B v' (L ++ [t]) → w.grownBy w' v.ownBlock → (v'.ownBlock = v.ownBlock ∨ v'.ownBlock = some w.heap.size) → wpListIn F nF Tryz.prog ops Q rest (a.put o.dst v') w') : wpListIn F nF Tryz.prog ops Q (o :: rest) a w := by
  obtain ⟨i0, hi, hz0, hz1, hz2⟩ := rowinfo_leaf
  refine wpListIn_append_own_at (P := Tryz.prog) w hgd s x 38 ho B 46 i0 (.agg (cellsF zeroLf)) 65 72 Tryz.underlying38 hi hz0 hz1 hz2 (by simp [Value.cells]) (by decide) v L.length (listF L) hs hown ⟨g, 0, none⟩ 1 c (cellsF t).toList hx (by rw [Array.length_toList, size_cellsF]) ?_ (one_of_rowF t) (by unfold maxLen; omega) (by omega) hB ?_
  · intro j u hu
    rw [show (⟨g, 0, none⟩ : Addr).add j = ⟨g, j, none⟩ by simp [Addr.add]; exact fun e => e.symm, cell_of_rowAt hrow]
    rwa [Array.getElem?_toList] at hu
  · intro v' w' h1 h2 _ h4
    refine h v' w' ?_ h2 h4
    show w'.ownsRow B 46 65 v' (L ++ [t]).length (listF (L ++ [t]))
    rw [List.length_append, ← listF_put]
    exact h1
theorem OwnF.lie {w : World} {B : Nat} {v : Value} {L : List Lf} (h : OwnF w B v L) (hL : 0 < L.length) : ∃ g cap cur, v = .slice (some ⟨g, 0, none⟩) L.length cap ∧ B ≤ g ∧ L.length ≤ cap ∧ rowAt w g = some cur ∧ L.length * 65 ≤ cur.size ∧ ∀ i, i < L.length → cur.extract (i * 65) (i * 65 + 65) = cellsF (L.getD i zeroLf) := by
  rcases h.2 with ⟨h1, h2⟩ | ⟨g, cap, cur, h1, h2, h3, h4, h5, h6, h7⟩
  · exfalso
    omega
  · have hz : L.length * 65 ≤ cur.size := by rw [h6]; exact Nat.mul_le_mul_right 65 h4
    refine ⟨g, cap, cur, h1, h2, h4, rowAt_of_heap h3, hz, fun i hi => ?_⟩
    apply Array.toList_inj.1
    rw [← listF_at L i hi, ← h7, Array.toList_extract, List.extract_eq_take_drop, List.drop_take, List.take_take]
    congr 1
    omega
/-- The block of a list of one's own. -/
theorem OwnF.block {w : World} {B : Nat} {v : Value} {L : List Lf} (h : OwnF w B v L) {g : Nat} (hg : v.ownBlock = some g) : B ≤ g ∧ g < w.heap.size ∧ ∃ cur, w.heap[g]? = some (.cells cur 46 (0, 0)) := by
  rcases h.2 with ⟨h1, h2⟩ | ⟨g', cap, cur, h1, h2, h3, _⟩
  · rw [h1] at hg
    cases hg
  · rw [h1] at hg
    cases hg
    exact ⟨h2, (Array.getElem?_eq_some_iff.1 h3).1, cur, h3⟩
theorem OwnF.keep {W W' : World} {B : Nat} {v : Value} {L : List Lf} {row : Option Nat} (h : OwnF W B v L) (hg : W.grownBy W' row) (hr : ∀ r, row = some r → ∃ o : Obj, W.heap[r]? = some o ∧ o.isCells = false) : OwnF W' B v L := by
  refine World.ownsRow.kept h hg ?_
  cases hq : v.ownBlock with
  | none => exact .inl rfl
  | some g =>
    refine .inr fun e => ?_
    obtain ⟨o, h1, h2⟩ := hr g e.symm
    obtain ⟨_, _, cur, h3⟩ := OwnF.block h hq
    rw [h3] at h1
    cases h1
    cases h2
theorem OwnF.apart {W : World} {B : Nat} {v : Value} {L : List Lf} {b : Nat} {c : Array Value} {t : TypeId} (h : OwnF W B v L) (hb : W.heap[b]? = some (.cells c t (0, 0))) (hne : t ≠ 46) : v.ownBlock ≠ some b := fun e => by
  obtain ⟨_, _, cur, h3⟩ := OwnF.block h e
  rw [hb] at h3
  cases h3
  exact hne rfl
/-- Another block may be written. -/
theorem OwnF.aside {W W' : World} {B : Nat} {v : Value} {L : List Lf} {b : Nat} (h : OwnF W B v L) (hg : W.grownBy W' (some b)) (hne : v.ownBlock ≠ some b) : OwnF W' B v L := by
  refine World.ownsRow.kept h hg ?_
  cases hq : v.ownBlock with
  | none => exact .inl rfl
  | some g => exact .inr fun e => hne (by rw [hq]; exact e)
/-- Where a list lies, in blocks below n0, be it empty. -/
def AtF (n0 : Nat) (w : World) (v : Value) (L : List Lf) : Prop := ∃ ao cap, v = .slice ao L.length cap ∧ ∀ i, i < L.length → ∃ g o cur, ao = some ⟨g, o, none⟩ ∧ g < n0 ∧ rowOr (rowAt w g) (rowF w g) = some cur ∧ o + (i * 65 + 65) ≤ cur.size ∧ cur.extract (o + i * 65) (o + i * 65 + 65) = cellsF (L.getD i zeroLf)
theorem OwnF.at {w : World} {B : Nat} {v : Value} {L : List Lf} (h : OwnF w B v L) : AtF w.heap.size w v L := by
  obtain ⟨ao, cap, rfl⟩ := h.shape
  refine ⟨ao, cap, rfl, fun i hi => ?_⟩
  obtain ⟨g, cap', cur, h1, h2, _, h3, h4, h5⟩ := h.lie (by omega)
  injection h1 with h1 _ _
  refine ⟨g, 0, cur, h1, (Array.getElem?_eq_some_iff.1 (heap_of_rowAt h3).choose_spec).1, rowG_of h3, by have := Nat.mul_le_mul_right 65 hi; omega, ?_⟩
  rw [Nat.zero_add]
  exact h5 i hi
theorem AtF.below {n0 n1 : Nat} {w w' : World} {v : Value} {L : List Lf} (h : AtF n0 w v L) (hn : n0 ≤ n1) (k : Below n1 w w') : AtF n1 w' v L := by
  obtain ⟨ao, cap, h1, h2⟩ := h
  refine ⟨ao, cap, h1, fun i hi => ?_⟩
  obtain ⟨g, o, cur, h3, h0, h4, h5⟩ := h2 i hi
  exact ⟨g, o, cur, h3, by omega, by rw [rowG_below k (by omega)]; exact h4, h5⟩
theorem build_oneF (w : World) (a : Lf) : (Instr.buildSlice 38 1 #[(0, .agg (cellsF a))]).run Tryz.prog w = .ok (.slice (some ⟨w.heap.size, 0, none⟩) 1 1) (w.alloc (.cells (cellsF a) 46)) := by
  have hu : (underlying 38).run Tryz.prog w = .ok (.slice 46) w := run_underlying Tryz.underlying38 w
  have hs : (sizeOf 46).run Tryz.prog w = .ok 65 w := by kernel_rfl
  unfold Instr.buildSlice
  simp [Sem.run_bind, hu, hs, Value.cells, newRow]
  rw [fillN_one 65 _ _ (by simp) (by simp)]
  simp
def buildF (t : TypeId) (n : Nat) (p : Array (Nat × Value)) : Sem Value := Instr.buildSlice t n p
@[go_sem ↓] theorem buildF_of (n : Nat) (p : Array (Nat × Value)) : Instr.buildSlice 38 n p = buildF 38 n p := rfl
@[go_sem] theorem run_buildF (w : World) (a : Lf) : (buildF 38 1 #[(0, .agg (cellsF a))]).run Tryz.prog w = .ok (.slice (some ⟨w.heap.size, 0, none⟩) 1 1) (w.alloc (.cells (cellsF a) 46)) := build_oneF w a
def listL (L : List Lab) : List Value := L.flatMap fun a => (cellsL a).toList
theorem listL_length (L : List Lab) : (listL L).length = L.length * 32 := by
  induction L with
  | nil => rfl
  | cons a L ih =>
    have h : (cellsL a).toList.length = 32 := by rw [Array.length_toList, size_cellsL]
    have e : listL (a :: L) = (cellsL a).toList ++ listL L := rfl
    rw [e, List.length_append, h, ih, List.length_cons]
    omega
theorem listL_put (L : List Lab) (a : Lab) : listL L ++ (cellsL a).toList = listL (L ++ [a]) := by simp [listL]
theorem listL_at (L : List Lab) : ∀ i, i < L.length → ((listL L).drop (i * 32)).take 32 = (cellsL (L.getD i zeroLab)).toList := by
  induction L with
  | nil => intro i h; cases h
  | cons a L ih =>
    intro i h
    have hl : (cellsL a).toList.length = 32 := by rw [Array.length_toList, size_cellsL]
    have e : listL (a :: L) = (cellsL a).toList ++ listL L := rfl
    rw [e]
    cases i with
    | zero =>
      rw [Nat.zero_mul, List.drop_zero, ← hl, List.take_left]
      rfl
    | succ i =>
      rw [show (i + 1) * 32 = (cellsL a).toList.length + i * 32 by rw [hl]; omega, ← List.drop_drop, List.drop_left]
      exact ih i (by simpa using h)
def OwnL (w : World) (B : Nat) (v : Value) (L : List Lab) : Prop := w.ownsRow B 27 32 v L.length (listL L)
theorem OwnL.below {w w' : World} {B : Nat} {v : Value} {L : List Lab} (h : OwnL w B v L) (k : Below w.heap.size w w') : OwnL w' B v L :=
  World.ownsRow.kept h (row := none) ⟨k.os, k.tape, k.output, k.size, fun j hj _ => k.block j hj⟩ (by cases hv : v.ownBlock <;> simp)
theorem OwnL.base {w : World} {B B' : Nat} {v : Value} {L : List Lab} (h : OwnL w B v L) (hB : B' ≤ B) : OwnL w B' v L := by
  refine ⟨h.1, ?_⟩
  rcases h.2 with h1 | ⟨g, cap, cur, h1, h2, h3⟩
  · exact .inl h1
  · exact .inr ⟨g, cap, cur, h1, Nat.le_trans hB h2, h3⟩
theorem OwnL.shape {w : World} {B : Nat} {v : Value} {L : List Lab} (h : OwnL w B v L) : ∃ ao cap, v = .slice ao L.length cap := by
  rcases h.2 with ⟨h1, h2⟩ | ⟨g, cap, cur, h1, _⟩
  · have : L = [] := List.eq_nil_of_length_eq_zero h2
    exact ⟨none, 0, by rw [h1, this]; rfl⟩
  · exact ⟨_, _, h1⟩
theorem ownL_nil (w : World) (B : Nat) : OwnL w B (.slice none 0 0) [] := World.ownsRow_nil _ _ _ _
theorem rowinfo_lab : ∃ i : TypeInfo, Tryz.prog.info? 27 = some i ∧ i.zero = some (.agg (cellsL zeroLab)) ∧ i.size = 32 ∧ i.bytes = 32 := by
  have h : (Tryz.prog.info? 27).map (fun i => (i.zero, i.size, i.bytes)) = some (some (.agg (cellsL zeroLab)), 32, 32) := by
    rw [zeroL_cells]
    kernel_rfl
  cases hq : Tryz.prog.info? 27 with
  | none => rw [hq] at h; cases h
  | some i =>
    rw [hq] at h
    simp only [Option.map_some, Option.some.injEq, Prod.mk.injEq] at h
    exact ⟨i, rfl, h.1, h.2.1, h.2.2⟩
theorem one_of_rowL (a : Lab) : ∀ u ∈ (cellsL a).toList, u.oneCell' = true := one_lcells a
/-- One is put behind a list of the call's own. -/
theorem wpList_putL {ops : Array Oper} {rest : List Oper} {o : Oper} {a : Act} {w : World} {Q : Exit → Act → World → Prop} (hgd : o.guard = none) (s x : Operand)
    (ho : o.op = .call { callee := .builtin .append, args := #[s, x], argTypes := #[39, 39] }) (B : Nat) (v : Value) (L : List Lab) (hs : a.eval s = v) (hown : OwnL w B v L)
    (t : Lab) (g c : Nat) (hx : a.eval x = .slice (some ⟨g, 0, none⟩) 1 c) (hrow : rowAt w g = some (cellsL t)) (hB : B ≤ w.heap.size) (hl : L.length ≤ 1000000)
    (h : ∀ v' w', OwnL w' B v' (L ++ [t]) → w.grownBy w' v.ownBlock → (v'.ownBlock = v.ownBlock ∨ v'.ownBlock = some w.heap.size) → wpList Tryz.prog ops Q rest (a.put o.dst v') w') : wpList Tryz.prog ops Q (o :: rest) a w := by
  obtain ⟨i0, hi, hz0, hz1, hz2⟩ := rowinfo_lab
  refine wpList_append_own_at (P := Tryz.prog) w hgd s x 39 ho B 27 i0 (.agg (cellsL zeroLab)) 32 32 Tryz.underlying39 hi hz0 hz1 hz2 (by simp [Value.cells]) (by decide) v L.length (listL L) hs hown ⟨g, 0, none⟩ 1 c (cellsL t).toList hx (by rw [Array.length_toList, size_cellsL]) ?_ (one_of_rowL t) (by unfold maxLen; omega) (by omega) hB ?_
  · intro j u hu
    rw [show (⟨g, 0, none⟩ : Addr).add j = ⟨g, j, none⟩ by simp [Addr.add]; exact fun e => e.symm, cell_of_rowAt hrow]
    rwa [Array.getElem?_toList] at hu
  · intro v' w' h1 h2 _ h4
    refine h v' w' ?_ h2 h4
    show w'.ownsRow B 27 32 v' (L ++ [t]).length (listL (L ++ [t]))
    rw [List.length_append, ← listL_put]
    exact h1
theorem wpListIn_putL {F : Fence} {nF : Nat} {ops : Array Oper} {rest : List Oper} {o : Oper} {a : Act} {w : World} {Q : Exit → Act → World → Prop} (hgd : o.guard = none) (s x : Operand)
    (ho : o.op = .call { callee := .builtin .append, args := #[s, x], argTypes := #[39, 39] }) (B : Nat) (v : Value) (L : List Lab) (hs : a.eval s = v) (hown : OwnL w B v L)
    (t : Lab) (g c : Nat) (hx : a.eval x = .slice (some ⟨g, 0, none⟩) 1 c) (hrow : rowAt w g = some (cellsL t)) (hB : B ≤ w.heap.size) (hl : L.length ≤ 1000000)
    (h : ∀ v' w', OwnL w' B v' (L ++ [t]) → w.grownBy w' v.ownBlock → (v'.ownBlock = v.ownBlock ∨ v'.ownBlock = some w.heap.size) → wpListIn F nF Tryz.prog ops Q rest (a.put o.dst v') w') : wpListIn F nF Tryz.prog ops Q (o :: rest) a w := by
  obtain ⟨i0, hi, hz0, hz1, hz2⟩ := rowinfo_lab
  refine wpListIn_append_own_at (P := Tryz.prog) w hgd s x 39 ho B 27 i0 (.agg (cellsL zeroLab)) 32 32 Tryz.underlying39 hi hz0 hz1 hz2 (by simp [Value.cells]) (by decide) v L.length (listL L) hs hown ⟨g, 0, none⟩ 1 c (cellsL t).toList hx (by rw [Array.length_toList, size_cellsL]) ?_ (one_of_rowL t) (by unfold maxLen; omega) (by omega) hB ?_
  · intro j u hu
    rw [show (⟨g, 0, none⟩ : Addr).add j = ⟨g, j, none⟩ by simp [Addr.add]; exact fun e => e.symm, cell_of_rowAt hrow]
    rwa [Array.getElem?_toList] at hu
  · intro v' w' h1 h2 _ h4
    refine h v' w' ?_ h2 h4
    show w'.ownsRow B 27 32 v' (L ++ [t]).length (listL (L ++ [t]))
    rw [List.length_append, ← listL_put]
    exact h1
theorem OwnL.lie {w : World} {B : Nat} {v : Value} {L : List Lab} (h : OwnL w B v L) (hL : 0 < L.length) : ∃ g cap cur, v = .slice (some ⟨g, 0, none⟩) L.length cap ∧ B ≤ g ∧ L.length ≤ cap ∧ rowAt w g = some cur ∧ L.length * 32 ≤ cur.size ∧ ∀ i, i < L.length → cur.extract (i * 32) (i * 32 + 32) = cellsL (L.getD i zeroLab) := by
  rcases h.2 with ⟨h1, h2⟩ | ⟨g, cap, cur, h1, h2, h3, h4, h5, h6, h7⟩
  · exfalso
    omega
  · have hz : L.length * 32 ≤ cur.size := by rw [h6]; exact Nat.mul_le_mul_right 32 h4
    refine ⟨g, cap, cur, h1, h2, h4, rowAt_of_heap h3, hz, fun i hi => ?_⟩
    apply Array.toList_inj.1
    rw [← listL_at L i hi, ← h7, Array.toList_extract, List.extract_eq_take_drop, List.drop_take, List.take_take]
    congr 1
    omega
/-- The block of a list of one's own. -/
theorem OwnL.block {w : World} {B : Nat} {v : Value} {L : List Lab} (h : OwnL w B v L) {g : Nat} (hg : v.ownBlock = some g) : B ≤ g ∧ g < w.heap.size ∧ ∃ cur, w.heap[g]? = some (.cells cur 27 (0, 0)) := by
  rcases h.2 with ⟨h1, h2⟩ | ⟨g', cap, cur, h1, h2, h3, _⟩
  · rw [h1] at hg
    cases hg
  · rw [h1] at hg
    cases hg
    exact ⟨h2, (Array.getElem?_eq_some_iff.1 h3).1, cur, h3⟩
theorem OwnL.keep {W W' : World} {B : Nat} {v : Value} {L : List Lab} {row : Option Nat} (h : OwnL W B v L) (hg : W.grownBy W' row) (hr : ∀ r, row = some r → ∃ o : Obj, W.heap[r]? = some o ∧ o.isCells = false) : OwnL W' B v L := by
  refine World.ownsRow.kept h hg ?_
  cases hq : v.ownBlock with
  | none => exact .inl rfl
  | some g =>
    refine .inr fun e => ?_
    obtain ⟨o, h1, h2⟩ := hr g e.symm
    obtain ⟨_, _, cur, h3⟩ := OwnL.block h hq
    rw [h3] at h1
    cases h1
    cases h2
theorem OwnL.apart {W : World} {B : Nat} {v : Value} {L : List Lab} {b : Nat} {c : Array Value} {t : TypeId} (h : OwnL W B v L) (hb : W.heap[b]? = some (.cells c t (0, 0))) (hne : t ≠ 27) : v.ownBlock ≠ some b := fun e => by
  obtain ⟨_, _, cur, h3⟩ := OwnL.block h e
  rw [hb] at h3
  cases h3
  exact hne rfl
/-- Another block may be written. -/
theorem OwnL.aside {W W' : World} {B : Nat} {v : Value} {L : List Lab} {b : Nat} (h : OwnL W B v L) (hg : W.grownBy W' (some b)) (hne : v.ownBlock ≠ some b) : OwnL W' B v L := by
  refine World.ownsRow.kept h hg ?_
  cases hq : v.ownBlock with
  | none => exact .inl rfl
  | some g => exact .inr fun e => hne (by rw [hq]; exact e)
/-- Where a list lies, in blocks below n0, be it empty. -/
def AtL (n0 : Nat) (w : World) (v : Value) (L : List Lab) : Prop := ∃ ao cap, v = .slice ao L.length cap ∧ ∀ i, i < L.length → ∃ g o cur, ao = some ⟨g, o, none⟩ ∧ g < n0 ∧ rowOr (rowAt w g) (rowF w g) = some cur ∧ o + (i * 32 + 32) ≤ cur.size ∧ cur.extract (o + i * 32) (o + i * 32 + 32) = cellsL (L.getD i zeroLab)
theorem OwnL.at {w : World} {B : Nat} {v : Value} {L : List Lab} (h : OwnL w B v L) : AtL w.heap.size w v L := by
  obtain ⟨ao, cap, rfl⟩ := h.shape
  refine ⟨ao, cap, rfl, fun i hi => ?_⟩
  obtain ⟨g, cap', cur, h1, h2, _, h3, h4, h5⟩ := h.lie (by omega)
  injection h1 with h1 _ _
  refine ⟨g, 0, cur, h1, (Array.getElem?_eq_some_iff.1 (heap_of_rowAt h3).choose_spec).1, rowG_of h3, by have := Nat.mul_le_mul_right 32 hi; omega, ?_⟩
  rw [Nat.zero_add]
  exact h5 i hi
theorem AtL.below {n0 n1 : Nat} {w w' : World} {v : Value} {L : List Lab} (h : AtL n0 w v L) (hn : n0 ≤ n1) (k : Below n1 w w') : AtL n1 w' v L := by
  obtain ⟨ao, cap, h1, h2⟩ := h
  refine ⟨ao, cap, h1, fun i hi => ?_⟩
  obtain ⟨g, o, cur, h3, h0, h4, h5⟩ := h2 i hi
  exact ⟨g, o, cur, h3, by omega, by rw [rowG_below k (by omega)]; exact h4, h5⟩
theorem build_oneL (w : World) (a : Lab) : (Instr.buildSlice 39 1 #[(0, .agg (cellsL a))]).run Tryz.prog w = .ok (.slice (some ⟨w.heap.size, 0, none⟩) 1 1) (w.alloc (.cells (cellsL a) 27)) := by
  have hu : (underlying 39).run Tryz.prog w = .ok (.slice 27) w := run_underlying Tryz.underlying39 w
  have hs : (sizeOf 27).run Tryz.prog w = .ok 32 w := by kernel_rfl
  unfold Instr.buildSlice
  simp [Sem.run_bind, hu, hs, Value.cells, newRow]
  rw [fillN_one 32 _ _ (by simp) (by simp)]
  simp
def buildL (t : TypeId) (n : Nat) (p : Array (Nat × Value)) : Sem Value := Instr.buildSlice t n p
@[go_sem ↓] theorem buildL_of (n : Nat) (p : Array (Nat × Value)) : Instr.buildSlice 39 n p = buildL 39 n p := rfl
@[go_sem] theorem run_buildL (w : World) (a : Lab) : (buildL 39 1 #[(0, .agg (cellsL a))]).run Tryz.prog w = .ok (.slice (some ⟨w.heap.size, 0, none⟩) 1 1) (w.alloc (.cells (cellsL a) 27)) := build_oneL w a
end Go.Proofs.YtppgmphojklaeaaGreatDoor
namespace Go.Proofs.YtppgmphojklaeaaGreatDoor
open Go Go.RowKit Go.Shelf
attribute [local go_sem] Oper.semAt_some

theorem take_succD {α : Type} (L : List α) (z : α) (k : Nat) (h : k < L.length) : L.take (k + 1) = L.take k ++ [L.getD k z] := by
  rw [List.take_add_one, List.getD_eq_getElem?_getD, List.getElem?_eq_getElem h]
  rfl
set_option maxRecDepth 100000 in
set_option maxHeartbeats 2000000 in
theorem vals1I_in (F : Fence) (n : Nat) (hF : F.fn 129) (hro : F.round = none) (hn : 1 ≤ n) (l Bs n0 cap : Nat) (ao : Option Addr) (L : List Itm) (hL : L.length ≤ 1000000) (J Jx : List Itm → World → Prop)
    (hY : ∀ pre x W, J pre W → pre.length < L.length → YieldAt F (n - 1) Tryz.prog l #[.agg (cellsI x)] W fun e W' =>
      (e = .returned (.bool true) ∧ J (pre ++ [x]) W' ∧ Below n0 W W') ∨ (e = .returned (.bool false) ∧ Jx (pre ++ [x]) W'))
    (W : World) (hJ : AbidesFrom W.heap.size J) (hBs : W.cell? ⟨Bs, 0, none⟩ = some (.slice ao L.length cap)) (hn0 : n0 ≤ W.heap.size) (hA : AtI n0 W (.slice ao L.length cap) L) (h0 : J [] W) :
    CallsIn F n Tryz.prog 129 #[.func (.yield l) #[] #[], .pointer (some ⟨Bs, 0, none⟩)] W fun e W' => (∃ v, e = .returned v) ∧
      ((∃ ys, ys = L ∧ J ys W') ∨ (∃ pre, pre <+: L ∧ Jx pre W')) := by
  obtain ⟨m, hm⟩ : ∃ m, L.length = m := ⟨_, rfl⟩
  have HM : Hid (L.length = m) := hm
  have hm1 : (m : Int) ≤ 1000000 := by omega
  have HA : Hid (∀ i, i < m → ∃ g o cur, ao = some ⟨g, o, none⟩ ∧ g < n0 ∧ rowOr (rowAt W g) (rowF W g) = some cur ∧ o + (i * 66 + 66) ≤ cur.size ∧ cur.extract (o + i * 66) (o + i * 66 + 66) = cellsI (L.getD i zeroItm)) := by
    obtain ⟨ao', cap', h1, h2⟩ := hA
    injection h1 with e1 e2 e3
    rw [← hm, e1]
    exact h2
  rw [hm] at hBs hY
  clear hm hL hA
  refine callsIn_of_wp Tryz.func129 rfl hF ?_ hro
  simp only [Tryz.ntmps129, List.size_toArray, List.length_cons, List.length_nil, Nat.reduceAdd, Nat.reduceSub, Array.replicate_succ, Array.replicate_zero, List.push_toArray, List.append_toArray, List.nil_append, List.cons_append]
  gi_wp2
  gi_loopw [7] (fun i wr => ∃ k : Nat, k ≤ m ∧ i = .int .i64 k ∧ J (L.take k) wr ∧ Below n0 W wr) (fun i _ => m - (intOf i).toNat)
  case atStart => exact ⟨0, Nat.zero_le _, rfl, h0, Below.refl _ _⟩
  case round =>
    obtain ⟨k, hk, rfl, hJs, hnx⟩ := hrel
    by_cases hlt : k < m
    · have hlt' : (k : Int) < m := by omega
      obtain ⟨g, o, cur, rfl, hg, hr0, hsz, hex⟩ := HA.out k hlt
      have hr1 : rowOr (rowAt wr g) (rowF wr g) = some cur := (rowG_below hnx hg).trans hr0
      have hsz1 : o + k * 66 + 66 ≤ cur.size := by omega
      obtain ⟨x, hx⟩ : ∃ x, L.getD k zeroItm = x := ⟨_, rfl⟩
      rw [hx] at hex
      have hJ1 : J (L.take k) (wr.alloc (.cells (cellsI x) 55)) := hJ _ _ _ none hJs (World.grownBy_alloc _ _ none) (fun r h => by cases h)
      have b1 : Below n0 wr (wr.alloc (.cells (cellsI x) 55)) := (Below.refl _ _).alloc (Nat.le_trans hn0 hnx.size) _
      obtain ⟨fn, tmps, assign, body, hy, hR⟩ := hY _ x _ hJ1 (by rw [List.length_take, HM.out]; omega)
      have HR := Lib.hid hR
      have HT : Hid (L.take k ++ [x] = L.take (k + 1)) := by
        show _ = _
        rw [← hx]
        exact (take_succD L _ k (by rw [HM.out]; exact hlt)).symm
      have HP : Hid (L.take (k + 1) <+: L) := List.take_prefix _ _
      clear hY hR hsz hJ1 hr0
      gi_wp2
      refine HR.out.mono ?_
      rintro e W3 (⟨rfl, hJ3, hk3⟩ | ⟨rfl, hJx3⟩)
      · have hJ4 : J (L.take (k + 1)) W3 := by rw [← HT.out]; exact hJ3
        have hn4 : Below n0 W W3 := (hnx.trans b1).trans hk3
        clear hJ3 hk3 HR b1 hy hr1 hex hsz1 hJs hnx
        gi_wp2
        exact ⟨⟨k + 1, hlt, by go_num, hJ4, hn4⟩, by simp [intOf]; omega⟩
      · have J3 : Jx (L.take (k + 1)) W3 := by rw [← HT.out]; exact hJx3
        clear hJx3 HR b1 hy hr1 hex hsz1 hJs hnx
        gi_wp2
        refine bodyPost_ret (results_none rfl _ _ _) rfl ?_
        exact ⟨⟨_, rfl⟩, .inr ⟨_, HP.out, J3⟩⟩
    · obtain rfl : k = m := by omega
      gi_wp2
      go_end0
      exact ⟨⟨_, rfl⟩, .inl ⟨_, by rw [← HM.out, List.take_length], hJs⟩⟩
theorem vals1I_stops (F : Fence) (n : Nat) (hF : F.fn 129) (hro : F.round = none) (hn : 1 ≤ n) (Bs n0 cap : Nat) (ao : Option Addr) (L : List Itm) (hL : L.length ≤ 1000000) (w : World) (hBs : w.cell? ⟨Bs, 0, none⟩ = some (.slice ao L.length cap)) (hb : Bs < w.heap.size) (hn0 : n0 ≤ w.heap.size) (hA : AtI n0 w (.slice ao L.length cap) L) :
    SeqStopsK F n Tryz.prog 129 #[.pointer (some ⟨Bs, 0, none⟩)] (fun x : Itm => #[.agg (cellsI x)]) (Below n0) (fun xs => xs = L) (fun pre => pre <+: L) L.length w :=
  fun l J Jx W hW hJ _ hY h0 => vals1I_in F n hF hro hn l Bs n0 cap ao L hL J Jx hY W hJ ((hW.cell (p := ⟨Bs, 0, none⟩) hb).trans hBs) (Nat.le_trans hn0 hW.size) (hA.below (Nat.le_refl _) (hW.mono hn0)) h0
set_option maxHeartbeats 1000000 in
theorem valsI_any (ao : Option Addr) (len cap : Nat) (w : World) :
    Calls Tryz.prog 59 #[.slice ao len cap] w fun e w' => e = .returned (.func (.func 129) #[] #[.pointer (some ⟨w.heap.size, 0, none⟩)]) ∧ w' = w.alloc (.cells #[.slice ao len cap] 22) := by
  go_enter Tryz.func59, Tryz.ntmps59
  go_wp2
  go_ret
  exact ⟨rfl, rfl⟩
theorem putI_done {W W2 w' : World} {n0 : Nat} {v v' : Value} {pre : List Itm} {x : Itm} (b2 : Below n0 W W2) (k2 : KeepsOthers W W2) (o2 : OwnI W2 n0 v pre) (y2 : W2.heap[n0]? = some (.cells #[v] 22 (0, 0))) (hz2 : n0 ≤ W2.heap.size) (u1 : OwnI w' n0 v' (pre ++ [x])) (u2 : W2.grownBy w' v.ownBlock) :
    w'.heap[n0]? = some (.cells #[v] 22 (0, 0)) ∧ KeepsOthers W (w'.setCell ⟨n0, 0, none⟩ v') ∧ Below n0 W (w'.setCell ⟨n0, 0, none⟩ v') ∧ (w'.setCell ⟨n0, 0, none⟩ v').heap[n0]? = some (.cells #[v'] 22 (0, 0)) ∧ OwnI (w'.setCell ⟨n0, 0, none⟩ v') n0 v' (pre ++ [x]) := by
  have np : v.ownBlock ≠ some n0 := o2.apart y2 (by decide)
  have y3 : w'.heap[n0]? = some (.cells #[v] 22 (0, 0)) := (u2.block n0 (Array.getElem?_eq_some_iff.1 y2).1 (fun e => np e.symm)).trans y2
  refine ⟨y3, (k2.trans (KeepsOthers.of_grownBy u2 fun j o e hj => ?_)).trans (KeepsOthers.setCell _ _ _), (b2.grown u2 hz2 fun k e => (o2.block e).1).setCell (p := ⟨n0, 0, none⟩) (Nat.le_refl _) _, heap_setCell_same w' n0 0 _ _ _ y3, u1.aside (grownBy_setCell' _ _ _) (u1.apart y3 (by decide))⟩
  obtain ⟨_, _, cur, h⟩ := o2.block e
  rw [h] at hj
  cases hj
  rfl
set_option maxRecDepth 100000 in
set_option maxHeartbeats 2000000 in
theorem appendI_any (Bs cap : Nat) (ao : Option Addr) (L : List Itm) (hL : L.length ≤ 1000000) (w : World) (hBs : w.cell? ⟨Bs, 0, none⟩ = some (.slice ao L.length cap)) (hb : Bs < w.heap.size) (hA : AtI w.heap.size w (.slice ao L.length cap) L) :
    Calls Tryz.prog 180 #[.slice none 0 0, .func (.func 129) #[] #[.pointer (some ⟨Bs, 0, none⟩)]] w fun e w' => ∃ v, e = .returned v ∧ OwnI w' w.heap.size v L ∧ Below w.heap.size w w' := by
  have h3 : Fence.wide.fn 180 := trivial
  have h4 : Fence.wide.fn 129 := trivial
  refine (callsIn_wide (n := 6)).1 ?_
  refine callsIn_of_wp_marks Tryz.func180 rfl h3 ?_ rfl
  simp only [Tryz.ntmps180, List.size_toArray, List.length_cons, List.length_nil, Nat.reduceAdd, Nat.reduceSub, Array.replicate_succ, Array.replicate_zero, List.push_toArray, List.append_toArray, List.nil_append, List.cons_append]
  gi_wp2
  obtain ⟨n0, hn0⟩ : ∃ n0, w.heap.size = n0 := ⟨_, rfl⟩
  obtain ⟨w1, hw1⟩ : ∃ w1, w.alloc (.cells #[.slice none 0 0] 22) = w1 := ⟨_, rfl⟩
  have x0 : w1.heap[n0]? = some (.cells #[.slice none 0 0] 22 (0, 0)) := by
    rw [← hw1, ← hn0]
    exact World.alloc_heap_new w _
  have x1 : w1.heap.size = n0 + 1 := by rw [← hw1, ← hn0, World.size_alloc]
  have a1 : Below n0 w w1 := by
    rw [← hw1, ← hn0]
    exact (Below.refl _ _).alloc (Nat.le_refl _) _
  have hBs1 := (a1.cell (p := ⟨Bs, 0, none⟩) (by rw [← hn0]; exact hb)).trans hBs
  have hA1 : AtI n0 w1 (.slice ao L.length cap) L := by
    rw [hn0] at hA
    exact hA.below (Nat.le_refl _) a1
  have hb1 : Bs < w1.heap.size := by omega
  rw [hw1, hn0]
  clear hBs hb hA hw1
  refine wpIn_rangeFunc_ownH (by rfl) (by decide) (gf := 129) (lb := #[.pointer (some ⟨Bs, 0, none⟩)]) rfl h4 (enters_of Tryz.func129 (by kernel_rfl) rfl)
    (vals1I_stops Fence.wide 5 h4 (by rfl) (by decide) Bs n0 cap ao L hL w1 hBs1 hb1 (by omega) hA1) belowK_t (belowK_b (by omega)) (Below.refl _ _) (fun _ => rfl)
    (fun pre W => (∃ v, W.heap[n0]? = some (.cells #[v] 22 (0, 0)) ∧ OwnI W n0 v pre) ∧ Below n0 w W) (fun _ _ _ => False)
    (OwnFrom.and (fun pre W W' row hs hg hr => ?ownI) (ownFrom_below (by omega) (by omega))) (fun _ _ _ _ _ hs _ _ => hs) ⟨⟨_, x0, ownI_nil _ _⟩, a1⟩
    (fun x a' W => ∃ Bx, n0 < Bx ∧ W.heap[Bx]? = some (.cells (cellsI x) 55 (0, 0)) ∧ a' = { tmps := #[.slice none 0 0, .func (.func 129) #[] #[.pointer (some ⟨Bs, 0, none⟩)], .pointer (some ⟨n0, 0, none⟩), undef, .slice none 0 0, .pointer (some ⟨Bx, 0, none⟩), .func (.func 129) #[] #[.pointer (some ⟨Bs, 0, none⟩)], .agg (cellsI x), undef, undef, undef, undef, undef], defers := [] })
    (fun x a' _ W W' row hs hg hr => ?ownA) ?assign ?body ?done ?stop
  case ownI =>
    obtain ⟨v, h1, h2⟩ := hs
    refine ⟨v, (hg.block n0 (Array.getElem?_eq_some_iff.1 h1).1 fun e => ?_).trans h1, h2.keep hg fun r e => (hr r e).2⟩
    obtain ⟨_, o, h5, h6⟩ := hr n0 e.symm
    rw [h1] at h5
    cases h5
    cases h6
  case ownA =>
    obtain ⟨Bx, h0, h1, h2⟩ := hs
    refine ⟨Bx, h0, (hg.block Bx (Array.getElem?_eq_some_iff.1 h1).1 fun e => ?_).trans h1, h2⟩
    obtain ⟨_, o, h5, h6⟩ := hr Bx e.symm
    rw [h1] at h5
    cases h5
    cases h6
  case assign =>
    rintro l pre x W K ⟨⟨v, h1, h2⟩, hB⟩ hK
    have hsz : n0 < W.heap.size := (Array.getElem?_eq_some_iff.1 h1).1
    have q1 : (W.alloc (.cells (cellsI x) 55)).heap[n0]? = some (.cells #[v] 22 (0, 0)) := (Below.heap_alloc _ _ _ hsz).trans h1
    have q2 : OwnI (W.alloc (.cells (cellsI x) 55)) n0 v pre := h2.below ((Below.refl _ _).alloc (Nat.le_refl _) _)
    have q3 : Below n0 W (W.alloc (.cells (cellsI x) 55)) := (Below.refl _ _).alloc (by omega) _
    have q4 := World.alloc_heap_new W (.cells (cellsI x) 55)
    have HK := Lib.hid hK
    clear hK
    gi_wp2
    exact HK.out _ _ ((KeepsOthers.alloc _ _).from _) q3 ⟨⟨v, q1, q2⟩, hB.trans q3⟩ ⟨W.heap.size, hsz, q4, rfl⟩
  case body =>
    rintro l pre x a' W hl ⟨r, hlr⟩ ⟨⟨v, h1, h2⟩, hB⟩ ⟨Bx, hx0, hx1, rfl⟩ hlen
    have hc : W.cell? ⟨n0, 0, none⟩ = some v := (Lib.cell_of_heap h1 0).trans rfl
    have hr := rowAt_of_heap hx1
    have hsz : n0 < W.heap.size := (Array.getElem?_eq_some_iff.1 h1).1
    have b2 : Below n0 W (W.alloc (.cells (cellsI x) 55)) := (Below.refl _ _).alloc (by omega) _
    have o2 : OwnI (W.alloc (.cells (cellsI x) 55)) n0 v pre := h2.below ((Below.refl _ _).alloc (Nat.le_refl _) _)
    have r2 : rowAt (W.alloc (.cells (cellsI x) 55)) W.heap.size = some (cellsI x) := rowAt_of_heap (World.alloc_heap_new W _)
    have hz2 : n0 ≤ (W.alloc (.cells (cellsI x) 55)).heap.size := by rw [World.size_alloc]; omega
    have k2 : KeepsOthers W (W.alloc (.cells (cellsI x) 55)) := KeepsOthers.alloc _ _
    have y2 : (W.alloc (.cells (cellsI x) 55)).heap[n0]? = some (.cells #[v] 22 (0, 0)) := (Below.heap_alloc _ _ _ hsz).trans h1
    generalize hW2 : W.alloc (.cells (cellsI x) 55) = W2 at b2 o2 r2 hz2 k2 y2
    gi_wp2_with (gi_at_builtin; refine wpListIn_putI rfl (.tmp 8) (.tmp 10) (by rfl) n0 v pre (by rfl) o2 x W.heap.size 1 (by rfl) r2 hz2 (by omega) ?_; intro v' w' u1 u2 _; obtain ⟨y3, z1, z2, z3, z4⟩ := putI_done b2 k2 o2 y2 hz2 u1 u2; obtain ⟨ao', cap', rfl⟩ := u1.shape; have c3 : w'.cell? ⟨n0, 0, none⟩ = some v := (Lib.cell_of_heap y3 0).trans rfl; have f3 := frozen_of_rowAt (rowAt_of_heap y3) 0; have e9 : (pre ++ [x]).length = pre.length + 1 := (by rw [List.length_append]; rfl); rw [e9] at z1 z2 z3 z4; clear h1 h2 hc hr b2 o2 r2 y2 k2 u2 y3 hx1 e9)
    exact ⟨z1.from _, z2, ⟨_, z3, z4⟩, hB.trans z2⟩
  case done =>
    rintro D xs W hD rfl ⟨⟨v, h1, h2⟩, hB⟩ hK
    have hc : W.cell? ⟨n0, 0, none⟩ = some v := (Lib.cell_of_heap h1 0).trans rfl
    obtain ⟨ao', cap', rfl⟩ := h2.shape
    have q := Lib.hid h2
    clear h1 h2
    gi_wp2
    refine ⟨by simp, .inl ⟨_, _, rfl, run_takeDeferred hK, ?_⟩⟩
    have q2 : Below n0 W (W.putObj D (.deferred none)) := belowK_b (w := w1) (by omega) W D _ _ (by omega) hK rfl rfl
    subst hn0
    exact ⟨_, results_tmp rfl _ _ _, _, rfl, q.out.keep (grownBy_putObj' _ D _) (fun r e => by cases e; exact ⟨_, hK, rfl⟩), hB.trans q2⟩
  case stop =>
    rintro D c pre W _ _ h _
    exact h.elim
set_option maxRecDepth 100000 in
set_option maxHeartbeats 2000000 in
theorem vals1F_in (F : Fence) (n : Nat) (hF : F.fn 185) (hro : F.round = none) (hn : 1 ≤ n) (l Bs n0 cap : Nat) (ao : Option Addr) (L : List Lf) (hL : L.length ≤ 1000000) (J Jx : List Lf → World → Prop)
    (hY : ∀ pre x W, J pre W → pre.length < L.length → YieldAt F (n - 1) Tryz.prog l #[.agg (cellsF x)] W fun e W' =>
      (e = .returned (.bool true) ∧ J (pre ++ [x]) W' ∧ Below n0 W W') ∨ (e = .returned (.bool false) ∧ Jx (pre ++ [x]) W'))
    (W : World) (hJ : AbidesFrom W.heap.size J) (hBs : W.cell? ⟨Bs, 0, none⟩ = some (.slice ao L.length cap)) (hn0 : n0 ≤ W.heap.size) (hA : AtF n0 W (.slice ao L.length cap) L) (h0 : J [] W) :
    CallsIn F n Tryz.prog 185 #[.func (.yield l) #[] #[], .pointer (some ⟨Bs, 0, none⟩)] W fun e W' => (∃ v, e = .returned v) ∧
      ((∃ ys, ys = L ∧ J ys W') ∨ (∃ pre, pre <+: L ∧ Jx pre W')) := by
  obtain ⟨m, hm⟩ : ∃ m, L.length = m := ⟨_, rfl⟩
  have HM : Hid (L.length = m) := hm
  have hm1 : (m : Int) ≤ 1000000 := by omega
  have HA : Hid (∀ i, i < m → ∃ g o cur, ao = some ⟨g, o, none⟩ ∧ g < n0 ∧ rowOr (rowAt W g) (rowF W g) = some cur ∧ o + (i * 65 + 65) ≤ cur.size ∧ cur.extract (o + i * 65) (o + i * 65 + 65) = cellsF (L.getD i zeroLf)) := by
    obtain ⟨ao', cap', h1, h2⟩ := hA
    injection h1 with e1 e2 e3
    rw [← hm, e1]
    exact h2
  rw [hm] at hBs hY
  clear hm hL hA
  refine callsIn_of_wp Tryz.func185 rfl hF ?_ hro
  simp only [Tryz.ntmps185, List.size_toArray, List.length_cons, List.length_nil, Nat.reduceAdd, Nat.reduceSub, Array.replicate_succ, Array.replicate_zero, List.push_toArray, List.append_toArray, List.nil_append, List.cons_append]
  gi_wp2
  gi_loopw [7] (fun i wr => ∃ k : Nat, k ≤ m ∧ i = .int .i64 k ∧ J (L.take k) wr ∧ Below n0 W wr) (fun i _ => m - (intOf i).toNat)
  case atStart => exact ⟨0, Nat.zero_le _, rfl, h0, Below.refl _ _⟩
  case round =>
    obtain ⟨k, hk, rfl, hJs, hnx⟩ := hrel
    by_cases hlt : k < m
    · have hlt' : (k : Int) < m := by omega
      obtain ⟨g, o, cur, rfl, hg, hr0, hsz, hex⟩ := HA.out k hlt
      have hr1 : rowOr (rowAt wr g) (rowF wr g) = some cur := (rowG_below hnx hg).trans hr0
      have hsz1 : o + k * 65 + 65 ≤ cur.size := by omega
      obtain ⟨x, hx⟩ : ∃ x, L.getD k zeroLf = x := ⟨_, rfl⟩
      rw [hx] at hex
      have hJ1 : J (L.take k) (wr.alloc (.cells (cellsF x) 46)) := hJ _ _ _ none hJs (World.grownBy_alloc _ _ none) (fun r h => by cases h)
      have b1 : Below n0 wr (wr.alloc (.cells (cellsF x) 46)) := (Below.refl _ _).alloc (Nat.le_trans hn0 hnx.size) _
      obtain ⟨fn, tmps, assign, body, hy, hR⟩ := hY _ x _ hJ1 (by rw [List.length_take, HM.out]; omega)
      have HR := Lib.hid hR
      have HT : Hid (L.take k ++ [x] = L.take (k + 1)) := by
        show _ = _
        rw [← hx]
        exact (take_succD L _ k (by rw [HM.out]; exact hlt)).symm
      have HP : Hid (L.take (k + 1) <+: L) := List.take_prefix _ _
      clear hY hR hsz hJ1 hr0
      gi_wp2
      refine HR.out.mono ?_
      rintro e W3 (⟨rfl, hJ3, hk3⟩ | ⟨rfl, hJx3⟩)
      · have hJ4 : J (L.take (k + 1)) W3 := by rw [← HT.out]; exact hJ3
        have hn4 : Below n0 W W3 := (hnx.trans b1).trans hk3
        clear hJ3 hk3 HR b1 hy hr1 hex hsz1 hJs hnx
        gi_wp2
        exact ⟨⟨k + 1, hlt, by go_num, hJ4, hn4⟩, by simp [intOf]; omega⟩
      · have J3 : Jx (L.take (k + 1)) W3 := by rw [← HT.out]; exact hJx3
        clear hJx3 HR b1 hy hr1 hex hsz1 hJs hnx
        gi_wp2
        refine bodyPost_ret (results_none rfl _ _ _) rfl ?_
        exact ⟨⟨_, rfl⟩, .inr ⟨_, HP.out, J3⟩⟩
    · obtain rfl : k = m := by omega
      gi_wp2
      go_end0
      exact ⟨⟨_, rfl⟩, .inl ⟨_, by rw [← HM.out, List.take_length], hJs⟩⟩
theorem vals1F_stops (F : Fence) (n : Nat) (hF : F.fn 185) (hro : F.round = none) (hn : 1 ≤ n) (Bs n0 cap : Nat) (ao : Option Addr) (L : List Lf) (hL : L.length ≤ 1000000) (w : World) (hBs : w.cell? ⟨Bs, 0, none⟩ = some (.slice ao L.length cap)) (hb : Bs < w.heap.size) (hn0 : n0 ≤ w.heap.size) (hA : AtF n0 w (.slice ao L.length cap) L) :
    SeqStopsK F n Tryz.prog 185 #[.pointer (some ⟨Bs, 0, none⟩)] (fun x : Lf => #[.agg (cellsF x)]) (Below n0) (fun xs => xs = L) (fun pre => pre <+: L) L.length w :=
  fun l J Jx W hW hJ _ hY h0 => vals1F_in F n hF hro hn l Bs n0 cap ao L hL J Jx hY W hJ ((hW.cell (p := ⟨Bs, 0, none⟩) hb).trans hBs) (Nat.le_trans hn0 hW.size) (hA.below (Nat.le_refl _) (hW.mono hn0)) h0
set_option maxHeartbeats 1000000 in
theorem valsF_any (ao : Option Addr) (len cap : Nat) (w : World) :
    Calls Tryz.prog 132 #[.slice ao len cap] w fun e w' => e = .returned (.func (.func 185) #[] #[.pointer (some ⟨w.heap.size, 0, none⟩)]) ∧ w' = w.alloc (.cells #[.slice ao len cap] 38) := by
  go_enter Tryz.func132, Tryz.ntmps132
  go_wp2
  go_ret
  exact ⟨rfl, rfl⟩
theorem putF_done {W W2 w' : World} {n0 : Nat} {v v' : Value} {pre : List Lf} {x : Lf} (b2 : Below n0 W W2) (k2 : KeepsOthers W W2) (o2 : OwnF W2 n0 v pre) (y2 : W2.heap[n0]? = some (.cells #[v] 38 (0, 0))) (hz2 : n0 ≤ W2.heap.size) (u1 : OwnF w' n0 v' (pre ++ [x])) (u2 : W2.grownBy w' v.ownBlock) :
    w'.heap[n0]? = some (.cells #[v] 38 (0, 0)) ∧ KeepsOthers W (w'.setCell ⟨n0, 0, none⟩ v') ∧ Below n0 W (w'.setCell ⟨n0, 0, none⟩ v') ∧ (w'.setCell ⟨n0, 0, none⟩ v').heap[n0]? = some (.cells #[v'] 38 (0, 0)) ∧ OwnF (w'.setCell ⟨n0, 0, none⟩ v') n0 v' (pre ++ [x]) := by
  have np : v.ownBlock ≠ some n0 := o2.apart y2 (by decide)
  have y3 : w'.heap[n0]? = some (.cells #[v] 38 (0, 0)) := (u2.block n0 (Array.getElem?_eq_some_iff.1 y2).1 (fun e => np e.symm)).trans y2
  refine ⟨y3, (k2.trans (KeepsOthers.of_grownBy u2 fun j o e hj => ?_)).trans (KeepsOthers.setCell _ _ _), (b2.grown u2 hz2 fun k e => (o2.block e).1).setCell (p := ⟨n0, 0, none⟩) (Nat.le_refl _) _, heap_setCell_same w' n0 0 _ _ _ y3, u1.aside (grownBy_setCell' _ _ _) (u1.apart y3 (by decide))⟩
  obtain ⟨_, _, cur, h⟩ := o2.block e
  rw [h] at hj
  cases hj
  rfl
set_option maxRecDepth 100000 in
set_option maxHeartbeats 2000000 in
theorem appendF_any (Bs cap : Nat) (ao : Option Addr) (L : List Lf) (hL : L.length ≤ 1000000) (w : World) (hBs : w.cell? ⟨Bs, 0, none⟩ = some (.slice ao L.length cap)) (hb : Bs < w.heap.size) (hA : AtF w.heap.size w (.slice ao L.length cap) L) :
    Calls Tryz.prog 216 #[.slice none 0 0, .func (.func 185) #[] #[.pointer (some ⟨Bs, 0, none⟩)]] w fun e w' => ∃ v, e = .returned v ∧ OwnF w' w.heap.size v L ∧ Below w.heap.size w w' := by
  have h3 : Fence.wide.fn 216 := trivial
  have h4 : Fence.wide.fn 185 := trivial
  refine (callsIn_wide (n := 6)).1 ?_
  refine callsIn_of_wp_marks Tryz.func216 rfl h3 ?_ rfl
  simp only [Tryz.ntmps216, List.size_toArray, List.length_cons, List.length_nil, Nat.reduceAdd, Nat.reduceSub, Array.replicate_succ, Array.replicate_zero, List.push_toArray, List.append_toArray, List.nil_append, List.cons_append]
  gi_wp2
  obtain ⟨n0, hn0⟩ : ∃ n0, w.heap.size = n0 := ⟨_, rfl⟩
  obtain ⟨w1, hw1⟩ : ∃ w1, w.alloc (.cells #[.slice none 0 0] 38) = w1 := ⟨_, rfl⟩
  have x0 : w1.heap[n0]? = some (.cells #[.slice none 0 0] 38 (0, 0)) := by
    rw [← hw1, ← hn0]
    exact World.alloc_heap_new w _
  have x1 : w1.heap.size = n0 + 1 := by rw [← hw1, ← hn0, World.size_alloc]
  have a1 : Below n0 w w1 := by
    rw [← hw1, ← hn0]
    exact (Below.refl _ _).alloc (Nat.le_refl _) _
  have hBs1 := (a1.cell (p := ⟨Bs, 0, none⟩) (by rw [← hn0]; exact hb)).trans hBs
  have hA1 : AtF n0 w1 (.slice ao L.length cap) L := by
    rw [hn0] at hA
    exact hA.below (Nat.le_refl _) a1
  have hb1 : Bs < w1.heap.size := by omega
  rw [hw1, hn0]
  clear hBs hb hA hw1
  refine wpIn_rangeFunc_ownH (by rfl) (by decide) (gf := 185) (lb := #[.pointer (some ⟨Bs, 0, none⟩)]) rfl h4 (enters_of Tryz.func185 (by kernel_rfl) rfl)
    (vals1F_stops Fence.wide 5 h4 (by rfl) (by decide) Bs n0 cap ao L hL w1 hBs1 hb1 (by omega) hA1) belowK_t (belowK_b (by omega)) (Below.refl _ _) (fun _ => rfl)
    (fun pre W => (∃ v, W.heap[n0]? = some (.cells #[v] 38 (0, 0)) ∧ OwnF W n0 v pre) ∧ Below n0 w W) (fun _ _ _ => False)
    (OwnFrom.and (fun pre W W' row hs hg hr => ?ownI) (ownFrom_below (by omega) (by omega))) (fun _ _ _ _ _ hs _ _ => hs) ⟨⟨_, x0, ownF_nil _ _⟩, a1⟩
    (fun x a' W => ∃ Bx, n0 < Bx ∧ W.heap[Bx]? = some (.cells (cellsF x) 46 (0, 0)) ∧ a' = { tmps := #[.slice none 0 0, .func (.func 185) #[] #[.pointer (some ⟨Bs, 0, none⟩)], .pointer (some ⟨n0, 0, none⟩), undef, .slice none 0 0, .pointer (some ⟨Bx, 0, none⟩), .func (.func 185) #[] #[.pointer (some ⟨Bs, 0, none⟩)], .agg (cellsF x), undef, undef, undef, undef, undef], defers := [] })
    (fun x a' _ W W' row hs hg hr => ?ownA) ?assign ?body ?done ?stop
  case ownI =>
    obtain ⟨v, h1, h2⟩ := hs
    refine ⟨v, (hg.block n0 (Array.getElem?_eq_some_iff.1 h1).1 fun e => ?_).trans h1, h2.keep hg fun r e => (hr r e).2⟩
    obtain ⟨_, o, h5, h6⟩ := hr n0 e.symm
    rw [h1] at h5
    cases h5
    cases h6
  case ownA =>
    obtain ⟨Bx, h0, h1, h2⟩ := hs
    refine ⟨Bx, h0, (hg.block Bx (Array.getElem?_eq_some_iff.1 h1).1 fun e => ?_).trans h1, h2⟩
    obtain ⟨_, o, h5, h6⟩ := hr Bx e.symm
    rw [h1] at h5
    cases h5
    cases h6
  case assign =>
    rintro l pre x W K ⟨⟨v, h1, h2⟩, hB⟩ hK
    have hsz : n0 < W.heap.size := (Array.getElem?_eq_some_iff.1 h1).1
    have q1 : (W.alloc (.cells (cellsF x) 46)).heap[n0]? = some (.cells #[v] 38 (0, 0)) := (Below.heap_alloc _ _ _ hsz).trans h1
    have q2 : OwnF (W.alloc (.cells (cellsF x) 46)) n0 v pre := h2.below ((Below.refl _ _).alloc (Nat.le_refl _) _)
    have q3 : Below n0 W (W.alloc (.cells (cellsF x) 46)) := (Below.refl _ _).alloc (by omega) _
    have q4 := World.alloc_heap_new W (.cells (cellsF x) 46)
    have HK := Lib.hid hK
    clear hK
    gi_wp2
    exact HK.out _ _ ((KeepsOthers.alloc _ _).from _) q3 ⟨⟨v, q1, q2⟩, hB.trans q3⟩ ⟨W.heap.size, hsz, q4, rfl⟩
  case body =>
    rintro l pre x a' W hl ⟨r, hlr⟩ ⟨⟨v, h1, h2⟩, hB⟩ ⟨Bx, hx0, hx1, rfl⟩ hlen
    have hc : W.cell? ⟨n0, 0, none⟩ = some v := (Lib.cell_of_heap h1 0).trans rfl
    have hr := rowAt_of_heap hx1
    have hsz : n0 < W.heap.size := (Array.getElem?_eq_some_iff.1 h1).1
    have b2 : Below n0 W (W.alloc (.cells (cellsF x) 46)) := (Below.refl _ _).alloc (by omega) _
    have o2 : OwnF (W.alloc (.cells (cellsF x) 46)) n0 v pre := h2.below ((Below.refl _ _).alloc (Nat.le_refl _) _)
    have r2 : rowAt (W.alloc (.cells (cellsF x) 46)) W.heap.size = some (cellsF x) := rowAt_of_heap (World.alloc_heap_new W _)
    have hz2 : n0 ≤ (W.alloc (.cells (cellsF x) 46)).heap.size := by rw [World.size_alloc]; omega
    have k2 : KeepsOthers W (W.alloc (.cells (cellsF x) 46)) := KeepsOthers.alloc _ _
    have y2 : (W.alloc (.cells (cellsF x) 46)).heap[n0]? = some (.cells #[v] 38 (0, 0)) := (Below.heap_alloc _ _ _ hsz).trans h1
    generalize hW2 : W.alloc (.cells (cellsF x) 46) = W2 at b2 o2 r2 hz2 k2 y2
    gi_wp2_with (gi_at_builtin; refine wpListIn_putF rfl (.tmp 8) (.tmp 10) (by rfl) n0 v pre (by rfl) o2 x W.heap.size 1 (by rfl) r2 hz2 (by omega) ?_; intro v' w' u1 u2 _; obtain ⟨y3, z1, z2, z3, z4⟩ := putF_done b2 k2 o2 y2 hz2 u1 u2; obtain ⟨ao', cap', rfl⟩ := u1.shape; have c3 : w'.cell? ⟨n0, 0, none⟩ = some v := (Lib.cell_of_heap y3 0).trans rfl; have f3 := frozen_of_rowAt (rowAt_of_heap y3) 0; have e9 : (pre ++ [x]).length = pre.length + 1 := (by rw [List.length_append]; rfl); rw [e9] at z1 z2 z3 z4; clear h1 h2 hc hr b2 o2 r2 y2 k2 u2 y3 hx1 e9)
    exact ⟨z1.from _, z2, ⟨_, z3, z4⟩, hB.trans z2⟩
  case done =>
    rintro D xs W hD rfl ⟨⟨v, h1, h2⟩, hB⟩ hK
    have hc : W.cell? ⟨n0, 0, none⟩ = some v := (Lib.cell_of_heap h1 0).trans rfl
    obtain ⟨ao', cap', rfl⟩ := h2.shape
    have q := Lib.hid h2
    clear h1 h2
    gi_wp2
    refine ⟨by simp, .inl ⟨_, _, rfl, run_takeDeferred hK, ?_⟩⟩
    have q2 : Below n0 W (W.putObj D (.deferred none)) := belowK_b (w := w1) (by omega) W D _ _ (by omega) hK rfl rfl
    subst hn0
    exact ⟨_, results_tmp rfl _ _ _, _, rfl, q.out.keep (grownBy_putObj' _ D _) (fun r e => by cases e; exact ⟨_, hK, rfl⟩), hB.trans q2⟩
  case stop =>
    rintro D c pre W _ _ h _
    exact h.elim
set_option maxRecDepth 100000 in
set_option maxHeartbeats 2000000 in
theorem vals1L_in (F : Fence) (n : Nat) (hF : F.fn 188) (hro : F.round = none) (hn : 1 ≤ n) (l Bs n0 cap : Nat) (ao : Option Addr) (L : List Lab) (hL : L.length ≤ 1000000) (J Jx : List Lab → World → Prop)
    (hY : ∀ pre x W, J pre W → pre.length < L.length → YieldAt F (n - 1) Tryz.prog l #[.agg (cellsL x)] W fun e W' =>
      (e = .returned (.bool true) ∧ J (pre ++ [x]) W' ∧ Below n0 W W') ∨ (e = .returned (.bool false) ∧ Jx (pre ++ [x]) W'))
    (W : World) (hJ : AbidesFrom W.heap.size J) (hBs : W.cell? ⟨Bs, 0, none⟩ = some (.slice ao L.length cap)) (hn0 : n0 ≤ W.heap.size) (hA : AtL n0 W (.slice ao L.length cap) L) (h0 : J [] W) :
    CallsIn F n Tryz.prog 188 #[.func (.yield l) #[] #[], .pointer (some ⟨Bs, 0, none⟩)] W fun e W' => (∃ v, e = .returned v) ∧
      ((∃ ys, ys = L ∧ J ys W') ∨ (∃ pre, pre <+: L ∧ Jx pre W')) := by
  obtain ⟨m, hm⟩ : ∃ m, L.length = m := ⟨_, rfl⟩
  have HM : Hid (L.length = m) := hm
  have hm1 : (m : Int) ≤ 1000000 := by omega
  have HA : Hid (∀ i, i < m → ∃ g o cur, ao = some ⟨g, o, none⟩ ∧ g < n0 ∧ rowOr (rowAt W g) (rowF W g) = some cur ∧ o + (i * 32 + 32) ≤ cur.size ∧ cur.extract (o + i * 32) (o + i * 32 + 32) = cellsL (L.getD i zeroLab)) := by
    obtain ⟨ao', cap', h1, h2⟩ := hA
    injection h1 with e1 e2 e3
    rw [← hm, e1]
    exact h2
  rw [hm] at hBs hY
  clear hm hL hA
  refine callsIn_of_wp Tryz.func188 rfl hF ?_ hro
  simp only [Tryz.ntmps188, List.size_toArray, List.length_cons, List.length_nil, Nat.reduceAdd, Nat.reduceSub, Array.replicate_succ, Array.replicate_zero, List.push_toArray, List.append_toArray, List.nil_append, List.cons_append]
  gi_wp2
  gi_loopw [7] (fun i wr => ∃ k : Nat, k ≤ m ∧ i = .int .i64 k ∧ J (L.take k) wr ∧ Below n0 W wr) (fun i _ => m - (intOf i).toNat)
  case atStart => exact ⟨0, Nat.zero_le _, rfl, h0, Below.refl _ _⟩
  case round =>
    obtain ⟨k, hk, rfl, hJs, hnx⟩ := hrel
    by_cases hlt : k < m
    · have hlt' : (k : Int) < m := by omega
      obtain ⟨g, o, cur, rfl, hg, hr0, hsz, hex⟩ := HA.out k hlt
      have hr1 : rowOr (rowAt wr g) (rowF wr g) = some cur := (rowG_below hnx hg).trans hr0
      have hsz1 : o + k * 32 + 32 ≤ cur.size := by omega
      obtain ⟨x, hx⟩ : ∃ x, L.getD k zeroLab = x := ⟨_, rfl⟩
      rw [hx] at hex
      have hJ1 : J (L.take k) (wr.alloc (.cells (cellsL x) 27)) := hJ _ _ _ none hJs (World.grownBy_alloc _ _ none) (fun r h => by cases h)
      have b1 : Below n0 wr (wr.alloc (.cells (cellsL x) 27)) := (Below.refl _ _).alloc (Nat.le_trans hn0 hnx.size) _
      obtain ⟨fn, tmps, assign, body, hy, hR⟩ := hY _ x _ hJ1 (by rw [List.length_take, HM.out]; omega)
      have HR := Lib.hid hR
      have HT : Hid (L.take k ++ [x] = L.take (k + 1)) := by
        show _ = _
        rw [← hx]
        exact (take_succD L _ k (by rw [HM.out]; exact hlt)).symm
      have HP : Hid (L.take (k + 1) <+: L) := List.take_prefix _ _
      clear hY hR hsz hJ1 hr0
      gi_wp2
      refine HR.out.mono ?_
      rintro e W3 (⟨rfl, hJ3, hk3⟩ | ⟨rfl, hJx3⟩)
      · have hJ4 : J (L.take (k + 1)) W3 := by rw [← HT.out]; exact hJ3
        have hn4 : Below n0 W W3 := (hnx.trans b1).trans hk3
        clear hJ3 hk3 HR b1 hy hr1 hex hsz1 hJs hnx
        gi_wp2
        exact ⟨⟨k + 1, hlt, by go_num, hJ4, hn4⟩, by simp [intOf]; omega⟩
      · have J3 : Jx (L.take (k + 1)) W3 := by rw [← HT.out]; exact hJx3
        clear hJx3 HR b1 hy hr1 hex hsz1 hJs hnx
        gi_wp2
        refine bodyPost_ret (results_none rfl _ _ _) rfl ?_
        exact ⟨⟨_, rfl⟩, .inr ⟨_, HP.out, J3⟩⟩
    · obtain rfl : k = m := by omega
      gi_wp2
      go_end0
      exact ⟨⟨_, rfl⟩, .inl ⟨_, by rw [← HM.out, List.take_length], hJs⟩⟩
theorem vals1L_stops (F : Fence) (n : Nat) (hF : F.fn 188) (hro : F.round = none) (hn : 1 ≤ n) (Bs n0 cap : Nat) (ao : Option Addr) (L : List Lab) (hL : L.length ≤ 1000000) (w : World) (hBs : w.cell? ⟨Bs, 0, none⟩ = some (.slice ao L.length cap)) (hb : Bs < w.heap.size) (hn0 : n0 ≤ w.heap.size) (hA : AtL n0 w (.slice ao L.length cap) L) :
    SeqStopsK F n Tryz.prog 188 #[.pointer (some ⟨Bs, 0, none⟩)] (fun x : Lab => #[.agg (cellsL x)]) (Below n0) (fun xs => xs = L) (fun pre => pre <+: L) L.length w :=
  fun l J Jx W hW hJ _ hY h0 => vals1L_in F n hF hro hn l Bs n0 cap ao L hL J Jx hY W hJ ((hW.cell (p := ⟨Bs, 0, none⟩) hb).trans hBs) (Nat.le_trans hn0 hW.size) (hA.below (Nat.le_refl _) (hW.mono hn0)) h0
set_option maxHeartbeats 1000000 in
theorem valsL_any (ao : Option Addr) (len cap : Nat) (w : World) :
    Calls Tryz.prog 135 #[.slice ao len cap] w fun e w' => e = .returned (.func (.func 188) #[] #[.pointer (some ⟨w.heap.size, 0, none⟩)]) ∧ w' = w.alloc (.cells #[.slice ao len cap] 39) := by
  go_enter Tryz.func135, Tryz.ntmps135
  go_wp2
  go_ret
  exact ⟨rfl, rfl⟩
theorem putL_done {W W2 w' : World} {n0 : Nat} {v v' : Value} {pre : List Lab} {x : Lab} (b2 : Below n0 W W2) (k2 : KeepsOthers W W2) (o2 : OwnL W2 n0 v pre) (y2 : W2.heap[n0]? = some (.cells #[v] 39 (0, 0))) (hz2 : n0 ≤ W2.heap.size) (u1 : OwnL w' n0 v' (pre ++ [x])) (u2 : W2.grownBy w' v.ownBlock) :
    w'.heap[n0]? = some (.cells #[v] 39 (0, 0)) ∧ KeepsOthers W (w'.setCell ⟨n0, 0, none⟩ v') ∧ Below n0 W (w'.setCell ⟨n0, 0, none⟩ v') ∧ (w'.setCell ⟨n0, 0, none⟩ v').heap[n0]? = some (.cells #[v'] 39 (0, 0)) ∧ OwnL (w'.setCell ⟨n0, 0, none⟩ v') n0 v' (pre ++ [x]) := by
  have np : v.ownBlock ≠ some n0 := o2.apart y2 (by decide)
  have y3 : w'.heap[n0]? = some (.cells #[v] 39 (0, 0)) := (u2.block n0 (Array.getElem?_eq_some_iff.1 y2).1 (fun e => np e.symm)).trans y2
  refine ⟨y3, (k2.trans (KeepsOthers.of_grownBy u2 fun j o e hj => ?_)).trans (KeepsOthers.setCell _ _ _), (b2.grown u2 hz2 fun k e => (o2.block e).1).setCell (p := ⟨n0, 0, none⟩) (Nat.le_refl _) _, heap_setCell_same w' n0 0 _ _ _ y3, u1.aside (grownBy_setCell' _ _ _) (u1.apart y3 (by decide))⟩
  obtain ⟨_, _, cur, h⟩ := o2.block e
  rw [h] at hj
  cases hj
  rfl
set_option maxRecDepth 100000 in
set_option maxHeartbeats 2000000 in
theorem appendL_any (Bs cap : Nat) (ao : Option Addr) (L : List Lab) (hL : L.length ≤ 1000000) (w : World) (hBs : w.cell? ⟨Bs, 0, none⟩ = some (.slice ao L.length cap)) (hb : Bs < w.heap.size) (hA : AtL w.heap.size w (.slice ao L.length cap) L) :
    Calls Tryz.prog 218 #[.slice none 0 0, .func (.func 188) #[] #[.pointer (some ⟨Bs, 0, none⟩)]] w fun e w' => ∃ v, e = .returned v ∧ OwnL w' w.heap.size v L ∧ Below w.heap.size w w' := by
  have h3 : Fence.wide.fn 218 := trivial
  have h4 : Fence.wide.fn 188 := trivial
  refine (callsIn_wide (n := 6)).1 ?_
  refine callsIn_of_wp_marks Tryz.func218 rfl h3 ?_ rfl
  simp only [Tryz.ntmps218, List.size_toArray, List.length_cons, List.length_nil, Nat.reduceAdd, Nat.reduceSub, Array.replicate_succ, Array.replicate_zero, List.push_toArray, List.append_toArray, List.nil_append, List.cons_append]
  gi_wp2
  obtain ⟨n0, hn0⟩ : ∃ n0, w.heap.size = n0 := ⟨_, rfl⟩
  obtain ⟨w1, hw1⟩ : ∃ w1, w.alloc (.cells #[.slice none 0 0] 39) = w1 := ⟨_, rfl⟩
  have x0 : w1.heap[n0]? = some (.cells #[.slice none 0 0] 39 (0, 0)) := by
    rw [← hw1, ← hn0]
    exact World.alloc_heap_new w _
  have x1 : w1.heap.size = n0 + 1 := by rw [← hw1, ← hn0, World.size_alloc]
  have a1 : Below n0 w w1 := by
    rw [← hw1, ← hn0]
    exact (Below.refl _ _).alloc (Nat.le_refl _) _
  have hBs1 := (a1.cell (p := ⟨Bs, 0, none⟩) (by rw [← hn0]; exact hb)).trans hBs
  have hA1 : AtL n0 w1 (.slice ao L.length cap) L := by
    rw [hn0] at hA
    exact hA.below (Nat.le_refl _) a1
  have hb1 : Bs < w1.heap.size := by omega
  rw [hw1, hn0]
  clear hBs hb hA hw1
  refine wpIn_rangeFunc_ownH (by rfl) (by decide) (gf := 188) (lb := #[.pointer (some ⟨Bs, 0, none⟩)]) rfl h4 (enters_of Tryz.func188 (by kernel_rfl) rfl)
    (vals1L_stops Fence.wide 5 h4 (by rfl) (by decide) Bs n0 cap ao L hL w1 hBs1 hb1 (by omega) hA1) belowK_t (belowK_b (by omega)) (Below.refl _ _) (fun _ => rfl)
    (fun pre W => (∃ v, W.heap[n0]? = some (.cells #[v] 39 (0, 0)) ∧ OwnL W n0 v pre) ∧ Below n0 w W) (fun _ _ _ => False)
    (OwnFrom.and (fun pre W W' row hs hg hr => ?ownI) (ownFrom_below (by omega) (by omega))) (fun _ _ _ _ _ hs _ _ => hs) ⟨⟨_, x0, ownL_nil _ _⟩, a1⟩
    (fun x a' W => ∃ Bx, n0 < Bx ∧ W.heap[Bx]? = some (.cells (cellsL x) 27 (0, 0)) ∧ a' = { tmps := #[.slice none 0 0, .func (.func 188) #[] #[.pointer (some ⟨Bs, 0, none⟩)], .pointer (some ⟨n0, 0, none⟩), undef, .slice none 0 0, .pointer (some ⟨Bx, 0, none⟩), .func (.func 188) #[] #[.pointer (some ⟨Bs, 0, none⟩)], .agg (cellsL x), undef, undef, undef, undef, undef], defers := [] })
    (fun x a' _ W W' row hs hg hr => ?ownA) ?assign ?body ?done ?stop
  case ownI =>
    obtain ⟨v, h1, h2⟩ := hs
    refine ⟨v, (hg.block n0 (Array.getElem?_eq_some_iff.1 h1).1 fun e => ?_).trans h1, h2.keep hg fun r e => (hr r e).2⟩
    obtain ⟨_, o, h5, h6⟩ := hr n0 e.symm
    rw [h1] at h5
    cases h5
    cases h6
  case ownA =>
    obtain ⟨Bx, h0, h1, h2⟩ := hs
    refine ⟨Bx, h0, (hg.block Bx (Array.getElem?_eq_some_iff.1 h1).1 fun e => ?_).trans h1, h2⟩
    obtain ⟨_, o, h5, h6⟩ := hr Bx e.symm
    rw [h1] at h5
    cases h5
    cases h6
  case assign =>
    rintro l pre x W K ⟨⟨v, h1, h2⟩, hB⟩ hK
    have hsz : n0 < W.heap.size := (Array.getElem?_eq_some_iff.1 h1).1
    have q1 : (W.alloc (.cells (cellsL x) 27)).heap[n0]? = some (.cells #[v] 39 (0, 0)) := (Below.heap_alloc _ _ _ hsz).trans h1
    have q2 : OwnL (W.alloc (.cells (cellsL x) 27)) n0 v pre := h2.below ((Below.refl _ _).alloc (Nat.le_refl _) _)
    have q3 : Below n0 W (W.alloc (.cells (cellsL x) 27)) := (Below.refl _ _).alloc (by omega) _
    have q4 := World.alloc_heap_new W (.cells (cellsL x) 27)
    have HK := Lib.hid hK
    clear hK
    gi_wp2
    exact HK.out _ _ ((KeepsOthers.alloc _ _).from _) q3 ⟨⟨v, q1, q2⟩, hB.trans q3⟩ ⟨W.heap.size, hsz, q4, rfl⟩
  case body =>
    rintro l pre x a' W hl ⟨r, hlr⟩ ⟨⟨v, h1, h2⟩, hB⟩ ⟨Bx, hx0, hx1, rfl⟩ hlen
    have hc : W.cell? ⟨n0, 0, none⟩ = some v := (Lib.cell_of_heap h1 0).trans rfl
    have hr := rowAt_of_heap hx1
    have hsz : n0 < W.heap.size := (Array.getElem?_eq_some_iff.1 h1).1
    have b2 : Below n0 W (W.alloc (.cells (cellsL x) 27)) := (Below.refl _ _).alloc (by omega) _
    have o2 : OwnL (W.alloc (.cells (cellsL x) 27)) n0 v pre := h2.below ((Below.refl _ _).alloc (Nat.le_refl _) _)
    have r2 : rowAt (W.alloc (.cells (cellsL x) 27)) W.heap.size = some (cellsL x) := rowAt_of_heap (World.alloc_heap_new W _)
    have hz2 : n0 ≤ (W.alloc (.cells (cellsL x) 27)).heap.size := by rw [World.size_alloc]; omega
    have k2 : KeepsOthers W (W.alloc (.cells (cellsL x) 27)) := KeepsOthers.alloc _ _
    have y2 : (W.alloc (.cells (cellsL x) 27)).heap[n0]? = some (.cells #[v] 39 (0, 0)) := (Below.heap_alloc _ _ _ hsz).trans h1
    generalize hW2 : W.alloc (.cells (cellsL x) 27) = W2 at b2 o2 r2 hz2 k2 y2
    gi_wp2_with (gi_at_builtin; refine wpListIn_putL rfl (.tmp 8) (.tmp 10) (by rfl) n0 v pre (by rfl) o2 x W.heap.size 1 (by rfl) r2 hz2 (by omega) ?_; intro v' w' u1 u2 _; obtain ⟨y3, z1, z2, z3, z4⟩ := putL_done b2 k2 o2 y2 hz2 u1 u2; obtain ⟨ao', cap', rfl⟩ := u1.shape; have c3 : w'.cell? ⟨n0, 0, none⟩ = some v := (Lib.cell_of_heap y3 0).trans rfl; have f3 := frozen_of_rowAt (rowAt_of_heap y3) 0; have e9 : (pre ++ [x]).length = pre.length + 1 := (by rw [List.length_append]; rfl); rw [e9] at z1 z2 z3 z4; clear h1 h2 hc hr b2 o2 r2 y2 k2 u2 y3 hx1 e9)
    exact ⟨z1.from _, z2, ⟨_, z3, z4⟩, hB.trans z2⟩
  case done =>
    rintro D xs W hD rfl ⟨⟨v, h1, h2⟩, hB⟩ hK
    have hc : W.cell? ⟨n0, 0, none⟩ = some v := (Lib.cell_of_heap h1 0).trans rfl
    obtain ⟨ao', cap', rfl⟩ := h2.shape
    have q := Lib.hid h2
    clear h1 h2
    gi_wp2
    refine ⟨by simp, .inl ⟨_, _, rfl, run_takeDeferred hK, ?_⟩⟩
    have q2 : Below n0 W (W.putObj D (.deferred none)) := belowK_b (w := w1) (by omega) W D _ _ (by omega) hK rfl rfl
    subst hn0
    exact ⟨_, results_tmp rfl _ _ _, _, rfl, q.out.keep (grownBy_putObj' _ D _) (fun r e => by cases e; exact ⟨_, hK, rfl⟩), hB.trans q2⟩
  case stop =>
    rintro D c pre W _ _ h _
    exact h.elim
end Go.Proofs.YtppgmphojklaeaaGreatDoor
namespace Go.Proofs.YtppgmphojklaeaaGreatDoor
open Go Go.Shelf Go.RowKit Go.Lib Go.Sort

section
variable {α : Type} [Inhabited α]
theorem srt_flat_get (enc : α → List Value) (k : Nat) (k0 : 0 < k) (hk : ∀ x, (enc x).length = k) : ∀ (l : List α) (t : Nat), t < l.length * k → (l.flatMap enc)[t]? = some ((enc l[t / k]!)[t % k]!) := by
  intro l
  induction l with
  | nil => intro t h; simp at h
  | cons a l ih =>
    intro t h
    rw [List.flatMap_cons]
    by_cases ht : t < k
    · rw [List.getElem?_append_left (by rw [hk]; exact ht), Nat.div_eq_of_lt ht, Nat.mod_eq_of_lt ht]
      have h' : t < (enc a).length := by rw [hk]; exact ht
      rw [List.getElem?_eq_getElem h']
      show _ = some ((enc a)[t]!)
      rw [getElem!_pos (enc a) t h']
    · obtain ⟨s, rfl⟩ : ∃ s, t = k + s := ⟨t - k, by omega⟩
      rw [List.getElem?_append_right (by rw [hk]; omega), hk, Nat.add_sub_cancel_left, ih s (by rw [List.length_cons, Nat.add_mul] at h; omega), Nat.add_mod_left, Nat.add_div_left s k0]
      rfl
theorem srt_flat (enc : α → List Value) (k : Nat) (k0 : 0 < k) (hk : ∀ x, (enc x).length = k) (d : Array α) : (flatK enc k d).toList = d.toList.flatMap enc := by
  apply List.ext_getElem?
  intro t
  have hl : (d.toList.flatMap enc).length = d.size * k := by
    have : ∀ l : List α, (l.flatMap enc).length = l.length * k := fun l => by
      induction l with
      | nil => simp
      | cons a l ih => rw [List.flatMap_cons, List.length_append, hk, ih, List.length_cons, Nat.add_mul]; omega
    rw [this, Array.length_toList]
  by_cases h : t < d.size * k
  · rw [srt_flat_get enc k k0 hk _ t (by rw [Array.length_toList]; exact h), Array.getElem?_toList, Array.getElem?_eq_getElem (by rw [size_flatK]; exact h)]
    have := get_flatK enc k d t h
    rw [getElem!_pos _ t (by rw [size_flatK]; exact h)] at this
    rw [this, show d.toList[t / k]! = d[t / k]! from Array.getElem!_toList]
  · rw [List.getElem?_eq_none (by rw [Array.length_toList, size_flatK]; omega), List.getElem?_eq_none (by rw [hl]; omega)]
theorem srt_take (F c : Array Value) (h : F.size ≤ c.size) : (putCells id 0 F c).toList.take F.size = F.toList := by
  apply List.ext_getElem?
  intro t
  by_cases ht : t < F.size
  · rw [List.getElem?_take, if_pos ht, Array.getElem?_toList, putCells, Array.getElem?_mapIdx, Array.getElem?_eq_getElem (by omega), Array.getElem?_toList, Array.getElem?_eq_getElem ht]
    simp [ht]
  · rw [List.getElem?_eq_none (by rw [List.length_take]; omega), List.getElem?_eq_none (by rw [Array.length_toList]; omega)]
theorem srt_heap (w : World) (b : Nat) (F c : Array Value) (t : TypeId) (n : Nat) (os : Array Obj) (h : w.heap[b]? = some (.cells c t (0, 0))) : (grow (putRow id (Sort.ahead w n) b 0 F) os).heap[b]? = some (.cells (putCells id 0 F c) t (0, 0)) := by
  have hlt := (Array.getElem?_eq_some_iff.1 h).1
  show ((w.heap.modify b (onCells (putCells id 0 F))) ++ os)[b]? = _
  rw [Array.getElem?_append_left (by rw [Array.size_modify]; exact hlt), Array.getElem?_modify, if_pos rfl, h]
  rfl
theorem srt_grown (w : World) (b : Nat) (F : Array Value) (n : Nat) (os : Array Obj) : w.grownBy (grow (putRow id (Sort.ahead w n) b 0 F) os) (some b) := by
  refine ⟨rfl, rfl, rfl, ?_, fun k hk hne => ?_⟩
  · show w.heap.size ≤ ((w.heap.modify b _) ++ os).size
    rw [Array.size_append, Array.size_modify]
    omega
  · show ((w.heap.modify b (onCells (putCells id 0 F))) ++ os)[k]? = _
    rw [Array.getElem?_append_left (by rw [Array.size_modify]; exact hk), Array.getElem?_modify, if_neg (fun e => hne (by rw [e]))]
end
instance : Inhabited Itm := ⟨zeroItm⟩
instance : Inhabited Lf := ⟨zeroLf⟩
instance : Inhabited Lab := ⟨zeroLab⟩
theorem sortPI : SortPI Tryz.prog 66 where
  mixed := by kernel_rfl
  t0 := Tryz.underlying0
  a0 := fun w => by kernel_rfl
  z0 := fun w => by kernel_rfl
  v0 := fun w => by kernel_rfl
  t3 := Tryz.underlying3
  a3 := fun w => by kernel_rfl
  z3 := fun w => by kernel_rfl
  v3 := fun w => by kernel_rfl
  t4 := Tryz.underlying4
  a4 := fun w => by kernel_rfl
  z4 := fun w => by kernel_rfl
  v4 := fun w => by kernel_rfl
  tu := Tryz.underlying210
  au := fun w => by kernel_rfl
  zu := fun w => by kernel_rfl
  vu := fun w => by kernel_rfl
  ts := Tryz.underlying22
  ags := fun w => by kernel_rfl
  zs := fun w => by kernel_rfl
  vs := fun w => by kernel_rfl
  tf := Tryz.underlying117
  af := fun w => by kernel_rfl
  zf := fun w => by kernel_rfl
  vf := fun w => by kernel_rfl
  aE := fun w => by kernel_rfl
  zE := fun w => by kernel_rfl
  hSwap := Tryz.func243
  hRot := Tryz.func230
  hSym := Tryz.func215
  hIns := Tryz.func190
  hStable := Tryz.func181
  hSort := Tryz.func128
def encI (x : Itm) : List Value := (cellsI x).toList
theorem encI_len (x : Itm) : (encI x).length = 66 := by rw [encI, Array.length_toList, size_cellsI]
theorem listI_flat (L : List Itm) : listI L = L.flatMap encI := rfl
/-- A comparison that reads no memory of the caller's. -/
def CmpI (g : Nat) (cb : Array Value) (cf : Itm → Itm → Int) : Prop :=
  ∀ (W : World) (x y : Itm), Calls Tryz.prog g (#[.agg (cellsI x), .agg (cellsI y)] ++ cb) W fun e w' => e = .returned (.int .i64 (cf x y)) ∧ ∃ q os', w' = grow (W.drewN q) os'
theorem OwnI.holds {w : World} {B : Nat} {v : Value} {L : List Itm} (h : OwnI w B v L) : (v = .slice none 0 0 ∧ L = []) ∨ ∃ b cap c, v = .slice (some ⟨b, 0, none⟩) L.length cap ∧ B ≤ b ∧ w.heap[b]? = some (.cells c 55 (0, 0)) ∧ L.length ≤ cap ∧ cap ≤ maxLen ∧ c.size = cap * 66 ∧ HoldsK encI 66 w b 0 L.toArray := by
  rcases h.2 with ⟨h1, h2⟩ | ⟨b, cap, c, h1, h2, h3, h4, h5, h6, h7⟩
  · exact .inl ⟨h1, List.eq_nil_of_length_eq_zero h2⟩
  · refine .inr ⟨b, cap, c, h1, h2, h3, h4, h5, h6, fun j hj => ?_⟩
    have hr := rowAt_of_heap h3
    rw [size_flatK] at hj
    have hj' : j < L.length * 66 := by simpa using hj
    have hs : L.length * 66 ≤ c.size := by rw [h6]; exact Nat.mul_le_mul_right _ h4
    refine ⟨?_, frozen_of_rowAt hr _⟩
    rw [cell_of_rowAt hr, Nat.zero_add]
    have e1 : (c.toList.take (L.length * 66))[j]? = c[j]? := by rw [List.getElem?_take, if_pos hj', Array.getElem?_toList]
    rw [← e1, h7, listI_flat, srt_flat_get encI 66 (by decide) encI_len L j hj', get_flatK _ _ _ _ hj]
    simp
theorem ownI_put {w : World} {B : Nat} {v : Value} {L : List Itm} {b cap : Nat} {c : Array Value} (hv : v = .slice (some ⟨b, 0, none⟩) L.length cap) (hb : B ≤ b) (hc : w.heap[b]? = some (.cells c 55 (0, 0))) (hl : L.length ≤ cap) (hm : cap ≤ maxLen) (hs : c.size = cap * 66)
    (d : Array Itm) (hd : d.size = L.length) (n : Nat) (os : Array Obj) : OwnI (sortWorldK encI 66 w b 0 n d os) B v d.toList := by
  have hle : L.length * 66 ≤ c.size := by rw [hs]; exact Nat.mul_le_mul_right _ hl
  have hF : (flatK encI 66 d).size = L.length * 66 := by rw [size_flatK, hd]
  have hdl : d.toList.length = L.length := by rw [Array.length_toList]; exact hd
  refine ⟨listI_length _, .inr ⟨b, cap, putCells id 0 (flatK encI 66 d) c, by rw [hv, hdl], hb, srt_heap w b _ c _ n os hc, by rw [hdl]; exact hl, hm, by rw [putCells, Array.size_mapIdx]; exact hs, ?_⟩⟩
  have := srt_take (flatK encI 66 d) c (by rw [hF]; exact hle)
  rw [hdl, ← hF, this, srt_flat encI 66 (by decide) encI_len, listI_flat]
set_option maxHeartbeats 1000000 in
theorem insI_nil (f : Value) (w : World) : Calls Tryz.prog 190 #[.slice none 0 0, .int .i64 0, .int .i64 0, f] w fun e w' => e = .returned (.tuple #[]) ∧ w' = w := by
  go_enter Tryz.func190, Tryz.ntmps190
  go_wp2
  go_loopw [8] (fun s8 wr => s8 = .int .i64 1 ∧ wr = w) (fun _ _ => 0)
  case atStart => exact ⟨rfl, rfl⟩
  case round =>
    obtain ⟨rfl, rfl⟩ := hrel
    go_wp2
    go_end0
    exact ⟨rfl, rfl⟩
set_option maxHeartbeats 1000000 in
theorem stableI_nil (f : Value) (w : World) : Calls Tryz.prog 181 #[.slice none 0 0, .int .i64 0, f] w fun e w' => e = .returned (.tuple #[]) ∧ w' = w := by
  have hc := insI_nil f
  go_enter Tryz.func181, Tryz.ntmps181
  go_wp2
  go_loopw [7, 8] (fun s7 s8 wr => s7 = .int .i64 0 ∧ s8 = .int .i64 20 ∧ wr = w) (fun _ _ _ => 0)
  case atStart => exact ⟨rfl, rfl, rfl⟩
  case round =>
    obtain ⟨rfl, rfl, rfl⟩ := hrel
    go_wp2_with fail
    refine (hc _).mono ?_
    rintro e w2 ⟨rfl, rfl⟩
    go_wp2
    go_loopw [6, 7, 8, 9] (fun s6 _ _ _ w3 => s6 = .int .i64 20 ∧ w3 = w2) (fun _ _ _ _ _ => 0)
    case atStart => exact ⟨rfl, rfl⟩
    case round =>
      obtain ⟨rfl, rfl⟩ := hrel
      go_wp2
      go_end0
      exact ⟨rfl, rfl⟩
set_option maxHeartbeats 1000000 in
theorem sortI_nil (f : Value) (w : World) : Calls Tryz.prog 128 #[.slice none 0 0, f] w fun e w' => e = .returned (.tuple #[]) ∧ w' = w := by
  have hc := stableI_nil f
  go_enter Tryz.func128, Tryz.ntmps128
  go_wp2_with fail
  refine (hc _).mono ?_
  rintro e w2 ⟨rfl, rfl⟩
  go_wp2
  go_end0
  exact ⟨rfl, rfl⟩
set_option maxHeartbeats 1000000 in
theorem sortI_row (f : Value) (b n cap : Nat) (w : World) (R : World → Prop) (hc : Calls Tryz.prog 181 #[.slice (some ⟨b, 0, none⟩) n cap, .int .i64 n, f] w fun e w' => e = .returned (.tuple #[]) ∧ R w') :
    Calls Tryz.prog 128 #[.slice (some ⟨b, 0, none⟩) n cap, f] w fun e w' => e = .returned (.tuple #[]) ∧ R w' := by
  have HC := Lib.hid hc
  clear hc
  go_enter Tryz.func128, Tryz.ntmps128
  go_wp2_with fail
  refine HC.out.mono ?_
  rintro e w2 ⟨rfl, hR⟩
  have HR := Lib.hid hR
  clear hR HC
  go_wp2
  go_end0
  exact ⟨rfl, HR.out⟩
/-- A list of one's own is sorted in place, stably. -/
theorem sortI_any (g : Nat) (cb : Array Value) (cf : Itm → Itm → Int) (eg : ∀ args w, (callFunc g args).run Tryz.prog w = .ok (.enter g args) w) (hcf : CmpI g cb cf) (hw : Weak (ltOf cf)) (B : Nat) (v : Value) (L : List Itm) (hL : L.length ≤ 1000000) (w : World) (hB : B ≤ w.heap.size) (h : OwnI w B v L) :
    Calls Tryz.prog 128 #[v, .func (.func g) #[] cb] w fun e w' => e = .returned (.tuple #[]) ∧ OwnI w' B v (isortL (ltOf cf) L) ∧ Below B w w' := by
  rcases h.holds with ⟨rfl, rfl⟩ | ⟨b, cap, c, rfl, h2, h3, h4, h5, h6, h7⟩
  · refine (sortI_nil _ w).mono ?_
    rintro e w' ⟨rfl, rfl⟩
    exact ⟨rfl, h, Below.refl _ _⟩
  · have hblk := (Array.getElem?_eq_some_iff.1 h3).1
    have R : RowK encI 66 w b 0 L.toArray := ⟨encI_len, fun x => one_of_rowI x, h7, hblk⟩
    have hC : CmpLays Tryz.prog g cb encI 66 cf b 0 L.toArray.size w := fun m os dk _ x y => hcf _ x y
    have hz : L.toArray.size ≤ 1000000000 := by
      rw [List.size_toArray]
      omega
    have := stableI sortPI encI cf g cb b 0 cap L.toArray w w eg hC R hz hw (insI sortPI encI cf g cb b 0 cap L.toArray w eg hC R hz hw) (SWK.start h7)
    rw [List.size_toArray] at this
    refine sortI_row _ b L.length cap w _ (this.mono ?_)
    rintro e w' ⟨rfl, d', z1, z2, n, os, rfl⟩
    refine ⟨rfl, ?_, ?_⟩
    · have q := ownI_put (L := L) rfl h2 h3 h4 h5 h6 d' z1 n os
      rw [z2] at q
      exact q
    · exact (Below.refl B w).grown (srt_grown w b _ n os) hB (fun k e => by cases e; exact h2)
set_option maxHeartbeats 1000000 in
theorem collectI_any (Bs cap : Nat) (ao : Option Addr) (L : List Itm) (hL : L.length ≤ 1000000) (w : World) (hBs : w.cell? ⟨Bs, 0, none⟩ = some (.slice ao L.length cap)) (hb : Bs < w.heap.size) (hA : AtI w.heap.size w (.slice ao L.length cap) L) :
    Calls Tryz.prog 127 #[.func (.func 129) #[] #[.pointer (some ⟨Bs, 0, none⟩)]] w fun e w' => ∃ v, e = .returned v ∧ OwnI w' w.heap.size v L ∧ Below w.heap.size w w' := by
  have HC := Lib.hid (appendI_any Bs cap ao L hL w hBs hb hA)
  clear hBs hb hA
  go_enter Tryz.func127, Tryz.ntmps127
  go_wp2_with fail
  refine HC.out.mono ?_
  rintro e w2 ⟨v, rfl, h1, h2⟩
  have H1 := Lib.hid h1
  have H2 := Lib.hid h2
  obtain ⟨ao', cap', rfl⟩ := h1.shape
  clear h1 h2 HC
  go_wp2
  go_ret
  exact ⟨_, rfl, H1.out, H2.out⟩
set_option maxHeartbeats 1000000 in
/-- What an iterator over a list hands out, sorted stably. -/
theorem sortedI_any (g : Nat) (cb : Array Value) (cf : Itm → Itm → Int) (eg : ∀ args w, (callFunc g args).run Tryz.prog w = .ok (.enter g args) w) (hcf : CmpI g cb cf) (hw : Weak (ltOf cf)) (Bs cap : Nat) (ao : Option Addr) (L : List Itm) (hL : L.length ≤ 1000000) (w : World) (hBs : w.cell? ⟨Bs, 0, none⟩ = some (.slice ao L.length cap)) (hb : Bs < w.heap.size) (hA : AtI w.heap.size w (.slice ao L.length cap) L) :
    Calls Tryz.prog 58 #[.func (.func 129) #[] #[.pointer (some ⟨Bs, 0, none⟩)], .func (.func g) #[] cb] w fun e w' => ∃ v, e = .returned v ∧ OwnI w' w.heap.size v (isortL (ltOf cf) L) ∧ Below w.heap.size w w' := by
  have HC := Lib.hid (collectI_any Bs cap ao L hL w hBs hb hA)
  have HS : Hid (∀ (v : Value) (w' : World), w.heap.size ≤ w'.heap.size → OwnI w' w.heap.size v L → Calls Tryz.prog 128 #[v, .func (.func g) #[] cb] w' fun e w2 => e = .returned (.tuple #[]) ∧ OwnI w2 w.heap.size v (isortL (ltOf cf) L) ∧ Below w.heap.size w' w2) := fun v w' h1 h2 => sortI_any g cb cf eg hcf hw w.heap.size v L hL w' h1 h2
  clear hBs hb hA hcf hw eg
  go_enter Tryz.func58, Tryz.ntmps58
  go_wp2_with fail
  refine HC.out.mono ?_
  rintro e w2 ⟨v, rfl, h1, h2⟩
  have H2 := Lib.hid h2
  have HS2 := Lib.hid (HS.out v w2 h2.size h1)
  obtain ⟨ao', cap', rfl⟩ := h1.shape
  clear h1 h2 HC HS
  go_wp2_with fail
  refine HS2.out.mono ?_
  rintro e w3 ⟨rfl, h3, h4⟩
  have H3 := Lib.hid h3
  have H4 := Lib.hid (H2.out.trans h4)
  clear h3 h4 H2 HS2
  go_wp2
  go_ret
  exact ⟨_, rfl, H3.out, H4.out⟩
theorem sortPF : SortPF Tryz.prog 65 where
  mixed := by kernel_rfl
  t0 := Tryz.underlying0
  a0 := fun w => by kernel_rfl
  z0 := fun w => by kernel_rfl
  v0 := fun w => by kernel_rfl
  t3 := Tryz.underlying3
  a3 := fun w => by kernel_rfl
  z3 := fun w => by kernel_rfl
  v3 := fun w => by kernel_rfl
  t4 := Tryz.underlying4
  a4 := fun w => by kernel_rfl
  z4 := fun w => by kernel_rfl
  v4 := fun w => by kernel_rfl
  tu := Tryz.underlying210
  au := fun w => by kernel_rfl
  zu := fun w => by kernel_rfl
  vu := fun w => by kernel_rfl
  ts := Tryz.underlying38
  ags := fun w => by kernel_rfl
  zs := fun w => by kernel_rfl
  vs := fun w => by kernel_rfl
  tf := Tryz.underlying198
  af := fun w => by kernel_rfl
  zf := fun w => by kernel_rfl
  vf := fun w => by kernel_rfl
  aE := fun w => by kernel_rfl
  zE := fun w => by kernel_rfl
  hSwap := Tryz.func249
  hRot := Tryz.func244
  hSym := Tryz.func232
  hIns := Tryz.func231
  hStable := Tryz.func217
  hSort := Tryz.func184
def encF (x : Lf) : List Value := (cellsF x).toList
theorem encF_len (x : Lf) : (encF x).length = 65 := by rw [encF, Array.length_toList, size_cellsF]
theorem listF_flat (L : List Lf) : listF L = L.flatMap encF := rfl
/-- A comparison that reads no memory of the caller's. -/
def CmpF (g : Nat) (cb : Array Value) (cf : Lf → Lf → Int) : Prop :=
  ∀ (W : World) (x y : Lf), Calls Tryz.prog g (#[.agg (cellsF x), .agg (cellsF y)] ++ cb) W fun e w' => e = .returned (.int .i64 (cf x y)) ∧ ∃ q os', w' = grow (W.drewN q) os'
theorem OwnF.holds {w : World} {B : Nat} {v : Value} {L : List Lf} (h : OwnF w B v L) : (v = .slice none 0 0 ∧ L = []) ∨ ∃ b cap c, v = .slice (some ⟨b, 0, none⟩) L.length cap ∧ B ≤ b ∧ w.heap[b]? = some (.cells c 46 (0, 0)) ∧ L.length ≤ cap ∧ cap ≤ maxLen ∧ c.size = cap * 65 ∧ HoldsK encF 65 w b 0 L.toArray := by
  rcases h.2 with ⟨h1, h2⟩ | ⟨b, cap, c, h1, h2, h3, h4, h5, h6, h7⟩
  · exact .inl ⟨h1, List.eq_nil_of_length_eq_zero h2⟩
  · refine .inr ⟨b, cap, c, h1, h2, h3, h4, h5, h6, fun j hj => ?_⟩
    have hr := rowAt_of_heap h3
    rw [size_flatK] at hj
    have hj' : j < L.length * 65 := by simpa using hj
    have hs : L.length * 65 ≤ c.size := by rw [h6]; exact Nat.mul_le_mul_right _ h4
    refine ⟨?_, frozen_of_rowAt hr _⟩
    rw [cell_of_rowAt hr, Nat.zero_add]
    have e1 : (c.toList.take (L.length * 65))[j]? = c[j]? := by rw [List.getElem?_take, if_pos hj', Array.getElem?_toList]
    rw [← e1, h7, listF_flat, srt_flat_get encF 65 (by decide) encF_len L j hj', get_flatK _ _ _ _ hj]
    simp
theorem ownF_put {w : World} {B : Nat} {v : Value} {L : List Lf} {b cap : Nat} {c : Array Value} (hv : v = .slice (some ⟨b, 0, none⟩) L.length cap) (hb : B ≤ b) (hc : w.heap[b]? = some (.cells c 46 (0, 0))) (hl : L.length ≤ cap) (hm : cap ≤ maxLen) (hs : c.size = cap * 65)
    (d : Array Lf) (hd : d.size = L.length) (n : Nat) (os : Array Obj) : OwnF (sortWorldK encF 65 w b 0 n d os) B v d.toList := by
  have hle : L.length * 65 ≤ c.size := by rw [hs]; exact Nat.mul_le_mul_right _ hl
  have hF : (flatK encF 65 d).size = L.length * 65 := by rw [size_flatK, hd]
  have hdl : d.toList.length = L.length := by rw [Array.length_toList]; exact hd
  refine ⟨listF_length _, .inr ⟨b, cap, putCells id 0 (flatK encF 65 d) c, by rw [hv, hdl], hb, srt_heap w b _ c _ n os hc, by rw [hdl]; exact hl, hm, by rw [putCells, Array.size_mapIdx]; exact hs, ?_⟩⟩
  have := srt_take (flatK encF 65 d) c (by rw [hF]; exact hle)
  rw [hdl, ← hF, this, srt_flat encF 65 (by decide) encF_len, listF_flat]
set_option maxHeartbeats 1000000 in
theorem insF_nil (f : Value) (w : World) : Calls Tryz.prog 231 #[.slice none 0 0, .int .i64 0, .int .i64 0, f] w fun e w' => e = .returned (.tuple #[]) ∧ w' = w := by
  go_enter Tryz.func231, Tryz.ntmps231
  go_wp2
  go_loopw [8] (fun s8 wr => s8 = .int .i64 1 ∧ wr = w) (fun _ _ => 0)
  case atStart => exact ⟨rfl, rfl⟩
  case round =>
    obtain ⟨rfl, rfl⟩ := hrel
    go_wp2
    go_end0
    exact ⟨rfl, rfl⟩
set_option maxHeartbeats 1000000 in
theorem stableF_nil (f : Value) (w : World) : Calls Tryz.prog 217 #[.slice none 0 0, .int .i64 0, f] w fun e w' => e = .returned (.tuple #[]) ∧ w' = w := by
  have hc := insF_nil f
  go_enter Tryz.func217, Tryz.ntmps217
  go_wp2
  go_loopw [7, 8] (fun s7 s8 wr => s7 = .int .i64 0 ∧ s8 = .int .i64 20 ∧ wr = w) (fun _ _ _ => 0)
  case atStart => exact ⟨rfl, rfl, rfl⟩
  case round =>
    obtain ⟨rfl, rfl, rfl⟩ := hrel
    go_wp2_with fail
    refine (hc _).mono ?_
    rintro e w2 ⟨rfl, rfl⟩
    go_wp2
    go_loopw [6, 7, 8, 9] (fun s6 _ _ _ w3 => s6 = .int .i64 20 ∧ w3 = w2) (fun _ _ _ _ _ => 0)
    case atStart => exact ⟨rfl, rfl⟩
    case round =>
      obtain ⟨rfl, rfl⟩ := hrel
      go_wp2
      go_end0
      exact ⟨rfl, rfl⟩
set_option maxHeartbeats 1000000 in
theorem sortF_nil (f : Value) (w : World) : Calls Tryz.prog 184 #[.slice none 0 0, f] w fun e w' => e = .returned (.tuple #[]) ∧ w' = w := by
  have hc := stableF_nil f
  go_enter Tryz.func184, Tryz.ntmps184
  go_wp2_with fail
  refine (hc _).mono ?_
  rintro e w2 ⟨rfl, rfl⟩
  go_wp2
  go_end0
  exact ⟨rfl, rfl⟩
set_option maxHeartbeats 1000000 in
theorem sortF_row (f : Value) (b n cap : Nat) (w : World) (R : World → Prop) (hc : Calls Tryz.prog 217 #[.slice (some ⟨b, 0, none⟩) n cap, .int .i64 n, f] w fun e w' => e = .returned (.tuple #[]) ∧ R w') :
    Calls Tryz.prog 184 #[.slice (some ⟨b, 0, none⟩) n cap, f] w fun e w' => e = .returned (.tuple #[]) ∧ R w' := by
  have HC := Lib.hid hc
  clear hc
  go_enter Tryz.func184, Tryz.ntmps184
  go_wp2_with fail
  refine HC.out.mono ?_
  rintro e w2 ⟨rfl, hR⟩
  have HR := Lib.hid hR
  clear hR HC
  go_wp2
  go_end0
  exact ⟨rfl, HR.out⟩
/-- A list of one's own is sorted in place, stably. -/
theorem sortF_any (g : Nat) (cb : Array Value) (cf : Lf → Lf → Int) (eg : ∀ args w, (callFunc g args).run Tryz.prog w = .ok (.enter g args) w) (hcf : CmpF g cb cf) (hw : Weak (ltOf cf)) (B : Nat) (v : Value) (L : List Lf) (hL : L.length ≤ 1000000) (w : World) (hB : B ≤ w.heap.size) (h : OwnF w B v L) :
    Calls Tryz.prog 184 #[v, .func (.func g) #[] cb] w fun e w' => e = .returned (.tuple #[]) ∧ OwnF w' B v (isortL (ltOf cf) L) ∧ Below B w w' := by
  rcases h.holds with ⟨rfl, rfl⟩ | ⟨b, cap, c, rfl, h2, h3, h4, h5, h6, h7⟩
  · refine (sortF_nil _ w).mono ?_
    rintro e w' ⟨rfl, rfl⟩
    exact ⟨rfl, h, Below.refl _ _⟩
  · have hblk := (Array.getElem?_eq_some_iff.1 h3).1
    have R : RowK encF 65 w b 0 L.toArray := ⟨encF_len, fun x => one_of_rowF x, h7, hblk⟩
    have hC : CmpLays Tryz.prog g cb encF 65 cf b 0 L.toArray.size w := fun m os dk _ x y => hcf _ x y
    have hz : L.toArray.size ≤ 1000000000 := by
      rw [List.size_toArray]
      omega
    have := stableF sortPF encF cf g cb b 0 cap L.toArray w w eg hC R hz hw (insF sortPF encF cf g cb b 0 cap L.toArray w eg hC R hz hw) (SWK.start h7)
    rw [List.size_toArray] at this
    refine sortF_row _ b L.length cap w _ (this.mono ?_)
    rintro e w' ⟨rfl, d', z1, z2, n, os, rfl⟩
    refine ⟨rfl, ?_, ?_⟩
    · have q := ownF_put (L := L) rfl h2 h3 h4 h5 h6 d' z1 n os
      rw [z2] at q
      exact q
    · exact (Below.refl B w).grown (srt_grown w b _ n os) hB (fun k e => by cases e; exact h2)
set_option maxHeartbeats 1000000 in
theorem collectF_any (Bs cap : Nat) (ao : Option Addr) (L : List Lf) (hL : L.length ≤ 1000000) (w : World) (hBs : w.cell? ⟨Bs, 0, none⟩ = some (.slice ao L.length cap)) (hb : Bs < w.heap.size) (hA : AtF w.heap.size w (.slice ao L.length cap) L) :
    Calls Tryz.prog 183 #[.func (.func 185) #[] #[.pointer (some ⟨Bs, 0, none⟩)]] w fun e w' => ∃ v, e = .returned v ∧ OwnF w' w.heap.size v L ∧ Below w.heap.size w w' := by
  have HC := Lib.hid (appendF_any Bs cap ao L hL w hBs hb hA)
  clear hBs hb hA
  go_enter Tryz.func183, Tryz.ntmps183
  go_wp2_with fail
  refine HC.out.mono ?_
  rintro e w2 ⟨v, rfl, h1, h2⟩
  have H1 := Lib.hid h1
  have H2 := Lib.hid h2
  obtain ⟨ao', cap', rfl⟩ := h1.shape
  clear h1 h2 HC
  go_wp2
  go_ret
  exact ⟨_, rfl, H1.out, H2.out⟩
set_option maxHeartbeats 1000000 in
/-- What an iterator over a list hands out, sorted stably. -/
theorem sortedF_any (g : Nat) (cb : Array Value) (cf : Lf → Lf → Int) (eg : ∀ args w, (callFunc g args).run Tryz.prog w = .ok (.enter g args) w) (hcf : CmpF g cb cf) (hw : Weak (ltOf cf)) (Bs cap : Nat) (ao : Option Addr) (L : List Lf) (hL : L.length ≤ 1000000) (w : World) (hBs : w.cell? ⟨Bs, 0, none⟩ = some (.slice ao L.length cap)) (hb : Bs < w.heap.size) (hA : AtF w.heap.size w (.slice ao L.length cap) L) :
    Calls Tryz.prog 131 #[.func (.func 185) #[] #[.pointer (some ⟨Bs, 0, none⟩)], .func (.func g) #[] cb] w fun e w' => ∃ v, e = .returned v ∧ OwnF w' w.heap.size v (isortL (ltOf cf) L) ∧ Below w.heap.size w w' := by
  have HC := Lib.hid (collectF_any Bs cap ao L hL w hBs hb hA)
  have HS : Hid (∀ (v : Value) (w' : World), w.heap.size ≤ w'.heap.size → OwnF w' w.heap.size v L → Calls Tryz.prog 184 #[v, .func (.func g) #[] cb] w' fun e w2 => e = .returned (.tuple #[]) ∧ OwnF w2 w.heap.size v (isortL (ltOf cf) L) ∧ Below w.heap.size w' w2) := fun v w' h1 h2 => sortF_any g cb cf eg hcf hw w.heap.size v L hL w' h1 h2
  clear hBs hb hA hcf hw eg
  go_enter Tryz.func131, Tryz.ntmps131
  go_wp2_with fail
  refine HC.out.mono ?_
  rintro e w2 ⟨v, rfl, h1, h2⟩
  have H2 := Lib.hid h2
  have HS2 := Lib.hid (HS.out v w2 h2.size h1)
  obtain ⟨ao', cap', rfl⟩ := h1.shape
  clear h1 h2 HC HS
  go_wp2_with fail
  refine HS2.out.mono ?_
  rintro e w3 ⟨rfl, h3, h4⟩
  have H3 := Lib.hid h3
  have H4 := Lib.hid (H2.out.trans h4)
  clear h3 h4 H2 HS2
  go_wp2
  go_ret
  exact ⟨_, rfl, H3.out, H4.out⟩
def encL (x : Lab) : List Value := (cellsL x).toList
theorem encL_len (x : Lab) : (encL x).length = 32 := by rw [encL, Array.length_toList, size_cellsL]
theorem listL_flat (L : List Lab) : listL L = L.flatMap encL := rfl
/-- A comparison that reads no memory of the caller's. -/
def CmpL (g : Nat) (cb : Array Value) (cf : Lab → Lab → Int) : Prop :=
  ∀ (W : World) (x y : Lab), Calls Tryz.prog g (#[.agg (cellsL x), .agg (cellsL y)] ++ cb) W fun e w' => e = .returned (.int .i64 (cf x y)) ∧ ∃ q os', w' = grow (W.drewN q) os'
theorem OwnL.holds {w : World} {B : Nat} {v : Value} {L : List Lab} (h : OwnL w B v L) : (v = .slice none 0 0 ∧ L = []) ∨ ∃ b cap c, v = .slice (some ⟨b, 0, none⟩) L.length cap ∧ B ≤ b ∧ w.heap[b]? = some (.cells c 27 (0, 0)) ∧ L.length ≤ cap ∧ cap ≤ maxLen ∧ c.size = cap * 32 ∧ HoldsK encL 32 w b 0 L.toArray := by
  rcases h.2 with ⟨h1, h2⟩ | ⟨b, cap, c, h1, h2, h3, h4, h5, h6, h7⟩
  · exact .inl ⟨h1, List.eq_nil_of_length_eq_zero h2⟩
  · refine .inr ⟨b, cap, c, h1, h2, h3, h4, h5, h6, fun j hj => ?_⟩
    have hr := rowAt_of_heap h3
    rw [size_flatK] at hj
    have hj' : j < L.length * 32 := by simpa using hj
    have hs : L.length * 32 ≤ c.size := by rw [h6]; exact Nat.mul_le_mul_right _ h4
    refine ⟨?_, frozen_of_rowAt hr _⟩
    rw [cell_of_rowAt hr, Nat.zero_add]
    have e1 : (c.toList.take (L.length * 32))[j]? = c[j]? := by rw [List.getElem?_take, if_pos hj', Array.getElem?_toList]
    rw [← e1, h7, listL_flat, srt_flat_get encL 32 (by decide) encL_len L j hj', get_flatK _ _ _ _ hj]
    simp
theorem ownL_put {w : World} {B : Nat} {v : Value} {L : List Lab} {b cap : Nat} {c : Array Value} (hv : v = .slice (some ⟨b, 0, none⟩) L.length cap) (hb : B ≤ b) (hc : w.heap[b]? = some (.cells c 27 (0, 0))) (hl : L.length ≤ cap) (hm : cap ≤ maxLen) (hs : c.size = cap * 32)
    (d : Array Lab) (hd : d.size = L.length) (n : Nat) (os : Array Obj) : OwnL (sortWorldK encL 32 w b 0 n d os) B v d.toList := by
  have hle : L.length * 32 ≤ c.size := by rw [hs]; exact Nat.mul_le_mul_right _ hl
  have hF : (flatK encL 32 d).size = L.length * 32 := by rw [size_flatK, hd]
  have hdl : d.toList.length = L.length := by rw [Array.length_toList]; exact hd
  refine ⟨listL_length _, .inr ⟨b, cap, putCells id 0 (flatK encL 32 d) c, by rw [hv, hdl], hb, srt_heap w b _ c _ n os hc, by rw [hdl]; exact hl, hm, by rw [putCells, Array.size_mapIdx]; exact hs, ?_⟩⟩
  have := srt_take (flatK encL 32 d) c (by rw [hF]; exact hle)
  rw [hdl, ← hF, this, srt_flat encL 32 (by decide) encL_len, listL_flat]
end Go.Proofs.YtppgmphojklaeaaGreatDoor
namespace Go.Proofs.YtppgmphojklaeaaGreatDoor
open Go Go.RowKit Go.Sort Go.Lib

theorem drew_put (w : World) (o1 o2 : Obj) (q : Nat) : ((w.alloc o1).alloc o2).drewN q = grow (w.drewN q) #[o1, o2] := by
  rw [alloc_eq_grow, alloc_eq_grow, grow_grow]
  rfl
theorem grow_put (w : World) (o1 o2 : Obj) (q : Nat) (os : Array Obj) : grow (((w.alloc o1).alloc o2).drewN q) os = grow (w.drewN q) (#[o1, o2] ++ os) := by rw [drew_put, grow_grow]
set_option maxRecDepth 100000 in
theorem order_far (a b : Lab) (w : World) :
    Calls Tryz.prog 61 #[.agg (cellsL a), .agg (cellsL b)] w fun e w' => e = .returned (.int .i64 (order a b)) ∧ ∃ q os', w' = grow (w.drewN q) os' := by
  go_enter Tryz.func61, Tryz.ntmps61
  go_wp2
  have r1 : rowAt ((w.alloc (.cells (cellsL a) 27)).alloc (.cells (cellsL b) 27)) w.heap.size = some (cellsL a) := by simp [rowAt_alloc_past, rowAt_alloc_at]
  have r2 : rowAt ((w.alloc (.cells (cellsL a) 27)).alloc (.cells (cellsL b) 27)) (w.heap.size + 1) = some (cellsL b) := by simp [rowAt_alloc_at]
  have R1 := Lib.hid r1
  have R2 := Lib.hid r2
  clear r1 r2
  go_quiet ((go_at_call 130; exact Calls.quiet_of_same (Compare_any _ _ _ a b (by exact R1.out) (by exact R2.out) _ _)))
  go_wp2
  go_ret
  exact ⟨rfl, nq, _, drew_put w _ _ nq⟩
def ordI (x y : Itm) : Int := order x.b y.b
def ordF (x y : Lf) : Int := order x.a y.a
theorem weakI : Weak (ltOf ordI) := weak_order fun x : Itm => x.b
theorem weakF : Weak (ltOf ordF) := weak_order fun x : Lf => x.a
set_option maxRecDepth 100000 in
theorem cmp_items : CmpI 60 #[] ordI := fun w x y => by
  have hc := fun w => order_far x.b y.b w
  show Calls Tryz.prog 60 #[.agg (cellsI x), .agg (cellsI y)] w _
  go_enter Tryz.func60, Tryz.ntmps60
  go_wp2_with fail
  refine (hc _).mono ?_
  rintro e w2 ⟨rfl, q, os, rfl⟩
  rw [grow_put]
  generalize hG : grow (w.drewN q) _ = w3
  go_wp2
  go_ret
  exact ⟨rfl, _, _, hG.symm⟩
set_option maxRecDepth 100000 in
theorem cmp_leaves : CmpF 133 #[] ordF := fun w x y => by
  have hc := fun w => order_far x.a y.a w
  show Calls Tryz.prog 133 #[.agg (cellsF x), .agg (cellsF y)] w _
  go_enter Tryz.func133, Tryz.ntmps133
  go_wp2_with fail
  refine (hc _).mono ?_
  rintro e w2 ⟨rfl, q, os, rfl⟩
  rw [grow_put]
  generalize hG : grow (w.drewN q) _ = w3
  go_wp2
  go_ret
  exact ⟨rfl, _, _, hG.symm⟩
set_option maxRecDepth 100000 in
set_option maxHeartbeats 1000000 in
/-- A list of one's own, or of another's, in a new row, sorted. -/
theorem paSorted_any (v : Value) (L : List Itm) (hL : L.length ≤ 1000000) (w : World) (hA : AtI w.heap.size w v L) :
    Calls Tryz.prog 18 #[v] w fun e w' => ∃ u, e = .returned u ∧ OwnI w' w.heap.size u (isortL (ltOf ordI) L) ∧ Below w.heap.size w w' := by
  obtain ⟨ao, cap, rfl, hA2⟩ := hA
  have b1 : Below w.heap.size w (w.alloc (.cells #[.slice ao L.length cap] 22)) := (Below.refl _ _).alloc (Nat.le_refl _) _
  have hA1 : AtI w.heap.size (w.alloc (.cells #[.slice ao L.length cap] 22)) (.slice ao L.length cap) L := AtI.below ⟨ao, cap, rfl, hA2⟩ (Nat.le_refl _) b1
  have hc : (w.alloc (.cells #[.slice ao L.length cap] 22)).cell? ⟨w.heap.size, 0, none⟩ = some (.slice ao L.length cap) := (Lib.cell_of_heap (World.alloc_heap_new w _) 0).trans rfl
  have hs : w.heap.size < (w.alloc (.cells #[.slice ao L.length cap] 22)).heap.size := by rw [World.size_alloc]; omega
  have HS := Lib.hid (sortedI_any 60 #[] ordI (enters_of Tryz.func60 (by kernel_rfl) rfl) cmp_items weakI w.heap.size cap ao L hL _ hc hs (hA1.below (Nat.le_of_lt hs) (Below.refl _ _)))
  have HV := Lib.hid (valsI_any ao L.length cap w)
  clear hA2 hA1 hc
  go_enter Tryz.func18, Tryz.ntmps18
  go_wp2_with fail
  refine HV.out.mono ?_
  rintro e w2 ⟨rfl, rfl⟩
  go_wp2_with fail
  refine HS.out.mono ?_
  rintro e w3 ⟨u, rfl, h1, h2⟩
  have H1 : Hid (OwnI w3 w.heap.size u (isortL (ltOf ordI) L)) := h1.base (Nat.le_of_lt hs)
  have H2 : Hid (Below w.heap.size w w3) := b1.trans (h2.mono (Nat.le_of_lt hs))
  obtain ⟨ao', cap', rfl⟩ := h1.shape
  clear h1 h2 HS HV b1
  go_wp2
  go_ret
  exact ⟨_, rfl, H1.out, H2.out⟩
set_option maxRecDepth 100000 in
set_option maxHeartbeats 1000000 in
/-- A list of one's own, or of another's, in a new row, sorted. -/
theorem paRising_any (v : Value) (L : List Lf) (hL : L.length ≤ 1000000) (w : World) (hA : AtF w.heap.size w v L) :
    Calls Tryz.prog 62 #[v] w fun e w' => ∃ u, e = .returned u ∧ OwnF w' w.heap.size u (isortL (ltOf ordF) L) ∧ Below w.heap.size w w' := by
  obtain ⟨ao, cap, rfl, hA2⟩ := hA
  have b1 : Below w.heap.size w (w.alloc (.cells #[.slice ao L.length cap] 38)) := (Below.refl _ _).alloc (Nat.le_refl _) _
  have hA1 : AtF w.heap.size (w.alloc (.cells #[.slice ao L.length cap] 38)) (.slice ao L.length cap) L := AtF.below ⟨ao, cap, rfl, hA2⟩ (Nat.le_refl _) b1
  have hc : (w.alloc (.cells #[.slice ao L.length cap] 38)).cell? ⟨w.heap.size, 0, none⟩ = some (.slice ao L.length cap) := (Lib.cell_of_heap (World.alloc_heap_new w _) 0).trans rfl
  have hs : w.heap.size < (w.alloc (.cells #[.slice ao L.length cap] 38)).heap.size := by rw [World.size_alloc]; omega
  have HS := Lib.hid (sortedF_any 133 #[] ordF (enters_of Tryz.func133 (by kernel_rfl) rfl) cmp_leaves weakF w.heap.size cap ao L hL _ hc hs (hA1.below (Nat.le_of_lt hs) (Below.refl _ _)))
  have HV := Lib.hid (valsF_any ao L.length cap w)
  clear hA2 hA1 hc
  go_enter Tryz.func62, Tryz.ntmps62
  go_wp2_with fail
  refine HV.out.mono ?_
  rintro e w2 ⟨rfl, rfl⟩
  go_wp2_with fail
  refine HS.out.mono ?_
  rintro e w3 ⟨u, rfl, h1, h2⟩
  have H1 : Hid (OwnF w3 w.heap.size u (isortL (ltOf ordF) L)) := h1.base (Nat.le_of_lt hs)
  have H2 : Hid (Below w.heap.size w w3) := b1.trans (h2.mono (Nat.le_of_lt hs))
  obtain ⟨ao', cap', rfl⟩ := h1.shape
  clear h1 h2 HS HV b1
  go_wp2
  go_ret
  exact ⟨_, rfl, H1.out, H2.out⟩
end Go.Proofs.YtppgmphojklaeaaGreatDoor
namespace Go.Proofs.YtppgmphojklaeaaGreatDoor
open Go Go.RowKit

theorem rowAt_past {W w' : World} (h : Below W.heap.size W w') {b : Nat} {c : Array Value} (hc : rowAt W b = some c) : rowAt w' b = some c :=
  (rowAt_below h (lt_of_rowAt hc)).trans hc
theorem rowG_past {W w' : World} (h : Below W.heap.size W w') {b : Nat} {c : Array Value} (hc : rowOr (rowAt W b) (rowF W b) = some c) : rowOr (rowAt w' b) (rowF w' b) = some c :=
  (rowG_below h (lt_of_rowG hc)).trans hc
theorem Below.step {a W w' : World} (h : Below a.heap.size a W) (k : Below W.heap.size W w') : Below a.heap.size a w' := h.trans (k.mono h.size)
theorem below_past {B : Nat} {a W w' : World} (h : Below B a W) (k : Below W.heap.size W w') (hB : B ≤ W.heap.size) : Below B a w' := h.trans (k.mono hB)

/-- A world in which all that lay in another one is as it was. -/
structure Past (W : World) where
  w : World
  h : Below W.heap.size W w
instance (W : World) : Nonempty (Past W) := ⟨⟨W, Below.refl _ _⟩⟩
theorem Past.row {W : World} {b : Nat} {c : Array Value} (hc : rowAt W b = some c) (x : Past W) : rowAt x.w b = some c := rowAt_past x.h hc
theorem Past.rowG {W : World} {b : Nat} {c : Array Value} (hc : rowOr (rowAt W b) (rowF W b) = some c) (x : Past W) : rowOr (rowAt x.w b) (rowF x.w b) = some c := rowG_past x.h hc
theorem Past.cell {W : World} {p : Addr} (hp : p.block < W.heap.size) (x : Past W) : x.w.cell? p = W.cell? p := x.h.cell hp
theorem Past.call {P : Program} {W : World} {f : FuncId} {args : Array Value} {v : Value} {x : Past W}
    (h : Calls P f args x.w fun e w' => e = .returned v ∧ Below x.w.heap.size x.w w') : Calls P f args x.w fun e w'' => e = .returned v ∧ ∃ y : Past W, w'' = y.w :=
  h.mono fun _ w'' ⟨he, hb⟩ => ⟨he, ⟨w'', Below.step x.h hb⟩, rfl⟩
theorem Past.call_same {P : Program} {W : World} {f : FuncId} {args : Array Value} {v : Value} {x : Past W}
    (h : Calls P f args x.w fun e w' => e = .returned v ∧ w' = x.w) : Calls P f args x.w fun e w'' => e = .returned v ∧ ∃ y : Past W, w'' = y.w :=
  h.mono fun _ _ ⟨he, hb⟩ => ⟨he, x, hb⟩

theorem wp_region_past {P : Program} {id : Nat} {Q : Exit → Act → World → Prop} {a : Act} {w : World} {l : List Oper} (hm : P.follows .mixedOrders = true) (hB : Region.lexB .any l.toArray = true)
    (h : wpQuiet P l.toArray (fun w' => ∃ x : Past w, w' = x.w) (fun a' => ∀ w', (∃ x : Past w, w' = x.w) → Q .normal a' w') l a) : (Code.region id l.toArray true).wp P Q a w :=
  wp_region_quiet (C := fun w' => ∃ x : Past w, w' = x.w) hm hB ⟨⟨_, (Below.refl _ _).drew⟩, rfl⟩ (by simpa using h)
end Go.Proofs.YtppgmphojklaeaaGreatDoor
namespace Go.Proofs.YtppgmphojklaeaaGreatDoor
open Go Go.RowKit

/-- Bytes as a text. -/
abbrev stx (l : List UInt8) : ByteArray := ⟨l.toArray⟩
theorem stx_size (l : List UInt8) : (stx l).size = l.length := by show l.toArray.size = _; rw [List.size_toArray]
theorem stx_list (s : ByteArray) : stx s.data.toList = s := rfl

theorem stx_append (l m : List UInt8) : stx l ++ stx m = stx (l ++ m) := by
  apply ByteArray.ext
  rw [ByteArray.data_append]
  apply Array.toList_inj.1
  simp
theorem stx_extract (l : List UInt8) (i j : Nat) : (stx l).extract i j = stx ((l.take j).drop i) := by
  apply ByteArray.ext
  rw [ByteArray.data_extract]
  apply Array.toList_inj.1
  simp [List.extract_eq_take_drop, List.drop_take]

theorem cellLt {w : World} {a : Addr} {v : Value} (h : w.cell? a = some v) : a.block < w.heap.size := by
  unfold World.cell? at h
  rcases Nat.lt_or_ge a.block w.heap.size with k | k
  · exact k
  · rw [Array.getElem?_eq_none k] at h
    cases h
def atB (s : ByteArray) (i : Nat) : UInt8 := s.data.toList.getD i 0
theorem atB_get (s : ByteArray) (i : Nat) (h : i < s.size) : s[i] = atB s i := by
  have h2 : i < s.data.toList.length := h
  unfold atB
  rw [List.getD_eq_getElem?_getD, List.getElem?_eq_getElem h2]
  rfl

theorem sClone_any (s : ByteArray) (w : World) (hs : s.size ≤ 281474976710656) :
    Calls Tryz.prog 205 #[.string s] w fun r w' => r = .returned (.string s) ∧ Below w.heap.size w w' := by
  have HC := Lib.hid (Tryz.stringslite_Clone s w hs)
  clear hs
  go_enter Tryz.func205, Tryz.ntmps205
  go_wp2_with fail
  refine HC.out.mono ?_
  rintro e w1 ⟨rfl, b1⟩
  go_wp2_with fail
  go_ret
  exact ⟨rfl, b1⟩

def strCells (ts : List (List UInt8)) : List Value := ts.map fun t => .string (stx t)
theorem strCells_length (ts : List (List UInt8)) : (strCells ts).length = ts.length := by simp [strCells]
theorem strCells_put (ts : List (List UInt8)) (t : List UInt8) : strCells ts ++ [.string (stx t)] = strCells (ts ++ [t]) := by simp [strCells]
/-- A list of texts of the call's own. -/
def OwnStrs (w : World) (B : Nat) (v : Value) (ts : List (List UInt8)) : Prop := w.ownsRow B 9 1 v ts.length (strCells ts)
theorem OwnStrs.below {w w' : World} {B : Nat} {v : Value} {ts : List (List UInt8)} (h : OwnStrs w B v ts) (k : Below w.heap.size w w') : OwnStrs w' B v ts :=
  World.ownsRow.kept h (row := none) ⟨k.os, k.tape, k.output, k.size, fun j hj _ => k.block j hj⟩ (by cases hv : v.ownBlock <;> simp)
theorem info_str : ∃ i : TypeInfo, Tryz.prog.info? 9 = some i ∧ i.zero = some (.string ⟨#[]⟩) ∧ i.size = 1 ∧ i.bytes = 16 := by
  have h : (Tryz.prog.info? 9).map (fun i => (i.zero, i.size, i.bytes)) = some (some (.string ⟨#[]⟩), 1, 16) := by kernel_rfl
  cases hq : Tryz.prog.info? 9 with
  | none => rw [hq] at h; cases h
  | some i =>
    rw [hq] at h
    simp only [Option.map_some, Option.some.injEq, Prod.mk.injEq] at h
    exact ⟨i, rfl, h.1, h.2.1, h.2.2⟩
theorem ownStrs_empty (w : World) : OwnStrs (w.alloc (.cells #[] 9)) w.heap.size (.slice (some ⟨w.heap.size, 0, none⟩) 0 0) [] :=
  ⟨rfl, .inr ⟨w.heap.size, 0, #[], rfl, Nat.le_refl _, heap_alloc_new w _, Nat.le_refl _, Nat.zero_le _, rfl, rfl⟩⟩
/-- A list of texts that lie in memory. -/
def StrsAt (w : World) (v : Value) (ts : List (List UInt8)) : Prop :=
  ∃ ao cap, v = .slice ao ts.length cap ∧ ∀ i, i < ts.length → ∃ g, ao = some ⟨g, 0, none⟩ ∧ w.cell? ⟨g, i, none⟩ = some (.string (stx (ts.getD i [])))
theorem OwnStrs.lie {w : World} {B : Nat} {v : Value} {ts : List (List UInt8)} (h : OwnStrs w B v ts) : StrsAt w v ts := by
  have h' := h
  rcases h.2 with ⟨h1, h2⟩ | ⟨g, cap, cur, h1, _⟩
  · exact ⟨none, 0, by rw [h1, h2], fun i hi => absurd hi (by omega)⟩
  · refine ⟨_, _, h1, fun i hi => ⟨g, rfl, ?_⟩⟩
    have hb : v.ownBlock = some g := by rw [h1]; rfl
    have := World.ownsRow.cells h' hb i (.string (stx (ts.getD i []))) (by
      rw [strCells, List.getElem?_map, List.getElem?_eq_getElem hi, List.getD_eq_getElem?_getD, List.getElem?_eq_getElem hi]
      rfl)
    rw [← this]
    congr 1
    exact (show (⟨g, 0, none⟩ : Addr).add i = ⟨g, i, none⟩ by simp [Addr.add]; exact fun e => e.symm).symm
theorem StrsAt.below {w w' : World} {v : Value} {ts : List (List UInt8)} (h : StrsAt w v ts) (k : Below w.heap.size w w') : StrsAt w' v ts := by
  obtain ⟨ao, cap, h1, h2⟩ := h
  refine ⟨ao, cap, h1, fun i hi => ?_⟩
  obtain ⟨g, h3, h4⟩ := h2 i hi
  exact ⟨g, h3, (k.cell (p := ⟨g, i, none⟩) (cellLt h4)).trans h4⟩
theorem StrsAt.take {w : World} {v : Value} {ts : List (List UInt8)} (h : StrsAt w v ts) (k : Nat) (hk : k ≤ ts.length) : ∃ ao cap, v = .slice ao ts.length cap ∧ StrsAt w (.slice ao k cap) (ts.take k) := by
  obtain ⟨ao, cap, h1, h2⟩ := h
  refine ⟨ao, cap, h1, ao, cap, by rw [List.length_take, Nat.min_eq_left hk], fun i hi => ?_⟩
  rw [List.length_take, Nat.min_eq_left hk] at hi
  obtain ⟨g, h3, h4⟩ := h2 i (by omega)
  refine ⟨g, h3, ?_⟩
  rw [h4]
  congr 3
  rw [List.getD_eq_getElem?_getD, List.getD_eq_getElem?_getD, List.getElem?_take, if_pos hi]
theorem OwnStrs.shape {w : World} {B : Nat} {v : Value} {ts : List (List UInt8)} (h : OwnStrs w B v ts) : ∃ ao cap, v = .slice ao ts.length cap := by
  rcases h.2 with ⟨h1, h2⟩ | ⟨g, cap, cur, h1, _⟩
  · exact ⟨none, 0, by rw [h1, h2]⟩
  · exact ⟨_, _, h1⟩

/-- At most so many bytes. -/
def cutS (l : List UInt8) (n : Nat) : List UInt8 := l.take n
set_option maxRecDepth 100000 in
theorem l3Cut_any (s : ByteArray) (n : Nat) (w : World) (hn : n ≤ 100000) : Calls Tryz.prog 41 #[.string s, .int .i64 n] w fun e w' => e = .returned (.string (stx (s.data.toList.take n))) ∧ w' = w := by
  have hn0 : (0 : Int) ≤ n := by omega
  by_cases h : n < s.size
  · have h1 : decide (n < s.size) = true := decide_eq_true h
    have h2 : (n : Int) ≤ s.size := by omega
    have HX : Hid (s.extract 0 n = stx (s.data.toList.take n)) := Lib.hid (stx_extract s.data.toList 0 n)
    clear h
    go_enter Tryz.func41, Tryz.ntmps41
    go_wp2_with fail
    go_ret
    exact ⟨by rw [← HX.out]; rfl, rfl⟩
  · have h1 : decide (n < s.size) = false := decide_eq_false h
    have HX : Hid (stx (s.data.toList.take n) = s) := Lib.hid (by rw [List.take_of_length_le (show s.data.toList.length ≤ n from by show s.size ≤ n; omega)])
    clear h
    go_enter Tryz.func41, Tryz.ntmps41
    go_wp2_with fail
    go_ret
    exact ⟨by rw [HX.out]; rfl, rfl⟩
theorem stx_inj {a b : List UInt8} (h : stx a = stx b) : a = b := congrArg (fun x : ByteArray => x.data.toList) h

theorem str_ne {a b : ByteArray} (h : a ≠ b) : (a.toList == b.toList) = false := by
  rw [beq_eq_false_iff_ne, ByteArray.toList_eq, ByteArray.toList_eq]
  exact fun e => h (ByteArray.ext (Array.toList_inj.1 e))
theorem toList_none (s : ByteArray) : s.toList.isEmpty = true ↔ s.size = 0 := by
  rw [ByteArray.toList_eq, List.isEmpty_iff, ← List.length_eq_zero_iff, Array.length_toList]
  rfl
/-- A row of another type stays as it is. -/
theorem own_other {w w' : World} {B C e1 e2 s1 s2 n m : Nat} {v u : Value} {xs ys : List Value} (h1 : w.ownsRow B e1 s1 v n xs) (h2 : w.ownsRow C e2 s2 u m ys) (he : e1 ≠ e2) (hg : w.grownBy w' u.ownBlock) : w'.ownsRow B e1 s1 v n xs := by
  refine h1.kept hg ?_
  rcases h1.2 with ⟨a1, _⟩ | ⟨g, cap, cur, a1, _, a3, _⟩
  · left; rw [a1]; rfl
  · right
    rcases h2.2 with ⟨c1, _⟩ | ⟨g2, cap2, cur2, c1, _, c3, _⟩
    · rw [a1, c1]; simp [Value.ownBlock]
    · rw [a1, c1]
      intro e
      have : g = g2 := by simpa [Value.ownBlock] using e
      subst this
      rw [a3] at c3
      injection c3 with c3
      injection c3 with _ c4
      exact he c4
end Go.Proofs.YtppgmphojklaeaaGreatDoor
