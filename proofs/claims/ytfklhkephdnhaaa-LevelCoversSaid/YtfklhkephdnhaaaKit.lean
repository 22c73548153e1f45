/- Rows of cells that are known whole: what a walk reads and stores there, many cells at once, whatever they are. Conditions: none. -/
import Derived.WalkKit
import Derived.Deep.MidRow
import Derived.Stop.BytesEq
import Derived.Deep.Draws
import Derived.Below
namespace Go.Proofs.Ytfklhkephdnhaaa
open Go Go.RowKit

/-- The cells of a block that may be written, if it is one. -/
def rowAt (w : World) (b : Nat) : Option (Array Value) :=
  match w.heap[b]? with
  | some (.cells c _ fr) => if fr = (0, 0) then some c else none
  | _ => none

theorem rowAt_of_heap {w : World} {b : Nat} {c : Array Value} {t : TypeId} (h : w.heap[b]? = some (.cells c t (0, 0))) : rowAt w b = some c := by
  simp [rowAt, h]
theorem heap_of_rowAt {w : World} {b : Nat} {c : Array Value} (h : rowAt w b = some c) : ∃ t, w.heap[b]? = some (.cells c t (0, 0)) := by
  unfold rowAt at h
  split at h
  · rename_i c' t fr he
    split at h
    · rename_i hf
      subst hf
      cases h
      exact ⟨t, he⟩
    · cases h
  · cases h
theorem lt_of_rowAt {w : World} {b : Nat} {c : Array Value} (h : rowAt w b = some c) : b < w.heap.size := by
  obtain ⟨t, ht⟩ := heap_of_rowAt h
  exact (Array.getElem?_eq_some_iff.1 ht).1

@[go_sem] theorem rowAt_alloc_at (w : World) (c : Array Value) (t : TypeId) (n : Nat) (hn : n = w.heap.size) : rowAt (w.alloc (.cells c t)) n = some c := by
  subst hn
  exact rowAt_of_heap (heap_alloc_new w _)
@[go_sem] theorem rowAt_alloc_past (w : World) (o : Obj) (n : Nat) (hn : n < w.heap.size) : rowAt (w.alloc o) n = rowAt w n := by
  unfold rowAt
  rw [Below.heap_alloc w o n hn]
@[go_sem] theorem rowAt_drew (w : World) (n : Nat) : rowAt w.drew n = rowAt w n := rfl
@[go_sem] theorem rowAt_drewN (w : World) (k n : Nat) : rowAt (w.drewN k) n = rowAt w n := rfl
theorem rowAt_below {B : Nat} {w w' : World} (h : Below B w w') {b : Nat} (hb : b < B) : rowAt w' b = rowAt w b := by
  unfold rowAt
  rw [h.block b hb]
theorem rowAt_setRow_same {w : World} {b : Nat} {c : Array Value} (h : rowAt w b = some c) (c' : Array Value) : rowAt (w.setRow b c') b = some c' := by
  obtain ⟨t, ht⟩ := heap_of_rowAt h
  exact rowAt_of_heap (setRow_heap w b c c' t (0, 0) ht)
theorem rowAt_setRow_other (w : World) (b n : Nat) (c' : Array Value) (h : n ≠ b) : rowAt (w.setRow b c') n = rowAt w n := by
  unfold rowAt
  rw [setRow_other w b n c' h]
theorem rowAt_setCell_same {w : World} {b : Nat} {c : Array Value} (h : rowAt w b = some c) (i : Nat) (v : Value) : rowAt (w.setCell ⟨b, i, none⟩ v) b = some (c.setIfInBounds i v) := by
  obtain ⟨t, ht⟩ := heap_of_rowAt h
  exact rowAt_of_heap (heap_setCell_same w b i c t v ht)
theorem rowAt_setCell_other (w : World) (a : Addr) (n : Nat) (v : Value) (h : n ≠ a.block) : rowAt (w.setCell a v) n = rowAt w n := by
  unfold rowAt
  rw [heap_setCell_other w a n v h]
/-- The cells of a block, whether it may be written or not. -/
def rowF (w : World) (b : Nat) : Option (Array Value) :=
  match w.heap[b]? with
  | some (.cells c _ _) => some c
  | _ => none
def rowOr (x y : Option (Array Value)) : Option (Array Value) :=
  match x with
  | some c => some c
  | none => y
@[go_sem] theorem rowOr_some (c : Array Value) (y : Option (Array Value)) : rowOr (some c) y = some c := rfl
@[go_sem] theorem rowF_alloc_past (w : World) (o : Obj) (n : Nat) (hn : n < w.heap.size) : rowF (w.alloc o) n = rowF w n := by
  unfold rowF
  rw [Below.heap_alloc w o n hn]
@[go_sem] theorem rowF_drew (w : World) (n : Nat) : rowF w.drew n = rowF w n := rfl
@[go_sem] theorem rowF_drewN (w : World) (k n : Nat) : rowF (w.drewN k) n = rowF w n := rfl
theorem rowG_of {w : World} {b : Nat} {c : Array Value} (h : rowAt w b = some c) : rowOr (rowAt w b) (rowF w b) = some c := by rw [h]; rfl
theorem rowG_is (w : World) (b : Nat) : rowOr (rowAt w b) (rowF w b) = rowF w b := by
  unfold rowOr
  split
  · rename_i c hc
    obtain ⟨t, ht⟩ := heap_of_rowAt hc
    simp [rowF, ht]
  · rfl
theorem heap_of_rowG {w : World} {b : Nat} {c : Array Value} (h : rowOr (rowAt w b) (rowF w b) = some c) : ∃ t fr, w.heap[b]? = some (.cells c t fr) := by
  rw [rowG_is] at h
  unfold rowF at h
  split at h
  · rename_i c' t fr he
    cases h
    exact ⟨t, fr, he⟩
  · cases h
theorem lt_of_rowG {w : World} {b : Nat} {c : Array Value} (h : rowOr (rowAt w b) (rowF w b) = some c) : b < w.heap.size := by
  obtain ⟨t, fr, ht⟩ := heap_of_rowG h
  exact (Array.getElem?_eq_some_iff.1 ht).1
theorem rowG_of_heap {w : World} {b : Nat} {c : Array Value} {t : TypeId} {fr : Nat × Nat} (h : w.heap[b]? = some (.cells c t fr)) : rowOr (rowAt w b) (rowF w b) = some c := by
  rw [rowG_is]
  simp [rowF, h]
theorem rowG_below {B : Nat} {w w' : World} (h : Below B w w') {b : Nat} (hb : b < B) : rowOr (rowAt w' b) (rowF w' b) = rowOr (rowAt w b) (rowF w b) := by
  rw [rowG_is, rowG_is]
  unfold rowF
  rw [h.block b hb]
theorem cell_of_rowG {w : World} {b : Nat} {c : Array Value} (h : rowOr (rowAt w b) (rowF w b) = some c) (i : Nat) : w.cell? ⟨b, i, none⟩ = c[i]? := by
  obtain ⟨t, fr, ht⟩ := heap_of_rowG h
  exact cell_of_row w b i c t _ ht
theorem cell_of_rowAt {w : World} {b : Nat} {c : Array Value} (h : rowAt w b = some c) (i : Nat) : w.cell? ⟨b, i, none⟩ = c[i]? := by
  obtain ⟨t, ht⟩ := heap_of_rowAt h
  exact cell_of_row w b i c t _ ht
theorem frozen_of_rowAt {w : World} {b : Nat} {c : Array Value} (h : rowAt w b = some c) (i : Nat) : w.frozen? ⟨b, i, none⟩ = false := by
  obtain ⟨t, ht⟩ := heap_of_rowAt h
  exact frozen_of_row w b i c t ht

@[go_sem] theorem setRow_alloc_at (w : World) (c c' : Array Value) (t : TypeId) (n : Nat) (hn : n = w.heap.size) : (w.alloc (.cells c t)).setRow n c' = w.alloc (.cells c' t) := by
  subst hn
  simp only [World.setRow, World.alloc]
  congr 1
  apply Array.ext_getElem?
  intro i
  rw [Array.getElem?_modify]
  by_cases h : w.heap.size = i
  · subst h
    simp
  · have h' : ¬ i = w.heap.size := fun e => h e.symm
    simp [h, h', Array.getElem?_push]
@[go_sem] theorem setRow_alloc_past (w : World) (o : Obj) (n : Nat) (c' : Array Value) (hn : n < w.heap.size) : (w.alloc o).setRow n c' = (w.setRow n c').alloc o := by
  simp only [World.setRow, World.alloc]
  congr 1
  apply Array.ext_getElem?
  intro i
  rw [Array.getElem?_modify, Array.getElem?_push, Array.getElem?_push, Array.getElem?_modify, Array.size_modify]
  by_cases h : n = i
  · subst h
    simp [Nat.ne_of_lt hn]
  · simp [h]
@[go_sem] theorem setRow_drew (w : World) (n : Nat) (c : Array Value) : w.drew.setRow n c = (w.setRow n c).drew := rfl
theorem Below.setRow {B : Nat} {a w : World} (h : Below B a w) {b : Nat} (hb : B ≤ b) (c : Array Value) : Below B a (w.setRow b c) :=
  ⟨h.os, h.tape, h.output, by simpa using h.size, fun i hi => (setRow_other w b i c (by omega)).trans (h.block i hi)⟩

/-- The cells of a row, some of them anew. -/
def splice (c : Array Value) (o : Nat) (v : List Value) : Array Value := (c.toList.take o ++ v ++ c.toList.drop (o + v.length)).toArray

theorem splice_whole (c v : Array Value) (h : v.size = c.size) : splice c 0 v.toList = v := by
  simp [splice, List.drop_eq_nil_of_le, h]

theorem setRow_self {w : World} {b : Nat} {c : Array Value} {t : TypeId} (ht : w.heap[b]? = some (.cells c t (0, 0))) : w.setRow b c = w := by
  have e : (w.setRow b c).heap = w.heap := by
    unfold World.setRow
    apply Array.ext_getElem?
    intro i
    rw [Array.getElem?_modify]
    split
    · rename_i hi
      subst hi
      rw [ht]
      rfl
    · rfl
  exact congrArg (fun h => ({ w with heap := h } : World)) e

theorem setCells_eq_setRow (b : Nat) : ∀ (vs : List Value) (o : Nat) (w : World) (c : Array Value), rowAt w b = some c → o + vs.length ≤ c.size → w.setCells b o vs = w.setRow b (splice c o vs)
  | [], o, w, c, h, ho => by
    obtain ⟨t, ht⟩ := heap_of_rowAt h
    have e : splice c o [] = c := by simp [splice]
    rw [World.setCells, e]
    exact (setRow_self ht).symm
  | v :: vs, o, w, c, h, ho => by
    obtain ⟨t, ht⟩ := heap_of_rowAt h
    have ho' : o < c.size := by simp at ho; omega
    rw [World.setCells, setCells_eq_setRow b vs (o + 1) _ (c.setIfInBounds o v) (rowAt_setCell_same h o v) (by simp at ho ⊢; omega), setCell_eq_setRow w b o c t (0, 0) v ht, setRow_setRow]
    congr 1
    simp only [splice]
    congr 1
    apply List.ext_getElem?
    intro i
    have hl : o ≤ c.size := by omega
    simp only [Array.toList_setIfInBounds, List.length_cons]
    rw [List.getElem?_append, List.getElem?_append, List.getElem?_append, List.getElem?_append]
    simp only [List.length_append, List.length_take, List.length_set, Array.length_toList, List.length_cons, List.getElem?_take, List.getElem?_drop, List.getElem?_set]
    have m1 : min (o + 1) c.size = o + 1 := by omega
    have m2 : min o c.size = o := by omega
    rw [m1, m2]
    by_cases h1 : i < o
    · simp [h1, show i < o + 1 by omega, show i < o + 1 + vs.length by omega, show ¬ o = i by omega, show i < o + (vs.length + 1) by omega]
    · by_cases h2 : i = o
      · subst h2
        simp [show i < i + 1 + vs.length by omega, ho']
      · obtain ⟨k, rfl⟩ : ∃ k, i = o + 1 + k := ⟨i - (o + 1), by omega⟩
        have e1 : o + 1 + k - o = k + 1 := by omega
        by_cases h3 : k < vs.length
        · simp [h1, show ¬ o + 1 + k < o + 1 by omega, show o + 1 + k < o + 1 + vs.length by omega, show o + 1 + k < o + (vs.length + 1) by omega, e1]
        · rw [if_neg (by omega), if_neg (by omega)]
          have e2 : o + 1 + vs.length + (o + 1 + k - (o + 1 + vs.length)) = o + (vs.length + 1) + (o + 1 + k - (o + (vs.length + 1))) := by omega
          rw [e2, if_neg (by omega)]

/-- Loading a value of n cells from place o of block b; what stands behind it where the row is not known. -/
def rowLoad (w : World) (b o n : Nat) (els : Result Value) : Result Value :=
  match rowOr (rowAt w b) (rowF w b) with
  | some c => if o + n ≤ c.size then .ok (.agg (c.extract o (o + n))) w else els
  | none => els
theorem rowLoad_of {w : World} {b o n : Nat} {els : Result Value} {c : Array Value} (h : rowAt w b = some c) (hn : o + n ≤ c.size) : rowLoad w b o n els = .ok (.agg (c.extract o (o + n))) w := by
  simp [rowLoad, rowOr, h, hn]

variable {P : Program}

theorem run_loadVar_rowAt (w : World) (b o n : Nat) (ty : TypeId) (c : Array Value) (d : TypeDesc) (h : rowOr (rowAt w b) (rowF w b) = some c) (hn : o + n ≤ c.size)
    (hu : P.underlying ty = some d) (hd : d.isRow = true) (hi : (P.info? ty).map (·.size) = some n) :
    (loadVar ty ⟨b, o, none⟩).run P w = .ok (.agg (c.extract o (o + n))) w := by
  obtain ⟨t, fr, ht⟩ := heap_of_rowG h
  have hl : (c.extract o (o + n)).toList.length = n := by simp; omega
  have := run_loadVar_mid (P := P) w b o ty (c.extract o (o + n)).toList d (World.rangeAt_of_block ht o n) hu hd (by rw [hl]; exact hi)
  rw [this, Array.toArray_toList]

/-- What a load comes to where the row is not known: a word of its own, so that a walk does not open it. -/
def elseLoad (P : Program) (ty : TypeId) (b o : Nat) (w : World) : Result Value := (loadVar ty ⟨b, o, none⟩).run P w
def elseStore (P : Program) (ty : TypeId) (b o : Nat) (v : Array Value) (w : World) : Result Unit := (storeVar ty ⟨b, o, none⟩ (.agg v)).run P w

theorem run_loadAt_rowAt (w : World) (b o n : Nat) (ty : TypeId) (d : TypeDesc) 
    (hu : P.underlying ty = some d) (hd : d.isRow = true) (hi : (P.info? ty).map (·.size) = some n) :
    (Instr.loadAt ty (.pointer (some ⟨b, o, none⟩))).run P w = rowLoad w b o n (elseLoad P ty b o w) := by
  simp only [Instr.loadAt, Instr.sureAddr, Sem.run_bind, Sem.run_pure, Result.andThen_ok]
  unfold rowLoad
  split
  · rename_i c hc
    split
    · rename_i hle
      exact run_loadVar_rowAt w b o n ty c d hc hle hu hd hi
    · rfl
  · rfl

/-- Is each of them the value of one cell? -/
def oneCells (v : Array Value) : Bool := v.all (·.oneCell')
/-- Storing a value of n cells. -/
def rowStore (w : World) (b o n : Nat) (v : Array Value) (els : Result Unit) : Result Unit :=
  match rowAt w b with
  | some c => if o + n ≤ c.size ∧ v.size = n ∧ oneCells v = true then .ok () (w.setRow b (splice c o v.toList)) else els
  | none => els

theorem run_storeAt_rowAt (w : World) (b o n : Nat) (ty : TypeId) (v : Array Value) (hi : (P.info? ty).map (·.size) = some n) :
    (Instr.storeAt ty (.pointer (some ⟨b, o, none⟩)) (.agg v)).run P w = rowStore w b o n v (elseStore P ty b o v w) := by
  simp only [Instr.storeAt, Instr.sureAddr, Sem.run_bind, Sem.run_pure, Result.andThen_ok]
  unfold rowStore
  split
  · rename_i c hc
    split
    · rename_i hle
      obtain ⟨hle, hv, h1⟩ := hle
      rw [run_storeVar_mid w b o ty v (fun j hj => ⟨by rw [cell_of_rowAt hc]; simp; omega, frozen_of_rowAt hc _⟩) (by rw [hv]; exact hi) h1, setCells_eq_setRow b v.toList o w c hc (by simp; omega)]
    · rfl
  · rfl

/-- A load, a store, a composite value, a zero value of one type: words of their own, so that a walk does not open them cell by cell. -/
def loadOf (ty : TypeId) (v : Value) : Sem Value := Instr.loadAt ty v
def storeOf (ty : TypeId) (v x : Value) : Sem Unit := Instr.storeAt ty v x
def buildOf (ty : TypeId) (parts : Array (Nat × Value)) : Sem Value := Instr.build ty parts
def copyOf (ats : Array TypeId) (ty : TypeId) (args : Array Value) : Sem Value := Builtin.copy_ ats ty args
def zeroOf (ty : TypeId) : Sem Value := zeroValue ty

theorem run_firstCells_row (w : World) (b o k n cap : Nat) (c : Array Value) (h : rowAt w b = some c) (hk : o + k ≤ c.size) :
    (Builtin.firstCells 1 k (.slice (some ⟨b, o, none⟩) n cap)).run P w = .ok (c.extract o (o + k)) w := by
  obtain ⟨t, ht⟩ := heap_of_rowAt h
  have hl : (c.extract o (o + k)).toList.length = k := by simp; omega
  have := run_loadCells_list (P := P) w ⟨b, o, none⟩ (c.extract o (o + k)).toList (fun j v hv => by rw [Addr.add_mid]; exact World.rangeAt_of_block ht o k j v hv)
  rw [hl, Array.toArray_toList] at this
  simpa [Builtin.firstCells] using this
/-- copy, from one row to another one (or within one). -/
theorem run_copy_rows (w : World) (T e ty : TypeId) (b1 o1 n1 c1 b2 o2 n2 c2 k : Nat) (C1 C2 : Array Value) (hu : P.underlying T = some (.slice e)) (hs : (P.info? e).map (·.size) = some 1)
    (h1 : rowAt w b1 = some C1) (h2 : rowAt w b2 = some C2) (hk : k = min n2 n1) (hl1 : o1 + k ≤ C1.size) (hl2 : o2 + k ≤ C2.size) (hone : oneCells C2 = true) :
    (Builtin.copy_ #[T, T] ty #[.slice (some ⟨b1, o1, none⟩) n1 c1, .slice (some ⟨b2, o2, none⟩) n2 c2]).run P w = .ok (goInt k) (w.setRow b1 (splice C1 o1 (C2.extract o2 (o2 + k)).toList)) := by
  have hsz : (sizeOf e).run P w = .ok 1 w := by
    cases hq : P.info? e with
    | none => simp [hq] at hs
    | some i => simp [sizeOf, typeInfo, hq] at hs ⊢; exact hs
  have hf := run_firstCells_row (P := P) w b2 o2 k n2 c2 C2 h2 hl2
  have hlen : (C2.extract o2 (o2 + k)).toList.length = k := by simp; omega
  have hst := run_storeCells_cells (P := P) b1 o1 (C2.extract o2 (o2 + k)).toList 0 w (fun j hj => by rw [cell_of_rowAt h1]; simp; omega) (fun j hj => frozen_of_rowAt h1 _)
    (fun v hv => (Array.all_eq_true_iff_forall_mem.1 hone) v (by
      rw [Array.mem_toList_iff] at hv
      rw [Array.mem_extract_iff_getElem] at hv
      obtain ⟨i, hi, rfl⟩ := hv
      exact Array.getElem_mem _))
  rw [Nat.add_zero, setCells_eq_setRow b1 _ o1 w C1 h1 (by rw [hlen]; exact hl1)] at hst
  have hn : n2.min n1 = k := hk.symm
  simp only [Builtin.copy_, Sem.run_bind, run_underlying hu, Result.andThen_ok, Builtin.lenOf, Sem.run_pure, hn, hsz, hf, hst, List.getElem?_toArray, List.getElem?_cons_zero, List.getElem?_cons_succ]

def elseCopy (P : Program) (T ty : TypeId) (x y : Value) (w : World) : Result Value := (Builtin.copy_ #[T, T] ty #[x, y]).run P w
def rowCopy (w : World) (b1 o1 n1 b2 o2 n2 : Nat) (els : Result Value) : Result Value :=
  match rowAt w b1, rowAt w b2 with
  | some C1, some C2 => if o1 + min n2 n1 ≤ C1.size ∧ o2 + min n2 n1 ≤ C2.size ∧ oneCells C2 = true then .ok (goInt (min n2 n1 : Nat)) (w.setRow b1 (splice C1 o1 (C2.extract o2 (o2 + min n2 n1)).toList)) else els
  | _, _ => els
theorem run_copy_word (w : World) (T e ty : TypeId) (b1 o1 n1 c1 b2 o2 n2 c2 : Nat) (hu : P.underlying T = some (.slice e)) (hs : (P.info? e).map (·.size) = some 1) :
    (Builtin.copy_ #[T, T] ty #[.slice (some ⟨b1, o1, none⟩) n1 c1, .slice (some ⟨b2, o2, none⟩) n2 c2]).run P w =
      rowCopy w b1 o1 n1 b2 o2 n2 (elseCopy P T ty (.slice (some ⟨b1, o1, none⟩) n1 c1) (.slice (some ⟨b2, o2, none⟩) n2 c2) w) := by
  unfold rowCopy
  split
  · rename_i C1 C2 h1 h2
    split
    · rename_i h
      exact run_copy_rows w T e ty b1 o1 n1 c1 b2 o2 n2 c2 _ C1 C2 hu hs h1 h2 rfl h.1 h.2.1 h.2.2
    · rfl
  · rfl

/-- A result that lies in a row. -/
theorem results_row {fn : Func} {p : Tmp} {ty : TypeId} (h : fn.results = #[.cell p ty]) (tmps : Array Value) (w : World) (b : Nat) (c : Array Value) (d : TypeDesc)
    (hp : tmps.getD p undef = .pointer (some ⟨b, 0, none⟩)) (hr : rowAt w b = some c) (hu : P.underlying ty = some d) (hd : (match d with | .struct _ | .array _ _ => true | _ => false) = true) (hi : (P.info? ty).map (·.size) = some c.size) :
    (results fn tmps).run P w = .ok (.agg c) w := by
  obtain ⟨t, ht⟩ := heap_of_rowAt hr
  exact results_cell_row h tmps w b t c _ d hp ht hu hd hi
theorem results_row_tmp {fn : Func} {p q : Tmp} {ty : TypeId} (h : fn.results = #[.cell p ty, .tmp q]) (tmps : Array Value) (w : World) (b : Nat) (c : Array Value) (d : TypeDesc)
    (hp : tmps.getD p undef = .pointer (some ⟨b, 0, none⟩)) (hr : rowAt w b = some c) (hu : P.underlying ty = some d) (hd : (match d with | .struct _ | .array _ _ => true | _ => false) = true) (hi : (P.info? ty).map (·.size) = some c.size) :
    (results fn tmps).run P w = .ok (.tuple #[.agg c, tmps.getD q undef]) w := by
  obtain ⟨t, ht⟩ := heap_of_rowAt hr
  have hp' : tmps[p]?.getD undef = .pointer (some ⟨b, 0, none⟩) := by simpa using hp
  simp [results, h, hp', asAddr, run_loadVar_row w b t ty c _ d ht hu hd hi]
end Go.Proofs.Ytfklhkephdnhaaa
