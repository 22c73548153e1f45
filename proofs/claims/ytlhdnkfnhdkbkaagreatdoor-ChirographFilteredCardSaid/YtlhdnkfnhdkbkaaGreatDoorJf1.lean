/- Texts that the next ones stand on: Kit, Quiet, Strs, SealMath, Seal1, Seal2, Seal3, Seal4, CutsMath, DiskMath, Disk1, Disk2, AppAt. -/
import Derived.WalkKit
import Derived.Deep.MidRow
import Derived.Stop.BytesEq
import Derived.Deep.Draws
import Derived.Below
import Derived.Deep.QuietTactic
import Derived.BigQuiet
import Derived.Test.YtlhdnkfnhdkbkaaGreatDoorShelf
import Derived.Lib.Hide
import Derived.Laws.BytesArg
import Derived.Laws.IdiomStrings
import Derived.Laws.AppendOwn
import Derived.IntWalk
import Derived.Laws.BitsAllLaws
import Derived.Maps.OwnSet
import Derived.Sort.KeysCollected
import Derived.Maps.OwnOps
import Derived.Lib.AppendStr
namespace Go.Proofs.YtlhdnkfnhdkbkaaGreatDoor
open Go Go.RowKit

/-- The cells of a block that may be written, if it is one. -/
def rowAt (w : World) (b : Nat) : Option (Array Value) :=
  match w.heap[b]? with
  | some (.cells c _ fr) => if fr = (0, 0) then some c else none
  | _ => none

theorem rowAt_of_heap {w : World} {b : Nat} {c : Array Value} {t : TypeId} (h : w.heap[b]? = some (.cells c t (0, 0))) : rowAt w b = some c := by
  simp [rowAt, h]
theorem heap_of_rowAt {w : World} {b : Nat} {c : Array Value} (h : rowAt w b = some c) : ∃ t, w.heap[b]? = some (.cells c t (0, 0)) := by
  unfold rowAt at h
  split at h
  · rename_i c' t fr he
    split at h
    · rename_i hf
      subst hf
      cases h
      exact ⟨t, he⟩
    · cases h
  · cases h
theorem lt_of_rowAt {w : World} {b : Nat} {c : Array Value} (h : rowAt w b = some c) : b < w.heap.size := by
  obtain ⟨t, ht⟩ := heap_of_rowAt h
  exact (Array.getElem?_eq_some_iff.1 ht).1

@[go_sem] theorem rowAt_alloc_at (w : World) (c : Array Value) (t : TypeId) (n : Nat) (hn : n = w.heap.size) : rowAt (w.alloc (.cells c t)) n = some c := by
  subst hn
  exact rowAt_of_heap (heap_alloc_new w _)
@[go_sem] theorem rowAt_alloc_past (w : World) (o : Obj) (n : Nat) (hn : n < w.heap.size) : rowAt (w.alloc o) n = rowAt w n := by
  unfold rowAt
  rw [Below.heap_alloc w o n hn]
@[go_sem] theorem rowAt_drew (w : World) (n : Nat) : rowAt w.drew n = rowAt w n := rfl
@[go_sem] theorem rowAt_drewN (w : World) (k n : Nat) : rowAt (w.drewN k) n = rowAt w n := rfl
theorem rowAt_below {B : Nat} {w w' : World} (h : Below B w w') {b : Nat} (hb : b < B) : rowAt w' b = rowAt w b := by
  unfold rowAt
  rw [h.block b hb]
theorem rowAt_setRow_same {w : World} {b : Nat} {c : Array Value} (h : rowAt w b = some c) (c' : Array Value) : rowAt (w.setRow b c') b = some c' := by
  obtain ⟨t, ht⟩ := heap_of_rowAt h
  exact rowAt_of_heap (setRow_heap w b c c' t (0, 0) ht)
theorem rowAt_setRow_other (w : World) (b n : Nat) (c' : Array Value) (h : n ≠ b) : rowAt (w.setRow b c') n = rowAt w n := by
  unfold rowAt
  rw [setRow_other w b n c' h]
theorem rowAt_setCell_same {w : World} {b : Nat} {c : Array Value} (h : rowAt w b = some c) (i : Nat) (v : Value) : rowAt (w.setCell ⟨b, i, none⟩ v) b = some (c.setIfInBounds i v) := by
  obtain ⟨t, ht⟩ := heap_of_rowAt h
  exact rowAt_of_heap (heap_setCell_same w b i c t v ht)
theorem rowAt_setCell_other (w : World) (a : Addr) (n : Nat) (v : Value) (h : n ≠ a.block) : rowAt (w.setCell a v) n = rowAt w n := by
  unfold rowAt
  rw [heap_setCell_other w a n v h]
theorem cell_of_rowAt {w : World} {b : Nat} {c : Array Value} (h : rowAt w b = some c) (i : Nat) : w.cell? ⟨b, i, none⟩ = c[i]? := by
  obtain ⟨t, ht⟩ := heap_of_rowAt h
  exact cell_of_row w b i c t _ ht
theorem frozen_of_rowAt {w : World} {b : Nat} {c : Array Value} (h : rowAt w b = some c) (i : Nat) : w.frozen? ⟨b, i, none⟩ = false := by
  obtain ⟨t, ht⟩ := heap_of_rowAt h
  exact frozen_of_row w b i c t ht

@[go_sem] theorem setRow_alloc_at (w : World) (c c' : Array Value) (t : TypeId) (n : Nat) (hn : n = w.heap.size) : (w.alloc (.cells c t)).setRow n c' = w.alloc (.cells c' t) := by
  subst hn
  simp only [World.setRow, World.alloc]
  congr 1
  apply Array.ext_getElem?
  intro i
  rw [Array.getElem?_modify]
  by_cases h : w.heap.size = i
  · subst h
    simp
  · have h' : ¬ i = w.heap.size := fun e => h e.symm
    simp [h, h', Array.getElem?_push]
@[go_sem] theorem setRow_alloc_past (w : World) (o : Obj) (n : Nat) (c' : Array Value) (hn : n < w.heap.size) : (w.alloc o).setRow n c' = (w.setRow n c').alloc o := by
  simp only [World.setRow, World.alloc]
  congr 1
  apply Array.ext_getElem?
  intro i
  rw [Array.getElem?_modify, Array.getElem?_push, Array.getElem?_push, Array.getElem?_modify, Array.size_modify]
  by_cases h : n = i
  · subst h
    simp [Nat.ne_of_lt hn]
  · simp [h]
@[go_sem] theorem setRow_drew (w : World) (n : Nat) (c : Array Value) : w.drew.setRow n c = (w.setRow n c).drew := rfl
theorem Below.setRow {B : Nat} {a w : World} (h : Below B a w) {b : Nat} (hb : B ≤ b) (c : Array Value) : Below B a (w.setRow b c) :=
  ⟨h.os, h.tape, h.output, by simpa using h.size, fun i hi => (setRow_other w b i c (by omega)).trans (h.block i hi)⟩

/-- The cells of a row, some of them anew. -/
def splice (c : Array Value) (o : Nat) (v : List Value) : Array Value := (c.toList.take o ++ v ++ c.toList.drop (o + v.length)).toArray

theorem splice_whole (c v : Array Value) (h : v.size = c.size) : splice c 0 v.toList = v := by
  simp [splice, List.drop_eq_nil_of_le, h]

theorem setRow_self {w : World} {b : Nat} {c : Array Value} {t : TypeId} (ht : w.heap[b]? = some (.cells c t (0, 0))) : w.setRow b c = w := by
  have e : (w.setRow b c).heap = w.heap := by
    unfold World.setRow
    apply Array.ext_getElem?
    intro i
    rw [Array.getElem?_modify]
    split
    · rename_i hi
      subst hi
      rw [ht]
      rfl
    · rfl
  exact congrArg (fun h => ({ w with heap := h } : World)) e

theorem setCells_eq_setRow (b : Nat) : ∀ (vs : List Value) (o : Nat) (w : World) (c : Array Value), rowAt w b = some c → o + vs.length ≤ c.size → w.setCells b o vs = w.setRow b (splice c o vs)
  | [], o, w, c, h, ho => by
    obtain ⟨t, ht⟩ := heap_of_rowAt h
    have e : splice c o [] = c := by simp [splice]
    rw [World.setCells, e]
    exact (setRow_self ht).symm
  | v :: vs, o, w, c, h, ho => by
    obtain ⟨t, ht⟩ := heap_of_rowAt h
    have ho' : o < c.size := by simp at ho; omega
    rw [World.setCells, setCells_eq_setRow b vs (o + 1) _ (c.setIfInBounds o v) (rowAt_setCell_same h o v) (by simp at ho ⊢; omega), setCell_eq_setRow w b o c t (0, 0) v ht, setRow_setRow]
    congr 1
    simp only [splice]
    congr 1
    apply List.ext_getElem?
    intro i
    have hl : o ≤ c.size := by omega
    simp only [Array.toList_setIfInBounds, List.length_cons]
    rw [List.getElem?_append, List.getElem?_append, List.getElem?_append, List.getElem?_append]
    simp only [List.length_append, List.length_take, List.length_set, Array.length_toList, List.length_cons, List.getElem?_take, List.getElem?_drop, List.getElem?_set]
    have m1 : min (o + 1) c.size = o + 1 := by omega
    have m2 : min o c.size = o := by omega
    rw [m1, m2]
    by_cases h1 : i < o
    · simp [h1, show i < o + 1 by omega, show i < o + 1 + vs.length by omega, show ¬ o = i by omega, show i < o + (vs.length + 1) by omega]
    · by_cases h2 : i = o
      · subst h2
        simp [show i < i + 1 + vs.length by omega, ho']
      · obtain ⟨k, rfl⟩ : ∃ k, i = o + 1 + k := ⟨i - (o + 1), by omega⟩
        have e1 : o + 1 + k - o = k + 1 := by omega
        by_cases h3 : k < vs.length
        · simp [h1, show ¬ o + 1 + k < o + 1 by omega, show o + 1 + k < o + 1 + vs.length by omega, show o + 1 + k < o + (vs.length + 1) by omega, e1]
        · rw [if_neg (by omega), if_neg (by omega)]
          have e2 : o + 1 + vs.length + (o + 1 + k - (o + 1 + vs.length)) = o + (vs.length + 1) + (o + 1 + k - (o + (vs.length + 1))) := by omega
          rw [e2, if_neg (by omega)]

/-- Loading a value of n cells from place o of block b; what stands behind it where the row is not known. -/
def rowLoad (w : World) (b o n : Nat) (els : Result Value) : Result Value :=
  match rowAt w b with
  | some c => if o + n ≤ c.size then .ok (.agg (c.extract o (o + n))) w else els
  | none => els
theorem rowLoad_of {w : World} {b o n : Nat} {els : Result Value} {c : Array Value} (h : rowAt w b = some c) (hn : o + n ≤ c.size) : rowLoad w b o n els = .ok (.agg (c.extract o (o + n))) w := by
  simp [rowLoad, h, hn]

variable {P : Program}

theorem run_loadVar_rowAt (w : World) (b o n : Nat) (ty : TypeId) (c : Array Value) (d : TypeDesc) (h : rowAt w b = some c) (hn : o + n ≤ c.size)
    (hu : P.underlying ty = some d) (hd : d.isRow = true) (hi : (P.info? ty).map (·.size) = some n) :
    (loadVar ty ⟨b, o, none⟩).run P w = .ok (.agg (c.extract o (o + n))) w := by
  obtain ⟨t, ht⟩ := heap_of_rowAt h
  have hl : (c.extract o (o + n)).toList.length = n := by simp; omega
  have := run_loadVar_mid (P := P) w b o ty (c.extract o (o + n)).toList d (World.rangeAt_of_block ht o n) hu hd (by rw [hl]; exact hi)
  rw [this, Array.toArray_toList]

/-- What a load comes to where the row is not known: a word of its own, so that a walk does not open it. -/
def elseLoad (P : Program) (ty : TypeId) (b o : Nat) (w : World) : Result Value := (loadVar ty ⟨b, o, none⟩).run P w
def elseStore (P : Program) (ty : TypeId) (b o : Nat) (v : Array Value) (w : World) : Result Unit := (storeVar ty ⟨b, o, none⟩ (.agg v)).run P w

theorem run_loadAt_rowAt (w : World) (b o n : Nat) (ty : TypeId) (d : TypeDesc) 
    (hu : P.underlying ty = some d) (hd : d.isRow = true) (hi : (P.info? ty).map (·.size) = some n) :
    (Instr.loadAt ty (.pointer (some ⟨b, o, none⟩))).run P w = rowLoad w b o n (elseLoad P ty b o w) := by
  simp only [Instr.loadAt, Instr.sureAddr, Sem.run_bind, Sem.run_pure, Result.andThen_ok]
  unfold rowLoad
  split
  · rename_i c hc
    split
    · rename_i hle
      exact run_loadVar_rowAt w b o n ty c d hc hle hu hd hi
    · rfl
  · rfl

/-- Is each of them the value of one cell? -/
def oneCells (v : Array Value) : Bool := v.all (·.oneCell')
/-- Storing a value of n cells. -/
def rowStore (w : World) (b o n : Nat) (v : Array Value) (els : Result Unit) : Result Unit :=
  match rowAt w b with
  | some c => if o + n ≤ c.size ∧ v.size = n ∧ oneCells v = true then .ok () (w.setRow b (splice c o v.toList)) else els
  | none => els

theorem run_storeAt_rowAt (w : World) (b o n : Nat) (ty : TypeId) (v : Array Value) (hi : (P.info? ty).map (·.size) = some n) :
    (Instr.storeAt ty (.pointer (some ⟨b, o, none⟩)) (.agg v)).run P w = rowStore w b o n v (elseStore P ty b o v w) := by
  simp only [Instr.storeAt, Instr.sureAddr, Sem.run_bind, Sem.run_pure, Result.andThen_ok]
  unfold rowStore
  split
  · rename_i c hc
    split
    · rename_i hle
      obtain ⟨hle, hv, h1⟩ := hle
      rw [run_storeVar_mid w b o ty v (fun j hj => ⟨by rw [cell_of_rowAt hc]; simp; omega, frozen_of_rowAt hc _⟩) (by rw [hv]; exact hi) h1, setCells_eq_setRow b v.toList o w c hc (by simp; omega)]
    · rfl
  · rfl

/-- A load, a store, a composite value, a zero value of one type: words of their own, so that a walk does not open them cell by cell. -/
def loadOf (ty : TypeId) (v : Value) : Sem Value := Instr.loadAt ty v
def storeOf (ty : TypeId) (v x : Value) : Sem Unit := Instr.storeAt ty v x
def buildOf (ty : TypeId) (parts : Array (Nat × Value)) : Sem Value := Instr.build ty parts
def copyOf (ats : Array TypeId) (ty : TypeId) (args : Array Value) : Sem Value := Builtin.copy_ ats ty args
def zeroOf (ty : TypeId) : Sem Value := zeroValue ty

theorem run_firstCells_row (w : World) (b o k n cap : Nat) (c : Array Value) (h : rowAt w b = some c) (hk : o + k ≤ c.size) :
    (Builtin.firstCells 1 k (.slice (some ⟨b, o, none⟩) n cap)).run P w = .ok (c.extract o (o + k)) w := by
  obtain ⟨t, ht⟩ := heap_of_rowAt h
  have hl : (c.extract o (o + k)).toList.length = k := by simp; omega
  have := run_loadCells_list (P := P) w ⟨b, o, none⟩ (c.extract o (o + k)).toList (fun j v hv => by rw [Addr.add_mid]; exact World.rangeAt_of_block ht o k j v hv)
  rw [hl, Array.toArray_toList] at this
  simpa [Builtin.firstCells] using this
/-- copy, from one row to another one (or within one). -/
theorem run_copy_rows (w : World) (T e ty : TypeId) (b1 o1 n1 c1 b2 o2 n2 c2 k : Nat) (C1 C2 : Array Value) (hu : P.underlying T = some (.slice e)) (hs : (P.info? e).map (·.size) = some 1)
    (h1 : rowAt w b1 = some C1) (h2 : rowAt w b2 = some C2) (hk : k = min n2 n1) (hl1 : o1 + k ≤ C1.size) (hl2 : o2 + k ≤ C2.size) (hone : oneCells C2 = true) :
    (Builtin.copy_ #[T, T] ty #[.slice (some ⟨b1, o1, none⟩) n1 c1, .slice (some ⟨b2, o2, none⟩) n2 c2]).run P w = .ok (goInt k) (w.setRow b1 (splice C1 o1 (C2.extract o2 (o2 + k)).toList)) := by
  have hsz : (sizeOf e).run P w = .ok 1 w := by
    cases hq : P.info? e with
    | none => simp [hq] at hs
    | some i => simp [sizeOf, typeInfo, hq] at hs ⊢; exact hs
  have hf := run_firstCells_row (P := P) w b2 o2 k n2 c2 C2 h2 hl2
  have hlen : (C2.extract o2 (o2 + k)).toList.length = k := by simp; omega
  have hst := run_storeCells_cells (P := P) b1 o1 (C2.extract o2 (o2 + k)).toList 0 w (fun j hj => by rw [cell_of_rowAt h1]; simp; omega) (fun j hj => frozen_of_rowAt h1 _)
    (fun v hv => (Array.all_eq_true_iff_forall_mem.1 hone) v (by
      rw [Array.mem_toList_iff] at hv
      rw [Array.mem_extract_iff_getElem] at hv
      obtain ⟨i, hi, rfl⟩ := hv
      exact Array.getElem_mem _))
  rw [Nat.add_zero, setCells_eq_setRow b1 _ o1 w C1 h1 (by rw [hlen]; exact hl1)] at hst
  have hn : n2.min n1 = k := hk.symm
  simp only [Builtin.copy_, Sem.run_bind, run_underlying hu, Result.andThen_ok, Builtin.lenOf, Sem.run_pure, hn, hsz, hf, hst, List.getElem?_toArray, List.getElem?_cons_zero, List.getElem?_cons_succ]

def elseCopy (P : Program) (T ty : TypeId) (x y : Value) (w : World) : Result Value := (Builtin.copy_ #[T, T] ty #[x, y]).run P w
def rowCopy (w : World) (b1 o1 n1 b2 o2 n2 : Nat) (els : Result Value) : Result Value :=
  match rowAt w b1, rowAt w b2 with
  | some C1, some C2 => if o1 + min n2 n1 ≤ C1.size ∧ o2 + min n2 n1 ≤ C2.size ∧ oneCells C2 = true then .ok (goInt (min n2 n1 : Nat)) (w.setRow b1 (splice C1 o1 (C2.extract o2 (o2 + min n2 n1)).toList)) else els
  | _, _ => els
theorem run_copy_word (w : World) (T e ty : TypeId) (b1 o1 n1 c1 b2 o2 n2 c2 : Nat) (hu : P.underlying T = some (.slice e)) (hs : (P.info? e).map (·.size) = some 1) :
    (Builtin.copy_ #[T, T] ty #[.slice (some ⟨b1, o1, none⟩) n1 c1, .slice (some ⟨b2, o2, none⟩) n2 c2]).run P w =
      rowCopy w b1 o1 n1 b2 o2 n2 (elseCopy P T ty (.slice (some ⟨b1, o1, none⟩) n1 c1) (.slice (some ⟨b2, o2, none⟩) n2 c2) w) := by
  unfold rowCopy
  split
  · rename_i C1 C2 h1 h2
    split
    · rename_i h
      exact run_copy_rows w T e ty b1 o1 n1 c1 b2 o2 n2 c2 _ C1 C2 hu hs h1 h2 rfl h.1 h.2.1 h.2.2
    · rfl
  · rfl

/-- A result that lies in a row. -/
theorem results_row {fn : Func} {p : Tmp} {ty : TypeId} (h : fn.results = #[.cell p ty]) (tmps : Array Value) (w : World) (b : Nat) (c : Array Value) (d : TypeDesc)
    (hp : tmps.getD p undef = .pointer (some ⟨b, 0, none⟩)) (hr : rowAt w b = some c) (hu : P.underlying ty = some d) (hd : (match d with | .struct _ | .array _ _ => true | _ => false) = true) (hi : (P.info? ty).map (·.size) = some c.size) :
    (results fn tmps).run P w = .ok (.agg c) w := by
  obtain ⟨t, ht⟩ := heap_of_rowAt hr
  exact results_cell_row h tmps w b t c _ d hp ht hu hd hi
theorem results_row_tmp {fn : Func} {p q : Tmp} {ty : TypeId} (h : fn.results = #[.cell p ty, .tmp q]) (tmps : Array Value) (w : World) (b : Nat) (c : Array Value) (d : TypeDesc)
    (hp : tmps.getD p undef = .pointer (some ⟨b, 0, none⟩)) (hr : rowAt w b = some c) (hu : P.underlying ty = some d) (hd : (match d with | .struct _ | .array _ _ => true | _ => false) = true) (hi : (P.info? ty).map (·.size) = some c.size) :
    (results fn tmps).run P w = .ok (.tuple #[.agg c, tmps.getD q undef]) w := by
  obtain ⟨t, ht⟩ := heap_of_rowAt hr
  have hp' : tmps[p]?.getD undef = .pointer (some ⟨b, 0, none⟩) := by simpa using hp
  simp [results, h, hp', asAddr, run_loadVar_row w b t ty c _ d ht hu hd hi]
end Go.Proofs.YtlhdnkfnhdkbkaaGreatDoor
namespace Go.Proofs.YtlhdnkfnhdkbkaaGreatDoor
open Go Go.RowKit

theorem rowAt_past {W w' : World} (h : Below W.heap.size W w') {b : Nat} {c : Array Value} (hc : rowAt W b = some c) : rowAt w' b = some c :=
  (rowAt_below h (lt_of_rowAt hc)).trans hc
theorem Below.step {a W w' : World} (h : Below a.heap.size a W) (k : Below W.heap.size W w') : Below a.heap.size a w' := h.trans (k.mono h.size)
theorem below_past {B : Nat} {a W w' : World} (h : Below B a W) (k : Below W.heap.size W w') (hB : B ≤ W.heap.size) : Below B a w' := h.trans (k.mono hB)

/-- A world in which all that lay in another one is as it was. -/
structure Past (W : World) where
  w : World
  h : Below W.heap.size W w
instance (W : World) : Nonempty (Past W) := ⟨⟨W, Below.refl _ _⟩⟩
theorem Past.row {W : World} {b : Nat} {c : Array Value} (hc : rowAt W b = some c) (x : Past W) : rowAt x.w b = some c := rowAt_past x.h hc
theorem Past.cell {W : World} {p : Addr} (hp : p.block < W.heap.size) (x : Past W) : x.w.cell? p = W.cell? p := x.h.cell hp
theorem Past.call {P : Program} {W : World} {f : FuncId} {args : Array Value} {v : Value} {x : Past W}
    (h : Calls P f args x.w fun e w' => e = .returned v ∧ Below x.w.heap.size x.w w') : Calls P f args x.w fun e w'' => e = .returned v ∧ ∃ y : Past W, w'' = y.w :=
  h.mono fun _ w'' ⟨he, hb⟩ => ⟨he, ⟨w'', Below.step x.h hb⟩, rfl⟩
theorem Past.call_same {P : Program} {W : World} {f : FuncId} {args : Array Value} {v : Value} {x : Past W}
    (h : Calls P f args x.w fun e w' => e = .returned v ∧ w' = x.w) : Calls P f args x.w fun e w'' => e = .returned v ∧ ∃ y : Past W, w'' = y.w :=
  h.mono fun _ _ ⟨he, hb⟩ => ⟨he, x, hb⟩

theorem wp_region_past {P : Program} {id : Nat} {Q : Exit → Act → World → Prop} {a : Act} {w : World} {l : List Oper} (hm : P.follows .mixedOrders = true) (hB : Region.lexB .any l.toArray = true)
    (h : wpQuiet P l.toArray (fun w' => ∃ x : Past w, w' = x.w) (fun a' => ∀ w', (∃ x : Past w, w' = x.w) → Q .normal a' w') l a) : (Code.region id l.toArray true).wp P Q a w :=
  wp_region_quiet (C := fun w' => ∃ x : Past w, w' = x.w) hm hB ⟨⟨_, (Below.refl _ _).drew⟩, rfl⟩ (by simpa using h)
end Go.Proofs.YtlhdnkfnhdkbkaaGreatDoor
namespace Go.Proofs.YtlhdnkfnhdkbkaaGreatDoor
open Go Go.RowKit

/-- Bytes as a text. -/
abbrev stx (l : List UInt8) : ByteArray := ⟨l.toArray⟩
theorem stx_size (l : List UInt8) : (stx l).size = l.length := by show l.toArray.size = _; rw [List.size_toArray]
theorem stx_list (s : ByteArray) : stx s.data.toList = s := rfl

theorem stx_append (l m : List UInt8) : stx l ++ stx m = stx (l ++ m) := by
  apply ByteArray.ext
  rw [ByteArray.data_append]
  apply Array.toList_inj.1
  simp
theorem stx_extract (l : List UInt8) (i j : Nat) : (stx l).extract i j = stx ((l.take j).drop i) := by
  apply ByteArray.ext
  rw [ByteArray.data_extract]
  apply Array.toList_inj.1
  simp [List.extract_eq_take_drop, List.drop_take]

theorem cellLt {w : World} {a : Addr} {v : Value} (h : w.cell? a = some v) : a.block < w.heap.size := by
  unfold World.cell? at h
  rcases Nat.lt_or_ge a.block w.heap.size with k | k
  · exact k
  · rw [Array.getElem?_eq_none k] at h
    cases h
def atB (s : ByteArray) (i : Nat) : UInt8 := s.data.toList.getD i 0
theorem atB_get (s : ByteArray) (i : Nat) (h : i < s.size) : s[i] = atB s i := by
  have h2 : i < s.data.toList.length := h
  unfold atB
  rw [List.getD_eq_getElem?_getD, List.getElem?_eq_getElem h2]
  rfl

theorem sClone_any (s : ByteArray) (w : World) (hs : s.size ≤ 281474976710656) :
    Calls Tryz.prog 48 #[.string s] w fun r w' => r = .returned (.string s) ∧ Below w.heap.size w w' := by
  have HC := Lib.hid (Tryz.stringslite_Clone s w hs)
  clear hs
  go_enter Tryz.func48, Tryz.ntmps48
  go_wp2_with fail
  refine HC.out.mono ?_
  rintro e w1 ⟨rfl, b1⟩
  go_wp2_with fail
  go_ret
  exact ⟨rfl, b1⟩

def strCells (ts : List (List UInt8)) : List Value := ts.map fun t => .string (stx t)
theorem strCells_length (ts : List (List UInt8)) : (strCells ts).length = ts.length := by simp [strCells]
theorem strCells_put (ts : List (List UInt8)) (t : List UInt8) : strCells ts ++ [.string (stx t)] = strCells (ts ++ [t]) := by simp [strCells]
/-- A list of texts of the call's own. -/
def OwnStrs (w : World) (B : Nat) (v : Value) (ts : List (List UInt8)) : Prop := w.ownsRow B 9 1 v ts.length (strCells ts)
theorem OwnStrs.below {w w' : World} {B : Nat} {v : Value} {ts : List (List UInt8)} (h : OwnStrs w B v ts) (k : Below w.heap.size w w') : OwnStrs w' B v ts :=
  World.ownsRow.kept h (row := none) ⟨k.os, k.tape, k.output, k.size, fun j hj _ => k.block j hj⟩ (by cases hv : v.ownBlock <;> simp)
theorem info_str : ∃ i : TypeInfo, Tryz.prog.info? 9 = some i ∧ i.zero = some (.string ⟨#[]⟩) ∧ i.size = 1 ∧ i.bytes = 16 := by
  have h : (Tryz.prog.info? 9).map (fun i => (i.zero, i.size, i.bytes)) = some (some (.string ⟨#[]⟩), 1, 16) := by kernel_rfl
  cases hq : Tryz.prog.info? 9 with
  | none => rw [hq] at h; cases h
  | some i =>
    rw [hq] at h
    simp only [Option.map_some, Option.some.injEq, Prod.mk.injEq] at h
    exact ⟨i, rfl, h.1, h.2.1, h.2.2⟩
theorem ownStrs_empty (w : World) : OwnStrs (w.alloc (.cells #[] 9)) w.heap.size (.slice (some ⟨w.heap.size, 0, none⟩) 0 0) [] :=
  ⟨rfl, .inr ⟨w.heap.size, 0, #[], rfl, Nat.le_refl _, heap_alloc_new w _, Nat.le_refl _, Nat.zero_le _, rfl, rfl⟩⟩
/-- A list of texts that lie in memory. -/
def StrsAt (w : World) (v : Value) (ts : List (List UInt8)) : Prop :=
  ∃ ao cap, v = .slice ao ts.length cap ∧ ∀ i, i < ts.length → ∃ g, ao = some ⟨g, 0, none⟩ ∧ w.cell? ⟨g, i, none⟩ = some (.string (stx (ts.getD i [])))
theorem OwnStrs.lie {w : World} {B : Nat} {v : Value} {ts : List (List UInt8)} (h : OwnStrs w B v ts) : StrsAt w v ts := by
  have h' := h
  rcases h.2 with ⟨h1, h2⟩ | ⟨g, cap, cur, h1, _⟩
  · exact ⟨none, 0, by rw [h1, h2], fun i hi => absurd hi (by omega)⟩
  · refine ⟨_, _, h1, fun i hi => ⟨g, rfl, ?_⟩⟩
    have hb : v.ownBlock = some g := by rw [h1]; rfl
    have := World.ownsRow.cells h' hb i (.string (stx (ts.getD i []))) (by
      rw [strCells, List.getElem?_map, List.getElem?_eq_getElem hi, List.getD_eq_getElem?_getD, List.getElem?_eq_getElem hi]
      rfl)
    rw [← this]
    congr 1
    exact (show (⟨g, 0, none⟩ : Addr).add i = ⟨g, i, none⟩ by simp [Addr.add]; exact fun e => e.symm).symm
theorem StrsAt.below {w w' : World} {v : Value} {ts : List (List UInt8)} (h : StrsAt w v ts) (k : Below w.heap.size w w') : StrsAt w' v ts := by
  obtain ⟨ao, cap, h1, h2⟩ := h
  refine ⟨ao, cap, h1, fun i hi => ?_⟩
  obtain ⟨g, h3, h4⟩ := h2 i hi
  exact ⟨g, h3, (k.cell (p := ⟨g, i, none⟩) (cellLt h4)).trans h4⟩
theorem StrsAt.take {w : World} {v : Value} {ts : List (List UInt8)} (h : StrsAt w v ts) (k : Nat) (hk : k ≤ ts.length) : ∃ ao cap, v = .slice ao ts.length cap ∧ StrsAt w (.slice ao k cap) (ts.take k) := by
  obtain ⟨ao, cap, h1, h2⟩ := h
  refine ⟨ao, cap, h1, ao, cap, by rw [List.length_take, Nat.min_eq_left hk], fun i hi => ?_⟩
  rw [List.length_take, Nat.min_eq_left hk] at hi
  obtain ⟨g, h3, h4⟩ := h2 i (by omega)
  refine ⟨g, h3, ?_⟩
  rw [h4]
  congr 3
  rw [List.getD_eq_getElem?_getD, List.getD_eq_getElem?_getD, List.getElem?_take, if_pos hi]
theorem OwnStrs.shape {w : World} {B : Nat} {v : Value} {ts : List (List UInt8)} (h : OwnStrs w B v ts) : ∃ ao cap, v = .slice ao ts.length cap := by
  rcases h.2 with ⟨h1, h2⟩ | ⟨g, cap, cur, h1, _⟩
  · exact ⟨none, 0, by rw [h1, h2]⟩
  · exact ⟨_, _, h1⟩

/-- At most so many bytes. -/
def cutS (l : List UInt8) (n : Nat) : List UInt8 := l.take n
set_option maxRecDepth 100000 in
theorem l3Cut_any (s : ByteArray) (n : Nat) (w : World) (hn : n ≤ 100000) : Calls Tryz.prog 12 #[.string s, .int .i64 n] w fun e w' => e = .returned (.string (stx (s.data.toList.take n))) ∧ w' = w := by
  have hn0 : (0 : Int) ≤ n := by omega
  by_cases h : n < s.size
  · have h1 : decide (n < s.size) = true := decide_eq_true h
    have h2 : (n : Int) ≤ s.size := by omega
    have HX : Hid (s.extract 0 n = stx (s.data.toList.take n)) := Lib.hid (stx_extract s.data.toList 0 n)
    clear h
    go_enter Tryz.func12, Tryz.ntmps12
    go_wp2_with fail
    go_ret
    exact ⟨by rw [← HX.out]; rfl, rfl⟩
  · have h1 : decide (n < s.size) = false := decide_eq_false h
    have HX : Hid (stx (s.data.toList.take n) = s) := Lib.hid (by rw [List.take_of_length_le (show s.data.toList.length ≤ n from by show s.size ≤ n; omega)])
    clear h
    go_enter Tryz.func12, Tryz.ntmps12
    go_wp2_with fail
    go_ret
    exact ⟨by rw [HX.out]; rfl, rfl⟩
theorem stx_inj {a b : List UInt8} (h : stx a = stx b) : a = b := congrArg (fun x : ByteArray => x.data.toList) h

theorem str_ne {a b : ByteArray} (h : a ≠ b) : (a.toList == b.toList) = false := by
  rw [beq_eq_false_iff_ne, ByteArray.toList_eq, ByteArray.toList_eq]
  exact fun e => h (ByteArray.ext (Array.toList_inj.1 e))
theorem toList_none (s : ByteArray) : s.toList.isEmpty = true ↔ s.size = 0 := by
  rw [ByteArray.toList_eq, List.isEmpty_iff, ← List.length_eq_zero_iff, Array.length_toList]
  rfl
/-- A row of another type stays as it is. -/
theorem own_other {w w' : World} {B C e1 e2 s1 s2 n m : Nat} {v u : Value} {xs ys : List Value} (h1 : w.ownsRow B e1 s1 v n xs) (h2 : w.ownsRow C e2 s2 u m ys) (he : e1 ≠ e2) (hg : w.grownBy w' u.ownBlock) : w'.ownsRow B e1 s1 v n xs := by
  refine h1.kept hg ?_
  rcases h1.2 with ⟨a1, _⟩ | ⟨g, cap, cur, a1, _, a3, _⟩
  · left; rw [a1]; rfl
  · right
    rcases h2.2 with ⟨c1, _⟩ | ⟨g2, cap2, cur2, c1, _, c3, _⟩
    · rw [a1, c1]; simp [Value.ownBlock]
    · rw [a1, c1]
      intro e
      have : g = g2 := by simpa [Value.ownBlock] using e
      subst this
      rw [a3] at c3
      injection c3 with c3
      injection c3 with _ c4
      exact he c4
end Go.Proofs.YtlhdnkfnhdkbkaaGreatDoor
namespace Go.Proofs.YtlhdnkfnhdkbkaaGreatDoor
open Go

def lowL : List Nat := [0, 1996959894, 3993919788, 2567524794, 124634137, 1886057615, 3915621685, 2657392035, 249268274, 2044508324, 3772115230, 2547177864, 162941995, 2125561021, 3887607047, 2428444049]
def highL : List Nat := [0, 498536548, 997073096, 651767980, 1994146192, 1802195444, 1303535960, 1342533948, 3988292384, 4027552580, 3604390888, 3412177804, 2607071920, 2262029012, 2685067896, 3183342108]
def lowT (i : Nat) : Nat := lowL.getD i 0
def highT (i : Nat) : Nat := highL.getD i 0
theorem lowT_lt : ∀ i : Fin 16, lowT i.val < 4294967296 := by decide +kernel
theorem highT_lt : ∀ i : Fin 16, highT i.val < 4294967296 := by decide +kernel
/-- What goes out of the sum with a byte. -/
def outB (c : Nat) (b : UInt8) : Nat := (c % 256) ^^^ b.toNat
theorem outB_lt (c : Nat) (b : UInt8) : outB c b < 256 := Nat.xor_lt_two_pow (n := 8) (Nat.mod_lt _ (by decide)) b.toNat_lt
def stepC (c : Nat) (b : UInt8) : Nat := c / 256 ^^^ lowT (outB c b % 16) ^^^ highT (outB c b / 16)
theorem stepC_lt (c : Nat) (b : UInt8) (h : c < 4294967296) : stepC c b < 4294967296 := by
  have h1 := lowT_lt ⟨outB c b % 16, Nat.mod_lt _ (by decide)⟩
  have h2 := highT_lt ⟨outB c b / 16, by have := outB_lt c b; omega⟩
  exact Nat.xor_lt_two_pow (n := 32) (Nat.xor_lt_two_pow (n := 32) (by omega) h1) h2
def crcF (c : Nat) (l : List UInt8) : Nat := l.foldl stepC c
theorem crcF_lt (c : Nat) (l : List UInt8) (h : c < 4294967296) : crcF c l < 4294967296 := by
  induction l generalizing c with
  | nil => exact h
  | cons b l ih => exact ih _ (stepC_lt c b h)
theorem crcF_append (c : Nat) (l m : List UInt8) : crcF c (l ++ m) = crcF (crcF c l) m := by simp [crcF]
theorem crcF_put (c : Nat) (l : List UInt8) (b : UInt8) : crcF c (l ++ [b]) = stepC (crcF c l) b := by simp [crcF]
/-- The cyclic sum. -/
def crc (l : List UInt8) : Nat := 4294967295 - crcF 4294967295 l
theorem crc_lt (l : List UInt8) : crc l < 4294967296 := by unfold crc; omega
/-- A word's bytes, the highest first. -/
def be4 (n : Nat) : List UInt8 := [UInt8.ofNat (n / 16777216), UInt8.ofNat (n / 65536), UInt8.ofNat (n / 256), UInt8.ofNat n]
def sizeB (n : Nat) : List UInt8 := be4 (1577058304 + n)
/-- The frame of a text. -/
def frame (s : List UInt8) : List UInt8 := sizeB s.length ++ (be4 (crc (sizeB s.length ++ s)) ++ s)
theorem be4_length (n : Nat) : (be4 n).length = 4 := rfl
theorem frame_length (s : List UInt8) : (frame s).length = 8 + s.length := by
  rw [frame, List.length_append, List.length_append, sizeB, be4_length, be4_length]
  omega
/-- The word of the first four bytes. -/
def num4 (l : List UInt8) : Nat := (l.getD 0 0).toNat * 16777216 + (l.getD 1 0).toNat * 65536 + (l.getD 2 0).toNat * 256 + (l.getD 3 0).toNat
theorem num4_lt (l : List UInt8) : num4 l < 4294967296 := by
  have h0 := (l.getD 0 0).toNat_lt
  have h1 := (l.getD 1 0).toNat_lt
  have h2 := (l.getD 2 0).toNat_lt
  have h3 := (l.getD 3 0).toNat_lt
  unfold num4
  omega
theorem num4_be4 (n : Nat) (h : n < 4294967296) (r : List UInt8) : num4 (be4 n ++ r) = n := by
  show (UInt8.ofNat (n / 16777216)).toNat * 16777216 + (UInt8.ofNat (n / 65536)).toNat * 65536 + (UInt8.ofNat (n / 256)).toNat * 256 + (UInt8.ofNat n).toNat = n
  simp only [UInt8.toNat_ofNat']
  omega
/-- Why a text isn't a frame: the error's number; 0, if it begins with one. -/
def opE (l : List UInt8) : Int :=
  if l.length < 8 then 5
  else if (l.getD 0 0).toNat ≠ 94 ∨ 65536 < num4 l % 16777216 then 4
  else if l.length - 8 < num4 l % 16777216 then 5
  else if num4 (l.drop 4) ≠ crc (l.take 4 ++ (l.drop 8).take (num4 l % 16777216)) then 6
  else 0
def opS (l : List UInt8) : List UInt8 := if opE l = 0 then (l.drop 8).take (num4 l % 16777216) else []
def opN (l : List UInt8) : Nat := if opE l = 0 then 8 + num4 l % 16777216 else 0
/-- A frame is opened. -/
theorem open_frame (s r : List UInt8) (h : s.length ≤ 65536) : opE (frame s ++ r) = 0 ∧ opS (frame s ++ r) = s ∧ opN (frame s ++ r) = 8 + s.length := by
  have e : frame s ++ r = sizeB s.length ++ (be4 (crc (sizeB s.length ++ s)) ++ (s ++ r)) := by simp [frame]
  have hl : (frame s ++ r).length = 8 + s.length + r.length := by rw [List.length_append, frame_length]
  have hn : num4 (frame s ++ r) = 1577058304 + s.length := by rw [e, sizeB]; exact num4_be4 _ (by omega) _
  have hm : num4 (frame s ++ r) % 16777216 = s.length := by omega
  have h0 : ((frame s ++ r).getD 0 0).toNat = 94 := by
    rw [e]
    show (UInt8.ofNat ((1577058304 + s.length) / 16777216)).toNat = 94
    rw [UInt8.toNat_ofNat']
    omega
  have d4 : (frame s ++ r).drop 4 = be4 (crc (sizeB s.length ++ s)) ++ (s ++ r) := by rw [e]; rfl
  have d8 : (frame s ++ r).drop 8 = s ++ r := by rw [e]; rfl
  have t4 : (frame s ++ r).take 4 = sizeB s.length := by rw [e]; rfl
  have hE : opE (frame s ++ r) = 0 := by
    rw [opE, if_neg (by omega), if_neg (by rw [hm, h0]; omega), if_neg (by omega), if_neg]
    rw [d4, d8, t4, hm, num4_be4 _ (crc_lt _), List.take_left]
    exact fun k => k rfl
  refine ⟨hE, ?_, ?_⟩
  · rw [opS, if_pos hE, d8, hm, List.take_left]
  · rw [opN, if_pos hE, hm]
theorem opE_range (l : List UInt8) : opE l = 0 ∨ opE l = 4 ∨ opE l = 5 ∨ opE l = 6 := by
  unfold opE
  split
  · simp
  · split
    · simp
    · split
      · simp
      · split <;> simp
theorem opN_le (l : List UInt8) : opN l ≤ l.length ∧ (opE l = 0 → 8 ≤ opN l) ∧ (opS l).length ≤ 65536 := by
  unfold opN opS
  by_cases h : opE l = 0
  · rw [if_pos h, if_pos h]
    have h2 := h
    unfold opE at h2
    split at h2
    · cases h2
    · split at h2
      · cases h2
      · split at h2
        · cases h2
        · refine ⟨by omega, fun _ => by omega, ?_⟩
          rw [List.length_take]
          omega
  · rw [if_neg h, if_neg h]
    exact ⟨Nat.zero_le _, fun e => absurd e h, Nat.zero_le _⟩
/-- All frames from place at on: their texts, and where they end. -/
def allF : Nat → List UInt8 → Nat → List (List UInt8) × Nat
  | 0, _, n => ([], n)
  | f + 1, l, n => if opE (l.drop n) = 0 then ((opS (l.drop n)) :: (allF f l (n + opN (l.drop n))).1, (allF f l (n + opN (l.drop n))).2) else ([], n)
end Go.Proofs.YtlhdnkfnhdkbkaaGreatDoor
namespace Go.Proofs.YtlhdnkfnhdkbkaaGreatDoor
open Go Go.RowKit

/-- The tables lie where the program lays them. -/
def Tabs (w : World) : Prop := (∀ i, i < 16 → w.cell? ⟨0, i, none⟩ = some (.int .u32 (lowT i))) ∧ (∀ i, i < 16 → w.cell? ⟨1, i, none⟩ = some (.int .u32 (highT i)))
theorem Tabs.below {w w' : World} (h : Tabs w) (k : Below w.heap.size w w') : Tabs w' := by
  refine ⟨fun i hi => ?_, fun i hi => ?_⟩
  · have := h.1 i hi
    exact (k.cell (p := ⟨0, i, none⟩) (cellLt this)).trans this
  · have := h.2 i hi
    exact (k.cell (p := ⟨1, i, none⟩) (cellLt this)).trans this

theorem u32_wrap (n : Nat) (h : n < 4294967296) : IntKind.u32.wrap (n : Int) = n := by
  show (n : Int) % 2 ^ IntKind.u32.bits = n
  rw [show (2 : Int) ^ IntKind.u32.bits = 4294967296 from rfl]
  omega
set_option maxRecDepth 100000 in
theorem further_any (c : Nat) (s : ByteArray) (w : World) (hc : c < 4294967296) (hs : s.size ≤ 281474976710656) (ht : Tabs w) :
    Calls Tryz.prog 67 #[.int .u32 c, .string s] w fun e w' => e = .returned (.int .u32 (crcF c s.data.toList)) ∧ Below w.heap.size w w' := by
  have HT := Lib.hid ht
  have HC := Lib.hid hc
  have hs' : (s.size : Int) ≤ 281474976710656 := by omega
  clear ht hc hs
  go_enter Tryz.func67, Tryz.ntmps67
  go_wp2_with fail
  go_loopw [0, 9] (fun x t wr => ∃ i : Nat, i ≤ s.size ∧ t = .int .i64 i ∧ Hid (x = .int .u32 (crcF c (s.data.toList.take i))) ∧ Below w.heap.size w wr) (fun _ t _ => (s.size - intOf t).toNat)
  case atStart => exact ⟨0, Nat.zero_le _, rfl, Lib.hid rfl, Below.refl _ _⟩
  case round =>
    obtain ⟨i, hi, rfl, HX, b0⟩ := hrel
    obtain ⟨n, hn⟩ : ∃ n, crcF c (s.data.toList.take i) = n := ⟨_, rfl⟩
    have hx := HX.out
    rw [hn] at hx
    subst hx
    by_cases hlt : i < s.size
    · have hlt' : (i : Int) < s.size := by omega
      have hn32 : n < 4294967296 := by rw [← hn]; exact crcF_lt _ _ HC.out
      have hat := atB_get s i hlt
      obtain ⟨y, hy⟩ : ∃ y, atB s i = y := ⟨_, rfl⟩
      rw [hy] at hat
      have hyb := y.toNat_lt
      have ho := outB_lt n y
      have hxor : bits .xor .u8 ((n : Int) % 256) (y.toNat : Int) = (outB n y : Int) := by
        rw [show (n : Int) % 256 = ((n % 256 : Nat) : Int) by omega, u8_xor_nat _ _ (by omega) hyb]
        rfl
      obtain ⟨o, ho1⟩ : ∃ o, outB n y = o := ⟨_, rfl⟩
      rw [ho1] at ho hxor
      obtain ⟨p, hp⟩ : ∃ p, o % 16 = p := ⟨_, rfl⟩
      obtain ⟨q, hq⟩ : ∃ q, o / 16 = q := ⟨_, rfl⟩
      have hp16 : p < 16 := by omega
      have hq16 : q < 16 := by omega
      have hp16' : (p : Int) < 16 := by omega
      have hq16' : (q : Int) < 16 := by omega
      have T := HT.out.below b0
      have c1 := T.1 p hp16
      have c2 := T.2 q hq16
      have hpl := lowT_lt ⟨p, hp16⟩
      have hqh := highT_lt ⟨q, hq16⟩
      have hand : bits .and .u8 (o : Int) 15 = (p : Int) := by
        rw [show (15 : Int) = ((15 : Nat) : Int) from rfl, u8_and_nat _ _ (by omega) (by decide), ← hp]
        congr 1
        exact Nat.and_two_pow_sub_one_eq_mod o 4
      have hdiv : (o : Int) / 16 = (q : Int) := by omega
      have hx1 : bits .xor .u32 ((n : Int) / 256) (lowT p : Int) = ((n / 256 ^^^ lowT p : Nat) : Int) := by
        rw [show (n : Int) / 256 = ((n / 256 : Nat) : Int) by omega, u32_xor_nat _ _ (by omega) hpl]
      have hl1 : n / 256 ^^^ lowT p < 4294967296 := Nat.xor_lt_two_pow (n := 32) (by omega) hpl
      have hx2 := u32_xor_nat (n / 256 ^^^ lowT p) (highT q) hl1 hqh
      have HS : Hid (crcF c (s.data.toList.take (i + 1)) = (n / 256 ^^^ lowT p) ^^^ highT q) := Lib.hid (by
        have hl : i < s.data.toList.length := hlt
        have hy2 : s.data.toList[i] = y := by
          rw [← hy, atB, List.getD_eq_getElem?_getD, List.getElem?_eq_getElem hl]
          rfl
        rw [List.take_succ_eq_append_getElem hl, crcF_put, hn, hy2, stepC, ho1, hp, hq])
      clear hn hy ho1 hp hq ho T hpl hqh hl1 hp16 hq16 HX
      generalize lowT p = a at *
      generalize highT q = b at *
      go_wp2_with fail
      go_region
      go_wp2_with fail
      exact ⟨⟨i + 1, hlt, by go_num, Lib.hid (by rw [HS.out]), b0.drew⟩, by simp [intOf]; omega⟩
    · obtain rfl : i = s.size := by omega
      have HN := Lib.hid hn
      clear hn HX
      go_wp2_with fail
      go_ret
      exact ⟨by rw [← HN.out, List.take_of_length_le (show s.data.toList.length ≤ s.size from Nat.le_refl _)]; rfl, b0⟩

theorem xor_ones (n : Nat) (h : n < 4294967296) : 4294967295 ^^^ n = 4294967295 - n := by
  have h1 := BitVec.toNat_not (x := BitVec.ofNat 32 n)
  rw [← BitVec.xor_allOnes, BitVec.toNat_xor, BitVec.toNat_allOnes, BitVec.toNat_ofNat, Nat.mod_eq_of_lt h] at h1
  rw [Nat.xor_comm]
  exact h1
theorem or_add (a b k : Nat) (h : b < 2 ^ k) : a * 2 ^ k ||| b = a * 2 ^ k + b := by
  have := Nat.shiftLeft_add_eq_or_of_lt h a
  rw [Nat.shiftLeft_eq] at this
  exact this.symm
theorem crc_of (l : List UInt8) : ∃ n : Nat, n < 4294967296 ∧ crcF 4294967295 l = n ∧ crc l = 4294967295 - n := ⟨_, crcF_lt _ _ (by decide), rfl, rfl⟩
set_option maxRecDepth 100000 in
theorem joint_any (a b : ByteArray) (w : World) (ha : a.size ≤ 281474976710656) (hb : b.size ≤ 281474976710656) (ht : Tabs w) :
    Calls Tryz.prog 46 #[.string a, .string b] w fun e w' => e = .returned (.int .u32 (crc (a.data.toList ++ b.data.toList))) ∧ Below w.heap.size w w' := by
  obtain ⟨n, hn, h1, h2⟩ := crc_of (a.data.toList ++ b.data.toList)
  have H1 := Lib.hid (further_any 4294967295 a w (by decide) ha ht)
  have H2 : ∀ w, Tabs w → Hid (Calls Tryz.prog 67 #[.int .u32 (crcF 4294967295 a.data.toList), .string b] w fun e w' => e = .returned (.int .u32 n) ∧ Below w.heap.size w w') := fun w ht => Lib.hid (by
    have := further_any (crcF 4294967295 a.data.toList) b w (crcF_lt _ _ (by decide)) hb ht
    rwa [← crcF_append, h1] at this)
  have HC := Lib.hid h2
  have HT := Lib.hid ht
  clear h1 h2 ha hb ht
  go_enter Tryz.func46, Tryz.ntmps46
  go_wp2_with fail
  refine H1.out.mono ?_
  rintro e w1 ⟨rfl, b1⟩
  go_wp2_with fail
  refine (H2 _ (HT.out.below b1)).out.mono ?_
  rintro e w2 ⟨rfl, b2⟩
  have b3 := below_past b1 b2 b1.size
  have hmax : bits .xor .u32 IntKind.u32.max (n : Int) = ((4294967295 - n : Nat) : Int) := by
    rw [← xor_ones n hn]
    exact u32_xor_nat 4294967295 n (by decide) hn
  have hsg : IntKind.u32.signed = false := rfl
  clear b1 b2
  go_wp2_with fail
  go_ret
  exact ⟨by rw [HC.out]; rfl, b3⟩
theorem cells_be4 (n : Nat) (w : World) (hn : n < 4294967296) :
    (convert 51 9 (.slice (some ⟨w.heap.size, 0, none⟩) 4 4)).run Tryz.prog (w.alloc (.cells #[.int .u8 ((n : Int) / 16777216), .int .u8 ((n : Int) / 65536 % 256), .int .u8 ((n : Int) / 256 % 256), .int .u8 ((n : Int) % 256)] 5)) = .ok (.string (stx (be4 n))) (w.alloc (.cells #[.int .u8 ((n : Int) / 16777216), .int .u8 ((n : Int) / 65536 % 256), .int .u8 ((n : Int) / 256 % 256), .int .u8 ((n : Int) % 256)] 5)) := by
  refine run_convert_bytes_back _ _ _ _ ⟨w.heap.size, 0, none⟩ 4 (be4 n) Tryz.underlying51 Tryz.underlying5 Tryz.underlying9 fun j hj => ?_
  have r := rowAt_alloc_at w #[.int .u8 ((n : Int) / 16777216), .int .u8 ((n : Int) / 65536 % 256), .int .u8 ((n : Int) / 256 % 256), .int .u8 ((n : Int) % 256)] 5 _ rfl
  rw [show (⟨w.heap.size, 0, none⟩ : Addr).add j = ⟨w.heap.size, j, none⟩ by simp [Addr.add]; exact fun e => e.symm, cell_of_rowAt r]
  have hb : ∀ m : Nat, ((UInt8.ofNat m).toNat : Int) = (m : Int) % 256 := fun m => by rw [UInt8.toNat_ofNat']; omega
  match j, hj with
  | 0, _ => exact congrArg (fun x => some (Value.int .u8 x)) (show (n : Int) / 16777216 = ((UInt8.ofNat (n / 16777216)).toNat : Int) by rw [hb]; omega)
  | 1, _ => exact congrArg (fun x => some (Value.int .u8 x)) (show (n : Int) / 65536 % 256 = ((UInt8.ofNat (n / 65536)).toNat : Int) by rw [hb]; omega)
  | 2, _ => exact congrArg (fun x => some (Value.int .u8 x)) (show (n : Int) / 256 % 256 = ((UInt8.ofNat (n / 256)).toNat : Int) by rw [hb]; omega)
  | 3, _ => exact congrArg (fun x => some (Value.int .u8 x)) (show (n : Int) % 256 = ((UInt8.ofNat n).toNat : Int) by rw [hb])
set_option maxRecDepth 100000 in
theorem spelled_any (n : Nat) (w : World) (hn : n < 4294967296) :
    Calls Tryz.prog 45 #[.int .u32 n] w fun e w' => e = .returned (.string (stx (be4 n))) ∧ Below w.heap.size w w' := by
  have hc := cells_be4 n w
  have b0 : Below w.heap.size w (w.alloc (.cells #[.int .u8 ((n : Int) / 16777216), .int .u8 ((n : Int) / 65536 % 256), .int .u8 ((n : Int) / 256 % 256), .int .u8 ((n : Int) % 256)] 5)) := (Below.refl _ _).alloc (Nat.le_refl _) _
  go_enter Tryz.func45, Tryz.ntmps45
  go_wp2_with fail
  try rw [hc hn]
  try simp only [Result.andThen]
  try rw [Oper.upon_value]
  go_wp2_with fail
  go_ret
  exact ⟨rfl, b0⟩
set_option maxRecDepth 100000 in
theorem number_any (s : ByteArray) (w : World) (hs : 4 ≤ s.size) :
    Calls Tryz.prog 83 #[.string s] w fun e w' => e = .returned (.int .u32 (num4 s.data.toList)) ∧ Below w.heap.size w w' := by
  have g0 := atB_get s 0 (by omega)
  have g1 := atB_get s 1 (by omega)
  have g2 := atB_get s 2 (by omega)
  have g3 := atB_get s 3 (by omega)
  have h0 := (atB s 0).toNat_lt
  have h1 := (atB s 1).toNat_lt
  have h2 := (atB s 2).toNat_lt
  have h3 := (atB s 3).toNat_lt
  have hs0 : 0 < s.size := by omega
  have hs1 : 1 < s.size := by omega
  have hs2 : 2 < s.size := by omega
  have hs3 : 3 < s.size := by omega
  have HN : Hid (num4 s.data.toList = (atB s 0).toNat * 16777216 + (atB s 1).toNat * 65536 + (atB s 2).toNat * 256 + (atB s 3).toNat) := Lib.hid rfl
  generalize atB s 0 = x0 at *
  generalize atB s 1 = x1 at *
  generalize atB s 2 = x2 at *
  generalize atB s 3 = x3 at *
  obtain ⟨a, ha⟩ : ∃ a, x0.toNat = a := ⟨_, rfl⟩
  obtain ⟨b, hb⟩ : ∃ a, x1.toNat = a := ⟨_, rfl⟩
  obtain ⟨c, hc⟩ : ∃ a, x2.toNat = a := ⟨_, rfl⟩
  obtain ⟨d, hd⟩ : ∃ a, x3.toNat = a := ⟨_, rfl⟩
  rw [ha] at h0
  rw [hb] at h1
  rw [hc] at h2
  rw [hd] at h3
  have e1 : bits .or .u32 ((a : Int) * 16777216) ((b : Int) * 65536) = ((a * 16777216 + b * 65536 : Nat) : Int) := by
    rw [show (a : Int) * 16777216 = ((a * 16777216 : Nat) : Int) by omega, show (b : Int) * 65536 = ((b * 65536 : Nat) : Int) by omega, u32_or_nat _ _ (by omega) (by omega)]
    exact congrArg Nat.cast (or_add a (b * 65536) 24 (by omega))
  have e2 : bits .or .u32 ((a * 16777216 + b * 65536 : Nat) : Int) ((c : Int) * 256) = ((a * 16777216 + b * 65536 + c * 256 : Nat) : Int) := by
    rw [show (c : Int) * 256 = ((c * 256 : Nat) : Int) by omega, u32_or_nat _ _ (by omega) (by omega)]
    have := or_add (a * 256 + b) (c * 256) 16 (by omega)
    rw [show (a * 256 + b) * 2 ^ 16 = a * 16777216 + b * 65536 by omega] at this
    rw [this]
  have e3 : bits .or .u32 ((a * 16777216 + b * 65536 + c * 256 : Nat) : Int) (d : Int) = ((a * 16777216 + b * 65536 + c * 256 + d : Nat) : Int) := by
    rw [u32_or_nat _ _ (by omega) (by omega)]
    have := or_add (a * 65536 + b * 256 + c) d 8 (by omega)
    rw [show (a * 65536 + b * 256 + c) * 2 ^ 8 = a * 16777216 + b * 65536 + c * 256 by omega] at this
    rw [this]
  have HN2 : Hid (num4 s.data.toList = a * 16777216 + b * 65536 + c * 256 + d) := Lib.hid (by rw [HN.out, ha, hb, hc, hd])
  have E1 := Lib.hid e1
  have E2 := Lib.hid e2
  have E3 := Lib.hid e3
  clear e1 e2 e3 HN
  go_enter Tryz.func83, Tryz.ntmps83
  go_wp2_with fail
  go_region
  rw [E1.out, E2.out, E3.out]
  go_wp2_with fail
  go_ret
  exact ⟨by rw [HN2.out]; rfl, (Below.refl _ _).drew⟩
end Go.Proofs.YtlhdnkfnhdkbkaaGreatDoor
namespace Go.Proofs.YtlhdnkfnhdkbkaaGreatDoor
open Go Go.RowKit

set_option maxRecDepth 100000 in
theorem Wrap_big (s : ByteArray) (w : World) (hs : 65536 < s.size) :
    Calls Tryz.prog 30 #[.string s] w fun e w' => e = .returned (.tuple #[.string ⟨#[]⟩, .int .i64 2]) ∧ Below w.heap.size w w' := by
  have hs' : decide (65536 < (s.size : Int)) = true := decide_eq_true (by omega)
  clear hs
  go_enter Tryz.func30, Tryz.ntmps30
  go_wp2_with fail
  go_ret2
  exact ⟨rfl, Below.refl _ _⟩
set_option maxRecDepth 100000 in
theorem Wrap_any (s : ByteArray) (w : World) (hs : s.size ≤ 65536) (ht : Tabs w) :
    Calls Tryz.prog 30 #[.string s] w fun e w' => e = .returned (.tuple #[.string (stx (frame s.data.toList)), .int .i64 0]) ∧ Below w.heap.size w w' := by
  have hs' : decide (65536 < (s.size : Int)) = false := decide_eq_false (by omega)
  obtain ⟨n, hn⟩ : ∃ n, s.size = n := ⟨_, rfl⟩
  rw [hn] at hs'
  have hor : bits .or .u32 1577058304 (n : Int) = ((1577058304 + n : Nat) : Int) := by
    have h := u32_or_nat 1577058304 n (by decide) (by omega)
    rw [show ((1577058304 : Nat) : Int) = 1577058304 from rfl] at h
    rw [h]
    exact congrArg Nat.cast (or_add 94 n 24 (by omega))
  have H1 : ∀ w, Hid (Calls Tryz.prog 45 #[.int .u32 (1577058304 + (n : Int))] w fun e w' => e = .returned (.string (stx (sizeB n))) ∧ Below w.heap.size w w') := fun w => Lib.hid (by
    have := spelled_any (1577058304 + n) w (by omega)
    rwa [show ((1577058304 + n : Nat) : Int) = 1577058304 + (n : Int) by omega] at this)
  have H2 : ∀ w, Tabs w → Hid (Calls Tryz.prog 46 #[.string (stx (sizeB n)), .string s] w fun e w' => e = .returned (.int .u32 (crc (sizeB n ++ s.data.toList))) ∧ Below w.heap.size w w') := fun w ht => Lib.hid (joint_any _ s w (by rw [stx_size]; show 4 ≤ _; decide) (by omega) ht)
  have H3 : ∀ w, Hid (Calls Tryz.prog 45 #[.int .u32 (crc (sizeB n ++ s.data.toList))] w fun e w' => e = .returned (.string (stx (be4 (crc (sizeB n ++ s.data.toList))))) ∧ Below w.heap.size w w') := fun w => Lib.hid (spelled_any _ w (crc_lt _))
  have HF : Hid (stx (sizeB n) ++ stx (be4 (crc (sizeB n ++ s.data.toList))) ++ s = stx (frame s.data.toList)) := Lib.hid (by
    rw [show s = stx s.data.toList from rfl, stx_append, stx_append, frame, List.append_assoc]
    rw [show s.data.toList.length = s.size from rfl, hn])
  have hn1 : (n : Int) ≤ 65536 := by omega
  have z1 : (stx (sizeB n)).size = 4 := by rw [stx_size]; rfl
  have z2 : (stx (be4 (crc (sizeB n ++ s.data.toList)))).size = 4 := by rw [stx_size]; rfl
  have HT := Lib.hid ht
  generalize crc (sizeB n ++ s.data.toList) = k at *
  generalize stx (be4 k) = B at *
  generalize stx (sizeB n) = A at *
  have hs2 : s.size ≤ 65536 := hs
  clear hs ht
  go_enter Tryz.func30, Tryz.ntmps30
  go_wp2_with fail
  refine (H1 _).out.mono ?_
  rintro e w1 ⟨rfl, b1⟩
  have T1 := Lib.hid (HT.out.below b1)
  go_wp2_with fail
  refine (H2 _ T1.out).out.mono ?_
  rintro e w2 ⟨rfl, b2⟩
  have b3 := below_past b1 b2 b1.size
  clear b1 b2 T1
  go_wp2_with fail
  refine (H3 _).out.mono ?_
  rintro e w3 ⟨rfl, b1⟩
  have b4 := below_past b3 b1 b3.size
  clear b1 b3
  have hz : (A ++ B).size = 8 := by rw [ByteArray.size_append, z1, z2]
  have hz2 : (A ++ B ++ s).size = 8 + n := by rw [ByteArray.size_append, hz, hn]
  go_wp2_with fail
  go_ret2
  exact ⟨by rw [← HF.out]; rfl, b4⟩
end Go.Proofs.YtlhdnkfnhdkbkaaGreatDoor
namespace Go.Proofs.YtlhdnkfnhdkbkaaGreatDoor
open Go Go.RowKit

theorem Past.tabs {W : World} (h : Tabs W) (x : Past W) : Tabs x.w := h.below x.h
/-- What Open answers. -/
def OpenR (l : List UInt8) : Value := .tuple #[.string (stx (opS l)), .int .i64 (opN l), .int .i64 (opE l)]
theorem OpenR_err (l : List UInt8) (e : Int) (h : opE l = e) (h0 : e ≠ 0) : OpenR l = .tuple #[.string ⟨#[]⟩, .int .i64 0, .int .i64 e] := by
  rw [OpenR, opS, opN, if_neg (by omega), if_neg (by omega), h]
  rfl

set_option maxRecDepth 100000 in
set_option maxHeartbeats 1000000 in
theorem sOpen_any (s : ByteArray) (w : World) (hs : s.size ≤ 281474976710656) (ht : Tabs w) :
    Calls Tryz.prog 66 #[.string s] w fun e w' => e = .returned (OpenR s.data.toList) ∧ Below w.heap.size w w' := by
  obtain ⟨n, hn⟩ : ∃ n, s.size = n := ⟨_, rfl⟩
  have hl : s.data.toList.length = n := hn
  obtain ⟨R, hR⟩ : ∃ R, OpenR s.data.toList = R := ⟨_, rfl⟩
  have HT := Lib.hid ht
  have hn48 : (n : Int) ≤ 281474976710656 := by omega
  rw [hR]
  by_cases h8 : n < 8
  · have h8' : decide ((n : Int) < 8) = true := decide_eq_true (by omega)
    have hE : opE s.data.toList = 5 := by rw [opE, if_pos (by omega)]
    have HR := Lib.hid (hR.symm.trans (OpenR_err _ 5 hE (by decide)))
    clear hR hE h8 hs ht hl
    go_enter Tryz.func66, Tryz.ntmps66
    go_wp2_with fail
    go_ret3
    exact ⟨by rw [HR.out]; rfl, Below.refl _ _⟩
  · have h8' : decide ((n : Int) < 8) = false := decide_eq_false (by omega)
    have h8n : (8 : Int) ≤ n := by omega
    obtain ⟨N, hN⟩ : ∃ N, num4 s.data.toList = N := ⟨_, rfl⟩
    have hN32 : N < 4294967296 := by rw [← hN]; exact num4_lt _
    have HN : Hid (∀ w, Calls Tryz.prog 83 #[.string s] w fun e w' => e = .returned (.int .u32 N) ∧ Below w.heap.size w w') := Lib.hid fun w => by
      have := number_any s w (by omega)
      rwa [hN] at this
    obtain ⟨m, hm⟩ : ∃ m, N % 16777216 = m := ⟨_, rfl⟩
    have hm24 : m < 16777216 := by omega
    have hand : bits .andNot .u32 (N : Int) 4278190080 = (m : Int) := by
      have h := u32_andNot_nat N 4278190080 hN32 (by decide)
      rw [show ((4278190080 : Nat) : Int) = 4278190080 from rfl] at h
      rw [h, ← hm]
      exact congrArg Nat.cast (Nat.and_two_pow_sub_one_eq_mod N 24)
    have hs0 : 0 < s.size := by omega
    have g0 := atB_get s 0 hs0
    obtain ⟨x, hx⟩ : ∃ x, atB s 0 = x := ⟨_, rfl⟩
    rw [hx] at g0
    have hx2 : s.data.toList.getD 0 0 = x := hx
    have hm1 : (m : Int) < 16777216 := by omega
    by_cases hx94 : x.toNat = 94
    · have hx' : ((x.toNat : Int) != 94) = false := by simp; omega
      by_cases hbig : 65536 < m
      · have hb' : decide (65536 < (m : Int)) = true := decide_eq_true (by omega)
        have hE : opE s.data.toList = 4 := by rw [opE, if_neg (by omega), if_pos (.inr (by rw [hN, hm]; exact hbig))]
        have HR := Lib.hid (hR.symm.trans (OpenR_err _ 4 hE (by decide)))
        clear hR hE h8 hs ht hl hN hm hx hx2 hx94 hbig
        go_enter Tryz.func66, Tryz.ntmps66
        go_wp2_with fail
        refine (HN.out _).mono ?_
        rintro e w1 ⟨rfl, b1⟩
        go_wp2_with fail
        go_ret3
        exact ⟨by rw [HR.out]; rfl, b1⟩
      · have hb' : decide (65536 < (m : Int)) = false := decide_eq_false (by omega)
        have hno : ¬ ((s.data.toList.getD 0 0).toNat ≠ 94 ∨ 65536 < num4 s.data.toList % 16777216) := by
          rw [hx2, hN, hm]
          omega
        by_cases hsh : n - 8 < m
        · have hq : decide ((n : Int) - 8 < m) = true := decide_eq_true (by omega)
          have hE : opE s.data.toList = 5 := by rw [opE, if_neg (by omega), if_neg hno, if_pos (by rw [hl, hN, hm]; exact hsh)]
          have HR := Lib.hid (hR.symm.trans (OpenR_err _ 5 hE (by decide)))
          clear hR hE h8 hs ht hl hN hm hx hx2 hx94 hbig hno hsh
          go_enter Tryz.func66, Tryz.ntmps66
          go_wp2_with fail
          refine (HN.out _).mono ?_
          rintro e w1 ⟨rfl, b1⟩
          go_wp2_with fail
          go_ret3
          exact ⟨by rw [HR.out]; rfl, b1⟩
        · have hq : decide ((n : Int) - 8 < m) = false := decide_eq_false (by omega)
          have x1 : s.extract 8 (8 + m) = stx ((s.data.toList.drop 8).take m) := by
            have := stx_extract s.data.toList 8 (8 + m)
            rwa [List.drop_take, show 8 + m - 8 = m by omega] at this
          have x2 : s.extract 4 n = stx (s.data.toList.drop 4) := by
            have := stx_extract s.data.toList 4 n
            rwa [List.take_of_length_le (by omega)] at this
          have x3 : s.extract 0 4 = stx (s.data.toList.take 4) := stx_extract s.data.toList 0 4
          have y1 : (stx ((s.data.toList.drop 8).take m)).size ≤ 65536 := by rw [stx_size, List.length_take]; omega
          have y2 : 4 ≤ (stx (s.data.toList.drop 4)).size := by rw [stx_size, List.length_drop]; omega
          have y3 : (stx (s.data.toList.take 4)).size ≤ 65536 := by rw [stx_size, List.length_take]; omega
          have H4 : Hid (∀ w, Calls Tryz.prog 83 #[.string (stx (s.data.toList.drop 4))] w fun e w' => e = .returned (.int .u32 (num4 (s.data.toList.drop 4))) ∧ Below w.heap.size w w') := Lib.hid fun w => number_any _ w y2
          have H5 : Hid (∀ w, Tabs w → Calls Tryz.prog 46 #[.string (stx (s.data.toList.take 4)), .string (stx ((s.data.toList.drop 8).take m))] w fun e w' => e = .returned (.int .u32 (crc (s.data.toList.take 4 ++ (s.data.toList.drop 8).take m))) ∧ Below w.heap.size w w') := Lib.hid fun w ht => joint_any _ _ w (by omega) (by omega) ht
          have H6 : Hid (∀ w, Calls Tryz.prog 48 #[.string (stx ((s.data.toList.drop 8).take m))] w fun e w' => e = .returned (.string (stx ((s.data.toList.drop 8).take m))) ∧ Below w.heap.size w w') := Lib.hid fun w => sClone_any _ w (by omega)
          have hj : (8 : Int) + m ≤ n := by omega
          have hj0 : (0 : Int) ≤ 8 + m := by omega
          have hj1 : (8 : Int) ≤ 8 + m := by omega
          have hj2 : ((8 : Int) + m).toNat = 8 + m := by omega
          have hm0 : (0 : Int) ≤ m := by omega
          have HL : Hid (s.data.toList.length - 8 = n - 8) := Lib.hid (by rw [hl])
          obtain ⟨k, hk⟩ : ∃ k, num4 (s.data.toList.drop 4) = k := ⟨_, rfl⟩
          obtain ⟨j, hjj⟩ : ∃ j, crc (s.data.toList.take 4 ++ (s.data.toList.drop 8).take m) = j := ⟨_, rfl⟩
          have hEE : opE s.data.toList = if k ≠ j then 6 else 0 := by
            rw [opE, if_neg (by omega), if_neg hno, if_neg (by rw [hl, hN, hm]; exact hsh), hN, hm, hk, hjj]
          have hSS : opE s.data.toList = 0 → OpenR s.data.toList = .tuple #[.string (stx ((s.data.toList.drop 8).take m)), .int .i64 (8 + (m : Int)), .int .i64 0] := fun e => by
            rw [OpenR, opS, opN, if_pos e, if_pos e, e, hN, hm]
            rfl
          rw [hk] at H4
          rw [hjj] at H5
          by_cases hkj : k = j
          · subst hkj
            rw [if_neg (fun e => e rfl)] at hEE
            have HR := Lib.hid (hR.symm.trans (hSS hEE))
            have X1 := Lib.hid x1
            clear hR hEE hSS h8 hs ht hl hN hm hx hx2 hx94 hbig hno hsh y1 y2 y3 hk hjj
            generalize stx (s.data.toList.take 4) = A at *
            generalize stx (s.data.toList.drop 4) = B at *
            generalize stx ((s.data.toList.drop 8).take m) = C at *
            go_enter Tryz.func66, Tryz.ntmps66
            go_wp2_with fail
            refine (HN.out _).mono ?_
            rintro e w1 ⟨rfl, b1⟩
            go_wp2_with fail
            have TW := Lib.hid (HT.out.below b1)
            refine wp_region_past (by kernel_rfl) (by kernel_rfl) ?_
            repeat (go_big_quiet_step (first | (go_at_call 83; exact Past.call (H4.out _)) | (go_at_call 46; exact Past.call (H5.out _ (Past.tabs TW.out _)))))
            refine wpQuiet_nil ?_
            intro w2 hw2
            obtain ⟨⟨wn, hn⟩, rfl⟩ := hw2
            try dsimp only
            have b3 := below_past b1 hn b1.size
            clear b1 hn TW
            go_wp2_with fail
            refine (H6.out _).mono ?_
            rintro e w3 ⟨rfl, b4⟩
            have b5 := below_past b3 b4 b3.size
            clear b3 b4
            go_wp2_with fail
            go_ret3
            exact ⟨by rw [HR.out]; rfl, b5⟩
          · rw [if_pos hkj] at hEE
            have HR := Lib.hid (hR.symm.trans (OpenR_err _ 6 hEE (by decide)))
            have hkj' : ((k : Int) != j) = true := by simp; omega
            clear hR hEE hSS h8 hs ht hl hN hm hx hx2 hx94 hbig hno hsh y1 y2 y3 hk hjj
            generalize stx (s.data.toList.take 4) = A at *
            generalize stx (s.data.toList.drop 4) = B at *
            generalize stx ((s.data.toList.drop 8).take m) = C at *
            go_enter Tryz.func66, Tryz.ntmps66
            go_wp2_with fail
            refine (HN.out _).mono ?_
            rintro e w1 ⟨rfl, b1⟩
            go_wp2_with fail
            have TW := Lib.hid (HT.out.below b1)
            refine wp_region_past (by kernel_rfl) (by kernel_rfl) ?_
            repeat (go_big_quiet_step (first | (go_at_call 83; exact Past.call (H4.out _)) | (go_at_call 46; exact Past.call (H5.out _ (Past.tabs TW.out _)))))
            refine wpQuiet_nil ?_
            intro w2 hw2
            obtain ⟨⟨wn, hn⟩, rfl⟩ := hw2
            try dsimp only
            have b3 := below_past b1 hn b1.size
            clear b1 hn TW
            go_wp2_with fail
            go_ret3
            exact ⟨by rw [HR.out]; rfl, b3⟩
    · have hx' : ((x.toNat : Int) != 94) = true := by simp; omega
      have hE : opE s.data.toList = 4 := by rw [opE, if_neg (by omega), if_pos (.inl (by rw [hx2]; exact hx94))]
      have HR := Lib.hid (hR.symm.trans (OpenR_err _ 4 hE (by decide)))
      clear hR hE h8 hs ht hl hN hm hx hx2 hx94
      go_enter Tryz.func66, Tryz.ntmps66
      go_wp2_with fail
      refine (HN.out _).mono ?_
      rintro e w1 ⟨rfl, b1⟩
      go_wp2_with fail
      go_ret3
      exact ⟨by rw [HR.out]; rfl, b1⟩
end Go.Proofs.YtlhdnkfnhdkbkaaGreatDoor
namespace Go.Proofs.YtlhdnkfnhdkbkaaGreatDoor
open Go Go.RowKit

/-- All frames' texts, and where they end. -/
def allR (l : List UInt8) : List (List UInt8) × Nat := allF (l.length + 1) l 0
def AllRet (w : World) (l : List UInt8) (e : Ending) (w' : World) : Prop :=
  ∃ v, e = .returned (.tuple #[v, .int .i64 (allR l).2]) ∧ OwnStrs w' w.heap.size v (allR l).1 ∧ Below w.heap.size w w'

set_option maxRecDepth 100000 in
set_option maxHeartbeats 1000000 in
theorem All_any (s : ByteArray) (w : World) (hs : s.size ≤ 1000000) (ht : Tabs w) :
    Calls Tryz.prog 44 #[.string s] w (AllRet w s.data.toList) := by
  obtain ⟨n, hn⟩ : ∃ n, s.size = n := ⟨_, rfl⟩
  obtain ⟨l, hl⟩ : ∃ l, s.data.toList = l := ⟨_, rfl⟩
  have hln : l.length = n := by rw [← hl]; exact hn
  have hlim : n ≤ 1000000 := by omega
  have hlim' : (n : Int) ≤ 1000000 := by omega
  have HT := Lib.hid ht
  have HLN := Lib.hid hln
  have HL := Lib.hid hl
  rw [hl]
  obtain ⟨i0, hi, hz0, hz1, hz2⟩ := info_str
  have o0 : OwnStrs w w.heap.size (.slice none 0 0) [] := World.ownsRow_nil _ _ _ _
  clear hs ht hl hln
  go_enter Tryz.func44, Tryz.ntmps44
  go_wp2_with fail
  go_loopw [4, 5] (fun v x wr => ∃ (at0 : Nat) (ts : List (List UInt8)) (f : Nat), at0 ≤ n ∧ 8 * ts.length ≤ at0 ∧ x = .int .i64 at0 ∧ Hid (n + 1 ≤ f + at0 ∧ allR l = (ts ++ (allF f l at0).1, (allF f l at0).2)) ∧ OwnStrs wr w.heap.size v ts ∧ Below w.heap.size w wr) (fun _ x _ => (n - intOf x).toNat)
  case atStart => exact ⟨0, [], n + 1, Nat.zero_le _, Nat.le_refl _, rfl, Lib.hid ⟨Nat.le_refl _, by rw [allR, HLN.out]; rfl⟩, o0, Below.refl _ _⟩
  case round =>
    obtain ⟨at0, ts, f, h1, h2, rfl, HF, ow, b0⟩ := hrel
    have ha0 : (0 : Int) ≤ at0 := by omega
    have ha1 : (at0 : Int) ≤ n := by omega
    obtain ⟨d, hd⟩ : ∃ d, l.drop at0 = d := ⟨_, rfl⟩
    have hdl : d.length = n - at0 := by rw [← hd, List.length_drop, HLN.out]
    have x1 : s.extract at0 n = stx d := by
      have := stx_extract s.data.toList at0 n
      rw [HL.out, List.take_of_length_le (Nat.le_of_eq HLN.out), hd] at this
      rw [show s = stx l by rw [← HL.out]]
      exact this
    have HO : Hid (Calls Tryz.prog 66 #[.string (stx d)] wr fun e w' => e = .returned (OpenR d) ∧ Below wr.heap.size wr w') := Lib.hid (sOpen_any (stx d) wr (by rw [stx_size, hdl]; omega) (HT.out.below b0))
    have hle := opN_le d
    rw [hdl] at hle
    obtain ⟨E, hE⟩ : ∃ E, opE d = E := ⟨_, rfl⟩
    obtain ⟨N, hN⟩ : ∃ N, opN d = N := ⟨_, rfl⟩
    obtain ⟨S, hS⟩ : ∃ S, opS d = S := ⟨_, rfl⟩
    have hO : OpenR d = .tuple #[.string (stx S), .int .i64 N, .int .i64 E] := by rw [OpenR, hE, hN, hS]
    rw [hO] at HO
    obtain ⟨f2, hf2⟩ : ∃ f2, f = f2 + 1 := ⟨f - 1, by have := HF.out.1; omega⟩
    subst hf2
    have hall : allF (f2 + 1) l at0 = if E = 0 then (S :: (allF f2 l (at0 + N)).1, (allF f2 l (at0 + N)).2) else ([], at0) := by
      rw [allF, hd, hE, hN, hS]
    rw [hE, hN] at hle
    by_cases h0 : E = 0
    · have hq : (E != 0) = false := by simpa using h0
      rw [if_pos h0] at hall
      obtain ⟨hle1, hle2, _⟩ := hle
      have hle3 := hle2 h0
      have hNn : (at0 : Int) + N ≤ n := by omega
      have hlt2 : at0 + N ≤ n := by omega
      have HF2 : Hid (n + 1 ≤ f2 + (at0 + N) ∧ allR l = ((ts ++ [S]) ++ (allF f2 l (at0 + N)).1, (allF f2 l (at0 + N)).2)) := Lib.hid ⟨by have := HF.out.1; omega, by rw [HF.out.2, hall]; simp⟩
      subst h0
      clear hall hO hE hN hS hd hle2 HF
      go_wp2_with fail
      refine HO.out.mono ?_
      rintro e w3 ⟨rfl, b1⟩
      have ow3 := ow.below b1
      have b3 := below_past b0 b1 b0.size
      have b4 : Below w3.heap.size w3 (w3.alloc (.cells #[.string (stx S)] 9)) := (Below.refl _ _).alloc (Nat.le_refl _) _
      have ow4 : (w3.alloc (.cells #[.string (stx S)] 9)).ownsRow w.heap.size 9 1 u4 ts.length (strCells ts) := ow3.below b4
      have b5 := below_past b3 b4 b3.size
      clear ow ow3 b1 b0 HO
      go_wp2_with (at_builtin; refine wpList_append_own _ rfl _ _ 27 rfl w.heap.size 9 i0 (.string ⟨#[]⟩) 1 16 Tryz.underlying27 hi hz0 hz1 hz2 rfl (by decide) _ _ _ rfl ow4 ⟨w3.heap.size, 0, none⟩ 1 1 [.string (stx S)] rfl rfl ?c1 ?c2 ?c3 ?c4 ?c5 ?_)
      case c1 =>
        intro j u hu
        have hj : j = 0 := by
          have := (List.getElem?_eq_some_iff.1 hu).1
          simpa using this
        subst hj
        have hu2 : Value.string (stx S) = u := by simpa using hu
        rw [← hu2, show (⟨w3.heap.size, 0, none⟩ : Addr).add 0 = ⟨w3.heap.size, 0, none⟩ by simp [Addr.add]]
        exact cell_of_rowAt (rowAt_alloc_at w3 #[.string (stx S)] 9 _ rfl) 0
      case c2 =>
        intro u hu
        have hu2 : u = Value.string (stx S) := by simpa using hu
        rw [hu2]
        rfl
      case c3 => unfold maxLen; omega
      case c4 => omega
      case c5 => exact b5.size
      intro v' w' hown hgrow hnil
      have b6 := b5.grown hgrow b5.size (fun k hk => (ow4.lt k hk).1)
      have hown2 : OwnStrs w' w.heap.size v' (ts ++ [S]) := by
        show w'.ownsRow w.heap.size 9 1 v' (ts ++ [S]).length (strCells (ts ++ [S]))
        rw [List.length_append, ← strCells_put]
        exact hown
      clear hown hgrow hnil b5 b4 b3 ow4
      go_wp2_with fail
      exact ⟨⟨at0 + N, ts ++ [S], f2, hlt2, by rw [List.length_append, List.length_singleton]; omega, by go_num, HF2, hown2, b6⟩, by simp [intOf]; omega⟩
    · have hq : (E != 0) = true := by simpa using h0
      rw [if_neg h0] at hall
      have HF2 : Hid (allR l = (ts, at0)) := Lib.hid (by rw [HF.out.2, hall]; simp)
      clear hall hO hE hN hS hd hle HF h0
      go_wp2_with fail
      refine HO.out.mono ?_
      rintro e w3 ⟨rfl, b1⟩
      have ow3 := Lib.hid (ow.below b1)
      have b3 := below_past b0 b1 b0.size
      clear ow b1 b0 HO
      go_wp2_with fail
      go_ret2
      exact ⟨_, by rw [HF2.out]; rfl, by rw [HF2.out]; exact ow3.out, b3⟩
end Go.Proofs.YtlhdnkfnhdkbkaaGreatDoor
namespace Go.Proofs.YtlhdnkfnhdkbkaaGreatDoor
open Go

/-- Frames of texts, one behind the other. -/
def cat : List (List UInt8) → List UInt8
  | [] => []
  | t :: ts => frame t ++ cat ts
/-- How many of them are whole among the first c bytes. -/
def whole : List (List UInt8) → Nat → Nat
  | [], _ => 0
  | t :: ts, c => if 8 + t.length ≤ c then whole ts (c - (8 + t.length)) + 1 else 0
/-- Where the first k end. -/
def endAt (ts : List (List UInt8)) (k : Nat) : Nat := (cat (ts.take k)).length
theorem cat_append (a b : List (List UInt8)) : cat (a ++ b) = cat a ++ cat b := by
  induction a with
  | nil => rfl
  | cons t a ih => rw [List.cons_append, cat, cat, ih, List.append_assoc]
theorem endAt_zero (ts : List (List UInt8)) : endAt ts 0 = 0 := rfl
theorem endAt_cons (t : List UInt8) (ts : List (List UInt8)) (k : Nat) : endAt (t :: ts) (k + 1) = 8 + t.length + endAt ts k := by
  rw [endAt, List.take_succ_cons, cat, List.length_append, frame_length]
  rfl
theorem whole_le (ts : List (List UInt8)) (c : Nat) : whole ts c ≤ ts.length := by
  induction ts generalizing c with
  | nil => exact Nat.le_refl _
  | cons t ts ih =>
    rw [whole]
    split
    · have := ih (c - (8 + t.length))
      simp
      omega
    · exact Nat.zero_le _
theorem whole_small (ts : List (List UInt8)) (c : Nat) : whole ts c ≤ c := by
  induction ts generalizing c with
  | nil => exact Nat.zero_le _
  | cons t ts ih =>
    rw [whole]
    split
    · have := ih (c - (8 + t.length))
      omega
    · exact Nat.zero_le _
/-- The first k are whole just if k is at most that number. -/
theorem whole_iff (ts : List (List UInt8)) (c k : Nat) (hk : k ≤ ts.length) : endAt ts k ≤ c ↔ k ≤ whole ts c := by
  induction ts generalizing c k with
  | nil =>
    obtain rfl : k = 0 := by simpa using hk
    simp [endAt_zero]
  | cons t ts ih =>
    cases k with
    | zero => simp [endAt_zero]
    | succ k =>
      rw [endAt_cons, whole]
      have hk' : k ≤ ts.length := by simpa using hk
      split
      · rename_i h
        have := ih (c - (8 + t.length)) k hk'
        omega
      · omega
/-- Bytes that are cut off a frame are none. -/
theorem open_cut (t r : List UInt8) (c : Nat) (ht : t.length ≤ 65536) (hc : c < 8 + t.length) : opE ((frame t ++ r).take c) ≠ 0 := by
  have hl : ((frame t ++ r).take c).length = c := by rw [List.length_take, List.length_append, frame_length]; omega
  unfold opE
  split
  · decide
  · rename_i h8
    rw [hl] at h8
    have hn : num4 ((frame t ++ r).take c) = 1577058304 + t.length := by
      have h4 : ((frame t ++ r).take c) = be4 (1577058304 + t.length) ++ ((frame t ++ r).take c).drop 4 := by
        have : ((frame t ++ r).take c).take 4 = be4 (1577058304 + t.length) := by
          rw [List.take_take, Nat.min_eq_left (by omega)]
          rfl
        rw [← this, List.take_append_drop]
      rw [h4]
      exact num4_be4 _ (by omega) _
    split
    · decide
    · split
      · decide
      · rename_i k
        rw [hl, hn] at k
        omega
theorem opE_nil' : opE [] ≠ 0 := by decide
theorem all_cut (L : List UInt8) : ∀ (f : Nat) (ts : List (List UInt8)) (n c : Nat), (∀ t ∈ ts, t.length ≤ 65536) → whole ts c < f → L.drop n = (cat ts).take c → c ≤ (cat ts).length → allF f L n = (ts.take (whole ts c), n + endAt ts (whole ts c)) := by
  intro f
  induction f with
  | zero => intro ts n c _ h; omega
  | succ f ih =>
    intro ts n c hts hf hd hc
    cases ts with
    | nil =>
      have h0 : L.drop n = [] := by rw [hd]; exact List.take_nil
      rw [allF, h0, if_neg opE_nil']
      rfl
    | cons t ts =>
      have ht := hts t (by simp)
      by_cases h : 8 + t.length ≤ c
      · have hfl := frame_length t
        have e : L.drop n = frame t ++ (cat ts).take (c - (8 + t.length)) := by
          rw [hd, cat, List.take_append, List.take_of_length_le (by omega), hfl]
        obtain ⟨o1, o2, o3⟩ := open_frame t ((cat ts).take (c - (8 + t.length))) ht
        have hd2 : L.drop (n + (8 + t.length)) = (cat ts).take (c - (8 + t.length)) := by
          rw [← List.drop_drop, e, ← hfl, List.drop_left]
        have hc2 : c - (8 + t.length) ≤ (cat ts).length := by
          rw [cat, List.length_append] at hc
          omega
        have := ih ts (n + (8 + t.length)) (c - (8 + t.length)) (fun u hu => hts u (by simp [hu])) (by rw [whole, if_pos h] at hf; omega) hd2 hc2
        rw [allF, e, o1, if_pos rfl, o2, o3, this, whole, if_pos h, endAt_cons]
        simp
        omega
      · have ho : opE (L.drop n) ≠ 0 := by
          rw [hd, cat]
          exact open_cut t (cat ts) c ht (by omega)
        rw [allF, if_neg ho, whole, if_neg h]
        rfl
theorem all_of_cut (ts : List (List UInt8)) (c : Nat) (hts : ∀ t ∈ ts, t.length ≤ 65536) (hc : c ≤ (cat ts).length) : allR ((cat ts).take c) = (ts.take (whole ts c), endAt ts (whole ts c)) := by
  have hw := whole_small ts c
  have hL : ((cat ts).take c).length = c := by rw [List.length_take]; omega
  have := all_cut ((cat ts).take c) (((cat ts).take c).length + 1) ts 0 c hts (by omega) rfl hc
  rw [allR, this, Nat.zero_add]
end Go.Proofs.YtlhdnkfnhdkbkaaGreatDoor
namespace Go.Proofs.YtlhdnkfnhdkbkaaGreatDoor
open Go Go.Maps

/-- A file: its name, its bytes, how many of them are sure. -/
structure DFile where
  name : List UInt8
  bytes : List UInt8
  sure : Nat
/-- A disk: its room, the deeds ahead of its death (below 0: none), is it dead, its files. -/
structure DDisk where
  room : Int
  fuse : Int
  dead : Bool
  files : List DFile

def dFind (l : List DFile) (n : List UInt8) : Option DFile := l.find? (fun f => decide (f.name = n))
def dDrop (l : List DFile) (n : List UInt8) : List DFile := l.filter (fun f => decide (f.name ≠ n))
def dPut (f : DFile) : List DFile → List DFile
  | [] => [f]
  | x :: r => if x.name < f.name then x :: dPut f r else f :: dDrop (x :: r) f.name
def dUsed (l : List DFile) : Nat := (l.map (·.bytes.length)).sum
def dSorted (l : List DFile) : Prop := l.Pairwise (fun a b => a.name < b.name)
def dNames (l : List DFile) : List (List UInt8) := l.map (·.name)
/-- How many bytes a file of this name has. -/
def dLen (l : List DFile) (n : List UInt8) : Nat := match dFind l n with | some f => f.bytes.length | none => 0

theorem nlt_irrefl (a : List UInt8) : ¬ a < a := List.lt_irrefl a
theorem nlt_ne {a b : List UInt8} (h : a < b) : a ≠ b := fun e => nlt_irrefl b (e ▸ h)
theorem nlt_trans {a b c : List UInt8} (h : a < b) (k : b < c) : a < c := List.lt_trans h k
theorem nlt_of {a b : List UInt8} (h : ¬ a < b) (hn : a ≠ b) : b < a := by
  have h1 : b ≤ a := List.not_lt.1 h
  rcases List.le_iff_lt_or_eq.1 h1 with h2 | h2
  · exact h2
  · exact absurd h2.symm hn

theorem dFind_some {l : List DFile} {n : List UInt8} {f : DFile} (h : dFind l n = some f) : f ∈ l ∧ f.name = n :=
  ⟨List.mem_of_find?_eq_some h, by simpa using List.find?_some h⟩
theorem dFind_none {l : List DFile} {n : List UInt8} : dFind l n = none ↔ ∀ f ∈ l, f.name ≠ n := by
  unfold dFind
  rw [List.find?_eq_none]
  simp
theorem dSorted.uniq {l : List DFile} (h : dSorted l) {f g : DFile} (hf : f ∈ l) (hg : g ∈ l) (e : f.name = g.name) : f = g := by
  induction l with
  | nil => cases hf
  | cons x r ih =>
    obtain ⟨h1, h2⟩ := List.pairwise_cons.1 h
    rcases List.mem_cons.1 hf with rfl | hf'
    · rcases List.mem_cons.1 hg with rfl | hg'
      · rfl
      · exact absurd e (nlt_ne (h1 g hg'))
    · rcases List.mem_cons.1 hg with rfl | hg'
      · exact absurd e.symm (nlt_ne (h1 f hf'))
      · exact ih h2 hf' hg'
theorem dFind_mem {l : List DFile} (h : dSorted l) {f : DFile} (hf : f ∈ l) : dFind l f.name = some f := by
  cases hq : dFind l f.name with
  | none => exact absurd rfl (dFind_none.1 hq f hf)
  | some g =>
    obtain ⟨h1, h2⟩ := dFind_some hq
    rw [h.uniq h1 hf h2]
theorem mem_dDrop {l : List DFile} {n : List UInt8} {x : DFile} : x ∈ dDrop l n ↔ x ∈ l ∧ x.name ≠ n := by simp [dDrop]
theorem mem_dPut {f x : DFile} : ∀ {l : List DFile}, x ∈ dPut f l ↔ x = f ∨ (x ∈ l ∧ x.name ≠ f.name)
  | [] => by simp [dPut]
  | y :: r => by
    unfold dPut
    split
    · rename_i h
      rw [List.mem_cons, mem_dPut, List.mem_cons]
      have := nlt_ne h
      constructor
      · rintro (rfl | rfl | ⟨h1, h2⟩)
        · exact .inr ⟨.inl rfl, this⟩
        · exact .inl rfl
        · exact .inr ⟨.inr h1, h2⟩
      · rintro (rfl | ⟨rfl | h1, h2⟩)
        · exact .inr (.inl rfl)
        · exact .inl rfl
        · exact .inr (.inr ⟨h1, h2⟩)
    · rw [List.mem_cons, mem_dDrop]
theorem dSorted.drop {l : List DFile} (h : dSorted l) (n : List UInt8) : dSorted (dDrop l n) := h.filter _
theorem dSorted.put {f : DFile} : ∀ {l : List DFile}, dSorted l → dSorted (dPut f l)
  | [], _ => by simp [dPut, dSorted]
  | y :: r, h => by
    obtain ⟨h1, h2⟩ := List.pairwise_cons.1 h
    unfold dPut
    split
    · rename_i hy
      refine List.pairwise_cons.2 ⟨fun x hx => ?_, dSorted.put h2⟩
      rcases mem_dPut.1 hx with rfl | ⟨hx, _⟩
      · exact hy
      · exact h1 x hx
    · rename_i hy
      refine List.pairwise_cons.2 ⟨fun x hx => ?_, h.drop _⟩
      obtain ⟨hx, hn⟩ := mem_dDrop.1 hx
      by_cases e : y.name = f.name
      · rcases List.mem_cons.1 hx with rfl | hx
        · exact absurd e hn
        · rw [← e]; exact h1 x hx
      · have hfy := nlt_of hy e
        rcases List.mem_cons.1 hx with rfl | hx
        · exact hfy
        · exact nlt_trans hfy (h1 x hx)
theorem dFind_put_same {f : DFile} {l : List DFile} (h : dSorted l) : dFind (dPut f l) f.name = some f := dFind_mem h.put (mem_dPut.2 (.inl rfl))
theorem find_eq {l m : List DFile} {n : List UInt8} (hm : dSorted m) (h : ∀ x : DFile, x.name = n → (x ∈ l ↔ x ∈ m)) : dFind l n = dFind m n := by
  cases hq : dFind l n with
  | none =>
    refine (dFind_none.2 fun f hf e => ?_).symm
    exact dFind_none.1 hq f ((h f e).2 hf) e
  | some f =>
    obtain ⟨h1, rfl⟩ := dFind_some hq
    exact (dFind_mem hm ((h f rfl).1 h1)).symm
theorem dFind_put_other {f : DFile} {l : List DFile} (h : dSorted l) {n : List UInt8} (hn : n ≠ f.name) : dFind (dPut f l) n = dFind l n :=
  find_eq h fun x e => by
    rw [mem_dPut]
    constructor
    · rintro (rfl | ⟨h1, _⟩)
      · exact absurd e.symm hn
      · exact h1
    · intro h1
      exact .inr ⟨h1, fun e2 => hn (e.symm.trans e2)⟩
theorem dFind_drop_same {l : List DFile} (n : List UInt8) : dFind (dDrop l n) n = none := dFind_none.2 fun _ hf => (mem_dDrop.1 hf).2
theorem dFind_drop_other {l : List DFile} (h : dSorted l) {n m : List UInt8} (hn : n ≠ m) : dFind (dDrop l m) n = dFind l n :=
  find_eq h fun x e => by
    rw [mem_dDrop]
    exact ⟨fun q => q.1, fun q => ⟨q, fun e2 => hn (e.symm.trans e2)⟩⟩
theorem dUsed_cons (x : DFile) (l : List DFile) : dUsed (x :: l) = x.bytes.length + dUsed l := by simp [dUsed]
theorem dLen_cons (x : DFile) (l : List DFile) (n : List UInt8) : dLen (x :: l) n = if x.name = n then x.bytes.length else dLen l n := by
  unfold dLen dFind
  rw [List.find?_cons]
  by_cases e : x.name = n
  · simp [e]
  · simp [e]
theorem dDrop_none {l : List DFile} {n : List UInt8} (h : ∀ f ∈ l, f.name ≠ n) : dDrop l n = l := by
  unfold dDrop
  rw [List.filter_eq_self]
  intro f hf
  simpa using h f hf
theorem dLen_none {l : List DFile} {n : List UInt8} (h : ∀ f ∈ l, f.name ≠ n) : dLen l n = 0 := by
  unfold dLen
  rw [dFind_none.2 h]
theorem dUsed_drop : ∀ {l : List DFile} (n : List UInt8), dSorted l → dUsed (dDrop l n) + dLen l n = dUsed l
  | [], n, _ => rfl
  | y :: r, n, h => by
    obtain ⟨h1, h2⟩ := List.pairwise_cons.1 h
    rw [dLen_cons, dUsed_cons]
    by_cases e : y.name = n
    · have hr : ∀ f ∈ r, f.name ≠ n := fun f hf q => nlt_ne (h1 f hf) (e.trans q.symm)
      rw [if_pos e]
      have : dDrop (y :: r) n = r := by
        unfold dDrop
        rw [List.filter_cons_of_neg (by simp [e])]
        exact dDrop_none hr
      rw [this]
      omega
    · rw [if_neg e]
      have : dDrop (y :: r) n = y :: dDrop r n := by
        unfold dDrop
        rw [List.filter_cons_of_pos (by simp [e])]
      rw [this, dUsed_cons]
      have := dUsed_drop n h2
      omega
theorem dUsed_put {f : DFile} : ∀ {l : List DFile}, dSorted l → dUsed (dPut f l) + dLen l f.name = dUsed l + f.bytes.length
  | [], _ => by simp [dPut, dUsed, dLen, dFind]
  | y :: r, h => by
    obtain ⟨h1, h2⟩ := List.pairwise_cons.1 h
    unfold dPut
    split
    · rename_i hy
      rw [dUsed_cons, dUsed_cons, dLen_cons, if_neg (nlt_ne hy)]
      have := dUsed_put (f := f) h2
      omega
    · rw [dUsed_cons]
      have := dUsed_drop f.name h
      omega
theorem length_drop : ∀ {l : List DFile} (n : List UInt8), dSorted l → (dDrop l n).length + (if (dFind l n).isSome then 1 else 0) = l.length
  | [], n, _ => rfl
  | y :: r, n, h => by
    obtain ⟨h1, h2⟩ := List.pairwise_cons.1 h
    by_cases e : y.name = n
    · have hr : ∀ f ∈ r, f.name ≠ n := fun f hf q => nlt_ne (h1 f hf) (e.trans q.symm)
      have : dDrop (y :: r) n = r := by
        unfold dDrop
        rw [List.filter_cons_of_neg (by simp [e])]
        exact dDrop_none hr
      rw [this]
      have hf : dFind (y :: r) n = some y := by unfold dFind; rw [List.find?_cons]; simp [e]
      rw [hf]
      rfl
    · have : dDrop (y :: r) n = y :: dDrop r n := by
        unfold dDrop
        rw [List.filter_cons_of_pos (by simp [e])]
      have hf : dFind (y :: r) n = dFind r n := by unfold dFind; rw [List.find?_cons]; simp [e]
      rw [this, hf, List.length_cons, List.length_cons]
      have := length_drop n h2
      omega
theorem length_put {f : DFile} : ∀ {l : List DFile}, dSorted l → (dPut f l).length = l.length + (if (dFind l f.name).isSome then 0 else 1)
  | [], _ => rfl
  | y :: r, h => by
    obtain ⟨h1, h2⟩ := List.pairwise_cons.1 h
    unfold dPut
    split
    · rename_i hy
      have hf : dFind (y :: r) f.name = dFind r f.name := by unfold dFind; rw [List.find?_cons]; simp [nlt_ne hy]
      rw [List.length_cons, List.length_cons, hf]
      have := length_put (f := f) h2
      omega
    · rw [List.length_cons]
      have h3 := length_drop f.name h
      cases hq : (dFind (y :: r) f.name).isSome with
      | true => rw [hq] at h3; simp only [if_true] at h3 ⊢; omega
      | false => rw [hq] at h3; simp only [Bool.false_eq_true, if_false] at h3 ⊢; omega

/-! ### the map of names to blocks -/
abbrev DW := DataW Unit
def dNil : DW := .lit (.int .i64 (-1))
def dPtr (g : Nat) : DW := .lit (.int .i64 g)
/-- How a pointer to a file reads. -/
def ptrElem (v : Value) : Option (DW × List MemPlace) :=
  match v with
  | .pointer none => some (dNil, [])
  | .pointer (some ⟨g, 0, none⟩) => some (dPtr g, [])
  | _ => none
theorem ptrElem_nil {v : Value} {ps : List MemPlace} (h : ptrElem v = some (dNil, ps)) : v = .pointer none := by
  unfold ptrElem at h
  split at h
  · rfl
  · rename_i g
    simp only [Option.some.injEq, Prod.mk.injEq, dPtr, dNil, DataW.lit.injEq, Lit.int.injEq, true_and] at h
    omega
  · cases h
theorem ptrElem_ptr {v : Value} {g : Nat} {ps : List MemPlace} (h : ptrElem v = some (dPtr g, ps)) : v = .pointer (some ⟨g, 0, none⟩) := by
  unfold ptrElem at h
  split at h
  · simp only [Option.some.injEq, Prod.mk.injEq, dPtr, dNil, DataW.lit.injEq, Lit.int.injEq, true_and] at h
    omega
  · rename_i g'
    simp only [Option.some.injEq, Prod.mk.injEq, dPtr, DataW.lit.injEq, Lit.int.injEq, true_and] at h
    rw [Int.ofNat_inj.1 h.1]
  · cases h
/-- The map leads each file's name to its block. -/
structure MapIs (D : DW) (G : List UInt8 → Nat) (l : List DFile) : Prop where
  tidy : Tidy D
  strs : ∀ es, D = .map es → ∀ p ∈ es, ∃ x, p.1 = Lit.string x
  at_ : ∀ n, D.atKey (.string n) dNil = match dFind l n with | some _ => dPtr (G n) | none => dNil
  has_ : ∀ n, has D (.string n) = (dFind l n).isSome
  size_ : size D = l.length
theorem mapIs_empty (G : List UInt8 → Nat) : MapIs (.map []) G [] := ⟨tidy_empty, fun es h p hp => (by cases h; cases hp), fun n => rfl, fun n => rfl, rfl⟩
theorem strs_put {es : List (Lit × DW)} (h : ∀ p ∈ es, ∃ x, p.1 = Lit.string x) (n : List UInt8) (d : DW) : ∀ es', (DataW.map es : DW).put (.string n) d = .map es' → ∀ p ∈ es', ∃ x, p.1 = Lit.string x := by
  intro es' he p hp
  have : es' = DataW.insert (.string n, d) (es.filter fun p => !p.1.sameKey (.string n)) := by
    have h2 : (DataW.map es : DW).put (.string n) d = .map (DataW.insert (.string n, d) (es.filter fun p => !p.1.sameKey (.string n))) := rfl
    rw [h2] at he
    cases he
    rfl
  rw [this] at hp
  have hp := (Go.WideShapes.insert_perm (Lit.string n, d) _).mem_iff.1 hp
  rcases List.mem_cons.1 hp with rfl | hp
  · exact ⟨n, rfl⟩
  · exact h p (List.mem_filter.1 hp).1
theorem strs_del {es : List (Lit × DW)} (h : ∀ p ∈ es, ∃ x, p.1 = Lit.string x) (k : Lit) : ∀ es', (DataW.map es : DW).del k = .map es' → ∀ p ∈ es', ∃ x, p.1 = Lit.string x := by
  intro es' he p hp
  have : es' = es.filter fun p => !p.1.sameKey k := by
    have h2 : (DataW.map es : DW).del k = .map (es.filter fun p => !p.1.sameKey k) := rfl
    rw [h2] at he
    cases he
    rfl
  rw [this] at hp
  exact h p (List.mem_filter.1 hp).1
theorem MapIs.put {D : DW} {G G' : List UInt8 → Nat} {l : List DFile} (h : MapIs D G l) (hs : dSorted l) (f : DFile) (g : Nat) (hg : G' f.name = g) (hG : ∀ n, n ≠ f.name → G' n = G n) : MapIs (D.put (.string f.name) (dPtr g)) G' (dPut f l) := by
  have hne : ∀ n, n ≠ f.name → Lit.string n ≠ Lit.string f.name := fun n hn e => hn (by simpa using e)
  refine ⟨h.tidy.put (show WideAt.IsKeyLit (.string _) from trivial) _, ?_, fun n => ?_, fun n => ?_, ?_⟩
  · obtain ⟨es, rfl⟩ := h.tidy.isMap
    exact strs_put (h.strs es rfl) _ _
  · by_cases e : n = f.name
    · subst e
      rw [atKey_put_same h.tidy.isMap (show WideAt.IsKeyLit (.string _) from trivial), dFind_put_same hs]
      simp only
      rw [hg]
    · rw [atKey_put_other (hne n e), h.at_ n, dFind_put_other hs e]
      cases dFind l n with
      | none => rfl
      | some x => simp only; rw [hG n e]
  · by_cases e : n = f.name
    · subst e
      rw [has_put_same h.tidy.isMap (show WideAt.IsKeyLit (.string _) from trivial), dFind_put_same hs]
      rfl
    · rw [has_put_other (hne n e), h.has_ n, dFind_put_other hs e]
  · rw [size_put h.tidy, h.has_, h.size_, length_put hs]
    split <;> simp_all
theorem MapIs.del {D : DW} {G : List UInt8 → Nat} {l : List DFile} (h : MapIs D G l) (hs : dSorted l) (m : List UInt8) : MapIs (D.del (.string m)) G (dDrop l m) := by
  have hne : ∀ n, n ≠ m → Lit.string n ≠ Lit.string m := fun n hn e => hn (by simpa using e)
  refine ⟨h.tidy.del _, ?_, fun n => ?_, fun n => ?_, ?_⟩
  · obtain ⟨es, rfl⟩ := h.tidy.isMap
    exact strs_del (h.strs es rfl) _
  · by_cases e : n = m
    · subst e
      rw [atKey_del_same, dFind_drop_same]
    · rw [atKey_del_other (hne n e), h.at_ n, dFind_drop_other hs e]
  · by_cases e : n = m
    · subst e
      rw [has_del_same, dFind_drop_same]
      rfl
    · rw [has_del_other (hne n e), h.has_ n, dFind_drop_other hs e]
  · have h1 := size_del h.tidy (k := .string m)
    have h2 := length_drop m hs
    rw [h.has_, h.size_] at h1
    omega
theorem MapIs.congr {D : DW} {G G' : List UInt8 → Nat} {l m : List DFile} (h : MapIs D G l) (hf : ∀ n, (dFind m n).isSome = (dFind l n).isSome) (hl : m.length = l.length) (hG : ∀ n, (dFind l n).isSome = true → G' n = G n) : MapIs D G' m := by
  refine ⟨h.tidy, h.strs, fun n => ?_, fun n => by rw [h.has_, hf], by rw [h.size_, hl]⟩
  rw [h.at_ n]
  have := hf n
  cases h1 : dFind l n with
  | none =>
    rw [h1] at this
    cases h2 : dFind m n with
    | none => rfl
    | some x => rw [h2] at this; cases this
  | some y =>
    rw [h1] at this
    cases h2 : dFind m n with
    | none => rw [h2] at this; cases this
    | some x => simp only; rw [hG n (by rw [h1]; rfl)]
theorem dNames_sorted {l : List DFile} (h : dSorted l) : (dNames l).Pairwise (fun a b => a < b) := List.pairwise_map.2 h
theorem dNames_sort {l : List DFile} (h : dSorted l) : (dNames l).mergeSort leB = dNames l := by
  refine List.mergeSort_of_pairwise ?_
  refine (dNames_sorted h).imp fun {a b} hab => ?_
  simp only [leB, decide_eq_true_eq]
  exact Std.le_of_lt hab
/-- The sorted keys of the map are the files' names. -/
theorem MapIs.keys {D : DW} {G : List UInt8 → Nat} {l : List DFile} (h : MapIs D G l) (hs : dSorted l) {ss : List (List UInt8)} (hp : ss.Perm (strKeys D)) : ss.mergeSort leB = dNames l := by
  obtain ⟨es, rfl, hpw⟩ := h.tidy
  have h2 : (dNames l).Perm (strKeys (.map es : DW)) := by
    refine perm_strKeys hpw (h.strs es rfl) ?_ fun x => ?_
    · exact (dNames_sorted hs).imp fun hab => nlt_ne hab
    · rw [h.has_]
      constructor
      · intro hx
        obtain ⟨f, hf, rfl⟩ := List.mem_map.1 hx
        rw [dFind_mem hs hf]
        rfl
      · intro hx
        obtain ⟨f, hf⟩ := Option.isSome_iff_exists.1 hx
        obtain ⟨h1, rfl⟩ := dFind_some hf
        exact List.mem_map.2 ⟨f, h1, rfl⟩
  rw [mergeSort_of_perm (hp.trans h2.symm)]
  exact dNames_sort hs
end Go.Proofs.YtlhdnkfnhdkbkaaGreatDoor
namespace Go.Proofs.YtlhdnkfnhdkbkaaGreatDoor
open Go Go.RowKit Go.Maps

theorem dHeap_put {w : World} {b j : Nat} {cs : Array Value} {T : TypeId} {fr : Nat × Nat} (h : w.heap[b]? = some (.cells cs T fr)) (x : Value) : (w.setCell ⟨b, j, none⟩ x).heap[b]? = some (.cells (cs.setIfInBounds j x) T fr) := by
  simp [World.setCell, Array.getElem?_modify, h]
theorem dHeap_lt {w : World} {b : Nat} {o : Obj} (h : w.heap[b]? = some o) : b < w.heap.size := (Array.getElem?_eq_some_iff.1 h).1
theorem setCell_grown (w : World) (b j : Nat) (x : Value) : w.grownBy (w.setCell ⟨b, j, none⟩ x) (some b) :=
  ⟨rfl, rfl, rfl, by simp [World.setCell], fun k _ hk => Below.heap_setCell _ _ _ _ (fun e => hk (by simp [e]))⟩
theorem below_grown {w w' : World} (k : Below w.heap.size w w') : w.grownBy w' none := ⟨k.os, k.tape, k.output, k.size, fun j hj _ => k.block j hj⟩

/-- Block k is none of those that a disk is made of. -/
def Plain (w : World) (k : Nat) : Prop :=
  (∀ cs fr, w.heap[k]? ≠ some (.cells cs 5 fr)) ∧ (∀ cs fr, w.heap[k]? ≠ some (.cells cs 60 fr)) ∧ (∀ cs fr, w.heap[k]? ≠ some (.cells cs 71 fr)) ∧ (∀ es c, w.heap[k]? ≠ some (.map es c))
/-- Below block B the world is as it was, and so are all blocks that are none of a disk's. -/
structure Stir (B : Nat) (w w' : World) : Prop where
  os : w'.os = w.os
  tape : w'.tape = w.tape
  output : w'.output = w.output
  size : w.heap.size ≤ w'.heap.size
  block : ∀ k, k < B → w'.heap[k]? = w.heap[k]?
  far : ∀ k, k < w.heap.size → Plain w k → w'.heap[k]? = w.heap[k]?
theorem Stir.refl (B : Nat) (w : World) : Stir B w w := ⟨rfl, rfl, rfl, Nat.le_refl _, fun _ _ => rfl, fun _ _ _ => rfl⟩
theorem Plain.of {w w' : World} {k : Nat} (h : Plain w k) (e : w'.heap[k]? = w.heap[k]?) : Plain w' k := by
  unfold Plain
  rw [e]
  exact h
theorem Stir.trans {B : Nat} {a w w' : World} (h : Stir B a w) (k : Stir B w w') : Stir B a w' :=
  ⟨k.os.trans h.os, k.tape.trans h.tape, k.output.trans h.output, Nat.le_trans h.size k.size, fun i hi => (k.block i hi).trans (h.block i hi), fun i hi hp =>
    (k.far i (Nat.lt_of_lt_of_le hi h.size) (hp.of (h.far i hi hp))).trans (h.far i hi hp)⟩
theorem Stir.mono {B C : Nat} {w w' : World} (h : Stir B w w') (hC : C ≤ B) : Stir C w w' := ⟨h.os, h.tape, h.output, h.size, fun k hk => h.block k (Nat.lt_of_lt_of_le hk hC), h.far⟩
theorem _root_.Go.RowKit.Below.stir {B : Nat} {w w' : World} (h : Below w.heap.size w w') (hB : B ≤ w.heap.size) : Stir B w w' := ⟨h.os, h.tape, h.output, h.size, fun k hk => h.block k (Nat.lt_of_lt_of_le hk hB), fun k hk _ => h.block k hk⟩
theorem Stir.below {B : Nat} {w w' : World} (h : Stir B w w') : Below B w w' := ⟨h.os, h.tape, h.output, h.size, h.block⟩
theorem Stir.grown {B : Nat} {w w' : World} {row : Option Nat} (hg : w.grownBy w' row) (hr : ∀ k, row = some k → B ≤ k ∧ ¬ Plain w k) (hB : B ≤ w.heap.size) : Stir B w w' :=
  ⟨hg.os, hg.tape, hg.output, hg.size, fun k hk => hg.block k (by omega) (fun e => by have := (hr k e.symm).1; omega), fun k hk hp => hg.block k hk (fun e => (hr k e.symm).2 hp)⟩
theorem notPlain_u8 {w : World} {k : Nat} {cs fr} (h : w.heap[k]? = some (.cells cs 5 fr)) : ¬ Plain w k := fun p => p.1 _ _ h
theorem notPlain_disk {w : World} {k : Nat} {cs fr} (h : w.heap[k]? = some (.cells cs 60 fr)) : ¬ Plain w k := fun p => p.2.1 _ _ h
theorem notPlain_file {w : World} {k : Nat} {cs fr} (h : w.heap[k]? = some (.cells cs 71 fr)) : ¬ Plain w k := fun p => p.2.2.1 _ _ h
theorem notPlain_map {w : World} {k : Nat} {es c} (h : w.heap[k]? = some (.map es c)) : ¬ Plain w k := fun p => p.2.2.2 _ _ h
/-- A row of a type that is none of a disk's stays. -/
theorem Stir.row {B C e s n : Nat} {w w' : World} {v : Value} {xs : List Value} (h : Stir B w w') (ho : w.ownsRow C e s v n xs) (he : e ≠ 5 ∧ e ≠ 60 ∧ e ≠ 71) : w'.ownsRow C e s v n xs := by
  refine ⟨ho.1, ?_⟩
  rcases ho.2 with hn | ⟨g, cap, cur, rfl, hb, hg, rest⟩
  · exact .inl hn
  · refine .inr ⟨g, cap, cur, rfl, hb, ?_, rest⟩
    rw [h.far g (dHeap_lt hg) ⟨fun cs fr q => ?_, fun cs fr q => ?_, fun cs fr q => ?_, fun es c q => ?_⟩]
    · exact hg
    · rw [hg] at q; injection q with q; injection q with _ q2; exact he.1 q2
    · rw [hg] at q; injection q with q; injection q with _ q2; exact he.2.1 q2
    · rw [hg] at q; injection q with q; injection q with _ q2; exact he.2.2 q2
    · rw [hg] at q; injection q with q; cases q
theorem Stir.strs {B C : Nat} {w w' : World} {v : Value} {ts : List (List UInt8)} (h : Stir B w w') (ho : OwnStrs w C v ts) : OwnStrs w' C v ts := h.row ho (by decide)
/-- A block of a type that is none of a disk's stays. -/
theorem Stir.keep {B k : Nat} {w w' : World} {cs : Array Value} {T : TypeId} {fr : Nat × Nat} (h : Stir B w w') (hk : w.heap[k]? = some (.cells cs T fr)) (he : T ≠ 5 ∧ T ≠ 60 ∧ T ≠ 71) : w'.heap[k]? = some (.cells cs T fr) := by
  rw [h.far k (dHeap_lt hk) ⟨fun cs fr q => ?_, fun cs fr q => ?_, fun cs fr q => ?_, fun es c q => ?_⟩]
  · exact hk
  · rw [hk] at q; injection q with q; injection q with _ q2; exact he.1 q2
  · rw [hk] at q; injection q with q; injection q with _ q2; exact he.2.1 q2
  · rw [hk] at q; injection q with q; injection q with _ q2; exact he.2.2 q2
  · rw [hk] at q; injection q with q; cases q

/-- A file in block g, its bytes in the slice v. -/
structure FileAt (B g : Nat) (v : Value) (f : DFile) (w : World) : Prop where
  row : w.heap[g]? = some (.cells #[v, .int .i64 f.sure] 71 (0, 0))
  own : w.ownsRow B 5 1 v f.bytes.length (Lib.byteCells f.bytes)
  sure : f.sure ≤ f.bytes.length
  low : B ≤ g
theorem FileAt.kept {B g : Nat} {v : Value} {f : DFile} {w w' : World} {row : Option Nat} (h : FileAt B g v f w) (hg : w.grownBy w' row) (h1 : some g ≠ row) (h2 : v.ownBlock = none ∨ v.ownBlock ≠ row) : FileAt B g v f w' :=
  ⟨(hg.block g (dHeap_lt h.row) h1).trans h.row, h.own.kept hg h2, h.sure, h.low⟩
/-- Blocks of two types are two. -/
theorem blk_ne {w : World} {a b : Nat} {c d : Array Value} {t u : TypeId} {x y : Nat × Nat} (h : w.heap[a]? = some (.cells c t x)) (k : w.heap[b]? = some (.cells d u y)) (e : t ≠ u) : a ≠ b := by
  rintro rfl
  rw [h] at k
  injection k with k
  injection k with _ k2
  exact e k2
theorem blk_ne_map {w : World} {a b : Nat} {c : Array Value} {t : TypeId} {x : Nat × Nat} {es clock} (h : w.heap[a]? = some (.cells c t x)) (k : w.heap[b]? = some (.map es clock)) : a ≠ b := by
  rintro rfl
  rw [h] at k
  cases k
/-- The block of an own row has the row's type. -/
theorem own_blk {w : World} {B e s n k : Nat} {v : Value} {xs : List Value} (h : w.ownsRow B e s v n xs) (hk : v.ownBlock = some k) : ∃ cs, w.heap[k]? = some (.cells cs e (0, 0)) ∧ B ≤ k := by
  rcases h.2 with ⟨rfl, _⟩ | ⟨g, cap, cur, rfl, hb, hg, _⟩
  · cases hk
  · obtain rfl : g = k := by simpa [Value.ownBlock] using hk
    exact ⟨cur, hg, hb⟩
theorem own_ne {w : World} {B e s n k : Nat} {v : Value} {xs : List Value} {c : Array Value} {t : TypeId} {x : Nat × Nat} (h : w.ownsRow B e s v n xs) (k1 : w.heap[k]? = some (.cells c t x)) (hne : e ≠ t) : v.ownBlock ≠ some k := by
  intro e1
  obtain ⟨cs, h1, _⟩ := own_blk h e1
  exact blk_ne h1 k1 hne rfl

/-- The parts of a disk: its map in block m, its count, what the map reads as, its files' blocks and slices. -/
structure DiskIs (B b m : Nat) (left : Int) (D : DW) (G : List UInt8 → Nat) (V : List UInt8 → Value) (d : DDisk) (w : World) : Prop where
  row : w.heap[b]? = some (.cells #[.map (some m), .int .i64 d.room, .int .i64 (dUsed d.files), .int .i64 left, .bool d.dead] 60 (0, 0))
  fuse : d.dead = false → max left (-1) = d.fuse
  map : w.ownsMap Tryz.prog 9 ptrElem m d.files.length D
  is : MapIs D G d.files
  sorted : dSorted d.files
  file : ∀ f ∈ d.files, FileAt B (G f.name) (V f.name) f w
  apart : ∀ f ∈ d.files, ∀ f' ∈ d.files, f.name ≠ f'.name → G f.name ≠ G f'.name ∧ ∀ k, (V f.name).ownBlock = some k → (V f'.name).ownBlock ≠ some k
  low : B ≤ b ∧ B ≤ m
  room : 0 ≤ d.room ∧ d.room ≤ 9223372036854775807
  left_ : -9223372036854775808 ≤ left ∧ left ≤ 9223372036854775807
def DiskAt (B b : Nat) (d : DDisk) (w : World) : Prop := ∃ m left D G V, DiskIs B b m left D G V d w
theorem DiskIs.kept {B b m : Nat} {left : Int} {D : DW} {G : List UInt8 → Nat} {V : List UInt8 → Value} {d : DDisk} {w w' : World} (h : DiskIs B b m left D G V d w) (k : Below w.heap.size w w') : DiskIs B b m left D G V d w' :=
  ⟨(k.block b (dHeap_lt h.row)).trans h.row, h.fuse, h.map.kept (below_grown k) (by simp), h.is, h.sorted, fun f hf => (h.file f hf).kept (below_grown k) (by simp) (by cases (V f.name).ownBlock <;> simp), h.apart, h.low, h.room, h.left_⟩
theorem DiskAt.kept {B b : Nat} {d : DDisk} {w w' : World} (h : DiskAt B b d w) (k : Below w.heap.size w w') : DiskAt B b d w' := by
  obtain ⟨m, left, D, G, V, h⟩ := h
  exact ⟨m, left, D, G, V, h.kept k⟩
theorem DiskAt.low {B b : Nat} {d : DDisk} {w : World} (h : DiskAt B b d w) : B ≤ b ∧ b < w.heap.size := by
  obtain ⟨m, left, D, G, V, h⟩ := h
  exact ⟨h.low.1, dHeap_lt h.row⟩
theorem mapBlk {P : Program} {w : World} {k : TypeId} {R : Value → Option (DW × List MemPlace)} {b n : Nat} {D : DW} (h : w.ownsMap P k R b n D) : ∃ es c, w.heap[b]? = some (.map es c) := by
  obtain ⟨es, c, h1, _⟩ := h
  exact ⟨es, c, h1⟩
/-- The bound on a map's entries is how many there are. -/
theorem ownsMap_exact {P : Program} {w : World} {k : TypeId} {R : Value → Option (DW × List MemPlace)} {b n : Nat} {D : DW} (h : w.ownsMap P k R b n D) {m : Nat} (hm : size D = m) : w.ownsMap P k R b m D := by
  obtain ⟨es, clock, hb, F, hs, hD⟩ := h
  refine ⟨es, clock, hb, F, ?_, hD⟩
  rw [← hm, hD]
  simp [Maps.size, length_sorted]
theorem key_str (n : ByteArray) (h : n.size ≤ 9223372036854775807) : keyOf Tryz.prog 9 (.string n) = some (.string n.data.toList) := WideMaps.keyOf_string_mk Tryz.underlying9 (by unfold maxLen; omega)
theorem dLaw : Keyed Tryz.prog 9 := string_keyed Tryz.underlying9
theorem dZero (w : World) : (zeroValue 69).run Tryz.prog w = .ok (.pointer none) w := by kernel_rfl
/-- What a look-up gives. -/
def dPtrV (G : List UInt8 → Nat) (l : List DFile) (n : List UInt8) : Value := match dFind l n with | some _ => .pointer (some ⟨G n, 0, none⟩) | none => .pointer none
theorem look_file {w : World} {m n : Nat} {D : DW} {G : List UInt8 → Nat} {l : List DFile} (h : w.ownsMap Tryz.prog 9 ptrElem m n D) (hi : MapIs D G l) (s : ByteArray) (hs : s.size ≤ 9223372036854775807) :
    (Instr.lookup 58 (.map (some m)) (.string s) false).run Tryz.prog w = .ok (dPtrV G l s.data.toList) w := by
  obtain ⟨v, ps, hrun, hv⟩ := h.lookup dLaw Tryz.underlying58 (dZero w) (zd := dNil) (zp := []) rfl (key_str s hs)
  rw [hi.at_] at hv
  rw [hrun]
  unfold dPtrV
  cases hq : dFind l s.data.toList with
  | none => rw [hq] at hv; rw [ptrElem_nil hv]
  | some f => rw [hq] at hv; rw [ptrElem_ptr hv]
end Go.Proofs.YtlhdnkfnhdkbkaaGreatDoor
namespace Go.Proofs.YtlhdnkfnhdkbkaaGreatDoor
open Go Go.RowKit Go.Maps
attribute [local go_sem] Oper.semAt_some

def deedE (d : DDisk) : Int := if d.fuse = 0 then 10 else 0
def deedD (d : DDisk) : DDisk := if d.fuse = 0 then { d with dead := true } else if 0 < d.fuse then { d with fuse := d.fuse - 1 } else d
theorem deedD_files (d : DDisk) : (deedD d).files = d.files := by
  unfold deedD
  by_cases h : d.fuse = 0
  · rw [if_pos h]
  · rw [if_neg h]; split <;> rfl
theorem deedD_room (d : DDisk) : (deedD d).room = d.room := by
  unfold deedD
  by_cases h : d.fuse = 0
  · rw [if_pos h]
  · rw [if_neg h]; split <;> rfl
theorem deedD_dead {d : DDisk} (h : d.dead = false) : (deedD d).dead = decide (d.fuse = 0) := by
  unfold deedD
  split
  · rename_i e; simp [e]
  · rename_i e
    split <;> simp [e, h]

/-- One cell of the disk's own is another one. -/
theorem DiskIs.set {B b m : Nat} {left left' : Int} {D : DW} {G : List UInt8 → Nat} {V : List UInt8 → Value} {d d' : DDisk} {w : World} (h : DiskIs B b m left D G V d w) (j : Nat) (x : Value)
    (hc : (#[Value.map (some m), .int .i64 d.room, .int .i64 (dUsed d.files), .int .i64 left, .bool d.dead]).setIfInBounds j x = #[.map (some m), .int .i64 d'.room, .int .i64 (dUsed d'.files), .int .i64 left', .bool d'.dead])
    (hf : d'.files = d.files) (hr : d'.room = d.room) (hu : d'.dead = false → max left' (-1) = d'.fuse) (hl : -9223372036854775808 ≤ left' ∧ left' ≤ 9223372036854775807) : DiskIs B b m left' D G V d' (w.setCell ⟨b, j, none⟩ x) ∧ Stir B w (w.setCell ⟨b, j, none⟩ x) := by
  have hg := setCell_grown w b j x
  obtain ⟨es, c, hm⟩ := mapBlk h.map
  refine ⟨⟨?_, hu, ?_, ?_, ?_, ?_, ?_, h.low, ?_, hl⟩, Stir.grown hg (fun k e => ?_) (Nat.le_of_lt (Nat.lt_of_le_of_lt h.low.1 (dHeap_lt h.row)))⟩
  · rw [dHeap_put h.row x, hc]
  · rw [hf]
    exact h.map.kept hg (fun e => blk_ne_map h.row hm (by simpa using e.symm))
  · rw [hf]; exact h.is
  · rw [hf]; exact h.sorted
  · rw [hf]
    intro f hf'
    have hk := h.file f hf'
    exact hk.kept hg (fun e => blk_ne hk.row h.row (by decide) (by simpa using e)) (.inr (own_ne hk.own h.row (by decide)))
  · rw [hf]; exact h.apart
  · rw [hr]; exact h.room
  · obtain rfl : b = k := by simpa using e
    exact ⟨h.low.1, notPlain_disk h.row⟩

set_option maxRecDepth 100000 in
theorem ddeed_is (B b m : Nat) (left : Int) (D : DW) (G : List UInt8 → Nat) (V : List UInt8 → Value) (d : DDisk) (w : World) (h : DiskIs B b m left D G V d w) (hd : d.dead = false) :
    Calls Tryz.prog 49 #[.pointer (some ⟨b, 0, none⟩)] w fun e w' => e = .returned (.int .i64 (deedE d)) ∧ (∃ left', DiskIs B b m left' D G V (deedD d) w') ∧ Stir B w w' := by
  have c3 : w.cell? ⟨b, 3, none⟩ = some (.int .i64 left) := (Lib.cell_of_heap h.row 3).trans rfl
  have c4 : w.cell? ⟨b, 4, none⟩ = some (.bool d.dead) := (Lib.cell_of_heap h.row 4).trans rfl
  have f3 := Lib.frozen_of_heap h.row 3
  have f4 := Lib.frozen_of_heap h.row 4
  have hfu := h.fuse hd
  have hlo := h.left_
  by_cases h0 : left = 0
  · subst h0
    have hfz : d.fuse = 0 := by omega
    have hE : deedE d = 10 := if_pos hfz
    have hD : deedD d = { d with dead := true } := if_pos hfz
    have HS := Lib.hid (h.set (d' := deedD d) (left' := 0) 4 (.bool true) (by rw [hD]; rfl) (by rw [hD]) (by rw [hD]) (by rw [hD]; intro q; cases q) hlo)
    rw [hE]
    clear h hfu hlo hE hD hfz
    go_enter Tryz.func49, Tryz.ntmps49
    go_wp2_with fail
    go_ret
    exact ⟨rfl, ⟨_, HS.out.1⟩, HS.out.2⟩
  · have q0 : (left == 0) = false := by simpa using h0
    by_cases h1 : 0 < left
    · have q1 : decide (0 < left) = true := decide_eq_true h1
      have hfz : ¬ d.fuse = 0 := by omega
      have hE : deedE d = 0 := if_neg hfz
      have hD : deedD d = { d with fuse := d.fuse - 1 } := by unfold deedD; rw [if_neg hfz, if_pos (by omega)]
      have HS := Lib.hid (h.set (d' := deedD d) (left' := left - 1) 3 (.int .i64 (left - 1)) (by rw [hD]; rfl) (by rw [hD]) (by rw [hD]) (by rw [hD]; intro _; show max (left - 1) (-1) = d.fuse - 1; omega) ⟨by omega, by omega⟩)
      have hb1 : -9223372036854775808 ≤ left - 1 := by omega
      have hb2 : left - 1 ≤ 9223372036854775807 := by omega
      rw [hE]
      clear h hfu hE hD hfz h0 
      go_enter Tryz.func49, Tryz.ntmps49
      go_wp2_with fail
      go_ret
      exact ⟨rfl, ⟨_, HS.out.1⟩, HS.out.2⟩
    · have q1 : decide (0 < left) = false := decide_eq_false h1
      have hfz : ¬ d.fuse = 0 := by omega
      have hE : deedE d = 0 := if_neg hfz
      have hD : deedD d = d := by unfold deedD; rw [if_neg hfz, if_neg (by omega)]
      have HS := Lib.hid h
      rw [hE, hD]
      clear h hfu hE hD hfz h0 hlo
      go_enter Tryz.func49, Tryz.ntmps49
      go_wp2_with fail
      go_ret
      exact ⟨rfl, ⟨_, HS.out⟩, Stir.refl _ _⟩

def findE (d : DDisk) (n : List UInt8) : Int := if d.dead then 10 else match dFind d.files n with | some _ => 0 | none => 7
def findV (G : List UInt8 → Nat) (d : DDisk) (n : List UInt8) : Value := if d.dead then .pointer none else dPtrV G d.files n
set_option maxRecDepth 100000 in
theorem dfind_is (B b m : Nat) (left : Int) (D : DW) (G : List UInt8 → Nat) (V : List UInt8 → Value) (d : DDisk) (n : ByteArray) (w : World) (h : DiskIs B b m left D G V d w) (hn : n.size ≤ 9223372036854775807) :
    Calls Tryz.prog 50 #[.pointer (some ⟨b, 0, none⟩), .string n] w fun e w' => e = .returned (.tuple #[findV G d n.data.toList, .int .i64 (findE d n.data.toList)]) ∧ w' = w := by
  have c0 : w.cell? ⟨b, 0, none⟩ = some (.map (some m)) := (Lib.cell_of_heap h.row 0).trans rfl
  have c4 : w.cell? ⟨b, 4, none⟩ = some (.bool d.dead) := (Lib.cell_of_heap h.row 4).trans rfl
  have hl := look_file h.map h.is n hn
  unfold findV findE
  cases hd : d.dead with
  | true =>
    rw [hd] at c4
    clear h hl
    go_enter Tryz.func50, Tryz.ntmps50
    go_wp2_with fail
    go_ret2
    exact ⟨rfl, rfl⟩
  | false =>
    rw [hd] at c4
    unfold dPtrV at *
    cases hq : dFind d.files n.data.toList with
    | none =>
      rw [hq] at hl
      simp only at hl
      clear h hq
      go_enter Tryz.func50, Tryz.ntmps50
      go_wp2_with fail
      go_ret2
      exact ⟨rfl, rfl⟩
    | some f =>
      rw [hq] at hl
      simp only at hl
      clear h hq
      generalize G n.data.toList = g at *
      go_enter Tryz.func50, Tryz.ntmps50
      go_wp2_with fail
      go_ret2
      exact ⟨rfl, rfl⟩

set_option maxRecDepth 100000 in
theorem dnamed_any (n : ByteArray) (w : World) (hn : n.size ≤ 9223372036854775807) :
    Calls Tryz.prog 47 #[.string n] w fun e w' => e = .returned (.bool (decide (0 < n.size ∧ n.size ≤ 100))) ∧ w' = w := by
  by_cases h0 : n.size = 0
  · have : n = ⟨#[]⟩ := by
      apply ByteArray.ext
      exact Array.eq_empty_of_size_eq_zero h0
    subst this
    go_enter Tryz.func47, Tryz.ntmps47
    go_wp2_with fail
    go_ret
    exact ⟨rfl, rfl⟩
  · have hne : (n.toList == (⟨#[]⟩ : ByteArray).toList) = false := str_ne (fun e => h0 (by rw [e]; rfl))
    have hne2 : (n.toList != (⟨#[]⟩ : ByteArray).toList) = true := by rw [bne, hne]; rfl
    have hne3 : n.toList.isEmpty = false := by
      rw [Bool.eq_false_iff]
      exact fun e => h0 ((toList_none n).1 e)
    by_cases h1 : n.size ≤ 100
    · have h1' : decide ((n.size : Int) ≤ 100) = true := decide_eq_true (by omega)
      have hR : decide (0 < n.size ∧ n.size ≤ 100) = true := decide_eq_true ⟨by omega, h1⟩
      rw [hR]
      clear hR h1
      go_enter Tryz.func47, Tryz.ntmps47
      go_wp2_with fail
      go_ret
      exact ⟨rfl, rfl⟩
    · have h1' : decide ((n.size : Int) ≤ 100) = false := decide_eq_false (by omega)
      have hR : decide (0 < n.size ∧ n.size ≤ 100) = false := decide_eq_false (by omega)
      rw [hR]
      clear hR h1
      go_enter Tryz.func47, Tryz.ntmps47
      go_wp2_with fail
      go_ret
      exact ⟨rfl, rfl⟩
end Go.Proofs.YtlhdnkfnhdkbkaaGreatDoor
namespace Go.Proofs.YtlhdnkfnhdkbkaaGreatDoor
open Go Go.RowKit Go.Lib
section
variable {P : Program} (w : World)
theorem run_app_at (base : Nat) (t u ty e : TypeId) (i : TypeInfo) (ht : P.underlying t = some (.slice e)) (hu : P.underlying u = some .string) (hi : P.info? e = some i) (hz : i.zero = some (.int .u8 0))
    (hsize : i.size = 1) (hby : i.bytes = 1) (v : Value) (n : Nat) (xs : List Value) (hown : w.ownsRow base e 1 v n xs) (s : ByteArray)
    (h63 : n + s.size ≤ maxLen) (hbytes : n + s.size ≤ 140737488355328) (hbase : base ≤ w.heap.size) :
    ∃ v' w', (Builtin.append_ #[t, u] ty #[v, .string s]).run P w = .ok v' w' ∧ w'.ownsRow base e 1 v' (n + s.size) (xs ++ Lib.strCells s) ∧ w.grownBy w' v.ownBlock ∧ (v'.ownBlock = v.ownBlock ∨ v'.ownBlock = some w.heap.size) := by
  obtain ⟨v', w', hr, h2, h3, h4⟩ := run_append_own_string (P := P) w base t u ty e i ht hu hi hz hsize hby v n xs hown s h63 hbytes hbase
  refine ⟨v', w', hr, h2, h3, ?_⟩
  have hxl : xs.length = n := by simpa using hown.1
  have hsmall : n + s.size ≤ 9223372036854775807 := by simp only [maxLen] at h63; omega
  rcases hown.2 with ⟨rfl, rfl⟩ | ⟨g, cap, cur, rfl, hbg, hg, hnc, hcm, hcs, htake⟩
  · by_cases hm : s.size = 0
    · left
      rw [h4.2 ⟨rfl, hm⟩]
    · right
      have hr2 := run_append_nil_string (P := P) w t u ty e i (.int .u8 0) ht hu hi hz s (by omega) (by omega) (by rw [hby]; omega)
      rw [hr] at hr2
      injection hr2 with e1 _
      rw [e1]
      rfl
  · by_cases hroom : n + s.size ≤ cap
    · left
      have hcs' : cur.size = cap := by simpa using hcs
      have hr2 := run_append_room_string (P := P) w t u ty e i ht hu hi hsize g n cap cur hg s hroom (by omega)
      rw [hr] at hr2
      injection hr2 with e1 _
      rw [e1]
      rfl
    · right
      have holds : ∀ j u, xs[j]? = some u → w.cell? ((⟨g, 0, none⟩ : Addr).add j) = some u := hown.cells (g := g) rfl
      have hr2 := run_append_grow_string (P := P) w t u ty e i (.int .u8 0) ht hu hi hz ⟨g, 0, none⟩ n cap xs (by rw [hsize]; simpa using hxl) holds s (by omega) (by omega) (by rw [hby]; exact growslice_fits (by omega) (by omega))
      rw [hr] at hr2
      injection hr2 with e1 _
      rw [e1]
      rfl
/-- At the operation, for the walk. -/
theorem wpList_app_at {ops : Array Oper} {rest : List Oper} {o : Oper} {a : Act} {Q : Exit → Act → World → Prop} (hgd : o.guard = none) (sl x : Operand) (t u : TypeId)
    (ho : o.op = .call { callee := .builtin .append, args := #[sl, x], argTypes := #[t, u] })
    (base : Nat) (e : TypeId) (i : TypeInfo) (ht : P.underlying t = some (.slice e)) (hu : P.underlying u = some .string) (hi : P.info? e = some i) (hz : i.zero = some (.int .u8 0))
    (hsize : i.size = 1) (hby : i.bytes = 1)
    (v : Value) (n : Nat) (xs : List Value) (hs : a.eval sl = v) (hown : w.ownsRow base e 1 v n xs) (s : ByteArray) (hx : a.eval x = .string s)
    (h63 : n + s.size ≤ maxLen) (hbytes : n + s.size ≤ 140737488355328) (hbase : base ≤ w.heap.size)
    (h : ∀ v' w', w'.ownsRow base e 1 v' (n + s.size) (xs ++ Lib.strCells s) → w.grownBy w' v.ownBlock → (v'.ownBlock = v.ownBlock ∨ v'.ownBlock = some w.heap.size) → wpList P ops Q rest (a.put o.dst v') w') : wpList P ops Q (o :: rest) a w := by
  refine wpList_plain hgd fun K hK => ?_
  obtain ⟨v', w', hr, h2, h3, h4⟩ := run_app_at (P := P) w base t u o.type e i ht hu hi hz hsize hby v n xs hown s h63 hbytes hbase
  unfold Oper.wp execOp
  simp only [ho, resolve, invoke, builtin, Sem.run_bind, Sem.run_pure, Result.andThen_ok, List.map_toArray, List.map_cons, List.map_nil, hs, hx, hr]
  exact hK _ _ (h v' w' h2 h3 h4)
end
end Go.Proofs.YtlhdnkfnhdkbkaaGreatDoor
