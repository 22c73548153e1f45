/- Texts that the next ones stand on: Kit, Copy, EntMath, Lab, LabRun, Math, Bits1, Quiet, Read, Builder, Code1, Code2, Code3, Code4, NumMath. -/
import Derived.WalkKit
import Derived.Deep.MidRow
import Derived.Stop.BytesEq
import Derived.Deep.Draws
import Derived.Below
import Derived.Test.YtgegipijappfhaaDoorRows
import Derived.WalkLawsBesides
import Derived.Lib.Builder
import Derived.Lib.OthersKept
import Derived.Shelf.Strings.Builder1
import Derived.WalkSpells
import Derived.Lib.BitFns
import Derived.Lib.Bytealg
import Derived.Laws.BitsAllLaws
import Derived.IntWalk
import Derived.Test.YtgegipijappfhaaDoorShelf
import Derived.Outline
import Derived.BigQuiet
import Derived.Deep.QuietTactic
import Derived.Deep.RegionHeld3
import Derived.Lib.Hide
import Derived.Lib.BytesEntry
import Derived.BigRegion
import Derived.Deep.DeepCutAuto
import Derived.Laws.CopyOwn
import Derived.Lib.IndexLaws
import Derived.Laws.IdiomStrings
import Derived.Laws.BytesArg
namespace Go.Proofs.YtgegipijappfhaaDoor
open Go Go.RowKit

/-- The cells of a block that may be written, if it is one. -/
def rowAt (w : World) (b : Nat) : Option (Array Value) :=
  match w.heap[b]? with
  | some (.cells c _ fr) => if fr = (0, 0) then some c else none
  | _ => none

theorem rowAt_of_heap {w : World} {b : Nat} {c : Array Value} {t : TypeId} (h : w.heap[b]? = some (.cells c t (0, 0))) : rowAt w b = some c := by
  simp [rowAt, h]
theorem heap_of_rowAt {w : World} {b : Nat} {c : Array Value} (h : rowAt w b = some c) : ∃ t, w.heap[b]? = some (.cells c t (0, 0)) := by
  unfold rowAt at h
  split at h
  · rename_i c' t fr he
    split at h
    · rename_i hf
      subst hf
      cases h
      exact ⟨t, he⟩
    · cases h
  · cases h
theorem lt_of_rowAt {w : World} {b : Nat} {c : Array Value} (h : rowAt w b = some c) : b < w.heap.size := by
  obtain ⟨t, ht⟩ := heap_of_rowAt h
  exact (Array.getElem?_eq_some_iff.1 ht).1

@[go_sem] theorem rowAt_alloc_at (w : World) (c : Array Value) (t : TypeId) (n : Nat) (hn : n = w.heap.size) : rowAt (w.alloc (.cells c t)) n = some c := by
  subst hn
  exact rowAt_of_heap (heap_alloc_new w _)
@[go_sem] theorem rowAt_alloc_past (w : World) (o : Obj) (n : Nat) (hn : n < w.heap.size) : rowAt (w.alloc o) n = rowAt w n := by
  unfold rowAt
  rw [Below.heap_alloc w o n hn]
@[go_sem] theorem rowAt_drew (w : World) (n : Nat) : rowAt w.drew n = rowAt w n := rfl
@[go_sem] theorem rowAt_drewN (w : World) (k n : Nat) : rowAt (w.drewN k) n = rowAt w n := rfl
theorem rowAt_below {B : Nat} {w w' : World} (h : Below B w w') {b : Nat} (hb : b < B) : rowAt w' b = rowAt w b := by
  unfold rowAt
  rw [h.block b hb]
theorem rowAt_setRow_same {w : World} {b : Nat} {c : Array Value} (h : rowAt w b = some c) (c' : Array Value) : rowAt (w.setRow b c') b = some c' := by
  obtain ⟨t, ht⟩ := heap_of_rowAt h
  exact rowAt_of_heap (setRow_heap w b c c' t (0, 0) ht)
theorem rowAt_setRow_other (w : World) (b n : Nat) (c' : Array Value) (h : n ≠ b) : rowAt (w.setRow b c') n = rowAt w n := by
  unfold rowAt
  rw [setRow_other w b n c' h]
theorem rowAt_setCell_same {w : World} {b : Nat} {c : Array Value} (h : rowAt w b = some c) (i : Nat) (v : Value) : rowAt (w.setCell ⟨b, i, none⟩ v) b = some (c.setIfInBounds i v) := by
  obtain ⟨t, ht⟩ := heap_of_rowAt h
  exact rowAt_of_heap (heap_setCell_same w b i c t v ht)
theorem rowAt_setCell_other (w : World) (a : Addr) (n : Nat) (v : Value) (h : n ≠ a.block) : rowAt (w.setCell a v) n = rowAt w n := by
  unfold rowAt
  rw [heap_setCell_other w a n v h]
theorem cell_of_rowAt {w : World} {b : Nat} {c : Array Value} (h : rowAt w b = some c) (i : Nat) : w.cell? ⟨b, i, none⟩ = c[i]? := by
  obtain ⟨t, ht⟩ := heap_of_rowAt h
  exact cell_of_row w b i c t _ ht
theorem frozen_of_rowAt {w : World} {b : Nat} {c : Array Value} (h : rowAt w b = some c) (i : Nat) : w.frozen? ⟨b, i, none⟩ = false := by
  obtain ⟨t, ht⟩ := heap_of_rowAt h
  exact frozen_of_row w b i c t ht

@[go_sem] theorem setRow_alloc_at (w : World) (c c' : Array Value) (t : TypeId) (n : Nat) (hn : n = w.heap.size) : (w.alloc (.cells c t)).setRow n c' = w.alloc (.cells c' t) := by
  subst hn
  simp only [World.setRow, World.alloc]
  congr 1
  apply Array.ext_getElem?
  intro i
  rw [Array.getElem?_modify]
  by_cases h : w.heap.size = i
  · subst h
    simp
  · have h' : ¬ i = w.heap.size := fun e => h e.symm
    simp [h, h', Array.getElem?_push]
@[go_sem] theorem setRow_alloc_past (w : World) (o : Obj) (n : Nat) (c' : Array Value) (hn : n < w.heap.size) : (w.alloc o).setRow n c' = (w.setRow n c').alloc o := by
  simp only [World.setRow, World.alloc]
  congr 1
  apply Array.ext_getElem?
  intro i
  rw [Array.getElem?_modify, Array.getElem?_push, Array.getElem?_push, Array.getElem?_modify, Array.size_modify]
  by_cases h : n = i
  · subst h
    simp [Nat.ne_of_lt hn]
  · simp [h]
@[go_sem] theorem setRow_drew (w : World) (n : Nat) (c : Array Value) : w.drew.setRow n c = (w.setRow n c).drew := rfl
theorem Below.setRow {B : Nat} {a w : World} (h : Below B a w) {b : Nat} (hb : B ≤ b) (c : Array Value) : Below B a (w.setRow b c) :=
  ⟨h.os, h.tape, h.output, by simpa using h.size, fun i hi => (setRow_other w b i c (by omega)).trans (h.block i hi)⟩

/-- The cells of a row, some of them anew. -/
def splice (c : Array Value) (o : Nat) (v : List Value) : Array Value := (c.toList.take o ++ v ++ c.toList.drop (o + v.length)).toArray

theorem splice_whole (c v : Array Value) (h : v.size = c.size) : splice c 0 v.toList = v := by
  simp [splice, List.drop_eq_nil_of_le, h]

theorem setRow_self {w : World} {b : Nat} {c : Array Value} {t : TypeId} (ht : w.heap[b]? = some (.cells c t (0, 0))) : w.setRow b c = w := by
  have e : (w.setRow b c).heap = w.heap := by
    unfold World.setRow
    apply Array.ext_getElem?
    intro i
    rw [Array.getElem?_modify]
    split
    · rename_i hi
      subst hi
      rw [ht]
      rfl
    · rfl
  exact congrArg (fun h => ({ w with heap := h } : World)) e

theorem setCells_eq_setRow (b : Nat) : ∀ (vs : List Value) (o : Nat) (w : World) (c : Array Value), rowAt w b = some c → o + vs.length ≤ c.size → w.setCells b o vs = w.setRow b (splice c o vs)
  | [], o, w, c, h, ho => by
    obtain ⟨t, ht⟩ := heap_of_rowAt h
    have e : splice c o [] = c := by simp [splice]
    rw [World.setCells, e]
    exact (setRow_self ht).symm
  | v :: vs, o, w, c, h, ho => by
    obtain ⟨t, ht⟩ := heap_of_rowAt h
    have ho' : o < c.size := by simp at ho; omega
    rw [World.setCells, setCells_eq_setRow b vs (o + 1) _ (c.setIfInBounds o v) (rowAt_setCell_same h o v) (by simp at ho ⊢; omega), setCell_eq_setRow w b o c t (0, 0) v ht, setRow_setRow]
    congr 1
    simp only [splice]
    congr 1
    apply List.ext_getElem?
    intro i
    have hl : o ≤ c.size := by omega
    simp only [Array.toList_setIfInBounds, List.length_cons]
    rw [List.getElem?_append, List.getElem?_append, List.getElem?_append, List.getElem?_append]
    simp only [List.length_append, List.length_take, List.length_set, Array.length_toList, List.length_cons, List.getElem?_take, List.getElem?_drop, List.getElem?_set]
    have m1 : min (o + 1) c.size = o + 1 := by omega
    have m2 : min o c.size = o := by omega
    rw [m1, m2]
    by_cases h1 : i < o
    · simp [h1, show i < o + 1 by omega, show i < o + 1 + vs.length by omega, show ¬ o = i by omega, show i < o + (vs.length + 1) by omega]
    · by_cases h2 : i = o
      · subst h2
        simp [show i < i + 1 + vs.length by omega, ho']
      · obtain ⟨k, rfl⟩ : ∃ k, i = o + 1 + k := ⟨i - (o + 1), by omega⟩
        have e1 : o + 1 + k - o = k + 1 := by omega
        by_cases h3 : k < vs.length
        · simp [h1, show ¬ o + 1 + k < o + 1 by omega, show o + 1 + k < o + 1 + vs.length by omega, show o + 1 + k < o + (vs.length + 1) by omega, e1]
        · rw [if_neg (by omega), if_neg (by omega)]
          have e2 : o + 1 + vs.length + (o + 1 + k - (o + 1 + vs.length)) = o + (vs.length + 1) + (o + 1 + k - (o + (vs.length + 1))) := by omega
          rw [e2, if_neg (by omega)]

/-- Loading a value of n cells from place o of block b; what stands behind it where the row is not known. -/
def rowLoad (w : World) (b o n : Nat) (els : Result Value) : Result Value :=
  match rowAt w b with
  | some c => if o + n ≤ c.size then .ok (.agg (c.extract o (o + n))) w else els
  | none => els
theorem rowLoad_of {w : World} {b o n : Nat} {els : Result Value} {c : Array Value} (h : rowAt w b = some c) (hn : o + n ≤ c.size) : rowLoad w b o n els = .ok (.agg (c.extract o (o + n))) w := by
  simp [rowLoad, h, hn]

variable {P : Program}

theorem run_loadVar_rowAt (w : World) (b o n : Nat) (ty : TypeId) (c : Array Value) (d : TypeDesc) (h : rowAt w b = some c) (hn : o + n ≤ c.size)
    (hu : P.underlying ty = some d) (hd : d.isRow = true) (hi : (P.info? ty).map (·.size) = some n) :
    (loadVar ty ⟨b, o, none⟩).run P w = .ok (.agg (c.extract o (o + n))) w := by
  obtain ⟨t, ht⟩ := heap_of_rowAt h
  have hl : (c.extract o (o + n)).toList.length = n := by simp; omega
  have := run_loadVar_mid (P := P) w b o ty (c.extract o (o + n)).toList d (World.rangeAt_of_block ht o n) hu hd (by rw [hl]; exact hi)
  rw [this, Array.toArray_toList]

/-- What a load comes to where the row is not known: a word of its own, so that a walk does not open it. -/
def elseLoad (P : Program) (ty : TypeId) (b o : Nat) (w : World) : Result Value := (loadVar ty ⟨b, o, none⟩).run P w
def elseStore (P : Program) (ty : TypeId) (b o : Nat) (v : Array Value) (w : World) : Result Unit := (storeVar ty ⟨b, o, none⟩ (.agg v)).run P w

theorem run_loadAt_rowAt (w : World) (b o n : Nat) (ty : TypeId) (d : TypeDesc) 
    (hu : P.underlying ty = some d) (hd : d.isRow = true) (hi : (P.info? ty).map (·.size) = some n) :
    (Instr.loadAt ty (.pointer (some ⟨b, o, none⟩))).run P w = rowLoad w b o n (elseLoad P ty b o w) := by
  simp only [Instr.loadAt, Instr.sureAddr, Sem.run_bind, Sem.run_pure, Result.andThen_ok]
  unfold rowLoad
  split
  · rename_i c hc
    split
    · rename_i hle
      exact run_loadVar_rowAt w b o n ty c d hc hle hu hd hi
    · rfl
  · rfl

/-- Is each of them the value of one cell? -/
def oneCells (v : Array Value) : Bool := v.all (·.oneCell')
/-- Storing a value of n cells. -/
def rowStore (w : World) (b o n : Nat) (v : Array Value) (els : Result Unit) : Result Unit :=
  match rowAt w b with
  | some c => if o + n ≤ c.size ∧ v.size = n ∧ oneCells v = true then .ok () (w.setRow b (splice c o v.toList)) else els
  | none => els

theorem run_storeAt_rowAt (w : World) (b o n : Nat) (ty : TypeId) (v : Array Value) (hi : (P.info? ty).map (·.size) = some n) :
    (Instr.storeAt ty (.pointer (some ⟨b, o, none⟩)) (.agg v)).run P w = rowStore w b o n v (elseStore P ty b o v w) := by
  simp only [Instr.storeAt, Instr.sureAddr, Sem.run_bind, Sem.run_pure, Result.andThen_ok]
  unfold rowStore
  split
  · rename_i c hc
    split
    · rename_i hle
      obtain ⟨hle, hv, h1⟩ := hle
      rw [run_storeVar_mid w b o ty v (fun j hj => ⟨by rw [cell_of_rowAt hc]; simp; omega, frozen_of_rowAt hc _⟩) (by rw [hv]; exact hi) h1, setCells_eq_setRow b v.toList o w c hc (by simp; omega)]
    · rfl
  · rfl

/-- A load, a store, a composite value, a zero value of one type: words of their own, so that a walk does not open them cell by cell. -/
def loadOf (ty : TypeId) (v : Value) : Sem Value := Instr.loadAt ty v
def storeOf (ty : TypeId) (v x : Value) : Sem Unit := Instr.storeAt ty v x
def buildOf (ty : TypeId) (parts : Array (Nat × Value)) : Sem Value := Instr.build ty parts
def copyOf (ats : Array TypeId) (ty : TypeId) (args : Array Value) : Sem Value := Builtin.copy_ ats ty args
def zeroOf (ty : TypeId) : Sem Value := zeroValue ty

theorem run_firstCells_row (w : World) (b o k n cap : Nat) (c : Array Value) (h : rowAt w b = some c) (hk : o + k ≤ c.size) :
    (Builtin.firstCells 1 k (.slice (some ⟨b, o, none⟩) n cap)).run P w = .ok (c.extract o (o + k)) w := by
  obtain ⟨t, ht⟩ := heap_of_rowAt h
  have hl : (c.extract o (o + k)).toList.length = k := by simp; omega
  have := run_loadCells_list (P := P) w ⟨b, o, none⟩ (c.extract o (o + k)).toList (fun j v hv => by rw [Addr.add_mid]; exact World.rangeAt_of_block ht o k j v hv)
  rw [hl, Array.toArray_toList] at this
  simpa [Builtin.firstCells] using this
/-- copy, from one row to another one (or within one). -/
theorem run_copy_rows (w : World) (T e ty : TypeId) (b1 o1 n1 c1 b2 o2 n2 c2 k : Nat) (C1 C2 : Array Value) (hu : P.underlying T = some (.slice e)) (hs : (P.info? e).map (·.size) = some 1)
    (h1 : rowAt w b1 = some C1) (h2 : rowAt w b2 = some C2) (hk : k = min n2 n1) (hl1 : o1 + k ≤ C1.size) (hl2 : o2 + k ≤ C2.size) (hone : oneCells C2 = true) :
    (Builtin.copy_ #[T, T] ty #[.slice (some ⟨b1, o1, none⟩) n1 c1, .slice (some ⟨b2, o2, none⟩) n2 c2]).run P w = .ok (goInt k) (w.setRow b1 (splice C1 o1 (C2.extract o2 (o2 + k)).toList)) := by
  have hsz : (sizeOf e).run P w = .ok 1 w := by
    cases hq : P.info? e with
    | none => simp [hq] at hs
    | some i => simp [sizeOf, typeInfo, hq] at hs ⊢; exact hs
  have hf := run_firstCells_row (P := P) w b2 o2 k n2 c2 C2 h2 hl2
  have hlen : (C2.extract o2 (o2 + k)).toList.length = k := by simp; omega
  have hst := run_storeCells_cells (P := P) b1 o1 (C2.extract o2 (o2 + k)).toList 0 w (fun j hj => by rw [cell_of_rowAt h1]; simp; omega) (fun j hj => frozen_of_rowAt h1 _)
    (fun v hv => (Array.all_eq_true_iff_forall_mem.1 hone) v (by
      rw [Array.mem_toList_iff] at hv
      rw [Array.mem_extract_iff_getElem] at hv
      obtain ⟨i, hi, rfl⟩ := hv
      exact Array.getElem_mem _))
  rw [Nat.add_zero, setCells_eq_setRow b1 _ o1 w C1 h1 (by rw [hlen]; exact hl1)] at hst
  have hn : n2.min n1 = k := hk.symm
  simp only [Builtin.copy_, Sem.run_bind, run_underlying hu, Result.andThen_ok, Builtin.lenOf, Sem.run_pure, hn, hsz, hf, hst, List.getElem?_toArray, List.getElem?_cons_zero, List.getElem?_cons_succ]

def elseCopy (P : Program) (T ty : TypeId) (x y : Value) (w : World) : Result Value := (Builtin.copy_ #[T, T] ty #[x, y]).run P w
def rowCopy (w : World) (b1 o1 n1 b2 o2 n2 : Nat) (els : Result Value) : Result Value :=
  match rowAt w b1, rowAt w b2 with
  | some C1, some C2 => if o1 + min n2 n1 ≤ C1.size ∧ o2 + min n2 n1 ≤ C2.size ∧ oneCells C2 = true then .ok (goInt (min n2 n1 : Nat)) (w.setRow b1 (splice C1 o1 (C2.extract o2 (o2 + min n2 n1)).toList)) else els
  | _, _ => els
theorem run_copy_word (w : World) (T e ty : TypeId) (b1 o1 n1 c1 b2 o2 n2 c2 : Nat) (hu : P.underlying T = some (.slice e)) (hs : (P.info? e).map (·.size) = some 1) :
    (Builtin.copy_ #[T, T] ty #[.slice (some ⟨b1, o1, none⟩) n1 c1, .slice (some ⟨b2, o2, none⟩) n2 c2]).run P w =
      rowCopy w b1 o1 n1 b2 o2 n2 (elseCopy P T ty (.slice (some ⟨b1, o1, none⟩) n1 c1) (.slice (some ⟨b2, o2, none⟩) n2 c2) w) := by
  unfold rowCopy
  split
  · rename_i C1 C2 h1 h2
    split
    · rename_i h
      exact run_copy_rows w T e ty b1 o1 n1 c1 b2 o2 n2 c2 _ C1 C2 hu hs h1 h2 rfl h.1 h.2.1 h.2.2
    · rfl
  · rfl

/-- A result that lies in a row. -/
theorem results_row {fn : Func} {p : Tmp} {ty : TypeId} (h : fn.results = #[.cell p ty]) (tmps : Array Value) (w : World) (b : Nat) (c : Array Value) (d : TypeDesc)
    (hp : tmps.getD p undef = .pointer (some ⟨b, 0, none⟩)) (hr : rowAt w b = some c) (hu : P.underlying ty = some d) (hd : (match d with | .struct _ | .array _ _ => true | _ => false) = true) (hi : (P.info? ty).map (·.size) = some c.size) :
    (results fn tmps).run P w = .ok (.agg c) w := by
  obtain ⟨t, ht⟩ := heap_of_rowAt hr
  exact results_cell_row h tmps w b t c _ d hp ht hu hd hi
theorem results_row_tmp {fn : Func} {p q : Tmp} {ty : TypeId} (h : fn.results = #[.cell p ty, .tmp q]) (tmps : Array Value) (w : World) (b : Nat) (c : Array Value) (d : TypeDesc)
    (hp : tmps.getD p undef = .pointer (some ⟨b, 0, none⟩)) (hr : rowAt w b = some c) (hu : P.underlying ty = some d) (hd : (match d with | .struct _ | .array _ _ => true | _ => false) = true) (hi : (P.info? ty).map (·.size) = some c.size) :
    (results fn tmps).run P w = .ok (.tuple #[.agg c, tmps.getD q undef]) w := by
  obtain ⟨t, ht⟩ := heap_of_rowAt hr
  have hp' : tmps[p]?.getD undef = .pointer (some ⟨b, 0, none⟩) := by simpa using hp
  simp [results, h, hp', asAddr, run_loadVar_row w b t ty c _ d ht hu hd hi]
end Go.Proofs.YtgegipijappfhaaDoor
namespace Go.Proofs.YtgegipijappfhaaDoor
open Go Go.RowKit

theorem size_builder : (Tryd.prog.info? 99).map (·.size) = some 2 := by kernel_rfl

set_option maxRecDepth 100000 in
theorem copyCheck_used (b : Nat) (w : World) (h0 : w.cell? ⟨b, 0, none⟩ = some (.pointer (some ⟨b, 0, none⟩))) :
    Calls Tryd.prog 84 #[.pointer (some ⟨b, 0, none⟩)] w fun e w' => e = .returned (.tuple #[]) ∧ w' = w := by
  obtain ⟨j, hj, _⟩ := Option.map_eq_some_iff.1 size_builder
  go_enter Tryd.func84, Tryd.ntmps84
  go_wp2_with fail
  rw [Lib.run_neq_ptr_same w _ Tryd.underlying97 hj]
  go_wp2_with fail
  go_end0
  exact ⟨rfl, rfl⟩

set_option maxRecDepth 100000 in
theorem copyCheck_fresh (b : Nat) (w : World) (h0 : w.cell? ⟨b, 0, none⟩ = some (.pointer none)) (hsh : w.shape? b = some (99, 2)) (hfz : w.frozen? ⟨b, 0, none⟩ = false) :
    Calls Tryd.prog 84 #[.pointer (some ⟨b, 0, none⟩)] w fun e w' => e = .returned (.tuple #[]) ∧ w' = w.setCell ⟨b, 0, none⟩ (.pointer (some ⟨b, 0, none⟩)) := by
  obtain ⟨j, hj, hjs⟩ := Option.map_eq_some_iff.1 size_builder
  go_enter Tryd.func84, Tryd.ntmps84
  go_wp2_with fail
  rw [Lib.run_to_unsafe w ⟨b, 0, none⟩ Tryd.underlying97 Tryd.underlying142 hj (by rw [hjs]; decide) hsh (Nat.zero_lt_succ 1)]
  simp only [Result.andThen]
  rw [Oper.upon_value]
  go_wp2_with fail
  rw [run_callFunc_extern Tryd.func93 (by kernel_rfl) (by kernel_rfl) (by kernel_rfl) (e := Extern.AbiNoEscape.same) (by kernel_rfl)]
  rw [Lib.run_noEscape]
  simp only [Result.andThen]
  rw [Oper.upon_value]
  go_wp2_with fail
  rw [Lib.run_from_unsafe w ⟨b, 0, none⟩ Tryd.underlying142 Tryd.underlying97 hj hsh (by kernel_rfl)]
  simp only [Result.andThen]
  rw [Oper.upon_value]
  go_wp2_with fail
  go_end0
  exact ⟨rfl, rfl⟩

theorem copyCheck_any (B b : Nat) (bs : List Value) (w : World) (h : Lib.IsBuilder 99 5 B b bs w) :
    Calls Tryd.prog 84 #[.pointer (some ⟨b, 0, none⟩)] w fun e w' => e = .returned (.tuple #[]) ∧ Lib.BuilderAt 99 5 B b (.pointer (some ⟨b, 0, none⟩)) bs w' ∧ Below B w w' := by
  rcases h with h | h
  · refine (copyCheck_fresh b w h.cell0 h.shape h.frozen0).mono ?_
    rintro e w' ⟨rfl, rfl⟩
    exact ⟨rfl, h.used _, (Below.refl B w).setCell (p := ⟨b, 0, none⟩) h.1 _⟩
  · refine (copyCheck_used b w h.cell0).mono ?_
    rintro e w' ⟨rfl, rfl⟩
    exact ⟨rfl, h, Below.refl B _⟩

end Go.Proofs.YtgegipijappfhaaDoor
namespace Go.Proofs.YtgegipijappfhaaDoor

structure Ent where
  key : List UInt8
  val : List UInt8
  gone : Bool
theorem Ent.ext3 {a b : Ent} (h1 : a.key = b.key) (h2 : a.val = b.val) (h3 : a.gone = b.gone) : a = b := by
  cases a
  cases b
  simp_all
instance : DecidableEq Ent := fun a b =>
  if h : a.key = b.key ∧ a.val = b.val ∧ a.gone = b.gone then .isTrue (Ent.ext3 h.1 h.2.1 h.2.2) else .isFalse (fun e => h (by subst e; exact ⟨rfl, rfl, rfl⟩))

theorem klt_irrefl (a : List UInt8) : ¬ a < a := List.lt_irrefl a
theorem klt_ne {a b : List UInt8} (h : a < b) : a ≠ b := fun e => klt_irrefl b (e ▸ h)
theorem klt_trans {a b c : List UInt8} (h : a < b) (k : b < c) : a < c := List.lt_trans h k
theorem klt_asymm {a b : List UInt8} (h : a < b) : ¬ b < a := fun k => klt_irrefl a (klt_trans h k)
theorem klt_of {a b : List UInt8} (h : ¬ a < b) (hn : a ≠ b) : b < a := by
  rcases List.le_iff_lt_or_eq.1 (List.not_lt.1 h) with h | h
  · exact h
  · exact absurd h.symm hn

/-- Rising keys. -/
def rising (l : List Ent) : Prop := l.Pairwise fun a b => a.key < b.key
def look (l : List Ent) (k : List UInt8) : Option Ent := l.find? fun x => decide (x.key = k)
theorem look_nil (k : List UInt8) : look [] k = none := rfl
theorem look_cons (x : Ent) (l : List Ent) (k : List UInt8) : look (x :: l) k = if x.key = k then some x else look l k := by
  unfold look
  by_cases h : x.key = k <;> simp [h]
theorem look_some {l : List Ent} {k : List UInt8} {x : Ent} (h : look l k = some x) : x ∈ l ∧ x.key = k :=
  ⟨List.mem_of_find?_eq_some h, by have := List.find?_some h; simpa using this⟩
theorem look_none {l : List Ent} {k : List UInt8} : look l k = none ↔ ∀ x ∈ l, x.key ≠ k := by
  unfold look
  rw [List.find?_eq_none]
  simp
theorem look_mem {l : List Ent} (h : rising l) {x : Ent} (hx : x ∈ l) : look l x.key = some x := by
  induction l with
  | nil => cases hx
  | cons y l ih =>
    rw [look_cons]
    obtain ⟨h1, h2⟩ := List.pairwise_cons.1 h
    rcases List.mem_cons.1 hx with e | e
    · subst e
      rw [if_pos rfl]
    · rw [if_neg (klt_ne (h1 x e)), ih h2 e]
theorem look_head {y : Ent} {l : List Ent} (h : rising (y :: l)) {k : List UInt8} (hk : k < y.key) : look (y :: l) k = none := by
  obtain ⟨h1, _⟩ := List.pairwise_cons.1 h
  refine look_none.2 fun x hx => ?_
  rcases List.mem_cons.1 hx with e | e
  · subst e
    exact fun e => klt_ne hk e.symm
  · exact fun e2 => klt_ne (klt_trans hk (h1 x e)) e2.symm
/-- Two lists of rising keys with the same entries are one. -/
theorem rising_ext : ∀ {a b : List Ent}, rising a → rising b → (∀ k, look a k = look b k) → a = b
  | [], [], _, _, _ => rfl
  | [], y :: b, _, hb, h => by
    have := h y.key
    rw [look_mem hb (by simp), look_nil] at this
    cases this
  | x :: a, [], ha, _, h => by
    have := h x.key
    rw [look_mem ha (by simp), look_nil] at this
    cases this
  | x :: a, y :: b, ha, hb, h => by
    have hxy : x = y := by
      have h1 := h x.key
      have h2 := h y.key
      rw [look_mem ha (by simp)] at h1
      rw [look_mem hb (by simp)] at h2
      by_cases e : x.key = y.key
      · rw [e, look_mem hb (by simp)] at h1
        exact Option.some.inj h1
      · by_cases hl : x.key < y.key
        · rw [look_head hb hl] at h1
          cases h1
        · rw [look_head ha (klt_of hl e)] at h2
          cases h2
    subst hxy
    obtain ⟨a1, a2⟩ := List.pairwise_cons.1 ha
    obtain ⟨b1, b2⟩ := List.pairwise_cons.1 hb
    refine congrArg (x :: ·) (rising_ext a2 b2 fun k => ?_)
    have h1 := h k
    rw [look_cons, look_cons] at h1
    by_cases e : x.key = k
    · rw [look_none.2 (fun z hz e2 => klt_ne (a1 z hz) (e.trans e2.symm)), look_none.2 (fun z hz e2 => klt_ne (b1 z hz) (e.trans e2.symm))]
    · rwa [if_neg e, if_neg e] at h1

/-- One list of two: the newer one's entries first. -/
def twoE : List Ent → List Ent → List Ent
  | [], os => os
  | n :: ns, [] => n :: ns
  | n :: ns, o :: os => if n.key < o.key then n :: twoE ns (o :: os) else if o.key < n.key then o :: twoE (n :: ns) os else twoE (n :: ns) os
termination_by a b => a.length + b.length
theorem twoE_nil_right (l : List Ent) : twoE l [] = l := by cases l <;> simp [twoE]
theorem twoE_mem : ∀ {a b : List Ent} {x : Ent}, x ∈ twoE a b → x ∈ a ∨ x ∈ b
  | [], os, x, h => by rw [twoE] at h; exact .inr h
  | n :: ns, [], x, h => by rw [twoE] at h; exact .inl h
  | n :: ns, o :: os, x, h => by
    rw [twoE] at h
    by_cases h1 : n.key < o.key
    · rw [if_pos h1] at h
      rcases List.mem_cons.1 h with e | e
      · subst e; exact .inl (by simp)
      · rcases twoE_mem e with e | e
        · exact .inl (by simp [e])
        · exact .inr e
    · rw [if_neg h1] at h
      by_cases h2 : o.key < n.key
      · rw [if_pos h2] at h
        rcases List.mem_cons.1 h with e | e
        · subst e; exact .inr (by simp)
        · rcases twoE_mem e with e | e
          · exact .inl e
          · exact .inr (by simp [e])
      · rw [if_neg h2] at h
        rcases twoE_mem h with e | e
        · exact .inl e
        · exact .inr (by simp [e])
termination_by a b => a.length + b.length
theorem twoE_length : ∀ (a b : List Ent), (twoE a b).length ≤ a.length + b.length
  | [], os => by rw [twoE]; simp
  | n :: ns, [] => by rw [twoE]; simp
  | n :: ns, o :: os => by
    rw [twoE]
    by_cases h1 : n.key < o.key
    · rw [if_pos h1]
      have := twoE_length ns (o :: os)
      simp at this ⊢
      omega
    · rw [if_neg h1]
      by_cases h2 : o.key < n.key
      · rw [if_pos h2]
        have := twoE_length (n :: ns) os
        simp at this ⊢
        omega
      · rw [if_neg h2]
        have := twoE_length (n :: ns) os
        simp at this ⊢
        omega
termination_by a b => a.length + b.length
theorem twoE_rising : ∀ {a b : List Ent}, rising a → rising b → rising (twoE a b)
  | [], os, _, hb => by rw [twoE]; exact hb
  | n :: ns, [], ha, _ => by rw [twoE]; exact ha
  | n :: ns, o :: os, ha, hb => by
    obtain ⟨a1, a2⟩ := List.pairwise_cons.1 ha
    obtain ⟨b1, b2⟩ := List.pairwise_cons.1 hb
    rw [twoE]
    by_cases h1 : n.key < o.key
    · rw [if_pos h1]
      refine List.pairwise_cons.2 ⟨fun x hx => ?_, twoE_rising a2 hb⟩
      rcases twoE_mem hx with e | e
      · exact a1 x e
      · rcases List.mem_cons.1 e with e | e
        · subst e; exact h1
        · exact klt_trans h1 (b1 x e)
    · rw [if_neg h1]
      by_cases h2 : o.key < n.key
      · rw [if_pos h2]
        refine List.pairwise_cons.2 ⟨fun x hx => ?_, twoE_rising ha b2⟩
        rcases twoE_mem hx with e | e
        · rcases List.mem_cons.1 e with e | e
          · subst e; exact h2
          · exact klt_trans h2 (a1 x e)
        · exact b1 x e
      · rw [if_neg h2]
        exact twoE_rising ha b2
termination_by a b => a.length + b.length
theorem look_two : ∀ {a b : List Ent}, rising a → rising b → ∀ k, look (twoE a b) k = (look a k).or (look b k)
  | [], os, _, _, k => by rw [twoE, look_nil]; rfl
  | n :: ns, [], _, _, k => by rw [twoE, look_nil, Option.or_none]
  | n :: ns, o :: os, ha, hb, k => by
    obtain ⟨a1, a2⟩ := List.pairwise_cons.1 ha
    obtain ⟨b1, b2⟩ := List.pairwise_cons.1 hb
    rw [twoE]
    by_cases h1 : n.key < o.key
    · rw [if_pos h1, look_cons, look_two a2 hb, look_cons n]
      by_cases e : n.key = k
      · rw [if_pos e, if_pos e]; rfl
      · rw [if_neg e, if_neg e]
    · rw [if_neg h1]
      by_cases h2 : o.key < n.key
      · rw [if_pos h2, look_cons, look_two ha b2, look_cons o]
        by_cases e : o.key = k
        · rw [if_pos e, if_pos e, look_head ha (e ▸ h2)]; rfl
        · rw [if_neg e, if_neg e]
      · rw [if_neg h2, look_two ha b2, look_cons o]
        by_cases e : o.key = k
        · have hn : n.key = k := by
            by_cases hq : o.key = n.key
            · rw [← hq, e]
            · exact absurd (klt_of h2 hq) h1
          rw [look_cons n, if_pos hn]
          rfl
        · rw [if_neg e]
termination_by a b => a.length + b.length

/-- An entry takes the place of one of its key. -/
def putE (x : Ent) (l : List Ent) : List Ent := twoE [x] l
theorem putE_rising {x : Ent} {l : List Ent} (h : rising l) : rising (putE x l) := twoE_rising (List.pairwise_singleton _ _) h
theorem look_put {x : Ent} {l : List Ent} (h : rising l) (k : List UInt8) : look (putE x l) k = if x.key = k then some x else look l k := by
  rw [putE, look_two (List.pairwise_singleton _ _) h, look_cons, look_nil]
  by_cases e : x.key = k
  · rw [if_pos e, if_pos e]; rfl
  · rw [if_neg e, if_neg e]; rfl
theorem putE_nil (x : Ent) : putE x [] = [x] := twoE_nil_right _
theorem putE_length (x : Ent) (l : List Ent) : (putE x l).length ≤ l.length + 1 := by
  have := twoE_length [x] l
  unfold putE
  simp at this
  omega
/-- What a put comes to, step by step: of what is ahead of it, or of what is left. -/
def dropE (k : List UInt8) (l : List Ent) : List Ent := l.filter fun y => decide (y.key ≠ k)
theorem dropE_none {k : List UInt8} {l : List Ent} (h : ∀ y ∈ l, y.key ≠ k) : dropE k l = l :=
  List.filter_eq_self.2 fun y hy => decide_eq_true (h y hy)
def putRestE (x : Ent) (dn : Bool) (l : List Ent) : List Ent := if dn then dropE x.key l else putF x l
where putF (x : Ent) : List Ent → List Ent
  | [] => [x]
  | y :: l => if y.key < x.key then y :: putF x l else x :: dropE x.key (y :: l)
theorem putF_eq {x : Ent} : ∀ {l : List Ent}, rising l → putRestE.putF x l = putE x l
  | [], _ => (putE_nil x).symm
  | y :: l, h => by
    obtain ⟨h1, h2⟩ := List.pairwise_cons.1 h
    rw [putRestE.putF, putE, twoE]
    by_cases hlt : y.key < x.key
    · rw [if_pos hlt, if_neg (klt_asymm hlt), if_pos hlt, putF_eq h2]
      rfl
    · rw [if_neg hlt]
      by_cases hgt : x.key < y.key
      · rw [if_pos hgt, twoE, dropE_none]
        intro z hz e
        rcases List.mem_cons.1 hz with q | q
        · subst q; exact klt_ne hgt e.symm
        · exact klt_ne (klt_trans hgt (h1 z q)) e.symm
      · rw [if_neg hgt, if_neg hlt]
        have e : y.key = x.key := by
          by_cases q : y.key = x.key
          · exact q
          · exact absurd (klt_of hlt q) hgt
        have h3 : twoE [x] l = x :: l := by
          cases l with
          | nil => rw [twoE]
          | cons z l =>
            rw [twoE, if_pos (e ▸ h1 z (by simp)), twoE]
        rw [h3]
        unfold dropE
        rw [List.filter_cons_of_neg (by simp [e])]
        exact congrArg (x :: ·) (dropE_none (fun z hz q => klt_ne (h1 z hz) (e.trans q.symm)))
theorem putRestE_lt {f x : Ent} {r : List Ent} (h : x.key < f.key) : putRestE f false (x :: r) = [x] ++ putRestE f false r := by
  show putRestE.putF f (x :: r) = _
  rw [putRestE.putF, if_pos h]
  rfl
theorem putRestE_eq {f x : Ent} {r : List Ent} (h : x.key = f.key) : putRestE f false (x :: r) = [f] ++ putRestE f true r := by
  show putRestE.putF f (x :: r) = _
  rw [putRestE.putF, if_neg (by rw [h]; exact klt_irrefl _)]
  show f :: dropE f.key (x :: r) = f :: dropE f.key r
  simp [dropE, h]
theorem putRestE_gt {f x : Ent} {r : List Ent} (h : ¬ x.key < f.key) (hn : x.key ≠ f.key) : putRestE f false (x :: r) = [f, x] ++ putRestE f true r := by
  show putRestE.putF f (x :: r) = _
  rw [putRestE.putF, if_neg h]
  show f :: dropE f.key (x :: r) = f :: x :: dropE f.key r
  simp [dropE, hn]
theorem putRestE_ne {f x : Ent} {r : List Ent} (hn : x.key ≠ f.key) : putRestE f true (x :: r) = [x] ++ putRestE f true r := by
  show dropE f.key (x :: r) = x :: dropE f.key r
  simp [dropE, hn]
theorem putRestE_same {f x : Ent} {r : List Ent} (hn : x.key = f.key) : putRestE f true (x :: r) = putRestE f true r := by
  show dropE f.key (x :: r) = dropE f.key r
  simp [dropE, hn]
theorem putRestE_nil_true (f : Ent) : putRestE f true [] = [] := rfl
theorem putRestE_nil_false (f : Ent) : putRestE f false [] = [f] := rfl

/-- Lists, the newest first, as one. -/
def mergeE : List (List Ent) → List Ent
  | [] => []
  | l :: ls => twoE l (mergeE ls)
def lookE (ls : List (List Ent)) (k : List UInt8) : Option Ent := ls.findSome? fun l => look l k
theorem mergeE_rising : ∀ {ls : List (List Ent)}, (∀ l ∈ ls, rising l) → rising (mergeE ls)
  | [], _ => List.Pairwise.nil
  | l :: ls, h => twoE_rising (h l (by simp)) (mergeE_rising fun x hx => h x (by simp [hx]))
theorem look_merge : ∀ {ls : List (List Ent)}, (∀ l ∈ ls, rising l) → ∀ k, look (mergeE ls) k = lookE ls k
  | [], _, _ => rfl
  | l :: ls, h, k => by
    rw [mergeE, look_two (h l (by simp)) (mergeE_rising fun x hx => h x (by simp [hx])), look_merge fun x hx => h x (by simp [hx])]
    unfold lookE
    rw [List.findSome?_cons]
    cases look l k <;> rfl
theorem mergeE_append {a b : List (List Ent)} (ha : ∀ l ∈ a, rising l) (hb : ∀ l ∈ b, rising l) : mergeE (a ++ b) = twoE (mergeE a) (mergeE b) := by
  have hab : ∀ l ∈ a ++ b, rising l := fun l hl => (List.mem_append.1 hl).elim (ha l) (hb l)
  refine rising_ext (mergeE_rising hab) (twoE_rising (mergeE_rising ha) (mergeE_rising hb)) fun k => ?_
  rw [look_merge hab, look_two (mergeE_rising ha) (mergeE_rising hb), look_merge ha, look_merge hb]
  unfold lookE
  rw [List.findSome?_append]
theorem mergeE_one (l : List Ent) : mergeE [l] = l := by
  show twoE l [] = l
  exact twoE_nil_right l
def sumE (ls : List (List Ent)) : Nat := (ls.map List.length).sum
theorem sumE_split (k : Nat) (ls : List (List Ent)) : sumE (ls.take k) + sumE (ls.drop k) = sumE ls := by
  have : ls.map List.length = (ls.take k).map List.length ++ (ls.drop k).map List.length := by rw [← List.map_append, List.take_append_drop]
  unfold sumE
  rw [this, List.sum_append]
theorem mergeE_length : ∀ ls : List (List Ent), (mergeE ls).length ≤ sumE ls
  | [] => Nat.le_refl _
  | l :: ls => by
    have h1 := twoE_length l (mergeE ls)
    have h2 := mergeE_length ls
    simp only [mergeE, sumE, List.map_cons, List.sum_cons] at h1 h2 ⊢
    omega
theorem mergeE_mem : ∀ {ls : List (List Ent)} {x : Ent}, x ∈ mergeE ls → ∃ l ∈ ls, x ∈ l
  | [], x, h => by cases h
  | l :: ls, x, h => by
    rcases twoE_mem h with e | e
    · exact ⟨l, by simp, e⟩
    · obtain ⟨m, hm, hx⟩ := mergeE_mem e
      exact ⟨m, by simp [hm], hx⟩
/-- Puts, one behind the other, are two lists as one. -/
theorem fold_put {l : List Ent} (hl : rising l) : ∀ {acc : List Ent}, rising acc → l.foldl (fun a x => putE x a) acc = twoE l acc := by
  have key : ∀ (l : List Ent), rising l → ∀ acc, rising acc → rising (l.foldl (fun a x => putE x a) acc) ∧ ∀ k, look (l.foldl (fun a x => putE x a) acc) k = (look l k).or (look acc k) := by
    intro l
    induction l with
    | nil => exact fun _ acc h => ⟨h, fun k => by rw [look_nil]; rfl⟩
    | cons x l ih =>
      intro hx acc h
      obtain ⟨h1, h2⟩ := List.pairwise_cons.1 hx
      obtain ⟨i1, i2⟩ := ih h2 (putE x acc) (putE_rising h)
      refine ⟨i1, fun k => ?_⟩
      rw [List.foldl_cons, i2, look_put h, look_cons]
      by_cases e : x.key = k
      · rw [if_pos e, if_pos e, look_none.2 (fun z hz q => klt_ne (h1 z hz) (e.trans q.symm))]
        rfl
      · rw [if_neg e, if_neg e]
  intro acc h
  obtain ⟨i1, i2⟩ := key l hl acc h
  exact rising_ext i1 (twoE_rising hl h) fun k => by rw [i2, look_two hl h]
/-- Without those that are gone, if these may go. -/
def keptE (drop : Bool) (l : List Ent) : List Ent := l.filter fun x => !drop || !x.gone
theorem keptE_rising {l : List Ent} (h : rising l) (d : Bool) : rising (keptE d l) := h.filter _
theorem look_kept {l : List Ent} (h : rising l) (d : Bool) (k : List UInt8) : look (keptE d l) k = (look l k).filter fun x => !d || !x.gone := by
  induction l with
  | nil => rfl
  | cons y l ih =>
    obtain ⟨h1, h2⟩ := List.pairwise_cons.1 h
    unfold keptE at ih ⊢
    rw [look_cons]
    by_cases hp : (!d || !y.gone) = true
    · rw [List.filter_cons_of_pos (p := fun x : Ent => !d || !x.gone) hp, look_cons]
      by_cases e : y.key = k
      · rw [if_pos e, if_pos e, Option.filter_some, if_pos hp]
      · rw [if_neg e, if_neg e, ih h2]
    · rw [List.filter_cons_of_neg (p := fun x : Ent => !d || !x.gone) hp]
      by_cases e : y.key = k
      · rw [if_pos e, Option.filter_some, if_neg hp, ih h2, look_none.2 (fun z hz q => klt_ne (h1 z hz) (e.trans q.symm))]
        rfl
      · rw [if_neg e, ih h2]
theorem keptE_false (l : List Ent) : keptE false l = l := List.filter_eq_self.2 fun _ _ => rfl
/-- An entry above all that are there, or none. -/
def stepR (acc : List Ent) (x : Ent) : List Ent :=
  match acc.getLast? with
  | none => acc ++ [x]
  | some y => if y.key < x.key then acc ++ [x] else acc
def riseE (l : List Ent) : List Ent := l.foldl stepR []
theorem stepR_rising {acc : List Ent} (h : rising acc) (x : Ent) : rising (stepR acc x) := by
  unfold stepR
  split
  · rename_i hq
    rw [List.getLast?_eq_none_iff.1 hq]
    exact List.pairwise_singleton _ _
  · rename_i y hq
    split
    · rename_i hlt
      refine List.pairwise_append.2 ⟨h, List.pairwise_singleton _ _, fun a ha b hb => ?_⟩
      obtain rfl := List.mem_singleton.1 hb
      obtain ⟨acc', rfl⟩ := List.getLast?_eq_some_iff.1 hq
      rcases List.mem_append.1 ha with e | e
      · exact klt_trans ((List.pairwise_append.1 h).2.2 a e y (by simp)) hlt
      · obtain rfl := List.mem_singleton.1 e
        exact hlt
    · exact h
theorem riseE_take (l : List Ent) (i : Nat) (x : Ent) (h : l[i]? = some x) : riseE (l.take (i + 1)) = stepR (riseE (l.take i)) x := by
  unfold riseE
  rw [List.take_add_one, h, List.foldl_append]
  rfl
theorem riseE_rising (l : List Ent) : rising (riseE l) := by
  have : ∀ (l acc : List Ent), rising acc → rising (l.foldl stepR acc) := by
    intro l
    induction l with
    | nil => exact fun _ h => h
    | cons x l ih => exact fun acc h => ih _ (stepR_rising h x)
  exact this l [] List.Pairwise.nil
theorem stepR_mem {acc : List Ent} {x y : Ent} (h : y ∈ stepR acc x) : y ∈ acc ∨ y = x := by
  unfold stepR at h
  split at h
  · rcases List.mem_append.1 h with e | e
    · exact .inl e
    · exact .inr (List.mem_singleton.1 e)
  · split at h
    · rcases List.mem_append.1 h with e | e
      · exact .inl e
      · exact .inr (List.mem_singleton.1 e)
    · exact .inl h
theorem riseE_mem {l : List Ent} {y : Ent} (h : y ∈ riseE l) : y ∈ l := by
  have : ∀ (l acc : List Ent), y ∈ l.foldl stepR acc → y ∈ acc ∨ y ∈ l := by
    intro l
    induction l with
    | nil => exact fun _ h => .inl h
    | cons x l ih =>
      intro acc h
      rcases ih _ h with e | e
      · rcases stepR_mem e with e | e
        · exact .inl e
        · exact .inr (by simp [e])
      · exact .inr (by simp [e])
  rcases this l [] h with e | e
  · cases e
  · exact e
theorem stepR_length (acc : List Ent) (x : Ent) : (stepR acc x).length ≤ acc.length + 1 := by
  unfold stepR
  split
  · simp
  · split <;> simp
theorem riseE_length (l : List Ent) : (riseE l).length ≤ l.length := by
  have : ∀ (l acc : List Ent), (l.foldl stepR acc).length ≤ acc.length + l.length := by
    intro l
    induction l with
    | nil => intro acc; simp
    | cons x l ih =>
      intro acc
      have h1 := ih (stepR acc x)
      have h2 := stepR_length acc x
      rw [List.foldl_cons, List.length_cons]
      omega
  have := this l []
  unfold riseE
  simpa using this
end Go.Proofs.YtgegipijappfhaaDoor
namespace Go.Proofs.YtgegipijappfhaaDoor
open Go Go.RowKit

/-- A label: 32 bytes. -/
structure Lab where
  l : List UInt8
  h : l.length = 32
  deriving DecidableEq

def cellsL (a : Lab) : Array Value := (a.l.map Extern.Stop.cell).toArray
def cellsP (n : Int) (a : Lab) : Array Value := (Value.int .i64 n :: a.l.map Extern.Stop.cell).toArray
def zeroLab : Lab := ⟨List.replicate 32 0, by simp⟩
def Lab.get (a : Lab) (i : Nat) : UInt8 := a.l.getD i 0
def Lab.set (a : Lab) (i : Nat) (x : UInt8) : Lab := ⟨a.l.set i x, by simp [a.h]⟩

theorem Lab.ext' {a b : Lab} (h : ∀ i, i < 32 → a.get i = b.get i) : a = b := by
  obtain ⟨a, ha⟩ := a
  obtain ⟨b, hb⟩ := b
  have : a = b := by
    apply List.ext_getElem (ha.trans hb.symm)
    intro i h1 h2
    have := h i (by omega)
    simpa [Lab.get, List.getD, h1, h2] using this
  subst this
  rfl
theorem Lab.get_set (a : Lab) (i j : Nat) (x : UInt8) (hj : j < 32) : (a.set i x).get j = if i = j then x else a.get j := by
  have := a.h
  simp only [Lab.get, Lab.set, List.getD, List.getElem?_set]
  split
  · simp [*]
  · rfl
theorem zeroLab_get (i : Nat) : zeroLab.get i = 0 := by
  simp only [zeroLab, Lab.get, List.getD, List.getElem?_replicate]
  split <;> rfl

@[go_sem, simp] theorem size_cellsL (a : Lab) : (cellsL a).size = 32 := by simp [cellsL, a.h]
@[go_sem, simp] theorem size_cellsP (n : Int) (a : Lab) : (cellsP n a).size = 33 := by simp [cellsP, a.h]
theorem get_cellsL (a : Lab) (i : Nat) (h : i < 32) : (cellsL a)[i]? = some (.int .u8 (a.get i).toNat) := by
  have := a.h
  simp [cellsL, Extern.Stop.cell, Lab.get, List.getD, show i < a.l.length by omega]
theorem get_cellsP0 (n : Int) (a : Lab) : (cellsP n a)[0]? = some (.int .i64 n) := by
  simp [cellsP]
theorem get_cellsP (n : Int) (a : Lab) (i : Nat) (h : i < 32) : (cellsP n a)[1 + i]? = some (.int .u8 (a.get i).toNat) := by
  have := a.h
  rw [Nat.add_comm]
  simp [cellsP, Extern.Stop.cell, Lab.get, List.getD, show i < a.l.length by omega]
@[go_sem, simp] theorem getElem_cellsL (a : Lab) (i : Nat) (h : i < (cellsL a).size) : (cellsL a)[i] = .int .u8 (a.get i).toNat := by
  have := get_cellsL a i (by simpa using h)
  rw [Array.getElem?_eq_getElem h] at this
  exact Option.some.inj this
@[go_sem, simp] theorem getElem_cellsP (n : Int) (a : Lab) (i : Nat) (h : 1 + i < (cellsP n a).size) : (cellsP n a)[1 + i] = .int .u8 (a.get i).toNat := by
  have := get_cellsP n a i (by have := size_cellsP n a; omega)
  rw [Array.getElem?_eq_getElem h] at this
  exact Option.some.inj this
@[go_sem, simp] theorem getElem_cellsP' (n : Int) (a : Lab) (i : Nat) (h : i + 1 < (cellsP n a).size) : (cellsP n a)[i + 1] = .int .u8 (a.get i).toNat := by
  have := get_cellsP n a i (by have := size_cellsP n a; omega)
  rw [Nat.add_comm, Array.getElem?_eq_getElem h] at this
  exact Option.some.inj this
@[go_sem, simp] theorem getElem_cellsP0 (n : Int) (a : Lab) (h : 0 < (cellsP n a).size) : (cellsP n a)[0] = .int .i64 n := by
  simp [cellsP]
@[go_sem, simp] theorem one_cellsL (a : Lab) : oneCells (cellsL a) = true := by
  simp [oneCells, cellsL, Extern.Stop.cell, Value.oneCell']
@[go_sem, simp] theorem one_cellsP (n : Int) (a : Lab) : oneCells (cellsP n a) = true := by
  simp [oneCells, cellsP, Extern.Stop.cell, Value.oneCell']
@[go_sem, simp] theorem extract_cellsL (a : Lab) : (cellsL a).extract 0 32 = cellsL a := by
  have h := size_cellsL a
  conv => rhs; rw [← Array.extract_size (xs := cellsL a), h]
@[go_sem, simp] theorem extract_cellsP (n : Int) (a : Lab) : (cellsP n a).extract 0 33 = cellsP n a := by
  have h := size_cellsP n a
  conv => rhs; rw [← Array.extract_size (xs := cellsP n a), h]
@[go_sem, simp] theorem extract_cellsP1 (n : Int) (a : Lab) : (cellsP n a).extract 1 33 = cellsL a := by
  simp only [cellsP, cellsL, List.extract_toArray]
  congr 1
  simp [List.extract, List.take_of_length_le, a.h]
@[go_sem, simp] theorem splice_cellsL (a b : Lab) : splice (cellsL a) 0 (cellsL b).toList = cellsL b := splice_whole _ _ (by simp)
@[go_sem, simp] theorem splice_cellsP (n m : Int) (a b : Lab) : splice (cellsP n a) 0 (cellsP m b).toList = cellsP m b := splice_whole _ _ (by simp)
@[go_sem, simp] theorem splice_cellsP1 (n : Int) (a b : Lab) : splice (cellsP n a) 1 (cellsL b).toList = cellsP n b := by
  simp [splice, cellsP, cellsL, a.h, b.h, List.drop_eq_nil_of_le]
theorem byte_of_int {x : Int} (h0 : 0 ≤ x) (h1 : x < 256) : ((UInt8.ofNat x.toNat).toNat : Int) = x := by
  rw [UInt8.toNat_ofNat']
  omega
theorem set_cellsL (a : Lab) (i : Nat) (x : Int) (h0 : 0 ≤ x) (h1 : x < 256) : (cellsL a).setIfInBounds i (.int .u8 x) = cellsL (a.set i (UInt8.ofNat x.toNat)) := by
  have e : Extern.Stop.cell (UInt8.ofNat x.toNat) = .int .u8 x := congrArg (Value.int .u8) (byte_of_int h0 h1)
  simp [cellsL, Lab.set, List.map_set, e]
theorem set_cellsP (n : Int) (a : Lab) (i : Nat) (x : Int) (h0 : 0 ≤ x) (h1 : x < 256) : (cellsP n a).setIfInBounds (1 + i) (.int .u8 x) = cellsP n (a.set i (UInt8.ofNat x.toNat)) := by
  rw [Nat.add_comm]
  have e : Extern.Stop.cell (UInt8.ofNat x.toNat) = .int .u8 x := congrArg (Value.int .u8) (byte_of_int h0 h1)
  simp [cellsP, Lab.set, List.map_set, e]
theorem set_cellsP0 (n m : Int) (a : Lab) : (cellsP n a).setIfInBounds 0 (.int .i64 m) = cellsP m a := by
  simp [cellsP]

end Go.Proofs.YtgegipijappfhaaDoor
namespace Go.Proofs.YtgegipijappfhaaDoor
open Go Go.RowKit

attribute [go_sem] rowLoad rowStore rowCopy

@[go_sem ↓] theorem copy_bytes (ty : TypeId) (args : Array Value) : Builtin.copy_ #[54, 54] ty args = copyOf #[54, 54] ty args := rfl
@[go_sem] theorem run_copy_bytes (w : World) (ty : TypeId) (b1 o1 n1 c1 b2 o2 n2 c2 : Nat) :
    (copyOf #[54, 54] ty #[.slice (some ⟨b1, o1, none⟩) n1 c1, .slice (some ⟨b2, o2, none⟩) n2 c2]).run Tryd.prog w =
      rowCopy w b1 o1 n1 b2 o2 n2 (elseCopy Tryd.prog 54 ty (.slice (some ⟨b1, o1, none⟩) n1 c1) (.slice (some ⟨b2, o2, none⟩) n2 c2) w) :=
  run_copy_word w 54 5 ty b1 o1 n1 c1 b2 o2 n2 c2 Tryd.underlying54 (by kernel_rfl)
theorem zeroL_cells : cellsL zeroLab = (List.replicate 32 (Value.int .u8 0)).toArray := by
  simp [cellsL, zeroLab, Extern.Stop.cell]
theorem zeroP_cells : cellsP 0 zeroLab = (Value.int .i64 0 :: List.replicate 32 (Value.int .u8 0)).toArray := by
  simp [cellsP, zeroLab, Extern.Stop.cell]
theorem Lab.open (a : Lab) : ∃ b0 b1 b2 b3 b4 b5 b6 b7 b8 b9 b10 b11 b12 b13 b14 b15 b16 b17 b18 b19 b20 b21 b22 b23 b24 b25 b26 b27 b28 b29 b30 b31 : UInt8,
    a.l = [b0, b1, b2, b3, b4, b5, b6, b7, b8, b9, b10, b11, b12, b13, b14, b15, b16, b17, b18, b19, b20, b21, b22, b23, b24, b25, b26, b27, b28, b29, b30, b31] := by
  obtain ⟨l, h⟩ := a
  match l, h with
  | [b0, b1, b2, b3, b4, b5, b6, b7, b8, b9, b10, b11, b12, b13, b14, b15, b16, b17, b18, b19, b20, b21, b22, b23, b24, b25, b26, b27, b28, b29, b30, b31], _ =>
    exact ⟨b0, b1, b2, b3, b4, b5, b6, b7, b8, b9, b10, b11, b12, b13, b14, b15, b16, b17, b18, b19, b20, b21, b22, b23, b24, b25, b26, b27, b28, b29, b30, b31, rfl⟩

theorem part_len (w : World) (n : Int) (a : Lab) : (part 3 (cellsP n a) 0).run Tryd.prog w = .ok (.int .i64 n) w := by
  simp only [part, Sem.run_bind, show (isAgg 3).run Tryd.prog w = .ok false w from by kernel_rfl, Result.andThen_ok, Bool.false_eq_true, if_false, get_cellsP0, Sem.run_pure]
end Go.Proofs.YtgegipijappfhaaDoor
namespace Go.Proofs.YtgegipijappfhaaDoor
open Go

/-- Bit k of a byte, the highest one first. -/
def bitB (x : UInt8) (k : Nat) : Nat := x.toNat / 2 ^ (7 - k) % 2
/-- Bit i of a label. -/
def bit (a : Lab) (i : Nat) : Nat := bitB (a.get (i / 8)) (i % 8)

theorem bitB_lt (x : UInt8) (k : Nat) : bitB x k < 2 := Nat.mod_lt _ (by decide)
theorem bit_lt (a : Lab) (i : Nat) : bit a i < 2 := bitB_lt _ _

theorem u8_all {p : UInt8 → Prop} (h : ∀ n : Fin 256, p (UInt8.ofNat n.val)) (x : UInt8) : p x := by
  have := h ⟨x.toNat, x.toNat_lt⟩
  simpa using this

theorem byte_ext {x y : UInt8} (h : ∀ k, k < 8 → bitB x k = bitB y k) : x = y := by
  apply UInt8.toNat_inj.1
  have hx := x.toNat_lt
  have hy := y.toNat_lt
  apply Nat.eq_of_testBit_eq
  intro i
  by_cases hi : i < 8
  · have := h (7 - i) (by omega)
    simp only [bitB, show 7 - (7 - i) = i by omega] at this
    rw [Nat.testBit_eq_decide_div_mod_eq, Nat.testBit_eq_decide_div_mod_eq, this]
  · have e : 2 ^ 8 ≤ 2 ^ i := Nat.pow_le_pow_right (by decide) (by omega)
    rw [Nat.testBit_lt_two_pow (by omega), Nat.testBit_lt_two_pow (by omega)]

theorem lab_ext {a b : Lab} (h : ∀ i, i < 256 → bit a i = bit b i) : a = b := by
  apply Lab.ext'
  intro i hi
  apply byte_ext
  intro k hk
  have := h (8 * i + k) (by omega)
  simpa [bit, show (8 * i + k) / 8 = i by omega, show (8 * i + k) % 8 = k by omega] using this

/-- So many bits are the same, and no more. -/
structure IsCommon (a b : Lab) (n : Nat) : Prop where
  le : n ≤ 256
  same : ∀ i, i < n → bit a i = bit b i
  other : n < 256 → bit a n ≠ bit b n
theorem IsCommon.eq {a b : Lab} {n m : Nat} (h : IsCommon a b n) (k : IsCommon a b m) : n = m := by
  rcases Nat.lt_trichotomy n m with hl | hl | hl
  · exact absurd (k.same n hl) (h.other (Nat.lt_of_lt_of_le hl k.le))
  · exact hl
  · exact absurd (h.same m hl) (k.other (Nat.lt_of_lt_of_le hl h.le))
def comFrom (a b : Lab) : Nat → Nat → Nat
  | 0, n => n
  | f + 1, n => if bit a n = bit b n then comFrom a b f (n + 1) else n
/-- How many bits are the same. -/
def common (a b : Lab) : Nat := comFrom a b 256 0
theorem comFrom_is (a b : Lab) : ∀ f n, n + f = 256 → (∀ i, i < n → bit a i = bit b i) → IsCommon a b (comFrom a b f n)
  | 0, n, hf, h => ⟨by simp [comFrom]; omega, by simpa [comFrom] using h, by simp [comFrom]; omega⟩
  | f + 1, n, hf, h => by
    rw [comFrom]
    split
    · rename_i he
      refine comFrom_is a b f (n + 1) (by omega) fun i hi => ?_
      by_cases e : i = n
      · subst e; exact he
      · exact h i (by omega)
    · rename_i he
      exact ⟨by omega, h, fun _ => he⟩
theorem common_is (a b : Lab) : IsCommon a b (common a b) := comFrom_is a b 256 0 rfl (by omega)
theorem common_of {a b : Lab} {n : Nat} (h : IsCommon a b n) : common a b = n := (common_is a b).eq h
theorem common_le (a b : Lab) : common a b ≤ 256 := (common_is a b).le
theorem common_256 {a b : Lab} : common a b = 256 ↔ a = b := by
  constructor
  · intro h
    have := (common_is a b).same
    rw [h] at this
    exact lab_ext this
  · rintro rfl
    exact common_of ⟨Nat.le_refl _, fun _ _ => rfl, fun h => absurd h (Nat.lt_irrefl _)⟩

theorem xor_bitB (x y : UInt8) (k : Nat) : (x.toNat ^^^ y.toNat) / 2 ^ (7 - k) % 2 = (bitB x k + bitB y k) % 2 := by
  have h := Nat.testBit_xor (x := x.toNat) (y := y.toNat) (i := 7 - k)
  rw [Nat.testBit_eq_decide_div_mod_eq, Nat.testBit_eq_decide_div_mod_eq, Nat.testBit_eq_decide_div_mod_eq] at h
  have h1 := bitB_lt x k
  have h2 := bitB_lt y k
  unfold bitB at h1 h2 ⊢
  have h3 : (x.toNat ^^^ y.toNat) / 2 ^ (7 - k) % 2 < 2 := Nat.mod_lt _ (by decide)
  generalize (x.toNat ^^^ y.toNat) / 2 ^ (7 - k) % 2 = p at *
  generalize x.toNat / 2 ^ (7 - k) % 2 = q at *
  generalize y.toNat / 2 ^ (7 - k) % 2 = r at *
  have c : p = 0 ∨ p = 1 := by omega
  have c2 : q = 0 ∨ q = 1 := by omega
  have c3 : r = 0 ∨ r = 1 := by omega
  rcases c with rfl | rfl <;> rcases c2 with rfl | rfl <;> rcases c3 with rfl | rfl <;> simp_all

/-- The first bit that is 1 of a byte that isn't 0. -/
theorem lead (z : Nat) (h0 : z ≠ 0) (h1 : z < 256) : Lib.bitLen z ≤ 8 ∧ 1 ≤ Lib.bitLen z ∧ (∀ j, j < 8 - Lib.bitLen z → z / 2 ^ (7 - j) % 2 = 0) ∧ z / 2 ^ (7 - (8 - Lib.bitLen z)) % 2 = 1 := by
  have key : ∀ n : Fin 256, n.val ≠ 0 → Lib.bitLen n.val ≤ 8 ∧ 1 ≤ Lib.bitLen n.val ∧ (∀ j : Fin 8, j.val < 8 - Lib.bitLen n.val → n.val / 2 ^ (7 - j.val) % 2 = 0) ∧ n.val / 2 ^ (7 - (8 - Lib.bitLen n.val)) % 2 = 1 := by decide +kernel
  obtain ⟨k1, k2, k3, k4⟩ := key ⟨z, h1⟩ h0
  exact ⟨k1, k2, fun j hj => k3 ⟨j, by omega⟩ hj, k4⟩

/-- Behind i bytes that are the same, and one that isn't. -/
theorem common_at {a b : Lab} {i : Nat} (hi : i < 32) (hs : ∀ j, j < i → a.get j = b.get j) (hne : (a.get i).toNat ^^^ (b.get i).toNat ≠ 0) :
    common a b = 8 * i + (8 - Lib.bitLen ((a.get i).toNat ^^^ (b.get i).toNat)) := by
  have hz : (a.get i).toNat ^^^ (b.get i).toNat < 2 ^ 8 := Nat.xor_lt_two_pow (a.get i).toNat_lt (b.get i).toNat_lt
  obtain ⟨k1, k2, k3, k4⟩ := lead _ hne hz
  generalize Lib.bitLen ((a.get i).toNat ^^^ (b.get i).toNat) = n at *
  apply common_of
  refine ⟨by omega, fun j hj => ?_, fun _ => ?_⟩
  · by_cases hlt : j < 8 * i
    · simp only [bit]
      rw [hs (j / 8) (by omega)]
    · have e : j / 8 = i := by omega
      have h := k3 (j % 8) (by omega)
      rw [xor_bitB] at h
      simp only [bit, e]
      have h1 := bitB_lt (a.get i) (j % 8)
      have h2 := bitB_lt (b.get i) (j % 8)
      omega
  · have e : (8 * i + (8 - n)) / 8 = i := by omega
    have e2 : (8 * i + (8 - n)) % 8 = 8 - n := by omega
    rw [xor_bitB] at k4
    simp only [bit, e, e2]
    have h1 := bitB_lt (a.get i) (8 - n)
    have h2 := bitB_lt (b.get i) (8 - n)
    omega
theorem xor_ne {x y : UInt8} : x.toNat ^^^ y.toNat = 0 ↔ x = y := by
  constructor
  · intro h
    have h2 : (x.toNat ^^^ y.toNat) ^^^ y.toNat = 0 ^^^ y.toNat := by rw [h]
    rw [Nat.xor_assoc, Nat.xor_self, Nat.xor_zero, Nat.zero_xor] at h2
    exact UInt8.toNat_inj.1 h2
  · rintro rfl
    exact Nat.xor_self _

/-- The order of two labels. -/
def order (a b : Lab) : Int := if common a b = 256 then 0 else 2 * (bit a (common a b) : Int) - 1

/-- The order of two bytes is that of their first bits that are unlike. -/
theorem byte_lt (x y : UInt8) (k : Nat) (hk : k < 8) (hs : ∀ j, j < k → bitB x j = bitB y j) (hx : bitB x k = 0) (hy : bitB y k = 1) : x < y := by
  rw [UInt8.lt_iff_toNat_lt]
  have hx8 := x.toNat_lt
  have hy8 := y.toNat_lt
  have top : x.toNat / 2 ^ (8 - k) = y.toNat / 2 ^ (8 - k) := by
    apply Nat.eq_of_testBit_eq
    intro i
    rw [Nat.testBit_div_two_pow, Nat.testBit_div_two_pow]
    by_cases hi : i + (8 - k) < 8
    · have := hs (7 - (i + (8 - k))) (by omega)
      simp only [bitB, show 7 - (7 - (i + (8 - k))) = i + (8 - k) by omega] at this
      rw [Nat.testBit_eq_decide_div_mod_eq, Nat.testBit_eq_decide_div_mod_eq, this]
    · have e : 2 ^ 8 ≤ 2 ^ (i + (8 - k)) := Nat.pow_le_pow_right (by decide) (by omega)
      rw [Nat.testBit_lt_two_pow (by omega), Nat.testBit_lt_two_pow (by omega)]
  simp only [bitB] at hx hy
  have e : 2 ^ (8 - k) = 2 * 2 ^ (7 - k) := by rw [show 8 - k = (7 - k) + 1 by omega, Nat.pow_succ, Nat.mul_comm]
  rw [e] at top
  have p : 0 < 2 ^ (7 - k) := Nat.pow_pos (by decide)
  generalize 2 ^ (7 - k) = m at *
  rw [Nat.mul_comm, ← Nat.div_div_eq_div_mul, ← Nat.div_div_eq_div_mul] at top
  have : x.toNat / m < y.toNat / m := by omega
  rcases Nat.lt_or_ge x.toNat y.toNat with h | h
  · exact h
  · have := Nat.div_le_div_right (c := m) h
    omega

theorem compare_at : ∀ (n : Nat) (l m : List UInt8), l.length = m.length → n < l.length → (∀ j, j < n → l.getD j 0 = m.getD j 0) → Lib.compareBytes l m = Lib.compareBytes (l.drop n) (m.drop n)
  | 0, l, m, _, _, _ => by simp
  | n + 1, [], _, _, h, _ => by simp at h
  | n + 1, x :: l, [], h, _, _ => by simp at h
  | n + 1, x :: l, y :: m, h, hn, hs => by
    have e : x = y := by simpa using hs 0 (by omega)
    subst e
    simp only [Lib.compareBytes, UInt8.lt_irrefl, if_false, List.drop_succ_cons]
    exact compare_at n l m (by simpa using h) (by simpa using hn) fun j hj => by simpa using hs (j + 1) (by omega)
theorem compare_self : ∀ l : List UInt8, Lib.compareBytes l l = 0
  | [] => rfl
  | x :: l => by simp [Lib.compareBytes, UInt8.lt_irrefl, compare_self l]

theorem compare_order (a b : Lab) : Lib.compareBytes a.l b.l = order a b := by
  by_cases he : a = b
  · subst he
    rw [compare_self, order, if_pos (common_256.2 rfl)]
  · have hc : common a b ≠ 256 := fun h => he (common_256.1 h)
    have is := common_is a b
    have hlt : common a b < 256 := Nat.lt_of_le_of_ne is.le hc
    rw [order, if_neg hc]
    generalize common a b = n at *
    have ha := a.h
    have hb := b.h
    have hs : ∀ j, j < n / 8 → a.l.getD j 0 = b.l.getD j 0 := by
      intro j hj
      show a.get j = b.get j
      apply byte_ext
      intro k hk
      have := is.same (8 * j + k) (by omega)
      simpa [bit, show (8 * j + k) / 8 = j by omega, show (8 * j + k) % 8 = k by omega] using this
    rw [compare_at (n / 8) a.l b.l (by omega) (by omega) hs]
    have da : a.l.drop (n / 8) = a.get (n / 8) :: a.l.drop (n / 8 + 1) := by
      rw [List.drop_eq_getElem_cons (by omega)]
      simp [Lab.get, List.getD, show n / 8 < a.l.length by omega]
    have db : b.l.drop (n / 8) = b.get (n / 8) :: b.l.drop (n / 8 + 1) := by
      rw [List.drop_eq_getElem_cons (by omega)]
      simp [Lab.get, List.getD, show n / 8 < b.l.length by omega]
    rw [da, db, Lib.compareBytes]
    have hbits : ∀ j, j < n % 8 → bitB (a.get (n / 8)) j = bitB (b.get (n / 8)) j := by
      intro j hj
      have := is.same (8 * (n / 8) + j) (by omega)
      simpa [bit, show (8 * (n / 8) + j) / 8 = n / 8 by omega, show (8 * (n / 8) + j) % 8 = j by omega] using this
    have ho := is.other hlt
    have b1 := bit_lt a n
    have b2 := bit_lt b n
    have c : bit a n = 0 ∧ bit b n = 1 ∨ bit a n = 1 ∧ bit b n = 0 := by omega
    rcases c with ⟨c1, c2⟩ | ⟨c1, c2⟩
    · rw [if_pos (byte_lt _ _ (n % 8) (by omega) hbits c1 c2), c1]
      rfl
    · have hlt' := byte_lt _ _ (n % 8) (by omega) (fun j hj => (hbits j hj).symm) c2 c1
      rw [if_neg (fun h => absurd (UInt8.lt_trans h hlt') (UInt8.lt_irrefl _)), if_pos hlt', c1]
      rfl
/-! ### The walk's words -/
theorem i64_and (a b : Nat) (ha : a < 9223372036854775808) (hb : b < 9223372036854775808) : bits .and .i64 (a : Int) (b : Int) = ((a &&& b : Nat) : Int) := by
  have hx : a &&& b < 2 ^ 63 := Nat.and_lt_two_pow _ (by omega)
  show IntKind.i64.wrap ((BitVec.ofInt 64 (a : Int) &&& BitVec.ofInt 64 (b : Int)).toNat : Int) = _
  rw [BitVec.toNat_and, ofInt_u64 a (by omega), ofInt_u64 b (by omega)]
  exact IntWalk.i64_in _ (by omega)
theorem i64_or (a b : Nat) (ha : a < 9223372036854775808) (hb : b < 9223372036854775808) : bits .or .i64 (a : Int) (b : Int) = ((a ||| b : Nat) : Int) := by
  have hx : a ||| b < 2 ^ 63 := Nat.or_lt_two_pow (by omega) (by omega)
  show IntKind.i64.wrap ((BitVec.ofInt 64 (a : Int) ||| BitVec.ofInt 64 (b : Int)).toNat : Int) = _
  rw [BitVec.toNat_or, ofInt_u64 a (by omega), ofInt_u64 b (by omega)]
  exact IntWalk.i64_in _ (by omega)
theorem div_pow_cast (x k : Nat) : (x : Int) / 2 ^ k = ((x / 2 ^ k : Nat) : Int) := by
  rw [Int.natCast_ediv, Int.natCast_pow]
  rfl
theorem bit_walk (a : Lab) (i : Int) (h0 : 0 ≤ i) (h1 : i < 256) :
    bits .and .i64 (Go.RowKit.wrap64 (((a.get (i / 8).toNat).toNat : Int) / 2 ^ (7 - i % 8).toNat)) 1 = (bit a i.toNat : Int) := by
  have hx := (a.get (i / 8).toNat).toNat_lt
  have hle : (a.get (i / 8).toNat).toNat / 2 ^ (7 - i % 8).toNat ≤ (a.get (i / 8).toNat).toNat := Nat.div_le_self _ _
  rw [div_pow_cast]
  have e : bit a i.toNat = (a.get (i / 8).toNat).toNat / 2 ^ (7 - i % 8).toNat % 2 := by
    rw [bit, bitB, show (i / 8).toNat = i.toNat / 8 by omega, show (7 - i % 8).toNat = 7 - i.toNat % 8 by omega]
  rw [e]
  generalize (a.get (i / 8).toNat).toNat / 2 ^ (7 - i % 8).toNat = q at *
  rw [IntWalk.wrap64_in _ ⟨by omega, by omega⟩, show (1 : Int) = ((1 : Nat) : Int) from rfl, i64_and _ _ (by omega) (by omega), nat_mask1]
end Go.Proofs.YtgegipijappfhaaDoor
namespace Go.Proofs.YtgegipijappfhaaDoor
open Go Go.RowKit

theorem below_drewN {B : Nat} {a w : World} (h : Below B a w) (n : Nat) : Below B a (w.drewN n) := ⟨h.os, h.tape, h.output, h.size, h.block⟩
theorem ret_int {k : IntKind} {a b : Int} (h : a = b) : Ending.returned (.int k a) = .returned (.int k b) := by rw [h]

def bitI (a : Lab) (i : Int) : Int := if 0 ≤ i ∧ i < 256 then (bit a i.toNat : Int) else 0

theorem half_walk (x k : Nat) : ((x : Int) / 2 ^ k) / 2 = (x : Int) / 2 ^ (k + 1) := by
  rw [div_pow_cast, div_pow_cast, Nat.pow_succ, ← Nat.div_div_eq_div_mul]
  rfl

theorem run_bytes_row (w : World) (b1 : Nat) (x : Lab) (h1 : rowAt w b1 = some (cellsL x)) (c : Nat) : (Extern.Bytes.bytesOf (.slice (some ⟨b1, 0, none⟩) 32 c)).run Tryd.prog w = .ok ⟨x.l.toArray⟩ w := by
  have hl := Lib.run_loadBytesX (P := Tryd.prog) w (x.l.map fun b => (b.toNat : Int)) ⟨b1, 0, none⟩ .empty (fun j v hj => by
    have hjl : j < x.l.length := by simpa using (List.getElem?_eq_some_iff.1 hj).1
    have e : (⟨b1, 0, none⟩ : Addr).add j = ⟨b1, j, none⟩ := by unfold Addr.add; split <;> simp_all
    have := x.h
    rw [e, cell_of_rowAt h1, get_cellsL x j (by omega)]
    simp only [List.getElem?_map, Option.map_eq_some_iff] at hj
    obtain ⟨u, hu, rfl⟩ := hj
    simp [Lab.get, List.getD, hu])
  have e : Lib.bytesOf (x.l.map fun b => (b.toNat : Int)) = x.l := by
    have hid : ((fun n : Int => UInt8.ofNat n.toNat) ∘ fun b : UInt8 => (b.toNat : Int)) = id := by
      funext b
      simp
    simp [Lib.bytesOf, hid]
  rw [e] at hl
  simp only [List.length_map, x.h] at hl
  simp only [Extern.Bytes.bytesOf]
  rw [hl]
  simp
theorem run_compare_rows (w : World) (b1 b2 : Nat) (x y : Lab) (h1 : rowAt w b1 = some (cellsL x)) (h2 : rowAt w b2 = some (cellsL y)) (c d : Nat) :
    (Extern.BytealgCompare.compare #[.slice (some ⟨b1, 0, none⟩) 32 c, .slice (some ⟨b2, 0, none⟩) 32 d]).run Tryd.prog w = .ok (.int .i64 (order x y)) w := by
  have l1 := run_bytes_row w b1 x h1 c
  have l2 := run_bytes_row w b2 y h2 d
  change Sem.run Tryd.prog (do pure (goInt (Extern.BytealgCompare.cmp (← Extern.Bytes.bytesOf (.slice (some ⟨b1, 0, none⟩) 32 c)) (← Extern.Bytes.bytesOf (.slice (some ⟨b2, 0, none⟩) 32 d))))) w = _
  simp only [Sem.run_bind, l1, l2, Result.andThen_ok, Sem.run_pure, Lib.cmp_eq, compare_order]
  rfl
end Go.Proofs.YtgegipijappfhaaDoor
namespace Go.Proofs.YtgegipijappfhaaDoor
open Go Go.RowKit

theorem rowAt_past {W w' : World} (h : Below W.heap.size W w') {b : Nat} {c : Array Value} (hc : rowAt W b = some c) : rowAt w' b = some c :=
  (rowAt_below h (lt_of_rowAt hc)).trans hc
theorem Below.step {a W w' : World} (h : Below a.heap.size a W) (k : Below W.heap.size W w') : Below a.heap.size a w' := h.trans (k.mono h.size)
theorem below_past {B : Nat} {a W w' : World} (h : Below B a W) (k : Below W.heap.size W w') (hB : B ≤ W.heap.size) : Below B a w' := h.trans (k.mono hB)

/-- A world in which all that lay in another one is as it was. -/
structure Past (W : World) where
  w : World
  h : Below W.heap.size W w
instance (W : World) : Nonempty (Past W) := ⟨⟨W, Below.refl _ _⟩⟩
theorem Past.row {W : World} {b : Nat} {c : Array Value} (hc : rowAt W b = some c) (x : Past W) : rowAt x.w b = some c := rowAt_past x.h hc
theorem Past.cell {W : World} {p : Addr} (hp : p.block < W.heap.size) (x : Past W) : x.w.cell? p = W.cell? p := x.h.cell hp
theorem Past.call {P : Program} {W : World} {f : FuncId} {args : Array Value} {v : Value} {x : Past W}
    (h : Calls P f args x.w fun e w' => e = .returned v ∧ Below x.w.heap.size x.w w') : Calls P f args x.w fun e w'' => e = .returned v ∧ ∃ y : Past W, w'' = y.w :=
  h.mono fun _ w'' ⟨he, hb⟩ => ⟨he, ⟨w'', Below.step x.h hb⟩, rfl⟩
theorem Past.call_same {P : Program} {W : World} {f : FuncId} {args : Array Value} {v : Value} {x : Past W}
    (h : Calls P f args x.w fun e w' => e = .returned v ∧ w' = x.w) : Calls P f args x.w fun e w'' => e = .returned v ∧ ∃ y : Past W, w'' = y.w :=
  h.mono fun _ _ ⟨he, hb⟩ => ⟨he, x, hb⟩

theorem wp_region_past {P : Program} {id : Nat} {Q : Exit → Act → World → Prop} {a : Act} {w : World} {l : List Oper} (hm : P.follows .mixedOrders = true) (hB : Region.lexB .any l.toArray = true)
    (h : wpQuiet P l.toArray (fun w' => ∃ x : Past w, w' = x.w) (fun a' => ∀ w', (∃ x : Past w, w' = x.w) → Q .normal a' w') l a) : (Code.region id l.toArray true).wp P Q a w :=
  wp_region_quiet (C := fun w' => ∃ x : Past w, w' = x.w) hm hB ⟨⟨_, (Below.refl _ _).drew⟩, rfl⟩ (by simpa using h)
end Go.Proofs.YtgegipijappfhaaDoor
namespace Go.Proofs.YtgegipijappfhaaDoor
open Go Go.RowKit

def hexDigits : List UInt8 := [48, 49, 50, 51, 52, 53, 54, 55, 56, 57, 97, 98, 99, 100, 101, 102]
def dig (c : UInt8) : Int := Lib.indexByte hexDigits c
theorem dig_range : ∀ n : Fin 256, -1 ≤ dig (UInt8.ofNat n.val) ∧ dig (UInt8.ofNat n.val) ≤ 15 := by decide +kernel
theorem dig_lo (c : UInt8) : -1 ≤ dig c := u8_all (p := fun c => -1 ≤ dig c) (fun n => (dig_range n).1) c
theorem dig_hi (c : UInt8) : dig c ≤ 15 := u8_all (p := fun c => dig c ≤ 15) (fun n => (dig_range n).2) c

theorem dig_first (c : UInt8) (k : Nat) (hk : k ≤ 16) (h : ∀ j : Nat, j < k → hexDigits[j]? ≠ some c) : (k = 16 → dig c = -1) ∧ (hexDigits[k]? = some c → dig c = k) := by
  by_cases hd : dig c = -1
  · exact ⟨fun _ => hd, fun e => absurd e (Lib.indexByte_none hd k)⟩
  · have := dig_lo c
    obtain ⟨o, ho⟩ : ∃ o : Nat, dig c = o := ⟨(dig c).toNat, by omega⟩
    obtain ⟨h1, h2⟩ := Lib.indexByte_some ho
    have ho16 : o < 16 := (List.getElem?_eq_some_iff.1 h1).1
    rcases Nat.lt_trichotomy o k with hl | hl | hl
    · exact absurd h1 (h o hl)
    · subst hl
      exact ⟨fun e => absurd e (by omega), fun _ => ho⟩
    · exact ⟨fun e => absurd e (by omega), fun e => absurd e (h2 k hl)⟩

theorem hex_at (i : Nat) (h : i < 16) (h' : i < (⟨#[48, 49, 50, 51, 52, 53, 54, 55, 56, 57, 97, 98, 99, 100, 101, 102]⟩ : ByteArray).size) :
    hexDigits[i]? = some ((⟨#[48, 49, 50, 51, 52, 53, 54, 55, 56, 57, 97, 98, 99, 100, 101, 102]⟩ : ByteArray)[i]'h') := by
  rw [List.getElem?_eq_getElem (show i < hexDigits.length from h)]
  rfl
theorem eq_of_beq_nat {x c : UInt8} (h : ((x.toNat : Int) == (c.toNat : Int)) = true) : c = x := by
  have h1 : (x.toNat : Int) = c.toNat := by simpa using h
  have h2 : x.toNat = c.toNat := by omega
  exact (UInt8.toNat_inj.1 h2).symm

/-- The byte of two digits; how far a text has digits. -/
def at_ (s : ByteArray) (i : Nat) : UInt8 := s.data.toList.getD i 0
def val (s : ByteArray) (j : Nat) : Nat := (16 * dig (at_ s (2 * j)) + dig (at_ s (2 * j + 1))).toNat
def okTo (s : ByteArray) (k : Nat) : Prop := ∀ j, j < k → 0 ≤ dig (at_ s (2 * j)) ∧ 0 ≤ dig (at_ s (2 * j + 1))
def readTo (s : ByteArray) (k : Nat) : Lab := ⟨(List.range 32).map fun j => if j < k then UInt8.ofNat (val s j) else 0, by simp⟩
theorem readTo_zero (s : ByteArray) : readTo s 0 = zeroLab := Lab.ext' fun j hj => by rw [zeroLab_get]; simp [readTo, Lab.get, hj]
theorem readTo_succ (s : ByteArray) (k : Nat) : (readTo s k).set k (UInt8.ofNat (val s k)) = readTo s (k + 1) := Lab.ext' fun j hj => by
  rw [Lab.get_set _ _ _ _ hj]
  have h1 : ∀ q, (readTo s q).get j = if j < q then UInt8.ofNat (val s j) else 0 := fun q => by simp [readTo, Lab.get, hj]
  rw [h1, h1]
  by_cases e : k = j
  · subst e; simp
  · have : (j < k + 1) ↔ (j < k) := by omega
    simp [e, this]
instance (s : ByteArray) (k : Nat) : Decidable (okTo s k) := by unfold okTo; infer_instance
theorem get_at (s : ByteArray) (i : Nat) (h : i < s.size) : s[i] = at_ s i := by
  have h2 : i < s.data.toList.length := by simpa using h
  unfold at_
  rw [List.getD_eq_getElem?_getD, List.getElem?_eq_getElem h2]
  rfl

theorem or_digits (P Q : Nat) (hP : P ≤ 15) (hQ : Q ≤ 15) : P * 16 ||| Q = 16 * P + Q := by
  have : ∀ (p q : Fin 16), p.val * 16 ||| q.val = 16 * p.val + q.val := by decide +kernel
  exact this ⟨P, by omega⟩ ⟨Q, by omega⟩
end Go.Proofs.YtgegipijappfhaaDoor
namespace Go.Proofs.YtgegipijappfhaaDoor
open Go Go.RowKit

theorem info_byte : (Tryd.prog.info? 5).map (fun i => (i.zero, i.size, i.bytes)) = some (some (.int .u8 0), 1, 1) := by kernel_rfl

def hexd (n : Nat) : UInt8 := hexDigits.getD n 0
def hexTo (a : Lab) (k : Nat) : List UInt8 := (List.range k).flatMap fun j => [hexd ((a.get j).toNat / 16), hexd ((a.get j).toNat % 16)]
theorem hexTo_succ (a : Lab) (k : Nat) : hexTo a (k + 1) = hexTo a k ++ [hexd ((a.get k).toNat / 16), hexd ((a.get k).toNat % 16)] := by
  simp [hexTo, List.range_succ]
theorem hexTo_length (a : Lab) (k : Nat) : (hexTo a k).length = 2 * k := by
  induction k with
  | zero => rfl
  | succ k ih => rw [hexTo_succ, List.length_append, ih]; simp; omega

theorem cells_put (l : List UInt8) (c : UInt8) : Lib.byteCells l ++ [.int .u8 c.toNat] = Lib.byteCells (l ++ [c]) := by
  simp [Lib.byteCells]
theorem cells_length (l : List UInt8) : (Lib.byteCells l).length = l.length := by
  simp [Lib.byteCells]

theorem run_add (w : World) (s t : ByteArray) (h : s.size + t.size < 1000000) : (Op.stringOp .add s t).run Tryd.prog w = .ok (.string (s ++ t)) w := by
  simp [Op.stringOp, go_sem]
  omega
theorem piece (n : Nat) (h : n < 16) : (⟨#[48, 49, 50, 51, 52, 53, 54, 55, 56, 57, 97, 98, 99, 100, 101, 102]⟩ : ByteArray).extract n (n + 1) = ⟨#[hexd n]⟩ := by
  have : ∀ k : Fin 16, (⟨#[48, 49, 50, 51, 52, 53, 54, 55, 56, 57, 97, 98, 99, 100, 101, 102]⟩ : ByteArray).extract k.val (k.val + 1) = ⟨#[hexd k.val]⟩ := by decide +kernel
  exact this ⟨n, h⟩
theorem pieces (x y : UInt8) : (⟨#[x]⟩ : ByteArray) ++ ⟨#[y]⟩ = ⟨#[x, y]⟩ := rfl
theorem hexTo_put (a : Lab) (i : Nat) : (⟨(hexTo a i).toArray⟩ : ByteArray) ++ ⟨#[hexd ((a.get i).toNat / 16), hexd ((a.get i).toNat % 16)]⟩ = ⟨(hexTo a (i + 1)).toArray⟩ := by
  rw [hexTo_succ]
  exact ByteArray.ext (by simp)
theorem digit_at (n : Nat) (h : n < 16) (h' : n < (⟨#[48, 49, 50, 51, 52, 53, 54, 55, 56, 57, 97, 98, 99, 100, 101, 102]⟩ : ByteArray).size) :
    (⟨#[48, 49, 50, 51, 52, 53, 54, 55, 56, 57, 97, 98, 99, 100, 101, 102]⟩ : ByteArray)[n]'h' = hexd n := by
  have := hex_at n h h'
  unfold hexd
  rw [List.getD_eq_getElem?_getD, this]
  rfl
theorem and_15 : ∀ x : Fin 256, x.val &&& 15 = x.val % 16 := by decide +kernel

end Go.Proofs.YtgegipijappfhaaDoor
namespace Go.Proofs.YtgegipijappfhaaDoor
open Go Go.RowKit

/-- A writer in a block of its own, holding these bytes and this error. -/
def WriterAt (B b : Nat) (bs : List UInt8) (err : Int) (w : World) : Prop :=
  ∃ ao cap, w.heap[b]? = some (.cells #[.slice ao bs.length cap, .int .i64 err] 84 (0, 0)) ∧ w.ownsRow B 5 1 (.slice ao bs.length cap) bs.length (Lib.byteCells bs) ∧ (Value.slice ao bs.length cap).ownBlock ≠ some b

/-- Block k holds no bytes. -/
def NoBytes (w : World) (k : Nat) : Prop := ∀ cs fr, w.heap[k]? ≠ some (.cells cs 5 fr)
/-- Below block B the world is as it was, but for block b; and so are all blocks that hold no bytes. -/
structure Near (B b : Nat) (w w' : World) : Prop where
  os : w'.os = w.os
  tape : w'.tape = w.tape
  output : w'.output = w.output
  size : w.heap.size ≤ w'.heap.size
  block : ∀ k, k < B → k ≠ b → w'.heap[k]? = w.heap[k]?
  far : ∀ k, k < w.heap.size → k ≠ b → NoBytes w k → w'.heap[k]? = w.heap[k]?
theorem Near.refl (B b : Nat) (w : World) : Near B b w w := ⟨rfl, rfl, rfl, Nat.le_refl _, fun _ _ _ => rfl, fun _ _ _ _ => rfl⟩
theorem Near.trans {B b : Nat} {a w w' : World} (h : Near B b a w) (k : Near B b w w') : Near B b a w' :=
  ⟨k.os.trans h.os, k.tape.trans h.tape, k.output.trans h.output, Nat.le_trans h.size k.size, fun i hi hn => (k.block i hi hn).trans (h.block i hi hn), fun i hi hn hb => by
    have e := h.far i hi hn hb
    refine (k.far i (Nat.lt_of_lt_of_le hi h.size) hn fun cs fr => ?_).trans e
    rw [e]
    exact hb cs fr⟩
theorem Near.mono {B C b : Nat} {w w' : World} (h : Near B b w w') (hC : C ≤ B) : Near C b w w' := ⟨h.os, h.tape, h.output, h.size, fun k hk => h.block k (Nat.lt_of_lt_of_le hk hC), h.far⟩
theorem _root_.Go.RowKit.Below.near {B b : Nat} {w w' : World} (h : Below w.heap.size w w') (hB : B ≤ w.heap.size) : Near B b w w' := ⟨h.os, h.tape, h.output, h.size, fun k hk _ => h.block k (Nat.lt_of_lt_of_le hk hB), fun k hk _ _ => h.block k hk⟩
theorem Near.setCell {B b : Nat} {a w : World} (h : Near B b a w) {p : Addr} (hp : p.block = b) (u : Value) : Near B b a (w.setCell p u) :=
  h.trans ⟨rfl, rfl, rfl, by simp [World.setCell], fun k _ hn => Below.heap_setCell _ _ _ _ (by omega), fun k _ hn _ => Below.heap_setCell _ _ _ _ (by omega)⟩
theorem Near.setRow {B b : Nat} {a w : World} (h : Near B b a w) {g : Nat} (hg : B ≤ g) (ha : a.heap.size ≤ g) (c : Array Value) : Near B b a (w.setRow g c) :=
  ⟨h.os, h.tape, h.output, by simpa using h.size, fun k hk hn => (setRow_other w g k c (by omega)).trans (h.block k hk hn), fun k hk hn hb => (setRow_other w g k c (by omega)).trans (h.far k hk hn hb)⟩
/-- Below both it is as it was. -/
theorem Near.below {B b C : Nat} {w w' : World} (h : Near B b w w') (hB : C ≤ B) (hb : C ≤ b) : Below C w w' :=
  ⟨h.os, h.tape, h.output, h.size, fun k hk => h.block k (by omega) (by omega)⟩
theorem Near.row {B b k : Nat} {w w' : World} (h : Near B b w w') (hk : k < B) (hn : k ≠ b) : rowAt w' k = rowAt w k := by
  unfold rowAt
  rw [h.block k hk hn]
theorem Near.grown {B b : Nat} {w w' : World} {v : Value} {n : Nat} {xs : List Value} (ho : w.ownsRow B 5 1 v n xs) (hg : w.grownBy w' v.ownBlock) (hB : B ≤ w.heap.size) : Near B b w w' :=
  ⟨hg.os, hg.tape, hg.output, hg.size, fun k hk _ => hg.block k (by omega) (fun e => by have := (ho.lt k e.symm).1; omega), fun k hk _ hb => hg.block k hk (fun e => by
    rcases ho.2 with ⟨h1, _⟩ | ⟨g, cap, cur, h1, _, h3, _⟩
    · rw [h1] at e; cases e
    · rw [h1] at e
      have : k = g := by simpa [Value.ownBlock] using e
      subst this
      exact hb _ _ h3)⟩

theorem heap_put {w : World} {b j : Nat} {cs : Array Value} {T : TypeId} {fr : Nat × Nat} (h : w.heap[b]? = some (.cells cs T fr)) (x : Value) : (w.setCell ⟨b, j, none⟩ x).heap[b]? = some (.cells (cs.setIfInBounds j x) T fr) := by
  simp [World.setCell, Array.getElem?_modify, h]
theorem heap_lt {w : World} {b : Nat} {o : Obj} (h : w.heap[b]? = some o) : b < w.heap.size := (Array.getElem?_eq_some_iff.1 h).1

theorem Wfail_any (B b : Nat) (bs : List UInt8) (e err : Int) (w : World) (h : WriterAt B b bs err w) :
    Calls Tryd.prog 75 #[.pointer (some ⟨b, 0, none⟩), .int .i64 e] w fun r w' => r = .returned (.tuple #[]) ∧ WriterAt B b [] (if err = 0 then e else err) w' ∧ Near B b w w' := by
  obtain ⟨ao, cap, hrow, hown, hne⟩ := h
  have h0 := (Lib.cell_of_heap hrow 0).trans (rfl : _ = some (Value.slice ao bs.length cap))
  have h1 := (Lib.cell_of_heap hrow 1).trans (rfl : _ = some (Value.int .i64 err))
  have f0 := Lib.frozen_of_heap hrow 0
  have f1 := Lib.frozen_of_heap hrow 1
  by_cases h : err = 0
  · subst h
    have k1 : WriterAt B b [] (if (0 : Int) = 0 then e else 0) ((w.setCell ⟨b, 1, none⟩ (.int .i64 e)).setCell ⟨b, 0, none⟩ (.slice none 0 0)) :=
      ⟨none, 0, heap_put (heap_put hrow _) _, World.ownsRow_nil _ _ _ _, by simp [Value.ownBlock]⟩
    have b1 : Near B b w ((w.setCell ⟨b, 1, none⟩ (.int .i64 e)).setCell ⟨b, 0, none⟩ (.slice none 0 0)) := ((Near.refl B b w).setCell (p := ⟨b, 1, none⟩) rfl _).setCell (p := ⟨b, 0, none⟩) rfl _
    go_enter Tryd.func75, Tryd.ntmps75
    go_wp2_with fail
    go_end0
    exact ⟨rfl, k1, b1⟩
  · have hq : (err == 0) = false := by rw [beq_eq_false_iff_ne]; exact h
    have k1 : WriterAt B b [] err (w.setCell ⟨b, 0, none⟩ (.slice none 0 0)) := by
      exact ⟨none, 0, heap_put hrow _, World.ownsRow_nil _ _ _ _, by simp [Value.ownBlock]⟩
    have b1 : Near B b w (w.setCell ⟨b, 0, none⟩ (.slice none 0 0)) := (Near.refl B b w).setCell (p := ⟨b, 0, none⟩) rfl _
    go_enter Tryd.func75, Tryd.ntmps75
    go_wp2_with fail
    go_end0
    exact ⟨rfl, k1, b1⟩

theorem cells_str (s : ByteArray) : Lib.strCells s = Lib.byteCells s.data.toList := by
  simp [Lib.strCells, Lib.byteCells]
theorem cells_append (l m : List UInt8) : Lib.byteCells (l ++ m) = Lib.byteCells l ++ Lib.byteCells m := by
  simp [Lib.byteCells]

/-- What add makes of the bytes. -/
def added (bs : List UInt8) (err : Int) (s : List UInt8) : List UInt8 := if err = 0 ∧ bs.length ≤ 65536 then bs ++ s else bs
set_option maxRecDepth 100000 in
set_option maxHeartbeats 1000000 in
theorem Wadd_any (B b : Nat) (bs : List UInt8) (err : Int) (s : ByteArray) (w : World) (h : WriterAt B b bs err w) (hs : s.size ≤ 100000) (hBw : B ≤ w.heap.size) :
    Calls Tryd.prog 77 #[.pointer (some ⟨b, 0, none⟩), .string s] w fun r w' => r = .returned (.tuple #[]) ∧ WriterAt B b (added bs err s.data.toList) err w' ∧ Near B b w w' := by
  have hall := h
  obtain ⟨ao, cap, hrow, hown, hne⟩ := h
  have h0 := (Lib.cell_of_heap hrow 0).trans (rfl : _ = some (Value.slice ao bs.length cap))
  have h1 := (Lib.cell_of_heap hrow 1).trans (rfl : _ = some (Value.int .i64 err))
  have f0 := Lib.frozen_of_heap hrow 0
  have f1 := Lib.frozen_of_heap hrow 1
  by_cases he : err = 0
  · subst he
    by_cases hl : bs.length ≤ 65536
    · have hl' : decide ((bs.length : Int) ≤ 65536) = true := decide_eq_true (by omega)
      have HA : Hid (added bs 0 s.data.toList = bs ++ s.data.toList) := Lib.hid (if_pos ⟨rfl, hl⟩)
      obtain ⟨i0, hi, hz0, hz1, hz2⟩ := info_parts info_byte
      go_enter Tryd.func77, Tryd.ntmps77
      go_wp2_with (at_builtin; refine Lib.wpList_append_own_string _ rfl _ _ 54 9 rfl B 5 i0 Tryd.underlying54 Tryd.underlying9 hi hz0 hz1 hz2 _ _ _ rfl hown s rfl ?len ?bytes ?base ?_)
      case len => unfold maxLen; omega
      case bytes => omega
      case base => exact hBw
      intro v2 w2 hown2 hgrow _
      have hlt := heap_lt hrow
      have hrow2 : w2.heap[b]? = some (.cells #[.slice ao bs.length cap, .int .i64 0] 84 (0, 0)) := by
        rw [hgrow.block b hlt (fun e => hne e.symm)]
        exact hrow
      have d0 := (Lib.cell_of_heap hrow2 0).trans (rfl : _ = some (Value.slice ao bs.length cap))
      have d1 := (Lib.cell_of_heap hrow2 1).trans (rfl : _ = some (Value.int .i64 0))
      have g0 := Lib.frozen_of_heap hrow2 0
      have hlen : (bs ++ s.data.toList).length = bs.length + s.size := by rw [List.length_append]; rfl
      have hslice : ∃ ao2 cap2, v2 = .slice ao2 (bs.length + s.size) cap2 := by
        rcases hown2.2 with ⟨hv, h0⟩ | ⟨g, cap, cur, hv, _⟩
        · exact ⟨none, 0, by rw [hv, h0]⟩
        · exact ⟨_, _, hv⟩
      obtain ⟨ao2, cap2, rfl⟩ := hslice
      rw [← hlen, cells_str, ← cells_append] at hown2
      rw [← hlen]
      clear hlen
      generalize bs ++ s.data.toList = l at *
      have hput : w2.heap[b]? = some (.cells #[.slice ao bs.length cap, .int .i64 0] 84 (0, 0)) := hrow2
      have hne2 : (Value.slice ao2 l.length cap2).ownBlock ≠ some b := Lib.ownBlock_ne hown2 hrow2 (by decide)
      have k1 : WriterAt B b l 0 (w2.setCell ⟨b, 0, none⟩ (.slice ao2 l.length cap2)) :=
        ⟨ao2, cap2, heap_put hrow2 _, hown2.kept (row := some b) ⟨rfl, rfl, rfl, by simp [World.setCell], fun k _ hk => Below.heap_setCell _ _ _ _ (fun e => hk (by simp [e]))⟩ (Or.inr hne2), hne2⟩
      have b1 : Near B b w (w2.setCell ⟨b, 0, none⟩ (.slice ao2 l.length cap2)) := (Near.grown hown hgrow hBw).setCell (p := ⟨b, 0, none⟩) rfl _
      go_wp2_with fail
      go_end0
      exact ⟨rfl, by rw [HA.out]; exact k1, b1⟩
    · have hl' : decide ((bs.length : Int) ≤ 65536) = false := decide_eq_false (by omega)
      have HA : Hid (added bs 0 s.data.toList = bs) := Lib.hid (if_neg (by omega))
      have HK := Lib.hid hall
      clear hall
      go_enter Tryd.func77, Tryd.ntmps77
      go_wp2_with fail
      go_end0
      exact ⟨rfl, by rw [HA.out]; exact HK.out, Near.refl _ _ _⟩
  · have hq : (err == 0) = false := by rw [beq_eq_false_iff_ne]; exact he
    have HA : Hid (added bs err s.data.toList = bs) := Lib.hid (if_neg (fun e => he e.1))
    have HK := Lib.hid hall
    clear hall
    go_enter Tryd.func77, Tryd.ntmps77
    go_wp2_with fail
    go_end0
    exact ⟨rfl, by rw [HA.out]; exact HK.out, Near.refl _ _ _⟩

set_option maxRecDepth 100000 in
theorem run_own_string (w : World) (B : Nat) (ao : Option Addr) (cap : Nat) (l : List UInt8) (h : w.ownsRow B 5 1 (.slice ao l.length cap) l.length (Lib.byteCells l)) :
    (convert 54 9 (.slice ao l.length cap)).run Tryd.prog w = .ok (.string ⟨l.toArray⟩) w := by
  rcases h.2 with ⟨hv, h0⟩ | ⟨g, cap', cur, hv, _⟩
  · have : l = [] := List.eq_nil_of_length_eq_zero h0
    subst this
    injection hv with e1 _ e2
    subst e1 e2
    exact run_convert_bytes_nil w _ _ Tryd.underlying54 Tryd.underlying5 _ _ _ Tryd.underlying9
  · injection hv with e1 _ e2
    subst e1 e2
    refine run_convert_bytes_back w _ _ _ ⟨g, 0, none⟩ _ l Tryd.underlying54 Tryd.underlying5 Tryd.underlying9 fun j hj => ?_
    exact h.cells (g := g) rfl j _ (by simp [Lib.byteCells, hj])

set_option maxRecDepth 100000 in
theorem Done_any (B b : Nat) (bs : List UInt8) (err : Int) (w : World) (h : WriterAt B b bs err w) :
    Calls Tryd.prog 43 #[.pointer (some ⟨b, 0, none⟩)] w fun r w' => r = .returned (if err ≠ 0 then .tuple #[.string ⟨#[]⟩, .int .i64 err] else if bs.length > 65536 then .tuple #[.string ⟨#[]⟩, .int .i64 2] else .tuple #[.string ⟨bs.toArray⟩, .int .i64 0]) ∧ Below w.heap.size w w' := by
  obtain ⟨ao, cap, hrow, hown, hne⟩ := h
  have h0 := (Lib.cell_of_heap hrow 0).trans (rfl : _ = some (Value.slice ao bs.length cap))
  have h1 := (Lib.cell_of_heap hrow 1).trans (rfl : _ = some (Value.int .i64 err))
  generalize hR : (if err ≠ 0 then Value.tuple #[.string ⟨#[]⟩, .int .i64 err] else if bs.length > 65536 then .tuple #[.string ⟨#[]⟩, .int .i64 2] else .tuple #[.string ⟨bs.toArray⟩, .int .i64 0]) = R
  by_cases he : err = 0
  · by_cases hl : bs.length ≤ 65536
    · have hl' : decide (65536 < (bs.length : Int)) = false := decide_eq_false (by omega)
      rw [if_neg (by omega), if_neg (by omega)] at hR
      have HR := Lib.hid hR
      clear hR
      subst he
      have hconv := run_own_string w B ao cap bs hown
      go_enter Tryd.func43, Tryd.ntmps43
      go_wp2_with fail
      try rw [hconv]
      try simp only [Result.andThen]
      try rw [Oper.upon_value]
      go_wp2_with fail
      go_ret2
      exact ⟨by rw [← HR.out]; rfl, Below.refl _ _⟩
    · have hl' : decide (65536 < (bs.length : Int)) = true := decide_eq_true (by omega)
      rw [if_neg (by omega), if_pos (by omega)] at hR
      have HR := Lib.hid hR
      clear hR
      subst he
      go_enter Tryd.func43, Tryd.ntmps43
      go_wp2_with fail
      go_ret2
      exact ⟨by rw [← HR.out]; rfl, Below.refl _ _⟩
  · have hq : (err != 0) = true := by simpa using he
    rw [if_pos he] at hR
    have HR := Lib.hid hR
    clear hR
    go_enter Tryd.func43, Tryd.ntmps43
    go_upto_region 2 with fail
    have fa := fun x : Past w => (x.cell (p := ⟨b, 1, none⟩) (heap_lt hrow)).trans h1
    refine wp_region_past (by kernel_rfl) (by kernel_rfl) ?_
    repeat (go_big_quiet_step (fail))
    refine wpQuiet_nil ?_
    intro w2 hw2
    obtain ⟨⟨wn, hn⟩, rfl⟩ := hw2
    try dsimp only
    go_wp2_with fail
    go_ret2
    exact ⟨by rw [← HR.out]; rfl, hn⟩

theorem WriterAt.below {B b : Nat} {bs : List UInt8} {err : Int} {w w' : World} (h : WriterAt B b bs err w) (k : Below w.heap.size w w') : WriterAt B b bs err w' := by
  obtain ⟨ao, cap, hrow, hown, hne⟩ := h
  exact ⟨ao, cap, (k.block b (heap_lt hrow)).trans hrow, hown.kept (row := none) ⟨k.os, k.tape, k.output, k.size, fun j hj _ => k.block j hj⟩ (by cases hv : (Value.slice ao bs.length cap).ownBlock <;> simp), hne⟩

/-- The cells of a number's bytes, as many laid as i. -/
def numCell (n k i j : Nat) : Nat := if j < k ∧ k - 1 - j < i then n / 256 ^ (k - 1 - j) % 256 else 0
def numRow (n k i : Nat) : Array Value := (Value.int .u8 k :: (List.range 8).map fun j => Value.int .u8 (numCell n k i j)).toArray
theorem numRow_zero (n k : Nat) : numRow n k 0 = #[.int .u8 k, .int .u8 0, .int .u8 0, .int .u8 0, .int .u8 0, .int .u8 0, .int .u8 0, .int .u8 0, .int .u8 0] := by
  simp [numRow, numCell, List.range_succ]
theorem numRow_put (n k i : Nat) (hk : k ≤ 8) (hi : i < k) : (numRow n k i).setIfInBounds (k - i) (.int .u8 ((n / 256 ^ i % 256 : Nat) : Int)) = numRow n k (i + 1) := by
  apply Array.ext_getElem?
  intro j
  rw [Array.getElem?_setIfInBounds]
  unfold numRow
  by_cases e : k - i = j
  · subst e
    obtain ⟨q, hq⟩ : ∃ q, k - i = q + 1 := ⟨k - i - 1, by omega⟩
    have h1 : q < 8 := by omega
    have h2 : numCell n k (i + 1) q = n / 256 ^ i % 256 := by
      rw [numCell, if_pos (by omega), show k - 1 - q = i by omega]
    simp [hq, h1, h2]
  · rw [if_neg e]
    cases j with
    | zero => simp
    | succ j =>
      by_cases h1 : j < 8
      · have h2 : numCell n k (i + 1) j = numCell n k i j := by
          have h3 : (j < k ∧ k - 1 - j < i + 1) ↔ (j < k ∧ k - 1 - j < i) := by omega
          simp only [numCell, h3]
        simp [h1, h2]
      · simp [h1]
theorem numRow_get (n k i d : Nat) (h0 : 0 < d) (h1 : d < 9) : (numRow n k i)[d]? = some (.int .u8 (numCell n k i (d - 1))) := by
  obtain ⟨q, rfl⟩ : ∃ q, d = q + 1 := ⟨d - 1, by omega⟩
  have : q < 8 := by omega
  simp [numRow, this]
def numLen (n : Nat) : Nat := (Lib.bitLen n + 7) / 8
def numBytes (n : Nat) : List UInt8 := UInt8.ofNat (numLen n) :: (List.range (numLen n)).map fun j => UInt8.ofNat (n / 256 ^ (numLen n - 1 - j))
theorem numLen_le (n : Nat) (h : n < 9223372036854775808) : numLen n ≤ 8 := by
  have := Lib.bitLen_le n 64 (by omega) (by omega)
  unfold numLen
  omega
theorem numBytes_length (n : Nat) : (numBytes n).length = numLen n + 1 := by simp [numBytes]

theorem numRow_bytes (n k : Nat) (hk : numLen n = k) (hk8 : k ≤ 8) (j : Nat) (hj : j < (numBytes n).length) : (numRow n k k)[j]? = some (.int .u8 ((numBytes n)[j].toNat : Int)) := by
  subst hk
  rw [numBytes_length] at hj
  cases j with
  | zero =>
    have : numLen n % 256 = numLen n := by omega
    simp [numRow, numBytes, this]
  | succ j =>
    have h1 : j < 8 := by omega
    have h2 : numCell n (numLen n) (numLen n) j = n / 256 ^ (numLen n - 1 - j) % 256 := by rw [numCell, if_pos (by omega)]
    simp [numRow, numBytes, h1, h2]

set_option maxRecDepth 100000 in
theorem Number_neg (B b : Nat) (bs : List UInt8) (err n : Int) (w : World) (h : WriterAt B b bs err w) (h0 : n < 0) :
    Calls Tryd.prog 41 #[.pointer (some ⟨b, 0, none⟩), .int .i64 n] w fun r w' => r = .returned (.tuple #[]) ∧ WriterAt B b [] (if err = 0 then 1 else err) w' ∧ Near B b w w' := by
  generalize hE : (if err = 0 then 1 else err) = E
  have HF : ∀ w, WriterAt B b bs err w → Calls Tryd.prog 75 #[.pointer (some ⟨b, 0, none⟩), .int .i64 1] w fun r w' => r = .returned (.tuple #[]) ∧ WriterAt B b [] E w' ∧ Near B b w w' := fun w h => by
    have := Wfail_any B b bs 1 err w h
    rwa [hE] at this
  clear hE
  go_enter Tryd.func41, Tryd.ntmps41
  go_wp2_with fail
  refine (HF _ h).mono ?_
  rintro e w1 ⟨rfl, k1, b1⟩
  go_wp2_with fail
  exact bodyPost_ret (results_none rfl _ _ _) rfl ⟨rfl, k1, b1⟩

set_option maxRecDepth 100000 in
theorem Number_any (B b : Nat) (bs : List UInt8) (err : Int) (n : Nat) (w : World) (h : WriterAt B b bs err w) (hn : n < 9223372036854775808) (hBw : B ≤ w.heap.size) :
    Calls Tryd.prog 41 #[.pointer (some ⟨b, 0, none⟩), .int .i64 n] w fun r w' => r = .returned (.tuple #[]) ∧ WriterAt B b (added bs err (numBytes n)) err w' ∧ Near B b w w' := by
  obtain ⟨m, hm⟩ : ∃ m : Int, m = (n : Int) := ⟨_, rfl⟩
  rw [← hm]
  have h0 : 0 ≤ m := by omega
  have h1 : m < 9223372036854775808 := by omega
  have hw : IntKind.u64.wrap m = m := by
    have : (2 : Int) ^ IntKind.u64.bits = 18446744073709551616 := rfl
    show m % 2 ^ IntKind.u64.bits = m
    rw [this]
    omega
  have hk8 := numLen_le n hn
  obtain ⟨k, hk⟩ : ∃ k, numLen n = k := ⟨_, rfl⟩
  rw [hk] at hk8
  have hmn : m.toNat = n := by omega
  have hk2 : ((Lib.bitLen m.toNat : Int) + 7) / 8 = k := by rw [hmn, ← hk, numLen]; omega
  have HK := Lib.hid hk
  have HM := Lib.hid hm
  have HZ := Lib.hid (numRow_zero n k)
  have HW := Lib.hid h
  clear hk hn h hm hmn
  go_enter Tryd.func41, Tryd.ntmps41
  go_wp2_with fail
  refine (Tryd.bits_Len64 m _ h0 (by omega)).mono ?_
  rintro e w1 ⟨rfl, hw1⟩
  subst hw1
  go_wp2_with fail
  rw [← HZ.out, hk2]
  have r0 : rowAt (w1.alloc (.cells (numRow n k 0) 130)) w1.heap.size = some (numRow n k 0) := rowAt_alloc_at _ _ _ _ rfl
  have b0 : Below w1.heap.size w1 (w1.alloc (.cells (numRow n k 0) 130)) := (Below.refl _ _).alloc (Nat.le_refl _) _
  generalize hg : w1.heap.size = g at *
  generalize w1.alloc (.cells (numRow n k 0) 130) = W at *
  go_loopw [20] (fun t wr => ∃ i : Nat, i ≤ k ∧ t = .int .i64 i ∧ rowAt wr g = some (numRow n k i) ∧ Below g w1 wr) (fun t _ => (k - intOf t).toNat)
  case atStart => exact ⟨0, Nat.zero_le _, rfl, r0, b0⟩
  case round =>
    obtain ⟨i, hi, rfl, k0, b5⟩ := hrel
    clear r0 b0
    by_cases hlt : i < k
    · have hlt' : (i : Int) < k := by omega
      obtain ⟨d, hd⟩ : ∃ d, k - i = d := ⟨_, rfl⟩
      have hsub : (k : Int) - (i : Int) = (d : Int) := by omega
      have hd9 : (d : Int) < 9 := by omega
      have c1 := (cell_of_rowAt k0 d).trans (numRow_get n k i d (by omega) (by omega))
      have f1 := frozen_of_rowAt k0 d
      have hi8 : (i : Int) < 8 := by omega
      go_wp2_with fail
      have hval : m / 2 ^ (8 * i) % 256 = ((n / 256 ^ i % 256 : Nat) : Int) := by
        rw [HM.out, div_pow_cast, Nat.pow_mul]
        rfl
      rw [hval]
      have hput := numRow_put n k i hk8 hlt
      rw [hd] at hput
      refine ⟨⟨i + 1, hlt, by go_num, ?_, Below.setCell b5 (Nat.le_refl g) _⟩, by simp [intOf]; omega⟩
      rw [← hput]
      exact rowAt_setCell_same k0 d _
    · obtain rfl : i = k := by omega
      have hi9 : (i : Int) < 9 := by omega
      have hi10 : 1 + (i : Int) ≤ 9 := by omega
      have hi0 : 0 ≤ 1 + (i : Int) := by omega
      have hlen : (numBytes n).length = 1 + i := by rw [numBytes_length, HK.out]; omega
      have hconv : (convert 54 9 (.slice (some ⟨g, 0, none⟩) (1 + i) 9)).run Tryd.prog wr = .ok (.string ⟨(numBytes n).toArray⟩) wr := by
        rw [← hlen]
        refine run_convert_bytes_back wr _ _ _ ⟨g, 0, none⟩ _ _ Tryd.underlying54 Tryd.underlying5 Tryd.underlying9 fun j hj => ?_
        rw [show (⟨g, 0, none⟩ : Addr).add j = ⟨g, j, none⟩ by simp [Addr.add]; exact fun e => e.symm, cell_of_rowAt k0]
        exact numRow_bytes n i HK.out hk8 j hj
      have hsz : (ByteArray.mk (numBytes n).toArray).size ≤ 100000 := by
        show (numBytes n).toArray.size ≤ 100000
        rw [List.size_toArray, hlen]
        have : i ≤ 8 := hk8
        omega
      have HA := Lib.hid (Wadd_any B b bs err ⟨(numBytes n).toArray⟩ wr (HW.out.below (by rw [hg]; exact b5)) hsz (Nat.le_trans hBw (by rw [← hg]; exact b5.size)))
      clear hlen hsz
      go_wp2_with fail
      refine HA.out.mono ?_
      rintro e w2 ⟨rfl, k1, b1⟩
      have b2 : Near B b w1 w2 := (Below.near (by rw [hg]; exact b5) (by rw [hg]; exact hBw)).trans b1
      go_wp2_with fail
      go_end0
      exact ⟨rfl, by simpa using k1, b2⟩
end Go.Proofs.YtgegipijappfhaaDoor
namespace Go.Proofs.YtgegipijappfhaaDoor
open Go Go.RowKit

set_option maxRecDepth 100000 in
theorem Text_big (B b : Nat) (bs : List UInt8) (err : Int) (s : ByteArray) (w : World) (h : WriterAt B b bs err w) (hs : 65536 < s.size) :
    Calls Tryd.prog 54 #[.pointer (some ⟨b, 0, none⟩), .string s] w fun r w' => r = .returned (.tuple #[]) ∧ WriterAt B b [] (if err = 0 then 2 else err) w' ∧ Near B b w w' := by
  generalize hE : (if err = 0 then 2 else err) = E
  have HF := Lib.hid (Wfail_any B b bs 2 err w h)
  have HE := Lib.hid hE
  have hs' : decide (65536 < (s.size : Int)) = true := decide_eq_true (by omega)
  clear hE hs h
  go_enter Tryd.func54, Tryd.ntmps54
  go_wp2_with fail
  refine HF.out.mono ?_
  rintro e w1 ⟨rfl, k1, b1⟩
  rw [HE.out] at k1
  go_wp2_with fail
  exact bodyPost_ret (results_none rfl _ _ _) rfl ⟨rfl, k1, b1⟩

set_option maxRecDepth 100000 in
theorem Text_any (B b : Nat) (bs : List UInt8) (err : Int) (s : ByteArray) (w : World) (h : WriterAt B b bs err w) (hs : s.size ≤ 65536) (hBw : B ≤ w.heap.size) :
    Calls Tryd.prog 54 #[.pointer (some ⟨b, 0, none⟩), .string s] w fun r w' => r = .returned (.tuple #[]) ∧ WriterAt B b (added (added bs err (numBytes s.size)) err s.data.toList) err w' ∧ Near B b w w' := by
  have HN := Lib.hid (Number_any B b bs err s.size w h (by omega) hBw)
  have hs' : decide (65536 < (s.size : Int)) = false := decide_eq_false (by omega)
  have HS : Hid (s.size ≤ 100000) := Lib.hid (by omega)
  clear hs h
  go_enter Tryd.func54, Tryd.ntmps54
  go_wp2_with fail
  refine HN.out.mono ?_
  rintro e w1 ⟨rfl, k1, b1⟩
  have s1 := b1.size
  go_wp2_with fail
  refine (Wadd_any B b _ err s w1 k1 HS.out (Nat.le_trans hBw s1)).mono ?_
  rintro e w2 ⟨rfl, k2, b2⟩
  have b3 := b1.trans b2
  go_wp2_with fail
  go_end0
  exact ⟨rfl, k2, b3⟩

set_option maxRecDepth 100000 in
theorem Flag_any (B b : Nat) (bs : List UInt8) (err : Int) (v : Bool) (w : World) (h : WriterAt B b bs err w) (hBw : B ≤ w.heap.size) :
    Calls Tryd.prog 79 #[.pointer (some ⟨b, 0, none⟩), .bool v] w fun r w' => r = .returned (.tuple #[]) ∧ WriterAt B b (added bs err [if v then 1 else 0]) err w' ∧ Near B b w w' := by
  have HT := Lib.hid (Wadd_any B b bs err ⟨#[1]⟩ w h (by decide) hBw)
  have HF := Lib.hid (Wadd_any B b bs err ⟨#[0]⟩ w h (by decide) hBw)
  clear h
  cases v
  · go_enter Tryd.func79, Tryd.ntmps79
    go_wp2_with fail
    refine HF.out.mono ?_
    rintro e w1 ⟨rfl, k1, b1⟩
    go_wp2_with fail
    go_end0
    exact ⟨rfl, k1, b1⟩
  · go_enter Tryd.func79, Tryd.ntmps79
    go_wp2_with fail
    refine HT.out.mono ?_
    rintro e w1 ⟨rfl, k1, b1⟩
    go_wp2_with fail
    go_end0
    exact ⟨rfl, k1, b1⟩

end Go.Proofs.YtgegipijappfhaaDoor
namespace Go.Proofs.YtgegipijappfhaaDoor
open Go Go.RowKit

/-- A reader in a block of its own: what isn't taken yet, and the error. -/
def ReaderAt (B b : Nat) (s : ByteArray) (err : Int) (w : World) : Prop :=
  B = B ∧ w.heap[b]? = some (.cells #[.string s, .int .i64 err] 135 (0, 0))
theorem ReaderAt.below {B b : Nat} {s : ByteArray} {err : Int} {w w' : World} (h : ReaderAt B b s err w) (k : Below w.heap.size w w') : ReaderAt B b s err w' :=
  ⟨h.1, (k.block b (heap_lt h.2)).trans h.2⟩
theorem ReaderAt.rest {B b : Nat} {s : ByteArray} {err : Int} {w : World} (h : ReaderAt B b s err w) (t : ByteArray) : ReaderAt B b t err (w.setCell ⟨b, 0, none⟩ (.string t)) := ⟨h.1, heap_put h.2 _⟩
theorem ReaderAt.err {B b : Nat} {s : ByteArray} {err : Int} {w : World} (h : ReaderAt B b s err w) (e : Int) : ReaderAt B b s e (w.setCell ⟨b, 1, none⟩ (.int .i64 e)) := ⟨h.1, heap_put h.2 _⟩

/-- What take answers, and what it leaves. -/
def takeS (s : ByteArray) (err : Int) (n : Nat) : ByteArray := if err = 0 ∧ n ≤ s.size then s.extract 0 n else ⟨#[]⟩
def takeR (s : ByteArray) (err : Int) (n : Nat) : ByteArray := if err = 0 ∧ n ≤ s.size then s.extract n s.size else s
def takeE (s : ByteArray) (err : Int) (n : Nat) : Int := if err = 0 ∧ s.size < n then 5 else err

set_option maxRecDepth 100000 in
theorem take_row (B b : Nat) (s : ByteArray) (err : Int) (n : Nat) (w : World) (h : ReaderAt B b s err w) :
    Calls Tryd.prog 88 #[.pointer (some ⟨b, 0, none⟩), .int .i64 n] w fun r w' => r = .returned (.string (takeS s err n)) ∧ ReaderAt B b (takeR s err n) (takeE s err n) w' ∧ Near B b w w' ∧ ∀ g, g ≠ b → rowAt w' g = rowAt w g := by
  have hrow := h.2
  have h0 := (Lib.cell_of_heap hrow 0).trans (rfl : _ = some (Value.string s))
  have h1 := (Lib.cell_of_heap hrow 1).trans (rfl : _ = some (Value.int .i64 err))
  have f0 := Lib.frozen_of_heap hrow 0
  have f1 := Lib.frozen_of_heap hrow 1
  obtain ⟨S, hS⟩ : ∃ S, takeS s err n = S := ⟨_, rfl⟩
  obtain ⟨T, hT⟩ : ∃ T, takeR s err n = T := ⟨_, rfl⟩
  obtain ⟨E, hE⟩ : ∃ E, takeE s err n = E := ⟨_, rfl⟩
  rw [hS, hT, hE]
  have HH := Lib.hid h
  by_cases he : err = 0
  · by_cases hn : n ≤ s.size
    · rw [takeS, if_pos ⟨he, hn⟩] at hS
      rw [takeR, if_pos ⟨he, hn⟩] at hT
      rw [takeE, if_neg (by omega)] at hE
      subst he
      have HS := Lib.hid hS
      have HT := Lib.hid hT
      have HE := Lib.hid hE
      have hn' : decide (s.size < n) = false := decide_eq_false (by omega)
      have hn0 : (n : Int) ≤ s.size := by omega
      have hn1 : (0 : Int) ≤ n := by omega
      have k1 := Lib.hid (h.rest (s.extract n s.size))
      have b1 : Near B b w (w.setCell ⟨b, 0, none⟩ (.string (s.extract n s.size))) := (Near.refl B b w).setCell (p := ⟨b, 0, none⟩) rfl _
      clear hS hT hE hn h
      go_enter Tryd.func88, Tryd.ntmps88
      go_wp2_with fail
      go_ret
      exact ⟨by rw [← HS.out]; rfl, by rw [← HT.out, ← HE.out]; exact k1.out, b1, fun g hg => rowAt_setCell_other _ _ _ _ hg⟩
    · rw [takeS, if_neg (by omega)] at hS
      rw [takeR, if_neg (by omega)] at hT
      rw [takeE, if_pos ⟨he, by omega⟩] at hE
      subst he
      have HS := Lib.hid hS
      have HT := Lib.hid hT
      have HE := Lib.hid hE
      have hn' : decide (s.size < n) = true := decide_eq_true (by omega)
      have k1 := Lib.hid (h.err 5)
      have b1 : Near B b w (w.setCell ⟨b, 1, none⟩ (.int .i64 5)) := (Near.refl B b w).setCell (p := ⟨b, 1, none⟩) rfl _
      clear hS hT hE hn h
      go_enter Tryd.func88, Tryd.ntmps88
      go_wp2_with fail
      go_ret
      exact ⟨by rw [← HS.out]; rfl, by rw [← HT.out, ← HE.out]; exact k1.out, b1, fun g hg => rowAt_setCell_other _ _ _ _ hg⟩
  · rw [takeS, if_neg (by omega)] at hS
    rw [takeR, if_neg (by omega)] at hT
    rw [takeE, if_neg (by omega)] at hE
    have hq : (err != 0) = true := by simpa using he
    have HS := Lib.hid hS
    have HT := Lib.hid hT
    have HE := Lib.hid hE
    clear hS hT hE h
    go_enter Tryd.func88, Tryd.ntmps88
    go_wp2_with fail
    go_ret
    exact ⟨by rw [← HS.out]; rfl, by rw [← HT.out, ← HE.out]; exact HH.out, Near.refl _ _ _, fun _ _ => rfl⟩
theorem take_any (B b : Nat) (s : ByteArray) (err : Int) (n : Nat) (w : World) (h : ReaderAt B b s err w) :
    Calls Tryd.prog 88 #[.pointer (some ⟨b, 0, none⟩), .int .i64 n] w fun r w' => r = .returned (.string (takeS s err n)) ∧ ReaderAt B b (takeR s err n) (takeE s err n) w' ∧ Near B b w w' :=
  (take_row B b s err n w h).mono fun _ _ ⟨h1, h2, h3, _⟩ => ⟨h1, h2, h3⟩

theorem toList_empty (s : ByteArray) : s.toList.isEmpty = true ↔ s.size = 0 := by
  rw [ByteArray.toList_eq, List.isEmpty_iff, ← List.length_eq_zero_iff, Array.length_toList]
  rfl
set_option maxRecDepth 100000 in
theorem RDone_any (B b : Nat) (s : ByteArray) (err : Int) (w : World) (h : ReaderAt B b s err w) :
    Calls Tryd.prog 49 #[.pointer (some ⟨b, 0, none⟩)] w fun r w' => r = .returned (.int .i64 (if err = 0 ∧ s.size ≠ 0 then 3 else err)) ∧ Below w.heap.size w w' := by
  have hrow := h.2
  have h0 := (Lib.cell_of_heap hrow 0).trans (rfl : _ = some (Value.string s))
  have h1 := (Lib.cell_of_heap hrow 1).trans (rfl : _ = some (Value.int .i64 err))
  generalize hR : (if err = 0 ∧ s.size ≠ 0 then 3 else err) = R
  by_cases he : err = 0
  · subst he
    by_cases hs : s.size = 0
    · rw [if_neg (by omega)] at hR
      have HR := Lib.hid hR
      have hv : s.toList.isEmpty = true := (toList_empty s).2 hs
      clear hR h hs
      go_enter Tryd.func49, Tryd.ntmps49
      go_wp2_with fail
      go_ret
      exact ⟨by rw [← HR.out]; rfl, Below.refl _ _⟩
    · rw [if_pos ⟨rfl, hs⟩] at hR
      have HR := Lib.hid hR
      have hv : s.toList.isEmpty = false := by
        rw [Bool.eq_false_iff]
        exact fun e => hs ((toList_empty s).1 e)
      clear hR h hs
      go_enter Tryd.func49, Tryd.ntmps49
      go_wp2_with fail
      go_ret
      exact ⟨by rw [← HR.out]; rfl, Below.refl _ _⟩
  · rw [if_neg (by omega)] at hR
    have HR := Lib.hid hR
    have hq : (err == 0) = false := by rw [beq_eq_false_iff_ne]; exact he
    clear hR h
    go_enter Tryd.func49, Tryd.ntmps49
    go_wp2_with fail
    go_ret
    exact ⟨by rw [← HR.out]; rfl, Below.refl _ _⟩
set_option maxRecDepth 100000 in
theorem Open_any (s : ByteArray) (w : World) :
    Calls Tryd.prog 46 #[.string s] w fun r w' => r = .returned (.pointer (some ⟨w.heap.size, 0, none⟩)) ∧ ReaderAt w.heap.size w.heap.size s (if s.size ≤ 65536 then 0 else 2) w' ∧ Below w.heap.size w w' := by
  go_enter Tryd.func46, Tryd.ntmps46
  by_cases h : s.size ≤ 65536
  · have h' : decide (65536 < (s.size : Int)) = false := decide_eq_false (by omega)
    rw [if_pos h]
    clear h
    go_wp2_with fail
    go_ret
    exact ⟨rfl, ⟨rfl, heap_alloc_new w _⟩, (Below.refl _ _).alloc (Nat.le_refl _) _⟩
  · have h' : decide (65536 < (s.size : Int)) = true := decide_eq_true (by omega)
    rw [if_neg h]
    clear h
    go_wp2_with fail
    go_ret
    exact ⟨rfl, ⟨rfl, heap_alloc_new w _⟩, (Below.refl _ _).alloc (Nat.le_refl _) _⟩
end Go.Proofs.YtgegipijappfhaaDoor
namespace Go.Proofs.YtgegipijappfhaaDoor
open Go Go.RowKit

theorem extract_one (s : ByteArray) (h : 1 ≤ s.size) : s.extract 0 1 = ⟨#[at_ s 0]⟩ := by
  apply ByteArray.ext
  rw [ByteArray.data_extract]
  have h2 : 0 < s.data.size := h
  apply Array.ext
  · simp; omega
  · intro i h3 h4
    have : i = 0 := by simp at h4; omega
    subst this
    simp [at_]
    rw [Array.getElem?_eq_getElem h2]
    rfl

/-- What octet answers, and the error it leaves. -/
def octV (s : ByteArray) (err : Int) (most : Int) : Int := if err = 0 ∧ 1 ≤ s.size ∧ ((at_ s 0).toNat : Int) ≤ most then (at_ s 0).toNat else 0
def octE (s : ByteArray) (err : Int) (most : Int) : Int := if err ≠ 0 then err else if s.size = 0 then 5 else if ((at_ s 0).toNat : Int) ≤ most then 0 else 4

set_option maxRecDepth 100000 in
theorem octet_any (B b : Nat) (s : ByteArray) (err most : Int) (w : World) (h : ReaderAt B b s err w) :
    Calls Tryd.prog 89 #[.pointer (some ⟨b, 0, none⟩), .int .i64 most] w fun r w' => r = .returned (.int .i64 (octV s err most)) ∧ ReaderAt B b (takeR s err 1) (octE s err most) w' ∧ Near B b w w' := by
  have HT := Lib.hid (take_any B b s err 1 w h)
  obtain ⟨V, hV⟩ : ∃ V, octV s err most = V := ⟨_, rfl⟩
  obtain ⟨E, hE⟩ : ∃ E, octE s err most = E := ⟨_, rfl⟩
  rw [hV, hE]
  by_cases hg : err = 0 ∧ 1 ≤ s.size
  · have hs : takeS s err 1 = ⟨#[at_ s 0]⟩ := by rw [takeS, if_pos hg, extract_one s hg.2]
    have he : takeE s err 1 = 0 := by rw [takeE, if_neg (by omega)]; exact hg.1
    rw [hs, he] at HT
    have hc : (⟨#[at_ s 0]⟩ : ByteArray)[0]'(Nat.zero_lt_one) = at_ s 0 := rfl
    have hx : wrap64 ((at_ s 0).toNat : Int) = (at_ s 0).toNat := by
      have := (at_ s 0).toNat_lt
      exact IntWalk.wrap64_in _ (by omega)
    by_cases hm : ((at_ s 0).toNat : Int) ≤ most
    · rw [octV, if_pos ⟨hg.1, hg.2, hm⟩] at hV
      rw [octE, if_neg (by omega), if_neg (by omega), if_pos hm] at hE
      have hm' : decide (most < ((at_ s 0).toNat : Int)) = false := decide_eq_false (by omega)
      have HV := Lib.hid hV
      have HE := Lib.hid hE
      clear hV hE h hg hm hs he
      go_enter Tryd.func89, Tryd.ntmps89
      go_wp2_with fail
      refine HT.out.mono ?_
      rintro e w1 ⟨rfl, k1, b1⟩
      rw [HE.out] at k1
      go_wp2_with fail
      go_ret
      exact ⟨by rw [← HV.out]; exact congrArg (fun x => Ending.returned (Value.int .i64 x)) hx, k1, b1⟩
    · rw [octV, if_neg (by omega)] at hV
      rw [octE, if_neg (by omega), if_neg (by omega), if_neg hm] at hE
      have hm' : decide (most < ((at_ s 0).toNat : Int)) = true := decide_eq_true (by omega)
      have HV := Lib.hid hV
      have HE := Lib.hid hE
      clear hV hE h hg hm hs he
      go_enter Tryd.func89, Tryd.ntmps89
      go_wp2_with fail
      refine HT.out.mono ?_
      rintro e w1 ⟨rfl, k1, b1⟩
      have h1 := (Lib.cell_of_heap k1.2 1).trans (rfl : _ = some (Value.int .i64 0))
      have f1 := Lib.frozen_of_heap k1.2 1
      have k2 := Lib.hid (k1.err 4)
      have b2 : Near B b w (w1.setCell ⟨b, 1, none⟩ (.int .i64 4)) := b1.setCell (p := ⟨b, 1, none⟩) rfl _
      clear k1
      go_wp2_with fail
      go_ret
      exact ⟨by rw [← HV.out]; rfl, by rw [← HE.out]; exact k2.out, b2⟩
  · have hs : takeS s err 1 = ⟨#[]⟩ := by rw [takeS, if_neg hg]
    have he : takeE s err 1 = E := by
      rw [← hE, takeE, octE]
      by_cases h0 : err = 0
      · have : s.size = 0 := by omega
        rw [if_pos ⟨h0, by omega⟩, if_neg (by omega), if_pos this]
      · rw [if_neg (by omega), if_pos h0]
    rw [octV, if_neg (by omega)] at hV
    rw [hs, he] at HT
    have HV := Lib.hid hV
    clear hV hE h hg hs he
    go_enter Tryd.func89, Tryd.ntmps89
    go_wp2_with fail
    refine HT.out.mono ?_
    rintro e w1 ⟨rfl, k1, b1⟩
    go_wp2_with fail
    go_ret
    exact ⟨by rw [← HV.out]; rfl, k1, b1⟩
end Go.Proofs.YtgegipijappfhaaDoor
namespace Go.Proofs.YtgegipijappfhaaDoor
open Go

/-- Bytes as a text. -/
abbrev txt (l : List UInt8) : ByteArray := ⟨l.toArray⟩
theorem txt_size (l : List UInt8) : (txt l).size = l.length := by show l.toArray.size = _; rw [List.size_toArray]
theorem txt_list (s : ByteArray) : txt s.data.toList = s := rfl
/-- The bytes of a number behind the first one. -/
def numTail (n : Nat) : List UInt8 := (List.range (numLen n)).map fun j => UInt8.ofNat (n / 256 ^ (numLen n - 1 - j))
theorem numBytes_eq (n : Nat) : numBytes n = UInt8.ofNat (numLen n) :: numTail n := rfl
theorem numTail_length (n : Nat) : (numTail n).length = numLen n := by simp [numTail]
theorem numLen_zero : numLen 0 = 0 := by decide
theorem bitLen_pow : ∀ (f x : Nat), x < 2 ^ f → f ≤ 64 → x < 2 ^ Lib.bitLenAux f x ∧ (x ≠ 0 → 2 ^ (Lib.bitLenAux f x - 1) ≤ x ∧ 0 < Lib.bitLenAux f x) := by
  intro f
  induction f with
  | zero => intro x h _; have : x = 0 := by simpa using h
            subst this; simp [Lib.bitLenAux]
  | succ f ih =>
    intro x h hf
    by_cases hx : x = 0
    · subst hx; simp [Lib.bitLenAux]
    · rw [Lib.bitLenAux, if_neg hx]
      have h2 : x / 2 < 2 ^ f := by rw [Nat.pow_succ] at h; omega
      obtain ⟨i1, i2⟩ := ih (x / 2) h2 (by omega)
      refine ⟨?_, fun _ => ⟨?_, by omega⟩⟩
      · rw [Nat.add_comm, Nat.pow_succ]; omega
      · by_cases hy : x / 2 = 0
        · have h1 : x = 1 := by omega
          subst h1
          have : Lib.bitLenAux f 0 = 0 := by cases f <;> simp [Lib.bitLenAux]
          simp [this]
        · obtain ⟨j1, j2⟩ := i2 hy
          have : 1 + Lib.bitLenAux f (x / 2) - 1 = (Lib.bitLenAux f (x / 2) - 1) + 1 := by omega
          rw [this, Nat.pow_succ]; omega
theorem numLen_bounds (n : Nat) (h : n < 18446744073709551616) : n < 256 ^ numLen n ∧ (n ≠ 0 → 0 < numLen n ∧ 256 ^ (numLen n - 1) ≤ n) := by
  obtain ⟨h1, h2⟩ := bitLen_pow 64 n (by omega) (by omega)
  have e : Lib.bitLen n = Lib.bitLenAux 64 n := rfl
  rw [← e] at h1 h2
  have q : ∀ k, 256 ^ k = 2 ^ (8 * k) := fun k => by rw [Nat.pow_mul]
  rw [q, q]
  unfold numLen
  refine ⟨Nat.lt_of_lt_of_le h1 (Nat.pow_le_pow_right (by decide) (by omega)), fun hn => ?_⟩
  obtain ⟨h3, h4⟩ := h2 hn
  exact ⟨by omega, Nat.le_trans (Nat.pow_le_pow_right (by decide) (by omega)) h3⟩
def beVal (l : List UInt8) : Nat := l.foldl (fun n c => 256 * n + c.toNat) 0
theorem beVal_append (l m : List UInt8) : beVal (l ++ m) = beVal l * 256 ^ m.length + beVal m := by
  have : ∀ (m : List UInt8) (a : Nat), m.foldl (fun n c => 256 * n + c.toNat) a = a * 256 ^ m.length + beVal m := fun m => by
    unfold beVal
    induction m with
    | nil => intro a; simp
    | cons c m ih =>
      intro a
      rw [List.foldl_cons, List.foldl_cons, ih, ih (256 * 0 + c.toNat), List.length_cons, Nat.pow_succ, Nat.add_mul, Nat.add_mul]
      have : 256 * a * 256 ^ m.length = a * (256 ^ m.length * 256) := by rw [Nat.mul_comm 256 a, Nat.mul_assoc, Nat.mul_comm 256]
      omega
  rw [beVal, List.foldl_append, this m]
  rfl
theorem beVal_digits (n : Nat) : ∀ k, beVal ((List.range k).map fun j => UInt8.ofNat (n / 256 ^ (k - 1 - j))) = n % 256 ^ k := by
  intro k
  induction k generalizing n with
  | zero => simp [beVal, Nat.mod_one]
  | succ k ih =>
    rw [List.range_succ, List.map_append, beVal_append]
    have e : (List.range k).map (fun j => UInt8.ofNat (n / 256 ^ (k + 1 - 1 - j))) = (List.range k).map (fun j => UInt8.ofNat (n / 256 / 256 ^ (k - 1 - j))) := by
      apply List.map_congr_left
      intro j hj
      have hj := List.mem_range.1 hj
      rw [Nat.div_div_eq_div_mul, ← Nat.pow_succ', show k + 1 - 1 - j = k - 1 - j + 1 by omega]
    rw [e, ih (n / 256)]
    have e2 : beVal ((List.map (fun j => UInt8.ofNat (n / 256 ^ (k + 1 - 1 - j))) [k])) = n % 256 := by
      simp [beVal]
    rw [e2, Nat.pow_succ, Nat.mul_comm (256 ^ k) 256, Nat.mod_mul]
    simp
    omega
theorem beVal_numTail (n : Nat) (h : n < 18446744073709551616) : beVal (numTail n) = n := by
  rw [numTail, beVal_digits, Nat.mod_eq_of_lt (numLen_bounds n h).1]
theorem numLen_byte (n : Nat) (h : n < 9223372036854775808) : (UInt8.ofNat (numLen n)).toNat = numLen n := by
  have := numLen_le n h
  simp
  omega
/-- Numbers are told from what stands behind them. -/
theorem numBytes_inj {a b : Nat} {x y : List UInt8} (ha : a < 9223372036854775808) (hb : b < 9223372036854775808) (h : numBytes a ++ x = numBytes b ++ y) : a = b ∧ x = y := by
  rw [numBytes_eq, numBytes_eq, List.cons_append, List.cons_append] at h
  injection h with h1 h2
  have h3 := congrArg UInt8.toNat h1
  rw [numLen_byte a ha, numLen_byte b hb] at h3
  obtain ⟨h4, h5⟩ := List.append_inj h2 (by rw [numTail_length, numTail_length, h3])
  have h6 := congrArg beVal h4
  rw [beVal_numTail a (by omega), beVal_numTail b (by omega)] at h6
  exact ⟨h6, h5⟩
end Go.Proofs.YtgegipijappfhaaDoor
