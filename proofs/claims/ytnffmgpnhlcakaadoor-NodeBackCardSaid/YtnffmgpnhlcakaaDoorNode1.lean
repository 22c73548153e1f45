/- Leaves, items and inner nodes as rows of cells: what a walk loads, stores, builds and compares of them. Conditions: none. -/
import Derived.Test.YtnffmgpnhlcakaaDoorLabRun
namespace Go.Proofs.YtnffmgpnhlcakaaDoor
open Go Go.RowKit

/-- An item: a length, its bits, a sum, an epoch. -/
structure Itm where
  n : Int
  b : Lab
  s : Lab
  e : Int
  deriving DecidableEq
/-- A leaf: a label, a value, an epoch. -/
structure Lf where
  a : Lab
  v : Lab
  e : Int
  deriving DecidableEq
def lcells (a : Lab) : List Value := a.l.map Extern.Stop.cell
theorem lcells_len (a : Lab) : (lcells a).length = 32 := by simp [lcells, a.h]
theorem cellsL_eq (a : Lab) : cellsL a = (lcells a).toArray := rfl
theorem cellsP_eq (n : Int) (a : Lab) : cellsP n a = (Value.int .i64 n :: lcells a).toArray := rfl
def icells (x : Itm) : List Value := Value.int .i64 x.n :: (lcells x.b ++ (lcells x.s ++ [Value.int .i64 x.e]))
def cellsI (x : Itm) : Array Value := (icells x).toArray
def fcells (x : Lf) : List Value := lcells x.a ++ (lcells x.v ++ [Value.int .i64 x.e])
def cellsF (x : Lf) : Array Value := (fcells x).toArray
def cellsN (x y : Itm) : Array Value := (icells x ++ icells y).toArray
def zeroItm : Itm := ⟨0, zeroLab, zeroLab, 0⟩
def zeroLf : Lf := ⟨zeroLab, zeroLab, 0⟩
theorem icells_len (x : Itm) : (icells x).length = 66 := by simp [icells, lcells_len]
theorem fcells_len (x : Lf) : (fcells x).length = 65 := by simp [fcells, lcells_len]
@[go_sem, simp] theorem size_cellsI (x : Itm) : (cellsI x).size = 66 := by simp [cellsI, icells_len]
@[go_sem, simp] theorem size_cellsF (x : Lf) : (cellsF x).size = 65 := by simp [cellsF, fcells_len]
@[go_sem, simp] theorem size_cellsN (x y : Itm) : (cellsN x y).size = 132 := by simp [cellsN, icells_len]
theorem one_lcells (a : Lab) : ∀ v ∈ lcells a, v.oneCell' = true := by
  intro v hv
  obtain ⟨x, _, rfl⟩ := List.mem_map.1 hv
  rfl
theorem one_icells (x : Itm) : ∀ v ∈ icells x, v.oneCell' = true := by
  intro v hv
  simp only [icells, List.mem_cons, List.mem_append, List.not_mem_nil, or_false] at hv
  rcases hv with rfl | h | h | rfl
  · rfl
  · exact one_lcells _ _ h
  · exact one_lcells _ _ h
  · rfl
theorem one_fcells (x : Lf) : ∀ v ∈ fcells x, v.oneCell' = true := by
  intro v hv
  simp only [fcells, List.mem_cons, List.mem_append, List.not_mem_nil, or_false] at hv
  rcases hv with h | h | rfl
  · exact one_lcells _ _ h
  · exact one_lcells _ _ h
  · rfl
theorem one_of_list {l : List Value} (h : ∀ v ∈ l, v.oneCell' = true) : oneCells l.toArray = true := by
  simp only [oneCells, List.all_toArray, List.all_eq_true]
  exact h
@[go_sem, simp] theorem one_cellsI (x : Itm) : oneCells (cellsI x) = true := one_of_list (one_icells x)
@[go_sem, simp] theorem one_cellsF (x : Lf) : oneCells (cellsF x) = true := one_of_list (one_fcells x)
@[go_sem, simp] theorem one_cellsN (x y : Itm) : oneCells (cellsN x y) = true := one_of_list fun v hv => by
  rcases List.mem_append.1 hv with h | h
  · exact one_icells _ _ h
  · exact one_icells _ _ h

/-- A piece of a row of cells. -/
theorem mid_extract (a b c : List Value) (i j : Nat) (hi : a.length = i) (hj : i + b.length = j) : ((a ++ (b ++ c)).toArray).extract i j = b.toArray := by
  subst hi hj
  simp [List.extract, List.extract_toArray]
theorem mid_splice (a b c d : List Value) (i : Nat) (hi : a.length = i) (hj : b.length = d.length) : splice (a ++ (b ++ c)).toArray i d.toArray.toList = (a ++ (d ++ c)).toArray := by
  subst hi
  simp [splice, ← hj]
@[go_sem, simp] theorem extract_I (x : Itm) : (cellsI x).extract 0 66 = cellsI x := by
  have h := size_cellsI x
  conv => rhs; rw [← Array.extract_size (xs := cellsI x), h]
@[go_sem, simp] theorem extract_F (x : Lf) : (cellsF x).extract 0 65 = cellsF x := by
  have h := size_cellsF x
  conv => rhs; rw [← Array.extract_size (xs := cellsF x), h]
@[go_sem, simp] theorem extract_N (x y : Itm) : (cellsN x y).extract 0 132 = cellsN x y := by
  have h := size_cellsN x y
  conv => rhs; rw [← Array.extract_size (xs := cellsN x y), h]
@[go_sem, simp] theorem extract_I0 (x : Itm) : (cellsI x).extract 0 33 = cellsP x.n x.b :=
  mid_extract [] (Value.int .i64 x.n :: lcells x.b) (lcells x.s ++ [Value.int .i64 x.e]) 0 33 rfl (by simp [lcells_len])
@[go_sem, simp] theorem extract_I1 (x : Itm) : (cellsI x).extract 1 33 = cellsL x.b :=
  mid_extract [Value.int .i64 x.n] (lcells x.b) (lcells x.s ++ [Value.int .i64 x.e]) 1 33 rfl (by simp [lcells_len])
@[go_sem, simp] theorem extract_I2 (x : Itm) : (cellsI x).extract 33 65 = cellsL x.s := by
  have := mid_extract (Value.int .i64 x.n :: lcells x.b) (lcells x.s) [Value.int .i64 x.e] 33 65 (by simp [lcells_len]) (by simp [lcells_len])
  rw [cellsL_eq, ← this]
  rfl
theorem get_I0 (x : Itm) : (cellsI x)[0]? = some (.int .i64 x.n) := rfl
theorem get_I65 (x : Itm) : (cellsI x)[65]? = some (.int .i64 x.e) := by
  rw [cellsI, icells, List.getElem?_toArray, List.getElem?_cons_succ, List.getElem?_append_right (by rw [lcells_len]; decide), lcells_len, List.getElem?_append_right (by rw [lcells_len]; decide), lcells_len]
  rfl
@[go_sem, simp] theorem extract_F0 (x : Lf) : (cellsF x).extract 0 32 = cellsL x.a :=
  mid_extract [] (lcells x.a) (lcells x.v ++ [Value.int .i64 x.e]) 0 32 rfl (by simp [lcells_len])
@[go_sem, simp] theorem extract_F1 (x : Lf) : (cellsF x).extract 32 64 = cellsL x.v :=
  mid_extract (lcells x.a) (lcells x.v) [Value.int .i64 x.e] 32 64 (by simp [lcells_len]) (by simp [lcells_len])
theorem get_F64 (x : Lf) : (cellsF x)[64]? = some (.int .i64 x.e) := by
  rw [cellsF, fcells, List.getElem?_toArray, List.getElem?_append_right (by rw [lcells_len]; decide), lcells_len, List.getElem?_append_right (by rw [lcells_len]; decide), lcells_len]
  rfl
@[go_sem, simp] theorem extract_N0 (x y : Itm) : (cellsN x y).extract 0 66 = cellsI x := by
  have := mid_extract [] (icells x) (icells y) 0 66 rfl (by simp [icells_len])
  rw [List.nil_append] at this
  exact this
@[go_sem, simp] theorem extract_N1 (x y : Itm) : (cellsN x y).extract 66 132 = cellsI y := by
  have := mid_extract (icells x) (icells y) [] 66 132 (icells_len x) (by simp [icells_len])
  rw [List.append_nil] at this
  exact this
@[go_sem, simp] theorem extract_N00 (x y : Itm) : (cellsN x y).extract 0 33 = cellsP x.n x.b := by
  have := mid_extract [] (Value.int .i64 x.n :: lcells x.b) (lcells x.s ++ [Value.int .i64 x.e] ++ icells y) 0 33 rfl (by simp [lcells_len])
  rw [cellsP_eq, ← this, cellsN, icells]
  simp only [List.nil_append, List.cons_append, List.append_assoc]
@[go_sem, simp] theorem extract_N01 (x y : Itm) : (cellsN x y).extract 1 33 = cellsL x.b := by
  have := mid_extract [Value.int .i64 x.n] (lcells x.b) (lcells x.s ++ [Value.int .i64 x.e] ++ icells y) 1 33 rfl (by simp [lcells_len])
  rw [cellsL_eq, ← this, cellsN, icells]
  simp only [List.nil_append, List.cons_append, List.append_assoc]
@[go_sem, simp] theorem extract_N10 (x y : Itm) : (cellsN x y).extract 66 99 = cellsP y.n y.b := by
  have := mid_extract (icells x) (Value.int .i64 y.n :: lcells y.b) (lcells y.s ++ [Value.int .i64 y.e]) 66 99 (icells_len x) (by simp [lcells_len])
  rw [cellsP_eq, ← this]
  rfl
@[go_sem, simp] theorem extract_N11 (x y : Itm) : (cellsN x y).extract 67 99 = cellsL y.b := by
  have := mid_extract (icells x ++ [Value.int .i64 y.n]) (lcells y.b) (lcells y.s ++ [Value.int .i64 y.e]) 67 99 (by simp [icells_len]) (by simp [lcells_len])
  rw [cellsL_eq, ← this, cellsN]
  simp only [List.append_assoc]
  rfl
theorem get_N65 (x y : Itm) : (cellsN x y)[65]? = some (.int .i64 x.e) := by
  rw [cellsN, List.getElem?_toArray, List.getElem?_append_left (by rw [icells_len]; decide)]
  rw [← List.getElem?_toArray]
  exact get_I65 x
theorem get_N131 (x y : Itm) : (cellsN x y)[131]? = some (.int .i64 y.e) := by
  rw [cellsN, List.getElem?_toArray, List.getElem?_append_right (by rw [icells_len]; decide), icells_len, ← List.getElem?_toArray]
  exact get_I65 y
@[go_sem, simp] theorem splice_I (x y : Itm) : splice (cellsI x) 0 (cellsI y).toList = cellsI y := splice_whole _ _ (by simp)
@[go_sem, simp] theorem splice_F (x y : Lf) : splice (cellsF x) 0 (cellsF y).toList = cellsF y := splice_whole _ _ (by simp)
@[go_sem, simp] theorem splice_N (x y z u : Itm) : splice (cellsN x y) 0 (cellsN z u).toList = cellsN z u := splice_whole _ _ (by simp)
@[go_sem, simp] theorem splice_I1 (x : Itm) (a : Lab) : splice (cellsI x) 1 (cellsL a).toList = cellsI ⟨x.n, a, x.s, x.e⟩ :=
  mid_splice [Value.int .i64 x.n] (lcells x.b) (lcells x.s ++ [Value.int .i64 x.e]) (lcells a) 1 rfl (by rw [lcells_len, lcells_len])
@[go_sem, simp] theorem splice_I2 (x : Itm) (a : Lab) : splice (cellsI x) 33 (cellsL a).toList = cellsI ⟨x.n, x.b, a, x.e⟩ := by
  have := mid_splice (Value.int .i64 x.n :: lcells x.b) (lcells x.s) [Value.int .i64 x.e] (lcells a) 33 (by simp [lcells_len]) (by rw [lcells_len, lcells_len])
  exact this
theorem set_I0 (x : Itm) (m : Int) : (cellsI x).setIfInBounds 0 (.int .i64 m) = cellsI ⟨m, x.b, x.s, x.e⟩ := by
  simp [cellsI, icells]
theorem set_I65 (x : Itm) (m : Int) : (cellsI x).setIfInBounds 65 (.int .i64 m) = cellsI ⟨x.n, x.b, x.s, m⟩ := by
  have h1 : icells x = (Value.int .i64 x.n :: (lcells x.b ++ lcells x.s)) ++ [Value.int .i64 x.e] := by simp [icells]
  have h2 : icells ⟨x.n, x.b, x.s, m⟩ = (Value.int .i64 x.n :: (lcells x.b ++ lcells x.s)) ++ [Value.int .i64 m] := by simp [icells]
  rw [cellsI, cellsI, h1, h2, List.setIfInBounds_toArray, List.set_append_right _ _ (by simp [lcells_len])]
  simp [lcells_len]

theorem zeroI_cells : cellsI zeroItm = (Value.int .i64 0 :: (List.replicate 64 (Value.int .u8 0) ++ [Value.int .i64 0])).toArray := by
  simp [cellsI, icells, zeroItm, zeroLab, lcells, Extern.Stop.cell]
theorem zeroF_cells : cellsF zeroLf = (List.replicate 64 (Value.int .u8 0) ++ [Value.int .i64 0]).toArray := by
  simp [cellsF, fcells, zeroLf, zeroLab, lcells, Extern.Stop.cell]
theorem zeroN_cells : cellsN zeroItm zeroItm = ((Value.int .i64 0 :: (List.replicate 64 (Value.int .u8 0) ++ [Value.int .i64 0])) ++ (Value.int .i64 0 :: (List.replicate 64 (Value.int .u8 0) ++ [Value.int .i64 0]))).toArray := by
  simp [cellsN, icells, zeroItm, zeroLab, lcells, Extern.Stop.cell]
@[go_sem ↓] theorem load_item (v : Value) : Instr.loadAt 43 v = loadOf 43 v := rfl
@[go_sem ↓] theorem store_item (v x : Value) : Instr.storeAt 43 v x = storeOf 43 v x := rfl
@[go_sem ↓] theorem build_item (parts : Array (Nat × Value)) : Instr.build 43 parts = buildOf 43 parts := rfl
@[go_sem ↓] theorem zeroOf_item : zeroValue 43 = zeroOf 43 := rfl
@[go_sem] theorem run_load_item (w : World) (b o : Nat) : (loadOf 43 (.pointer (some ⟨b, o, none⟩))).run Tryd.prog w = rowLoad w b o 66 (elseLoad Tryd.prog 43 b o w) :=
  run_loadAt_rowAt w b o 66 43 _ Tryd.underlying43 rfl (by kernel_rfl)
@[go_sem] theorem run_store_item (w : World) (b o : Nat) (v : Array Value) : (storeOf 43 (.pointer (some ⟨b, o, none⟩)) (.agg v)).run Tryd.prog w = rowStore w b o 66 v (elseStore Tryd.prog 43 b o v w) :=
  run_storeAt_rowAt w b o 66 43 v (by kernel_rfl)
@[go_sem] theorem zero_item (w : World) : (zeroOf 43).run Tryd.prog w = .ok (.agg (cellsI zeroItm)) w := by
  rw [zeroI_cells]
  kernel_rfl
@[go_sem] theorem build0_item (w : World) : (buildOf 43 #[]).run Tryd.prog w = .ok (.agg (cellsI zeroItm)) w := by
  rw [zeroI_cells]
  kernel_rfl
@[go_sem ↓] theorem load_ritem (v : Value) : Instr.loadAt 33 v = loadOf 33 v := rfl
@[go_sem ↓] theorem store_ritem (v x : Value) : Instr.storeAt 33 v x = storeOf 33 v x := rfl
@[go_sem ↓] theorem build_ritem (parts : Array (Nat × Value)) : Instr.build 33 parts = buildOf 33 parts := rfl
@[go_sem ↓] theorem zeroOf_ritem : zeroValue 33 = zeroOf 33 := rfl
@[go_sem] theorem run_load_ritem (w : World) (b o : Nat) : (loadOf 33 (.pointer (some ⟨b, o, none⟩))).run Tryd.prog w = rowLoad w b o 66 (elseLoad Tryd.prog 33 b o w) :=
  run_loadAt_rowAt w b o 66 33 _ Tryd.underlying33 rfl (by kernel_rfl)
@[go_sem] theorem run_store_ritem (w : World) (b o : Nat) (v : Array Value) : (storeOf 33 (.pointer (some ⟨b, o, none⟩)) (.agg v)).run Tryd.prog w = rowStore w b o 66 v (elseStore Tryd.prog 33 b o v w) :=
  run_storeAt_rowAt w b o 66 33 v (by kernel_rfl)
@[go_sem] theorem zero_ritem (w : World) : (zeroOf 33).run Tryd.prog w = .ok (.agg (cellsI zeroItm)) w := by
  rw [zeroI_cells]
  kernel_rfl
@[go_sem] theorem build0_ritem (w : World) : (buildOf 33 #[]).run Tryd.prog w = .ok (.agg (cellsI zeroItm)) w := by
  rw [zeroI_cells]
  kernel_rfl
@[go_sem ↓] theorem load_leaf (v : Value) : Instr.loadAt 37 v = loadOf 37 v := rfl
@[go_sem ↓] theorem store_leaf (v x : Value) : Instr.storeAt 37 v x = storeOf 37 v x := rfl
@[go_sem ↓] theorem build_leaf (parts : Array (Nat × Value)) : Instr.build 37 parts = buildOf 37 parts := rfl
@[go_sem ↓] theorem zeroOf_leaf : zeroValue 37 = zeroOf 37 := rfl
@[go_sem] theorem run_load_leaf (w : World) (b o : Nat) : (loadOf 37 (.pointer (some ⟨b, o, none⟩))).run Tryd.prog w = rowLoad w b o 65 (elseLoad Tryd.prog 37 b o w) :=
  run_loadAt_rowAt w b o 65 37 _ Tryd.underlying37 rfl (by kernel_rfl)
@[go_sem] theorem run_store_leaf (w : World) (b o : Nat) (v : Array Value) : (storeOf 37 (.pointer (some ⟨b, o, none⟩)) (.agg v)).run Tryd.prog w = rowStore w b o 65 v (elseStore Tryd.prog 37 b o v w) :=
  run_storeAt_rowAt w b o 65 37 v (by kernel_rfl)
@[go_sem] theorem zero_leaf (w : World) : (zeroOf 37).run Tryd.prog w = .ok (.agg (cellsF zeroLf)) w := by
  rw [zeroF_cells]
  kernel_rfl
@[go_sem] theorem build0_leaf (w : World) : (buildOf 37 #[]).run Tryd.prog w = .ok (.agg (cellsF zeroLf)) w := by
  rw [zeroF_cells]
  kernel_rfl
@[go_sem ↓] theorem load_rleaf (v : Value) : Instr.loadAt 31 v = loadOf 31 v := rfl
@[go_sem ↓] theorem store_rleaf (v x : Value) : Instr.storeAt 31 v x = storeOf 31 v x := rfl
@[go_sem ↓] theorem build_rleaf (parts : Array (Nat × Value)) : Instr.build 31 parts = buildOf 31 parts := rfl
@[go_sem ↓] theorem zeroOf_rleaf : zeroValue 31 = zeroOf 31 := rfl
@[go_sem] theorem run_load_rleaf (w : World) (b o : Nat) : (loadOf 31 (.pointer (some ⟨b, o, none⟩))).run Tryd.prog w = rowLoad w b o 65 (elseLoad Tryd.prog 31 b o w) :=
  run_loadAt_rowAt w b o 65 31 _ Tryd.underlying31 rfl (by kernel_rfl)
@[go_sem] theorem run_store_rleaf (w : World) (b o : Nat) (v : Array Value) : (storeOf 31 (.pointer (some ⟨b, o, none⟩)) (.agg v)).run Tryd.prog w = rowStore w b o 65 v (elseStore Tryd.prog 31 b o v w) :=
  run_storeAt_rowAt w b o 65 31 v (by kernel_rfl)
@[go_sem] theorem zero_rleaf (w : World) : (zeroOf 31).run Tryd.prog w = .ok (.agg (cellsF zeroLf)) w := by
  rw [zeroF_cells]
  kernel_rfl
@[go_sem] theorem build0_rleaf (w : World) : (buildOf 31 #[]).run Tryd.prog w = .ok (.agg (cellsF zeroLf)) w := by
  rw [zeroF_cells]
  kernel_rfl
@[go_sem ↓] theorem load_inner (v : Value) : Instr.loadAt 45 v = loadOf 45 v := rfl
@[go_sem ↓] theorem store_inner (v x : Value) : Instr.storeAt 45 v x = storeOf 45 v x := rfl
@[go_sem ↓] theorem build_inner (parts : Array (Nat × Value)) : Instr.build 45 parts = buildOf 45 parts := rfl
@[go_sem ↓] theorem zeroOf_inner : zeroValue 45 = zeroOf 45 := rfl
@[go_sem] theorem run_load_inner (w : World) (b o : Nat) : (loadOf 45 (.pointer (some ⟨b, o, none⟩))).run Tryd.prog w = rowLoad w b o 132 (elseLoad Tryd.prog 45 b o w) :=
  run_loadAt_rowAt w b o 132 45 _ Tryd.underlying45 rfl (by kernel_rfl)
@[go_sem] theorem run_store_inner (w : World) (b o : Nat) (v : Array Value) : (storeOf 45 (.pointer (some ⟨b, o, none⟩)) (.agg v)).run Tryd.prog w = rowStore w b o 132 v (elseStore Tryd.prog 45 b o v w) :=
  run_storeAt_rowAt w b o 132 45 v (by kernel_rfl)
@[go_sem] theorem zero_inner (w : World) : (zeroOf 45).run Tryd.prog w = .ok (.agg (cellsN zeroItm zeroItm)) w := by
  rw [zeroN_cells]
  kernel_rfl
@[go_sem] theorem build0_inner (w : World) : (buildOf 45 #[]).run Tryd.prog w = .ok (.agg (cellsN zeroItm zeroItm)) w := by
  rw [zeroN_cells]
  kernel_rfl

@[go_sem] theorem build_item3 (w : World) (n : Int) (a s : Lab) (e : Int) : (buildOf 43 #[(0, .agg (cellsP n a)), (1, .agg (cellsL s)), (2, .int .i64 e)]).run Tryd.prog w = .ok (.agg (cellsI ⟨n, a, s, e⟩)) w := by
  obtain ⟨xb0, xb1, xb2, xb3, xb4, xb5, xb6, xb7, xb8, xb9, xb10, xb11, xb12, xb13, xb14, xb15, xb16, xb17, xb18, xb19, xb20, xb21, xb22, xb23, xb24, xb25, xb26, xb27, xb28, xb29, xb30, xb31, hx⟩ := Lab.open a
  obtain ⟨yb0, yb1, yb2, yb3, yb4, yb5, yb6, yb7, yb8, yb9, yb10, yb11, yb12, yb13, yb14, yb15, yb16, yb17, yb18, yb19, yb20, yb21, yb22, yb23, yb24, yb25, yb26, yb27, yb28, yb29, yb30, yb31, hy⟩ := Lab.open s
  rw [cellsL, cellsP, cellsI, icells, lcells, lcells, hx, hy]
  kernel_rfl
@[go_sem] theorem build_ritem4 (w : World) (n : Int) (a s : Lab) (e : Int) : (buildOf 33 #[(0, .int .i64 n), (1, .agg (cellsL a)), (2, .agg (cellsL s)), (3, .int .i64 e)]).run Tryd.prog w = .ok (.agg (cellsI ⟨n, a, s, e⟩)) w := by
  obtain ⟨xb0, xb1, xb2, xb3, xb4, xb5, xb6, xb7, xb8, xb9, xb10, xb11, xb12, xb13, xb14, xb15, xb16, xb17, xb18, xb19, xb20, xb21, xb22, xb23, xb24, xb25, xb26, xb27, xb28, xb29, xb30, xb31, hx⟩ := Lab.open a
  obtain ⟨yb0, yb1, yb2, yb3, yb4, yb5, yb6, yb7, yb8, yb9, yb10, yb11, yb12, yb13, yb14, yb15, yb16, yb17, yb18, yb19, yb20, yb21, yb22, yb23, yb24, yb25, yb26, yb27, yb28, yb29, yb30, yb31, hy⟩ := Lab.open s
  rw [cellsL, cellsL, cellsI, icells, lcells, lcells, hx, hy]
  kernel_rfl
@[go_sem] theorem build_leaf3 (w : World) (a v : Lab) (e : Int) : (buildOf 37 #[(0, .agg (cellsL a)), (1, .agg (cellsL v)), (2, .int .i64 e)]).run Tryd.prog w = .ok (.agg (cellsF ⟨a, v, e⟩)) w := by
  obtain ⟨xb0, xb1, xb2, xb3, xb4, xb5, xb6, xb7, xb8, xb9, xb10, xb11, xb12, xb13, xb14, xb15, xb16, xb17, xb18, xb19, xb20, xb21, xb22, xb23, xb24, xb25, xb26, xb27, xb28, xb29, xb30, xb31, hx⟩ := Lab.open a
  obtain ⟨yb0, yb1, yb2, yb3, yb4, yb5, yb6, yb7, yb8, yb9, yb10, yb11, yb12, yb13, yb14, yb15, yb16, yb17, yb18, yb19, yb20, yb21, yb22, yb23, yb24, yb25, yb26, yb27, yb28, yb29, yb30, yb31, hy⟩ := Lab.open v
  rw [cellsL, cellsL, cellsF, fcells, lcells, lcells, hx, hy]
  kernel_rfl
@[go_sem] theorem build_rleaf3 (w : World) (a v : Lab) (e : Int) : (buildOf 31 #[(0, .agg (cellsL a)), (1, .agg (cellsL v)), (2, .int .i64 e)]).run Tryd.prog w = .ok (.agg (cellsF ⟨a, v, e⟩)) w := by
  obtain ⟨xb0, xb1, xb2, xb3, xb4, xb5, xb6, xb7, xb8, xb9, xb10, xb11, xb12, xb13, xb14, xb15, xb16, xb17, xb18, xb19, xb20, xb21, xb22, xb23, xb24, xb25, xb26, xb27, xb28, xb29, xb30, xb31, hx⟩ := Lab.open a
  obtain ⟨yb0, yb1, yb2, yb3, yb4, yb5, yb6, yb7, yb8, yb9, yb10, yb11, yb12, yb13, yb14, yb15, yb16, yb17, yb18, yb19, yb20, yb21, yb22, yb23, yb24, yb25, yb26, yb27, yb28, yb29, yb30, yb31, hy⟩ := Lab.open v
  rw [cellsL, cellsL, cellsF, fcells, lcells, lcells, hx, hy]
  kernel_rfl
@[go_sem] theorem build_leaf02 (w : World) (a : Lab) (e : Int) : (buildOf 37 #[(0, .agg (cellsL a)), (2, .int .i64 e)]).run Tryd.prog w = .ok (.agg (cellsF ⟨a, zeroLab, e⟩)) w := by
  obtain ⟨xb0, xb1, xb2, xb3, xb4, xb5, xb6, xb7, xb8, xb9, xb10, xb11, xb12, xb13, xb14, xb15, xb16, xb17, xb18, xb19, xb20, xb21, xb22, xb23, xb24, xb25, xb26, xb27, xb28, xb29, xb30, xb31, hx⟩ := Lab.open a
  rw [cellsL, cellsF, fcells, lcells, lcells, hx]
  kernel_rfl
@[go_sem] theorem build_inner2 (w : World) (x y : Itm) : (buildOf 45 #[(0, .agg (cellsI x)), (1, .agg (cellsI y))]).run Tryd.prog w = .ok (.agg (cellsN x y)) w := by
  obtain ⟨n, a, b, e⟩ := x
  obtain ⟨m, c, d, f⟩ := y
  obtain ⟨pb0, pb1, pb2, pb3, pb4, pb5, pb6, pb7, pb8, pb9, pb10, pb11, pb12, pb13, pb14, pb15, pb16, pb17, pb18, pb19, pb20, pb21, pb22, pb23, pb24, pb25, pb26, pb27, pb28, pb29, pb30, pb31, hp⟩ := Lab.open a
  obtain ⟨qb0, qb1, qb2, qb3, qb4, qb5, qb6, qb7, qb8, qb9, qb10, qb11, qb12, qb13, qb14, qb15, qb16, qb17, qb18, qb19, qb20, qb21, qb22, qb23, qb24, qb25, qb26, qb27, qb28, qb29, qb30, qb31, hq⟩ := Lab.open b
  obtain ⟨rb0, rb1, rb2, rb3, rb4, rb5, rb6, rb7, rb8, rb9, rb10, rb11, rb12, rb13, rb14, rb15, rb16, rb17, rb18, rb19, rb20, rb21, rb22, rb23, rb24, rb25, rb26, rb27, rb28, rb29, rb30, rb31, hr⟩ := Lab.open c
  obtain ⟨sb0, sb1, sb2, sb3, sb4, sb5, sb6, sb7, sb8, sb9, sb10, sb11, sb12, sb13, sb14, sb15, sb16, sb17, sb18, sb19, sb20, sb21, sb22, sb23, sb24, sb25, sb26, sb27, sb28, sb29, sb30, sb31, hs⟩ := Lab.open d
  rw [cellsI, cellsI, cellsN, icells, icells, lcells, lcells, lcells, lcells, hp, hq, hr, hs]
  kernel_rfl
end Go.Proofs.YtnffmgpnhlcakaaDoor
