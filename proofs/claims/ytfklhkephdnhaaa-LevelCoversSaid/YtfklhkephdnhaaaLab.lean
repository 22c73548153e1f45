/- Labels and prefixes as rows of cells. Conditions: none. -/
import Derived.Test.YtfklhkephdnhaaaKit
namespace Go.Proofs.Ytfklhkephdnhaaa
open Go Go.RowKit

/-- A label: 32 bytes. -/
structure Lab where
  l : List UInt8
  h : l.length = 32
  deriving DecidableEq

def cellsL (a : Lab) : Array Value := (a.l.map Extern.Stop.cell).toArray
def cellsP (n : Int) (a : Lab) : Array Value := (Value.int .i64 n :: a.l.map Extern.Stop.cell).toArray
def zeroLab : Lab := ⟨List.replicate 32 0, by simp⟩
def Lab.get (a : Lab) (i : Nat) : UInt8 := a.l.getD i 0
def Lab.set (a : Lab) (i : Nat) (x : UInt8) : Lab := ⟨a.l.set i x, by simp [a.h]⟩

theorem Lab.ext' {a b : Lab} (h : ∀ i, i < 32 → a.get i = b.get i) : a = b := by
  obtain ⟨a, ha⟩ := a
  obtain ⟨b, hb⟩ := b
  have : a = b := by
    apply List.ext_getElem (ha.trans hb.symm)
    intro i h1 h2
    have := h i (by omega)
    simpa [Lab.get, List.getD, h1, h2] using this
  subst this
  rfl
theorem Lab.get_set (a : Lab) (i j : Nat) (x : UInt8) (hj : j < 32) : (a.set i x).get j = if i = j then x else a.get j := by
  have := a.h
  simp only [Lab.get, Lab.set, List.getD, List.getElem?_set]
  split
  · simp [*]
  · rfl
theorem zeroLab_get (i : Nat) : zeroLab.get i = 0 := by
  simp only [zeroLab, Lab.get, List.getD, List.getElem?_replicate]
  split <;> rfl

@[go_sem, simp] theorem size_cellsL (a : Lab) : (cellsL a).size = 32 := by simp [cellsL, a.h]
@[go_sem, simp] theorem size_cellsP (n : Int) (a : Lab) : (cellsP n a).size = 33 := by simp [cellsP, a.h]
theorem get_cellsL (a : Lab) (i : Nat) (h : i < 32) : (cellsL a)[i]? = some (.int .u8 (a.get i).toNat) := by
  have := a.h
  simp [cellsL, Extern.Stop.cell, Lab.get, List.getD, show i < a.l.length by omega]
theorem get_cellsP0 (n : Int) (a : Lab) : (cellsP n a)[0]? = some (.int .i64 n) := by
  simp [cellsP]
theorem get_cellsP (n : Int) (a : Lab) (i : Nat) (h : i < 32) : (cellsP n a)[1 + i]? = some (.int .u8 (a.get i).toNat) := by
  have := a.h
  rw [Nat.add_comm]
  simp [cellsP, Extern.Stop.cell, Lab.get, List.getD, show i < a.l.length by omega]
@[go_sem, simp] theorem getElem_cellsL (a : Lab) (i : Nat) (h : i < (cellsL a).size) : (cellsL a)[i] = .int .u8 (a.get i).toNat := by
  have := get_cellsL a i (by simpa using h)
  rw [Array.getElem?_eq_getElem h] at this
  exact Option.some.inj this
@[go_sem, simp] theorem getElem_cellsP (n : Int) (a : Lab) (i : Nat) (h : 1 + i < (cellsP n a).size) : (cellsP n a)[1 + i] = .int .u8 (a.get i).toNat := by
  have := get_cellsP n a i (by have := size_cellsP n a; omega)
  rw [Array.getElem?_eq_getElem h] at this
  exact Option.some.inj this
@[go_sem, simp] theorem getElem_cellsP' (n : Int) (a : Lab) (i : Nat) (h : i + 1 < (cellsP n a).size) : (cellsP n a)[i + 1] = .int .u8 (a.get i).toNat := by
  have := get_cellsP n a i (by have := size_cellsP n a; omega)
  rw [Nat.add_comm, Array.getElem?_eq_getElem h] at this
  exact Option.some.inj this
@[go_sem, simp] theorem getElem_cellsP0 (n : Int) (a : Lab) (h : 0 < (cellsP n a).size) : (cellsP n a)[0] = .int .i64 n := by
  simp [cellsP]
@[go_sem, simp] theorem one_cellsL (a : Lab) : oneCells (cellsL a) = true := by
  simp [oneCells, cellsL, Extern.Stop.cell, Value.oneCell']
@[go_sem, simp] theorem one_cellsP (n : Int) (a : Lab) : oneCells (cellsP n a) = true := by
  simp [oneCells, cellsP, Extern.Stop.cell, Value.oneCell']
@[go_sem, simp] theorem extract_cellsL (a : Lab) : (cellsL a).extract 0 32 = cellsL a := by
  have h := size_cellsL a
  conv => rhs; rw [← Array.extract_size (xs := cellsL a), h]
@[go_sem, simp] theorem extract_cellsP (n : Int) (a : Lab) : (cellsP n a).extract 0 33 = cellsP n a := by
  have h := size_cellsP n a
  conv => rhs; rw [← Array.extract_size (xs := cellsP n a), h]
@[go_sem, simp] theorem extract_cellsP1 (n : Int) (a : Lab) : (cellsP n a).extract 1 33 = cellsL a := by
  simp only [cellsP, cellsL, List.extract_toArray]
  congr 1
  simp [List.extract, List.take_of_length_le, a.h]
@[go_sem, simp] theorem splice_cellsL (a b : Lab) : splice (cellsL a) 0 (cellsL b).toList = cellsL b := splice_whole _ _ (by simp)
@[go_sem, simp] theorem splice_cellsP (n m : Int) (a b : Lab) : splice (cellsP n a) 0 (cellsP m b).toList = cellsP m b := splice_whole _ _ (by simp)
@[go_sem, simp] theorem splice_cellsP1 (n : Int) (a b : Lab) : splice (cellsP n a) 1 (cellsL b).toList = cellsP n b := by
  simp [splice, cellsP, cellsL, a.h, b.h, List.drop_eq_nil_of_le]
theorem byte_of_int {x : Int} (h0 : 0 ≤ x) (h1 : x < 256) : ((UInt8.ofNat x.toNat).toNat : Int) = x := by
  rw [UInt8.toNat_ofNat']
  omega
theorem set_cellsL (a : Lab) (i : Nat) (x : Int) (h0 : 0 ≤ x) (h1 : x < 256) : (cellsL a).setIfInBounds i (.int .u8 x) = cellsL (a.set i (UInt8.ofNat x.toNat)) := by
  have e : Extern.Stop.cell (UInt8.ofNat x.toNat) = .int .u8 x := congrArg (Value.int .u8) (byte_of_int h0 h1)
  simp [cellsL, Lab.set, List.map_set, e]
theorem set_cellsP (n : Int) (a : Lab) (i : Nat) (x : Int) (h0 : 0 ≤ x) (h1 : x < 256) : (cellsP n a).setIfInBounds (1 + i) (.int .u8 x) = cellsP n (a.set i (UInt8.ofNat x.toNat)) := by
  rw [Nat.add_comm]
  have e : Extern.Stop.cell (UInt8.ofNat x.toNat) = .int .u8 x := congrArg (Value.int .u8) (byte_of_int h0 h1)
  simp [cellsP, Lab.set, List.map_set, e]
theorem set_cellsP0 (n m : Int) (a : Lab) : (cellsP n a).setIfInBounds 0 (.int .i64 m) = cellsP m a := by
  simp [cellsP]

end Go.Proofs.Ytfklhkephdnhaaa
