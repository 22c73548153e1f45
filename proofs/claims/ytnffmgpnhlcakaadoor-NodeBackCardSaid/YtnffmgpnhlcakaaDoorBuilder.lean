/- A builder that a call has made itself: a byte written on. Conditions: none. -/
import Derived.Test.YtnffmgpnhlcakaaDoorRead
import Derived.Test.YtnffmgpnhlcakaaDoorCopy
import Derived.Lib.Builder
import Derived.Shelf.Strings.Builder1
namespace Go.Proofs.YtnffmgpnhlcakaaDoor
open Go Go.RowKit

theorem info_byte : (Tryd.prog.info? 5).map (fun i => (i.zero, i.size, i.bytes)) = some (some (.int .u8 0), 1, 1) := by kernel_rfl

def hexd (n : Nat) : UInt8 := hexDigits.getD n 0
def hexTo (a : Lab) (k : Nat) : List UInt8 := (List.range k).flatMap fun j => [hexd ((a.get j).toNat / 16), hexd ((a.get j).toNat % 16)]
theorem hexTo_succ (a : Lab) (k : Nat) : hexTo a (k + 1) = hexTo a k ++ [hexd ((a.get k).toNat / 16), hexd ((a.get k).toNat % 16)] := by
  simp [hexTo, List.range_succ]
theorem hexTo_length (a : Lab) (k : Nat) : (hexTo a k).length = 2 * k := by
  induction k with
  | zero => rfl
  | succ k ih => rw [hexTo_succ, List.length_append, ih]; simp; omega

theorem cells_put (l : List UInt8) (c : UInt8) : Lib.byteCells l ++ [.int .u8 c.toNat] = Lib.byteCells (l ++ [c]) := by
  simp [Lib.byteCells]
theorem cells_length (l : List UInt8) : (Lib.byteCells l).length = l.length := by
  simp [Lib.byteCells]

@[go_sem high] theorem run_index_lab (w : World) (a : Lab) (i : Nat) (h : i < 32) : (Instr.index 29 (.agg (cellsL a)) (.int .i64 i)).run Tryd.prog w = .ok (.int .u8 (a.get i).toNat) w := by
  have g := get_cellsL a i h
  simp [Instr.index, run_underlying Tryd.underlying29, asIntOf, go_sem]
  rw [if_pos h, g]
  rfl
theorem run_add (w : World) (s t : ByteArray) (h : s.size + t.size < 1000000) : (Op.stringOp .add s t).run Tryd.prog w = .ok (.string (s ++ t)) w := by
  simp [Op.stringOp, go_sem]
  omega
theorem piece (n : Nat) (h : n < 16) : (⟨#[48, 49, 50, 51, 52, 53, 54, 55, 56, 57, 97, 98, 99, 100, 101, 102]⟩ : ByteArray).extract n (n + 1) = ⟨#[hexd n]⟩ := by
  have : ∀ k : Fin 16, (⟨#[48, 49, 50, 51, 52, 53, 54, 55, 56, 57, 97, 98, 99, 100, 101, 102]⟩ : ByteArray).extract k.val (k.val + 1) = ⟨#[hexd k.val]⟩ := by decide +kernel
  exact this ⟨n, h⟩
theorem pieces (x y : UInt8) : (⟨#[x]⟩ : ByteArray) ++ ⟨#[y]⟩ = ⟨#[x, y]⟩ := rfl
theorem hexTo_put (a : Lab) (i : Nat) : (⟨(hexTo a i).toArray⟩ : ByteArray) ++ ⟨#[hexd ((a.get i).toNat / 16), hexd ((a.get i).toNat % 16)]⟩ = ⟨(hexTo a (i + 1)).toArray⟩ := by
  rw [hexTo_succ]
  exact ByteArray.ext (by simp)
theorem digit_at (n : Nat) (h : n < 16) (h' : n < (⟨#[48, 49, 50, 51, 52, 53, 54, 55, 56, 57, 97, 98, 99, 100, 101, 102]⟩ : ByteArray).size) :
    (⟨#[48, 49, 50, 51, 52, 53, 54, 55, 56, 57, 97, 98, 99, 100, 101, 102]⟩ : ByteArray)[n]'h' = hexd n := by
  have := hex_at n h h'
  unfold hexd
  rw [List.getD_eq_getElem?_getD, this]
  rfl
theorem and_15 : ∀ x : Fin 256, x.val &&& 15 = x.val % 16 := by decide +kernel

end Go.Proofs.YtnffmgpnhlcakaaDoor
