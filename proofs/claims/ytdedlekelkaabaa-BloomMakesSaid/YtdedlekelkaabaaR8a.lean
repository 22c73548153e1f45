/- The document's filter: one bit each. What its bits are. Conditions: none. -/
import Derived.Test.YtdedlekelkaabaaBloomMath
namespace Go.Proofs.Ytdedlekelkaabaa
open Go Go.RowKit Go.Shelf

/-- The bits of bytes, one by one. -/
def bits8 (bs : List UInt8) : List Bool := (List.range (8 * bs.length)).map (bitK bs)
theorem bits8_length (bs : List UInt8) : (bits8 bs).length = 8 * bs.length := by simp [bits8]
theorem bits8_get (bs : List UInt8) (k : Nat) (h : k < 8 * bs.length) : (bits8 bs).getD k false = bitK bs k := by
  simp [bits8, List.getD_eq_getElem?_getD, h]
theorem bits8_set (bs : List UInt8) (k : Nat) (h : k < 8 * bs.length) : bits8 (setK bs k) = (bits8 bs).set k true := by
  apply List.ext_getElem
  · simp [bits8, setK_length]
  · intro i h1 h2
    have hi : i < 8 * bs.length := by simpa [bits8] using h2
    rw [List.getElem_set]
    simp only [bits8, List.getElem_map, List.getElem_range]
    rw [bitK_setK bs k i h]
    by_cases e : k = i
    · rw [if_pos e]; simp [e]
    · rw [if_neg e]
      have : ¬ i = k := fun q => e q.symm
      simp [this]
theorem bits8_zero (n : Nat) : bits8 (List.replicate n 0) = List.replicate (8 * n) false := by
  apply List.ext_getElem
  · simp [bits8]
  · intro i h1 h2
    simp [bits8, bitK_zero]
theorem bitK_take (bs : List UInt8) (c : Nat) (k : Nat) (h : k < 8 * c) : bitK (bs.take c) k = bitK bs k := by
  unfold bitK
  rw [List.getD_eq_getElem?_getD, List.getElem?_take, if_pos (by omega), ← List.getD_eq_getElem?_getD]
/-- The first bits: those of c bytes and k more. -/
def bitsTo (bs : List UInt8) (m : Nat) : List Bool := (List.range m).map (bitK bs)
theorem bitsTo_succ (bs : List UInt8) (m : Nat) : bitsTo bs (m + 1) = bitsTo bs m ++ [bitK bs m] := by simp [bitsTo, List.range_succ]
theorem bitsTo_all (bs : List UInt8) : bitsTo bs (8 * bs.length) = bits8 bs := rfl
theorem bitsTo_length (bs : List UInt8) (m : Nat) : (bitsTo bs m).length = m := by simp [bitsTo]
theorem stride_even (H : UInt64) (h : (H >>> UInt64.ofNat 32).toNat % 2 = 0) : (H >>> UInt64.ofNat 32) + 1 = strideQ H := by
  unfold strideQ
  generalize H >>> UInt64.ofNat 32 = x at *
  apply UInt64.toNat_inj.1
  rw [UInt64.toNat_add, UInt64.toNat_or]
  have h1 : (1 : UInt64).toNat = 1 := rfl
  have hx := x.toNat_lt
  rw [h1, Nat.mod_eq_of_lt (by omega)]
  apply Nat.eq_of_testBit_eq
  intro i
  rw [Nat.testBit_or]
  rcases i with _ | i
  · simp only [Nat.testBit_zero]
    have : (x.toNat + 1) % 2 = 1 := by omega
    simp [this]
  · rw [Nat.testBit_succ, Nat.testBit_succ, Nat.testBit_succ, show (x.toNat + 1) / 2 = x.toNat / 2 by omega]
    simp
theorem stride_odd (H : UInt64) (h : (H >>> UInt64.ofNat 32).toNat % 2 = 1) : (H >>> UInt64.ofNat 32) = strideQ H := by
  unfold strideQ
  generalize H >>> UInt64.ofNat 32 = x at *
  apply UInt64.toNat_inj.1
  rw [UInt64.toNat_or]
  have h1 : (1 : UInt64).toNat = 1 := rfl
  rw [h1]
  apply Nat.eq_of_testBit_eq
  intro i
  rw [Nat.testBit_or]
  rcases i with _ | i
  · simp [Nat.testBit_zero, h]
  · rw [Nat.testBit_succ, Nat.testBit_succ]
    simp
/-- The step behind k others. -/
def walkQ (H : UInt64) (k : Nat) : UInt64 := H + UInt64.ofNat k * strideQ H
theorem walkQ_zero (H : UInt64) : walkQ H 0 = H := by
  unfold walkQ
  rw [show UInt64.ofNat 0 = 0 from rfl, UInt64.zero_mul, UInt64.add_zero]
theorem walkQ_succ (H : UInt64) (k : Nat) : walkQ H k + strideQ H = walkQ H (k + 1) := by
  unfold walkQ
  rw [UInt64.ofNat_add, UInt64.add_mul, show UInt64.ofNat 1 = 1 from rfl, UInt64.one_mul, UInt64.add_assoc]
theorem plQ_walk (H : UInt64) (m i : Nat) : walkQ H i % UInt64.ofNat m = plQ H m i := rfl
end Go.Proofs.Ytdedlekelkaabaa
