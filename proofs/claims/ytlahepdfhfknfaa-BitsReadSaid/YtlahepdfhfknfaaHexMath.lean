/- A label's digits: read again they are the label; they stand in the labels' order. Conditions: none. -/
import Derived.Test.YtlahepdfhfknfaaBuilder
namespace Go.Proofs.Ytlahepdfhfknfaa
open Go Go.RowKit

theorem dig_hexd : ∀ n : Fin 16, dig (hexd n.val) = n.val := by decide +kernel
theorem hexd_lt : ∀ n m : Fin 16, n.val < m.val → hexd n.val < hexd m.val := by decide +kernel
theorem hexTo_at (a : Lab) (j : Nat) : ∀ n, j < n → (hexTo a n).getD (2 * j) 0 = hexd ((a.get j).toNat / 16) ∧ (hexTo a n).getD (2 * j + 1) 0 = hexd ((a.get j).toNat % 16)
  | 0, h => by omega
  | n + 1, h => by
    rw [hexTo_succ]
    simp only [List.getD_eq_getElem?_getD]
    by_cases e : j < n
    · have ih := hexTo_at a j n e
      simp only [List.getD_eq_getElem?_getD] at ih
      have hl := hexTo_length a n
      rw [List.getElem?_append_left (by omega), List.getElem?_append_left (by omega)]
      exact ih
    · obtain rfl : j = n := by omega
      have hl := hexTo_length a j
      rw [List.getElem?_append_right (by omega), List.getElem?_append_right (by omega), hl]
      simp

def hexOf (a : Lab) : ByteArray := ⟨(hexTo a 32).toArray⟩
theorem hexOf_size (a : Lab) : (hexOf a).size = 64 := by
  show (hexTo a 32).toArray.size = 64
  simp [hexTo_length]
theorem hexOf_at (a : Lab) (j : Nat) (h : j < 32) : dig (at_ (hexOf a) (2 * j)) = ((a.get j).toNat / 16 : Nat) ∧ dig (at_ (hexOf a) (2 * j + 1)) = ((a.get j).toNat % 16 : Nat) := by
  obtain ⟨h1, h2⟩ := hexTo_at a j 32 h
  have hx := (a.get j).toNat_lt
  have g1 : at_ (hexOf a) (2 * j) = hexd ((a.get j).toNat / 16) := h1
  have g2 : at_ (hexOf a) (2 * j + 1) = hexd ((a.get j).toNat % 16) := h2
  rw [g1, g2]
  exact ⟨dig_hexd ⟨_, by omega⟩, dig_hexd ⟨_, by omega⟩⟩
theorem hexOf_ok (a : Lab) : okTo (hexOf a) 32 := fun j hj => by
  obtain ⟨h1, h2⟩ := hexOf_at a j hj
  omega
theorem hexOf_read (a : Lab) : readTo (hexOf a) 32 = a := Lab.ext' fun j hj => by
  obtain ⟨h1, h2⟩ := hexOf_at a j hj
  have hv : val (hexOf a) j = (a.get j).toNat := by
    unfold val
    rw [h1, h2]
    omega
  have : (readTo (hexOf a) 32).get j = UInt8.ofNat (val (hexOf a) j) := by simp [readTo, Lab.get, hj]
  rw [this, hv]
  simp

def two (x : UInt8) : List UInt8 := [hexd (x.toNat / 16), hexd (x.toNat % 16)]
theorem hexTo_flat (a : Lab) : hexTo a 32 = a.l.flatMap two := by
  have : a.l = (List.range 32).map a.get := by
    apply List.ext_getElem?
    intro i
    by_cases h : i < 32
    · have h2 : i < a.l.length := by rw [a.h]; exact h
      simp [h, Lab.get, h2]
    · have h2 : a.l.length ≤ i := by rw [a.h]; omega
      rw [List.getElem?_eq_none h2, List.getElem?_eq_none (by simp; omega)]
  conv => rhs; rw [this]
  rw [List.flatMap_map]
  rfl
theorem less_two : ∀ (l m : List UInt8), l.length = m.length → Op.bytesLess (l.flatMap two) (m.flatMap two) = Op.bytesLess l m
  | [], [], _ => rfl
  | x :: l, y :: m, h => by
    have ih := less_two l m (by simpa using h)
    have hx := x.toNat_lt
    have hy := y.toNat_lt
    simp only [List.flatMap_cons, two, List.cons_append, List.nil_append, Op.bytesLess, ih]
    rcases Nat.lt_trichotomy x.toNat y.toNat with hl | hl | hl
    · have hxy : x < y := hl
      by_cases e : x.toNat / 16 = y.toNat / 16
      · have := hexd_lt ⟨x.toNat % 16, by omega⟩ ⟨y.toNat % 16, by omega⟩ (by show x.toNat % 16 < y.toNat % 16; omega)
        simp only at this
        simp [e, this, hxy]
      · have := hexd_lt ⟨x.toNat / 16, by omega⟩ ⟨y.toNat / 16, by omega⟩ (by show x.toNat / 16 < y.toNat / 16; omega)
        simp only at this
        simp [this, hxy]
    · have hxy : x = y := UInt8.toNat_inj.1 hl
      subst hxy
      simp
    · have hxy : y < x := hl
      have n1 : ¬ x < y := fun e => by have e2 : x.toNat < y.toNat := e; omega
      have n2 : x ≠ y := fun e => by subst e; omega
      by_cases e : x.toNat / 16 = y.toNat / 16
      · have := hexd_lt ⟨y.toNat % 16, by omega⟩ ⟨x.toNat % 16, by omega⟩ (by show y.toNat % 16 < x.toNat % 16; omega)
        simp only at this
        have k1 : ¬ hexd (x.toNat % 16) < hexd (y.toNat % 16) := fun e => by
          have e1 : (hexd (x.toNat % 16)).toNat < (hexd (y.toNat % 16)).toNat := e
          have e2 : (hexd (y.toNat % 16)).toNat < (hexd (x.toNat % 16)).toNat := this
          omega
        have k2 : hexd (x.toNat % 16) ≠ hexd (y.toNat % 16) := fun e => by
          have e2 : (hexd (y.toNat % 16)).toNat < (hexd (x.toNat % 16)).toNat := this
          rw [e] at e2
          omega
        simp [e, k1, beq_false_of_ne k2, n1, beq_false_of_ne n2]
      · have := hexd_lt ⟨y.toNat / 16, by omega⟩ ⟨x.toNat / 16, by omega⟩ (by show y.toNat / 16 < x.toNat / 16; omega)
        simp only at this
        have k1 : ¬ hexd (x.toNat / 16) < hexd (y.toNat / 16) := fun e => by
          have e1 : (hexd (x.toNat / 16)).toNat < (hexd (y.toNat / 16)).toNat := e
          have e2 : (hexd (y.toNat / 16)).toNat < (hexd (x.toNat / 16)).toNat := this
          omega
        have k2 : hexd (x.toNat / 16) ≠ hexd (y.toNat / 16) := fun e => by
          have e2 : (hexd (y.toNat / 16)).toNat < (hexd (x.toNat / 16)).toNat := this
          rw [e] at e2
          omega
        simp [k1, beq_false_of_ne k2, n1, beq_false_of_ne n2]
theorem less_compare : ∀ (l m : List UInt8), Op.bytesLess l m = decide (Lib.compareBytes l m < 0)
  | [], [] => rfl
  | [], _ :: _ => rfl
  | _ :: _, [] => rfl
  | x :: l, y :: m => by
    have ih := less_compare l m
    rw [Op.bytesLess, Lib.compareBytes, ih]
    by_cases h : x < y
    · simp [h]
    · by_cases h2 : y < x
      · have : x ≠ y := fun e => by subst e; exact h h2
        simp [h, h2, this]
      · have : x = y := UInt8.toNat_inj.1 (by
          have e1 : ¬ x.toNat < y.toNat := h
          have e2 : ¬ y.toNat < x.toNat := h2
          omega)
        simp [this]
theorem hexOf_less (a b : Lab) : Op.bytesLess (hexOf a).toList (hexOf b).toList = decide (order a b < 0) := by
  have h : ∀ a, (hexOf a).toList = a.l.flatMap two := fun a => by
    rw [← hexTo_flat]
    exact ByteArray.toList_mk _
  rw [h, h, less_two _ _ (by rw [a.h, b.h]), less_compare, compare_order]
end Go.Proofs.Ytlahepdfhfknfaa
