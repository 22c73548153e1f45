/- A label's prefixes, cut, grown, over one another. Conditions: none. -/
import Derived.Test.YtojmpbbagfgleaaBits4
namespace Go.Proofs.Ytojmpbbagfgleaa
open Go Go.RowKit

theorem Cut_nat (a : Lab) (n : Nat) (h : n ≤ 256) (w : World) : Calls Try.prog 15 #[.agg (cellsL a), .int .i64 n] w fun e w' => e = .returned (.agg (cellsP n (cut a n))) ∧ Below w.heap.size w w' := by
  have := Cut_any a n w
  rwa [show min (max (n : Int) 0) 256 = n by omega, show (n : Int).toNat = n by omega] at this

theorem grown_cut (a : Lab) (n : Nat) (h : n < 256) : grown (cut a n) n (bit a n : Int) = cut a (n + 1) := by
  rw [cut_succ a n h, grown]
  have : ((bit a n : Int) = 1) ↔ bit a n = 1 := by omega
  simp [this]
theorem good_cut (a : Lab) (n : Nat) (h : n ≤ 256) : good n (cut a n) = true := good_of h (cut_cut a n n (Nat.le_refl _))
theorem has_yes (a b : Lab) (n : Nat) (h : n ≤ 256) (hs : cut b n = cut a n) : has n (cut a n) b = true := by
  rw [has_cut, good_cut a n h]
  simp [hs]
theorem has_no (a b : Lab) (n : Nat) (h : n < 256) (hs : bit a n ≠ bit b n) : has ((n : Int) + 1) (cut a (n + 1)) b = false := by
  rw [has_cut, show ((n : Int) + 1).toNat = n + 1 by omega]
  have : cut b (n + 1) ≠ cut a (n + 1) := fun e => by
    have h1 := bit_cut b (n + 1) n h
    have h2 := bit_cut a (n + 1) n h
    rw [if_pos (by omega)] at h1 h2
    rw [e] at h1
    exact hs (h2.symm.trans h1)
  simp [this]
theorem over_yes (a : Lab) (n m : Nat) (h : n ≤ m) (hm : m ≤ 256) : over n (cut a n) m (cut a m) = true := by
  rw [over_cut', good_cut a n (by omega), good_cut a m hm]
  have : cut (cut a m) n = cut a n := lab_ext fun i hi => by
    rw [bit_cut _ _ _ hi, bit_cut _ _ _ hi, bit_cut _ _ _ hi]
    by_cases h1 : i < n
    · rw [if_pos h1, if_pos h1, if_pos (by omega)]
    · rw [if_neg h1, if_neg h1]
  simp [this, h]
theorem over_no (a : Lab) (n m : Nat) (h : m < n) : over n (cut a n) m (cut a m) = false := by
  rw [over_cut']
  have : ¬ (n : Int) ≤ m := by omega
  simp [this]
end Go.Proofs.Ytojmpbbagfgleaa
