/- Plain facts on labels that are put together of bits: cut, set, grown. Conditions: none. -/
import Derived.Test.YtnffmgpnhlcakaaDoorMath
namespace Go.Proofs.YtnffmgpnhlcakaaDoor
open Go

def byteOf (f : Nat → Nat) : Nat := f 0 % 2 * 128 + f 1 % 2 * 64 + f 2 % 2 * 32 + f 3 % 2 * 16 + f 4 % 2 * 8 + f 5 % 2 * 4 + f 6 % 2 * 2 + f 7 % 2
def ofBits (f : Nat → Nat) : Lab := ⟨(List.range 32).map fun k => UInt8.ofNat (byteOf fun j => f (8 * k + j)), by simp⟩

theorem byteOf_lt (f : Nat → Nat) : byteOf f < 256 := by unfold byteOf; omega
theorem bitB_byteOf (f : Nat → Nat) (j : Nat) (hj : j < 8) : bitB (UInt8.ofNat (byteOf f)) j = f j % 2 := by
  have h := byteOf_lt f
  rw [bitB, UInt8.toNat_ofNat', Nat.mod_eq_of_lt h]
  have c : j = 0 ∨ j = 1 ∨ j = 2 ∨ j = 3 ∨ j = 4 ∨ j = 5 ∨ j = 6 ∨ j = 7 := by omega
  unfold byteOf
  rcases c with rfl | rfl | rfl | rfl | rfl | rfl | rfl | rfl <;> simp only [Nat.sub_zero, Nat.reduceSub, Nat.reducePow] <;> omega
theorem bit_ofBits (f : Nat → Nat) (i : Nat) (hi : i < 256) : bit (ofBits f) i = f i % 2 := by
  have : (ofBits f).get (i / 8) = UInt8.ofNat (byteOf fun j => f (8 * (i / 8) + j)) := by
    simp [ofBits, Lab.get, List.getD, show i / 8 < 32 by omega]
  rw [bit, this, bitB_byteOf _ _ (by omega)]
  congr 2
  omega

/-- The first n bits. -/
def cut (a : Lab) (n : Nat) : Lab := ofBits fun j => if j < n then bit a j else 0
theorem bit_cut (a : Lab) (n i : Nat) (hi : i < 256) : bit (cut a n) i = if i < n then bit a i else 0 := by
  rw [cut, bit_ofBits _ _ hi]
  have := bit_lt a i
  split <;> omega
/-- A label with bit i set. -/
def setBit (a : Lab) (i : Nat) : Lab := ofBits fun j => if j = i then 1 else bit a j
theorem bit_setBit (a : Lab) (i j : Nat) (hj : j < 256) : bit (setBit a i) j = if j = i then 1 else bit a j := by
  rw [setBit, bit_ofBits _ _ hj]
  have := bit_lt a j
  split <;> omega

theorem bit_set (a : Lab) (k : Nat) (x : UInt8) (i : Nat) (hi : i < 256) : bit (a.set k x) i = if i / 8 = k then bitB x (i % 8) else bit a i := by
  rw [bit, Lab.get_set _ _ _ _ (by omega)]
  by_cases h : k = i / 8
  · rw [if_pos h, if_pos h.symm]
  · rw [if_neg h, if_neg (fun e => h e.symm)]
    rfl

/-! ### Bytes, by going through all of them -/
theorem byte_add : ∀ (x : Fin 256) (k j : Fin 8), x.val / 2 ^ (7 - k.val) % 2 = 0 → x.val + 2 ^ (7 - k.val) < 256 ∧ (x.val + 2 ^ (7 - k.val)) / 2 ^ (7 - j.val) % 2 = if j = k then 1 else x.val / 2 ^ (7 - j.val) % 2 := by decide +kernel
theorem byte_mask : ∀ (x : Fin 256) (k j : Fin 8), (x.val &&& (255 - 255 / 2 ^ k.val)) / 2 ^ (7 - j.val) % 2 = if j.val < k.val then x.val / 2 ^ (7 - j.val) % 2 else 0 := by decide +kernel
theorem byte_or : ∀ (x : Fin 256) (k j : Fin 8), (x.val ||| 2 ^ (7 - k.val)) < 256 ∧ (x.val ||| 2 ^ (7 - k.val)) / 2 ^ (7 - j.val) % 2 = if j = k then 1 else x.val / 2 ^ (7 - j.val) % 2 := by decide +kernel
theorem byte_xor : ∀ (x : Fin 256) (k j : Fin 8), (x.val ^^^ 2 ^ (7 - k.val)) < 256 ∧ (x.val ^^^ 2 ^ (7 - k.val)) / 2 ^ (7 - j.val) % 2 = if j = k then 1 - x.val / 2 ^ (7 - j.val) % 2 else x.val / 2 ^ (7 - j.val) % 2 := by decide +kernel

/-- A byte with one more bit. -/
theorem setBit_add (a : Lab) (i : Nat) (h0 : bit a i = 0) :
    (a.get (i / 8)).toNat + 2 ^ (7 - i % 8) < 256 ∧ a.set (i / 8) (UInt8.ofNat ((a.get (i / 8)).toNat + 2 ^ (7 - i % 8))) = setBit a i := by
  have hx := (a.get (i / 8)).toNat_lt
  have key := fun j : Fin 8 => byte_add ⟨(a.get (i / 8)).toNat, hx⟩ ⟨i % 8, by omega⟩ j h0
  have hlt := (key 0).1
  refine ⟨hlt, lab_ext fun j hj => ?_⟩
  rw [bit_set _ _ _ _ hj, bit_setBit _ _ _ hj]
  by_cases h : j / 8 = i / 8
  · rw [if_pos h, bitB, UInt8.toNat_ofNat', Nat.mod_eq_of_lt hlt]
    have k2 := (key ⟨j % 8, by omega⟩).2
    simp only [Fin.mk.injEq] at k2
    rw [k2]
    by_cases e : j % 8 = i % 8
    · rw [if_pos e, if_pos (by omega)]
    · rw [if_neg e, if_neg (fun h2 => e (by rw [h2]))]
      rw [bit, bitB, h]
  · rw [if_neg h, if_neg (fun h2 => h (by rw [h2]))]
theorem setBit_same (a : Lab) (i : Nat) (h1 : bit a i = 1) : setBit a i = a := lab_ext fun j hj => by
  rw [bit_setBit _ _ _ hj]
  by_cases e : j = i
  · subst e; rw [if_pos rfl, h1]
  · rw [if_neg e]
theorem setBit_or (a : Lab) (i : Nat) :
    (a.get (i / 8)).toNat ||| 2 ^ (7 - i % 8) < 256 ∧ a.set (i / 8) (UInt8.ofNat ((a.get (i / 8)).toNat ||| 2 ^ (7 - i % 8))) = setBit a i := by
  have hx := (a.get (i / 8)).toNat_lt
  have key := fun j : Fin 8 => byte_or ⟨(a.get (i / 8)).toNat, hx⟩ ⟨i % 8, by omega⟩ j
  have hlt := (key 0).1
  refine ⟨hlt, lab_ext fun j hj => ?_⟩
  rw [bit_set _ _ _ _ hj, bit_setBit _ _ _ hj]
  by_cases h : j / 8 = i / 8
  · rw [if_pos h, bitB, UInt8.toNat_ofNat', Nat.mod_eq_of_lt hlt]
    have k2 := (key ⟨j % 8, by omega⟩).2
    simp only [Fin.mk.injEq] at k2
    rw [k2]
    by_cases e : j % 8 = i % 8
    · rw [if_pos e, if_pos (by omega)]
    · rw [if_neg e, if_neg (fun h2 => e (by rw [h2]))]
      rw [bit, bitB, h]
  · rw [if_neg h, if_neg (fun h2 => h (by rw [h2]))]
theorem set_self (a : Lab) (k : Nat) : a.set k (UInt8.ofNat (a.get k).toNat) = a := Lab.ext' fun j hj => by
  rw [Lab.get_set _ _ _ _ hj]
  split
  · rename_i h; subst h; simp
  · rfl

/-- Whole bytes, and the first bits of one more. -/
theorem cut_bytes (a c : Lab) (n : Nat) (hn : n ≤ 256) (h1 : ∀ k, k < n / 8 → c.get k = a.get k) (h2 : ∀ k, n / 8 < k → k < 32 → c.get k = 0)
    (h3 : n / 8 < 32 → (c.get (n / 8)).toNat = if n % 8 = 0 then 0 else (a.get (n / 8)).toNat &&& (255 - 255 / 2 ^ (n % 8))) : c = cut a n := lab_ext fun j hj => by
  rw [bit_cut _ _ _ hj]
  by_cases hlt : j / 8 < n / 8
  · rw [if_pos (by omega), bit, h1 _ hlt]; rfl
  · by_cases he : j / 8 = n / 8
    · have hk := h3 (by omega)
      rw [bit, bitB, he, hk]
      by_cases h0 : n % 8 = 0
      · rw [if_pos h0, if_neg (by omega)]; simp
      · rw [if_neg h0]
        have hx := (a.get (n / 8)).toNat_lt
        have key := byte_mask ⟨(a.get (n / 8)).toNat, hx⟩ ⟨n % 8, by omega⟩ ⟨j % 8, by omega⟩
        simp only at key
        rw [key]
        by_cases h5 : j % 8 < n % 8
        · rw [if_pos h5, if_pos (by omega), bit, bitB, he]
        · rw [if_neg h5, if_neg (by omega)]
    · rw [if_neg (by omega), bit, h2 _ (by omega) (by omega)]
      simp [bitB]

/-- The first k bytes of a, and behind them z's. -/
def Lab.over (a z : Lab) (k : Nat) : Lab := if h : k ≤ 32 then ⟨a.l.take k ++ z.l.drop k, by simp [a.h, z.h]; omega⟩ else a
theorem Lab.get_over (a z : Lab) (k i : Nat) (hk : k ≤ 32) (_hi : i < 32) : (a.over z k).get i = if i < k then a.get i else z.get i := by
  have ha := a.h
  have hz := z.h
  simp only [Lab.over, hk, dif_pos, Lab.get, List.getD, List.getElem?_append, List.length_take, List.getElem?_take, List.getElem?_drop, ha]
  rw [show min k 32 = k by omega]
  split
  · rfl
  · rw [show k + (i - k) = i by omega]
theorem splice_take (a z : Lab) (m : Int) (k : Nat) (hk : k ≤ 32) : splice (cellsP m z) 1 (List.take k (cellsL a).toList) = cellsP m (a.over z k) := by
  have ha := a.h
  have hz := z.h
  simp only [splice, cellsP, cellsL, Lab.over, hk, dif_pos]
  simp [List.map_take, List.map_drop, ha, Nat.min_eq_left hk, Nat.add_comm 1 k]
theorem over_cut (a : Lab) (m k : Nat) (hk : k ≤ 32) (hm : m = 8 * k) : a.over zeroLab k = cut a m := by
  apply cut_bytes a _ m (by omega)
  · intro j hj
    rw [Lab.get_over _ _ _ _ hk (by omega), if_pos (by omega)]
  · intro j h1 h2
    rw [Lab.get_over _ _ _ _ hk h2, if_neg (by omega), zeroLab_get]
  · intro h
    rw [if_pos (by omega), Lab.get_over _ _ _ _ hk h, if_neg (by omega), zeroLab_get]
    rfl
theorem over_set_cut (a : Lab) (m k r : Nat) (hk : k < 32) (hr0 : 0 < r) (hr : r < 8) (hm : m = 8 * k + r) :
    (a.over zeroLab k).set k (UInt8.ofNat ((a.get k).toNat &&& (255 - 255 / 2 ^ r))) = cut a m := by
  have hx := (a.get k).toNat_lt
  have hlt : (a.get k).toNat &&& (255 - 255 / 2 ^ r) < 256 := Nat.lt_of_le_of_lt Nat.and_le_left hx
  apply cut_bytes a _ m (by omega)
  · intro j hj
    rw [Lab.get_set _ _ _ _ (by omega), if_neg (by omega), Lab.get_over _ _ _ _ (by omega) (by omega), if_pos (by omega)]
  · intro j h1 h2
    rw [Lab.get_set _ _ _ _ h2, if_neg (by omega), Lab.get_over _ _ _ _ (by omega) h2, if_neg (by omega), zeroLab_get]
  · intro h
    rw [if_neg (by omega), Lab.get_set _ _ _ _ h, if_pos (by omega), UInt8.toNat_ofNat', Nat.mod_eq_of_lt hlt, show m / 8 = k by omega, show m % 8 = r by omega]
theorem cut_zero (a : Lab) : cut a 0 = zeroLab := lab_ext fun j hj => by
  rw [bit_cut _ _ _ hj, if_neg (by omega), bit, zeroLab_get]
  simp [bitB]
theorem cut_succ (a : Lab) (n : Nat) (hn : n < 256) : cut a (n + 1) = if bit a n = 1 then setBit (cut a n) n else cut a n := lab_ext fun j hj => by
  by_cases h : bit a n = 1
  · rw [if_pos h, bit_setBit _ _ _ hj, bit_cut _ _ _ hj, bit_cut _ _ _ hj]
    by_cases e : j = n
    · subst e; simp [h]
    · rw [if_neg e]
      by_cases h2 : j < n
      · rw [if_pos h2, if_pos (by omega)]
      · rw [if_neg h2, if_neg (by omega)]
  · rw [if_neg h, bit_cut _ _ _ hj, bit_cut _ _ _ hj]
    have := bit_lt a n
    by_cases e : j = n
    · subst e; rw [if_pos (by omega), if_neg (by omega)]; omega
    · by_cases h2 : j < n
      · rw [if_pos h2, if_pos (by omega)]
      · rw [if_neg h2, if_neg (by omega)]
theorem cut_256 (a : Lab) (n : Nat) (hn : 256 ≤ n) : cut a n = a := lab_ext fun j hj => by
  rw [bit_cut _ _ _ hj, if_pos (by omega)]

/-- In form? -/
def good (n : Int) (a : Lab) : Bool := decide (0 ≤ n ∧ n ≤ 256 ∧ cut a n.toNat = a)

/-- A label begins with so many bits of another one. -/
theorem common_ge {a l : Lab} {n : Nat} (hn : n ≤ 256) (hc : cut a n = a) : n ≤ common a l ↔ cut l n = a := by
  have is := common_is a l
  constructor
  · intro h
    apply lab_ext
    intro i hi
    rw [bit_cut _ _ _ hi]
    by_cases e : i < n
    · rw [if_pos e, is.same i (by omega)]
    · rw [if_neg e, ← hc, bit_cut _ _ _ hi, if_neg e]
  · intro h
    rcases Nat.lt_or_ge (common a l) n with hlt | hge
    · have h1 := is.other (by omega)
      have h2 : bit a (common a l) = bit l (common a l) := by
        generalize common a l = k at *
        rw [← h, bit_cut _ _ _ (by omega), if_pos hlt]
      exact absurd h2 h1
    · exact hge
theorem good_nat {n : Int} {a : Lab} (h : good n a = true) : ∃ m : Nat, n = m ∧ m ≤ 256 ∧ cut a m = a := by
  simp only [good, decide_eq_true_eq] at h
  exact ⟨n.toNat, by omega, by omega, h.2.2⟩
theorem good_of {m : Nat} {a : Lab} (h1 : m ≤ 256) (h2 : cut a m = a) : good m a = true := by
  simp only [good, decide_eq_true_eq, Int.toNat_natCast]
  exact ⟨by omega, by omega, h2⟩
theorem cut_cut (a : Lab) (n m : Nat) (h : n ≤ m) : cut (cut a n) m = cut a n := lab_ext fun i hi => by
  rw [bit_cut _ _ _ hi, bit_cut _ _ _ hi]
  by_cases h1 : i < n
  · rw [if_pos h1, if_pos (by omega)]
  · rw [if_neg h1]; simp
end Go.Proofs.YtnffmgpnhlcakaaDoor
