/- The cyclic sum bit by bit: plain facts. Conditions: none. -/
import Derived.Test.YtlhdnkfnhdkbkaaGreatDoorSealMath
namespace Go.Proofs.YtlhdnkfnhdkbkaaGreatDoor
open Go

/-- One bit goes out. -/
def out1 (x : Nat) : Nat := if x % 2 = 1 then x / 2 ^^^ 3988292384 else x / 2
def outN : Nat → Nat → Nat
  | 0, x => x
  | k + 1, x => out1 (outN k x)
theorem xor_mod2 (x y : Nat) : (x ^^^ y) % 2 = (x % 2 + y % 2) % 2 := by
  have h := Nat.testBit_xor (x := x) (y := y) (i := 0)
  simp only [Nat.testBit_zero] at h
  have hx := Nat.mod_two_eq_zero_or_one x
  have hy := Nat.mod_two_eq_zero_or_one y
  have hz := Nat.mod_two_eq_zero_or_one (x ^^^ y)
  rcases hx with hx | hx <;> rcases hy with hy | hy <;> rcases hz with hz | hz <;> simp_all
theorem out1_xor (x y : Nat) : out1 (x ^^^ y) = out1 x ^^^ out1 y := by
  unfold out1
  rw [Nat.xor_div_two, xor_mod2]
  have hx := Nat.mod_two_eq_zero_or_one x
  have hy := Nat.mod_two_eq_zero_or_one y
  rcases hx with hx | hx <;> rcases hy with hy | hy
  · rw [if_neg (by omega), if_neg (by omega), if_neg (by omega)]
  · rw [if_pos (by omega), if_neg (by omega), if_pos (by omega), Nat.xor_assoc]
  · rw [if_pos (by omega), if_pos (by omega), if_neg (by omega), Nat.xor_assoc, Nat.xor_assoc, Nat.xor_comm (y / 2)]
  · rw [if_neg (by omega), if_pos (by omega), if_pos (by omega), Nat.xor_assoc, ← Nat.xor_assoc 3988292384, Nat.xor_comm 3988292384, Nat.xor_assoc (y / 2), Nat.xor_self, Nat.xor_zero]
theorem outN_xor (k x y : Nat) : outN k (x ^^^ y) = outN k x ^^^ outN k y := by
  induction k with
  | zero => rfl
  | succ k ih => rw [outN, outN, outN, ih, out1_xor]
theorem outN_add (k j x : Nat) : outN (k + j) x = outN k (outN j x) := by
  induction k with
  | zero => rw [Nat.zero_add]; rfl
  | succ k ih => rw [show k + 1 + j = (k + j) + 1 by omega, outN, outN, ih]
theorem out1_twice (z : Nat) : out1 (2 * z) = z := by
  rw [out1, if_neg (by omega)]
  omega
theorem outN_pow (k z : Nat) : outN k (2 ^ k * z) = z := by
  induction k generalizing z with
  | zero => show 1 * z = z; omega
  | succ k ih =>
    rw [outN, show 2 ^ (k + 1) * z = 2 ^ k * (2 * z) by rw [Nat.pow_succ, Nat.mul_assoc], ih, out1_twice]
theorem out1_lt (x : Nat) (h : x < 4294967296) : out1 x < 4294967296 := by
  unfold out1
  split
  · exact Nat.xor_lt_two_pow (n := 32) (by omega) (by decide)
  · omega
theorem outN_lt (k x : Nat) (h : x < 4294967296) : outN k x < 4294967296 := by
  induction k with
  | zero => exact h
  | succ k ih => exact out1_lt _ ih
theorem xor_cancel {a b c : Nat} (h : a ^^^ c = b ^^^ c) : a = b := by
  have := congrArg (· ^^^ c) h
  simpa [Nat.xor_assoc] using this
theorem high_bit (x : Nat) (h : x < 2147483648) : 2147483648 ≤ x ^^^ 3988292384 := by
  have h1 : (x ^^^ 3988292384).testBit 31 = true := by
    rw [Nat.testBit_xor, Nat.testBit_lt_two_pow (show x < 2 ^ 31 from h)]
    decide +kernel
  exact Nat.ge_two_pow_of_testBit h1
theorem out1_inj {x y : Nat} (hx : x < 4294967296) (hy : y < 4294967296) (h : out1 x = out1 y) : x = y := by
  unfold out1 at h
  rcases Nat.mod_two_eq_zero_or_one x with ex | ex <;> rcases Nat.mod_two_eq_zero_or_one y with ey | ey
  · rw [if_neg (by omega), if_neg (by omega)] at h
    omega
  · rw [if_neg (by omega), if_pos ey] at h
    have := high_bit (y / 2) (by omega)
    omega
  · rw [if_pos ex, if_neg (by omega)] at h
    have := high_bit (x / 2) (by omega)
    omega
  · rw [if_pos ex, if_pos ey] at h
    have := xor_cancel h
    omega
theorem outN_inj {k x y : Nat} (hx : x < 4294967296) (hy : y < 4294967296) (h : outN k x = outN k y) : x = y := by
  induction k with
  | zero => exact h
  | succ k ih => exact ih (out1_inj (outN_lt k x hx) (outN_lt k y hy) h)
theorem tabs_out : ∀ o : Fin 256, outN 8 o.val = lowT (o.val % 16) ^^^ highT (o.val / 16) := by decide +kernel
theorem split_xor (a b : Nat) (h : b < 256) : 256 * a ^^^ b = 256 * a + b := by
  have h1 := Nat.shiftLeft_add_eq_or_of_lt (i := 8) h a
  rw [Nat.shiftLeft_eq, Nat.mul_comm] at h1
  rw [show (256 : Nat) = 2 ^ 8 from rfl, h1]
  apply Nat.eq_of_testBit_eq
  intro i
  rw [Nat.testBit_xor, Nat.testBit_or, Nat.testBit_two_pow_mul]
  by_cases hi : 8 ≤ i
  · rw [Nat.testBit_lt_two_pow (show b < 2 ^ i from Nat.lt_of_lt_of_le (show b < 2 ^ 8 from h) (Nat.pow_le_pow_right (show 0 < 2 by decide) hi))]
    simp
  · simp [hi]
/-- A byte goes in bit by bit as by the tables. -/
theorem stepC_out (c : Nat) (b : UInt8) : stepC c b = outN 8 (c ^^^ b.toNat) := by
  have hb := b.toNat_lt
  have ho := outB_lt c b
  have e : c ^^^ b.toNat = 256 * (c / 256) ^^^ outB c b := by
    rw [outB, ← Nat.xor_assoc, split_xor (c / 256) (c % 256) (Nat.mod_lt c (by decide))]
    congr 1
    omega
  rw [e, outN_xor, outN_pow 8 (c / 256), tabs_out ⟨outB c b, ho⟩, stepC, Nat.xor_assoc]
def refB (c b : Nat) : Nat → Nat
  | 0 => c
  | k + 1 => if (refB c b k ^^^ b / 2 ^ k) % 2 = 1 then refB c b k / 2 ^^^ 3988292384 else refB c b k / 2
theorem refB_out (c b k : Nat) : refB c b k = outN k (c ^^^ b) ^^^ b / 2 ^ k := by
  induction k with
  | zero =>
    show c = c ^^^ b ^^^ b / 1
    rw [Nat.div_one, Nat.xor_assoc, Nat.xor_self, Nat.xor_zero]
  | succ k ih =>
    have e1 : refB c b k ^^^ b / 2 ^ k = outN k (c ^^^ b) := by rw [ih, Nat.xor_assoc, Nat.xor_self, Nat.xor_zero]
    have e2 : refB c b k / 2 = outN k (c ^^^ b) / 2 ^^^ b / 2 ^ (k + 1) := by rw [ih, Nat.xor_div_two, Nat.div_div_eq_div_mul, ← Nat.pow_succ]
    rw [refB, e1, e2, outN, out1]
    split
    · rw [Nat.xor_assoc, Nat.xor_comm (b / 2 ^ (k + 1)), ← Nat.xor_assoc]
    · rfl
theorem refB_step (c : Nat) (b : UInt8) : refB c b.toNat 8 = stepC c b := by
  have hb := b.toNat_lt
  rw [refB_out, stepC_out, show b.toNat / 2 ^ 8 = 0 by omega, Nat.xor_zero]
theorem refB_lt (c b : Nat) (h : c < 4294967296) (k : Nat) : refB c b k < 4294967296 := by
  induction k with
  | zero => exact h
  | succ k ih =>
    rw [refB]
    split
    · exact Nat.xor_lt_two_pow (n := 32) (by omega) (by decide)
    · omega

/-- The sum of unlike bytes behind like ones is unlike. -/
theorem stepC_inj {c d : Nat} (b : UInt8) (hc : c < 4294967296) (hd : d < 4294967296) (h : stepC c b = stepC d b) : c = d := by
  have hb := b.toNat_lt
  rw [stepC_out, stepC_out] at h
  have := outN_inj (Nat.xor_lt_two_pow (n := 32) (by omega) (by omega)) (Nat.xor_lt_two_pow (n := 32) (by omega) (by omega)) h
  exact xor_cancel this
theorem crcF_inj {c d : Nat} (l : List UInt8) (hc : c < 4294967296) (hd : d < 4294967296) (h : crcF c l = crcF d l) : c = d := by
  induction l generalizing c d with
  | nil => exact h
  | cons b l ih => exact stepC_inj b hc hd (ih (stepC_lt c b hc) (stepC_lt d b hd) h)
/-- A few bytes as a number, the lowest first. -/
def leV : List UInt8 → Nat
  | [] => 0
  | b :: l => b.toNat + 256 * leV l
theorem leV_lt (l : List UInt8) : leV l < 256 ^ l.length := by
  induction l with
  | nil => decide
  | cons b l ih =>
    have := b.toNat_lt
    rw [leV, List.length_cons, Nat.pow_succ]
    omega
theorem leV_inj : ∀ (l m : List UInt8), l.length = m.length → leV l = leV m → l = m
  | [], [], _, _ => rfl
  | a :: l, b :: m, hl, h => by
    have ha := a.toNat_lt
    have hb := b.toNat_lt
    rw [leV, leV] at h
    have h1 : a = b := UInt8.toNat_inj.1 (by omega)
    have h2 := leV_inj l m (by simpa using hl) (by omega)
    rw [h1, h2]
theorem crcF_le (c : Nat) (l : List UInt8) : crcF c l = outN (8 * l.length) (c ^^^ leV l) := by
  induction l generalizing c with
  | nil => rw [leV, Nat.xor_zero]; rfl
  | cons b l ih =>
    have hb := b.toNat_lt
    rw [show crcF c (b :: l) = crcF (stepC c b) l from rfl, ih, List.length_cons, show 8 * (l.length + 1) = 8 * l.length + 8 by omega, outN_add, stepC_out]
    congr 1
    have : b.toNat + 256 * leV l = b.toNat ^^^ 2 ^ 8 * leV l := by
      rw [Nat.xor_comm, show (2 : Nat) ^ 8 = 256 from rfl, split_xor _ _ hb]
      omega
    rw [leV, this, ← Nat.xor_assoc, outN_xor 8 (c ^^^ b.toNat), outN_pow 8]
theorem crcF_few {c : Nat} (l m : List UInt8) (hc : c < 4294967296) (hl : l.length = m.length) (h4 : l.length ≤ 4) (h : crcF c l = crcF c m) : l = m := by
  rw [crcF_le, crcF_le, ← hl] at h
  have p : 256 ^ l.length ≤ 256 ^ 4 := Nat.pow_le_pow_right (by decide) h4
  have h1 := leV_lt l
  have h2 := leV_lt m
  rw [← hl] at h2
  have := outN_inj (Nat.xor_lt_two_pow (n := 32) hc (by omega)) (Nat.xor_lt_two_pow (n := 32) hc (by omega)) h
  rw [Nat.xor_comm c, Nat.xor_comm c] at this
  exact leV_inj l m hl (xor_cancel this)
/-- Texts that are unlike in at most four bytes one behind the other have unlike sums. -/
theorem crc_few (a x y b : List UInt8) (hl : x.length = y.length) (h4 : x.length ≤ 4) (h : crc (a ++ x ++ b) = crc (a ++ y ++ b)) : x = y := by
  unfold crc at h
  have l1 := crcF_lt 4294967295 (a ++ x ++ b) (by decide)
  have l2 := crcF_lt 4294967295 (a ++ y ++ b) (by decide)
  have h2 : crcF 4294967295 (a ++ x ++ b) = crcF 4294967295 (a ++ y ++ b) := by omega
  rw [crcF_append, crcF_append, crcF_append, crcF_append] at h2
  have la := crcF_lt 4294967295 a (by decide)
  have := crcF_inj b (crcF_lt _ x la) (crcF_lt _ y la) h2
  exact crcF_few x y la hl h4 this
end Go.Proofs.YtlhdnkfnhdkbkaaGreatDoor
