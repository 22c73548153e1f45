/- How many bytes a number has; bytes as a text: plain facts. Conditions: none. -/
import Derived.Test.YtnffmgpnhlcakaaDoorCode1
namespace Go.Proofs.YtnffmgpnhlcakaaDoor
open Go

/-- Bytes as a text. -/
abbrev txt (l : List UInt8) : ByteArray := ⟨l.toArray⟩
theorem txt_size (l : List UInt8) : (txt l).size = l.length := by show l.toArray.size = _; rw [List.size_toArray]
theorem txt_list (s : ByteArray) : txt s.data.toList = s := rfl
/-- The bytes of a number behind the first one. -/
def numTail (n : Nat) : List UInt8 := (List.range (numLen n)).map fun j => UInt8.ofNat (n / 256 ^ (numLen n - 1 - j))
theorem numBytes_eq (n : Nat) : numBytes n = UInt8.ofNat (numLen n) :: numTail n := rfl
theorem numTail_length (n : Nat) : (numTail n).length = numLen n := by simp [numTail]
theorem numLen_zero : numLen 0 = 0 := by decide
theorem bitLen_pow : ∀ (f x : Nat), x < 2 ^ f → f ≤ 64 → x < 2 ^ Lib.bitLenAux f x ∧ (x ≠ 0 → 2 ^ (Lib.bitLenAux f x - 1) ≤ x ∧ 0 < Lib.bitLenAux f x) := by
  intro f
  induction f with
  | zero => intro x h _; have : x = 0 := by simpa using h
            subst this; simp [Lib.bitLenAux]
  | succ f ih =>
    intro x h hf
    by_cases hx : x = 0
    · subst hx; simp [Lib.bitLenAux]
    · rw [Lib.bitLenAux, if_neg hx]
      have h2 : x / 2 < 2 ^ f := by rw [Nat.pow_succ] at h; omega
      obtain ⟨i1, i2⟩ := ih (x / 2) h2 (by omega)
      refine ⟨?_, fun _ => ⟨?_, by omega⟩⟩
      · rw [Nat.add_comm, Nat.pow_succ]; omega
      · by_cases hy : x / 2 = 0
        · have h1 : x = 1 := by omega
          subst h1
          have : Lib.bitLenAux f 0 = 0 := by cases f <;> simp [Lib.bitLenAux]
          simp [this]
        · obtain ⟨j1, j2⟩ := i2 hy
          have : 1 + Lib.bitLenAux f (x / 2) - 1 = (Lib.bitLenAux f (x / 2) - 1) + 1 := by omega
          rw [this, Nat.pow_succ]; omega
theorem numLen_bounds (n : Nat) (h : n < 18446744073709551616) : n < 256 ^ numLen n ∧ (n ≠ 0 → 0 < numLen n ∧ 256 ^ (numLen n - 1) ≤ n) := by
  obtain ⟨h1, h2⟩ := bitLen_pow 64 n (by omega) (by omega)
  have e : Lib.bitLen n = Lib.bitLenAux 64 n := rfl
  rw [← e] at h1 h2
  have q : ∀ k, 256 ^ k = 2 ^ (8 * k) := fun k => by rw [Nat.pow_mul]
  rw [q, q]
  unfold numLen
  refine ⟨Nat.lt_of_lt_of_le h1 (Nat.pow_le_pow_right (by decide) (by omega)), fun hn => ?_⟩
  obtain ⟨h3, h4⟩ := h2 hn
  exact ⟨by omega, Nat.le_trans (Nat.pow_le_pow_right (by decide) (by omega)) h3⟩
def beVal (l : List UInt8) : Nat := l.foldl (fun n c => 256 * n + c.toNat) 0
theorem beVal_append (l m : List UInt8) : beVal (l ++ m) = beVal l * 256 ^ m.length + beVal m := by
  have : ∀ (m : List UInt8) (a : Nat), m.foldl (fun n c => 256 * n + c.toNat) a = a * 256 ^ m.length + beVal m := fun m => by
    unfold beVal
    induction m with
    | nil => intro a; simp
    | cons c m ih =>
      intro a
      rw [List.foldl_cons, List.foldl_cons, ih, ih (256 * 0 + c.toNat), List.length_cons, Nat.pow_succ, Nat.add_mul, Nat.add_mul]
      have : 256 * a * 256 ^ m.length = a * (256 ^ m.length * 256) := by rw [Nat.mul_comm 256 a, Nat.mul_assoc, Nat.mul_comm 256]
      omega
  rw [beVal, List.foldl_append, this m]
  rfl
theorem beVal_digits (n : Nat) : ∀ k, beVal ((List.range k).map fun j => UInt8.ofNat (n / 256 ^ (k - 1 - j))) = n % 256 ^ k := by
  intro k
  induction k generalizing n with
  | zero => simp [beVal, Nat.mod_one]
  | succ k ih =>
    rw [List.range_succ, List.map_append, beVal_append]
    have e : (List.range k).map (fun j => UInt8.ofNat (n / 256 ^ (k + 1 - 1 - j))) = (List.range k).map (fun j => UInt8.ofNat (n / 256 / 256 ^ (k - 1 - j))) := by
      apply List.map_congr_left
      intro j hj
      have hj := List.mem_range.1 hj
      rw [Nat.div_div_eq_div_mul, ← Nat.pow_succ', show k + 1 - 1 - j = k - 1 - j + 1 by omega]
    rw [e, ih (n / 256)]
    have e2 : beVal ((List.map (fun j => UInt8.ofNat (n / 256 ^ (k + 1 - 1 - j))) [k])) = n % 256 := by
      simp [beVal]
    rw [e2, Nat.pow_succ, Nat.mul_comm (256 ^ k) 256, Nat.mod_mul]
    simp
    omega
theorem beVal_numTail (n : Nat) (h : n < 18446744073709551616) : beVal (numTail n) = n := by
  rw [numTail, beVal_digits, Nat.mod_eq_of_lt (numLen_bounds n h).1]
theorem numLen_byte (n : Nat) (h : n < 9223372036854775808) : (UInt8.ofNat (numLen n)).toNat = numLen n := by
  have := numLen_le n h
  simp
  omega
/-- Numbers are told from what stands behind them. -/
theorem numBytes_inj {a b : Nat} {x y : List UInt8} (ha : a < 9223372036854775808) (hb : b < 9223372036854775808) (h : numBytes a ++ x = numBytes b ++ y) : a = b ∧ x = y := by
  rw [numBytes_eq, numBytes_eq, List.cons_append, List.cons_append] at h
  injection h with h1 h2
  have h3 := congrArg UInt8.toNat h1
  rw [numLen_byte a ha, numLen_byte b hb] at h3
  obtain ⟨h4, h5⟩ := List.append_inj h2 (by rw [numTail_length, numTail_length, h3])
  have h6 := congrArg beVal h4
  rw [beVal_numTail a (by omega), beVal_numTail b (by omega)] at h6
  exact ⟨h6, h5⟩
end Go.Proofs.YtnffmgpnhlcakaaDoor
