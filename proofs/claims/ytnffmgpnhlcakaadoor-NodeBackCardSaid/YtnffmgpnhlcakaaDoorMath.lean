/- Plain facts on bits of bytes and of labels. Conditions: none. -/
import Derived.Test.YtnffmgpnhlcakaaDoorLab
import Derived.Lib.BitFns
import Derived.Lib.Bytealg
import Derived.Laws.BitsAllLaws
import Derived.IntWalk
namespace Go.Proofs.YtnffmgpnhlcakaaDoor
open Go

/-- Bit k of a byte, the highest one first. -/
def bitB (x : UInt8) (k : Nat) : Nat := x.toNat / 2 ^ (7 - k) % 2
/-- Bit i of a label. -/
def bit (a : Lab) (i : Nat) : Nat := bitB (a.get (i / 8)) (i % 8)

theorem bitB_lt (x : UInt8) (k : Nat) : bitB x k < 2 := Nat.mod_lt _ (by decide)
theorem bit_lt (a : Lab) (i : Nat) : bit a i < 2 := bitB_lt _ _

theorem u8_all {p : UInt8 → Prop} (h : ∀ n : Fin 256, p (UInt8.ofNat n.val)) (x : UInt8) : p x := by
  have := h ⟨x.toNat, x.toNat_lt⟩
  simpa using this

theorem byte_ext {x y : UInt8} (h : ∀ k, k < 8 → bitB x k = bitB y k) : x = y := by
  apply UInt8.toNat_inj.1
  have hx := x.toNat_lt
  have hy := y.toNat_lt
  apply Nat.eq_of_testBit_eq
  intro i
  by_cases hi : i < 8
  · have := h (7 - i) (by omega)
    simp only [bitB, show 7 - (7 - i) = i by omega] at this
    rw [Nat.testBit_eq_decide_div_mod_eq, Nat.testBit_eq_decide_div_mod_eq, this]
  · have e : 2 ^ 8 ≤ 2 ^ i := Nat.pow_le_pow_right (by decide) (by omega)
    rw [Nat.testBit_lt_two_pow (by omega), Nat.testBit_lt_two_pow (by omega)]

theorem lab_ext {a b : Lab} (h : ∀ i, i < 256 → bit a i = bit b i) : a = b := by
  apply Lab.ext'
  intro i hi
  apply byte_ext
  intro k hk
  have := h (8 * i + k) (by omega)
  simpa [bit, show (8 * i + k) / 8 = i by omega, show (8 * i + k) % 8 = k by omega] using this

/-- So many bits are the same, and no more. -/
structure IsCommon (a b : Lab) (n : Nat) : Prop where
  le : n ≤ 256
  same : ∀ i, i < n → bit a i = bit b i
  other : n < 256 → bit a n ≠ bit b n
theorem IsCommon.eq {a b : Lab} {n m : Nat} (h : IsCommon a b n) (k : IsCommon a b m) : n = m := by
  rcases Nat.lt_trichotomy n m with hl | hl | hl
  · exact absurd (k.same n hl) (h.other (Nat.lt_of_lt_of_le hl k.le))
  · exact hl
  · exact absurd (h.same m hl) (k.other (Nat.lt_of_lt_of_le hl h.le))
def comFrom (a b : Lab) : Nat → Nat → Nat
  | 0, n => n
  | f + 1, n => if bit a n = bit b n then comFrom a b f (n + 1) else n
/-- How many bits are the same. -/
def common (a b : Lab) : Nat := comFrom a b 256 0
theorem comFrom_is (a b : Lab) : ∀ f n, n + f = 256 → (∀ i, i < n → bit a i = bit b i) → IsCommon a b (comFrom a b f n)
  | 0, n, hf, h => ⟨by simp [comFrom]; omega, by simpa [comFrom] using h, by simp [comFrom]; omega⟩
  | f + 1, n, hf, h => by
    rw [comFrom]
    split
    · rename_i he
      refine comFrom_is a b f (n + 1) (by omega) fun i hi => ?_
      by_cases e : i = n
      · subst e; exact he
      · exact h i (by omega)
    · rename_i he
      exact ⟨by omega, h, fun _ => he⟩
theorem common_is (a b : Lab) : IsCommon a b (common a b) := comFrom_is a b 256 0 rfl (by omega)
theorem common_of {a b : Lab} {n : Nat} (h : IsCommon a b n) : common a b = n := (common_is a b).eq h
theorem common_le (a b : Lab) : common a b ≤ 256 := (common_is a b).le
theorem common_256 {a b : Lab} : common a b = 256 ↔ a = b := by
  constructor
  · intro h
    have := (common_is a b).same
    rw [h] at this
    exact lab_ext this
  · rintro rfl
    exact common_of ⟨Nat.le_refl _, fun _ _ => rfl, fun h => absurd h (Nat.lt_irrefl _)⟩

theorem xor_bitB (x y : UInt8) (k : Nat) : (x.toNat ^^^ y.toNat) / 2 ^ (7 - k) % 2 = (bitB x k + bitB y k) % 2 := by
  have h := Nat.testBit_xor (x := x.toNat) (y := y.toNat) (i := 7 - k)
  rw [Nat.testBit_eq_decide_div_mod_eq, Nat.testBit_eq_decide_div_mod_eq, Nat.testBit_eq_decide_div_mod_eq] at h
  have h1 := bitB_lt x k
  have h2 := bitB_lt y k
  unfold bitB at h1 h2 ⊢
  have h3 : (x.toNat ^^^ y.toNat) / 2 ^ (7 - k) % 2 < 2 := Nat.mod_lt _ (by decide)
  generalize (x.toNat ^^^ y.toNat) / 2 ^ (7 - k) % 2 = p at *
  generalize x.toNat / 2 ^ (7 - k) % 2 = q at *
  generalize y.toNat / 2 ^ (7 - k) % 2 = r at *
  have c : p = 0 ∨ p = 1 := by omega
  have c2 : q = 0 ∨ q = 1 := by omega
  have c3 : r = 0 ∨ r = 1 := by omega
  rcases c with rfl | rfl <;> rcases c2 with rfl | rfl <;> rcases c3 with rfl | rfl <;> simp_all

/-- The first bit that is 1 of a byte that isn't 0. -/
theorem lead (z : Nat) (h0 : z ≠ 0) (h1 : z < 256) : Lib.bitLen z ≤ 8 ∧ 1 ≤ Lib.bitLen z ∧ (∀ j, j < 8 - Lib.bitLen z → z / 2 ^ (7 - j) % 2 = 0) ∧ z / 2 ^ (7 - (8 - Lib.bitLen z)) % 2 = 1 := by
  have key : ∀ n : Fin 256, n.val ≠ 0 → Lib.bitLen n.val ≤ 8 ∧ 1 ≤ Lib.bitLen n.val ∧ (∀ j : Fin 8, j.val < 8 - Lib.bitLen n.val → n.val / 2 ^ (7 - j.val) % 2 = 0) ∧ n.val / 2 ^ (7 - (8 - Lib.bitLen n.val)) % 2 = 1 := by decide +kernel
  obtain ⟨k1, k2, k3, k4⟩ := key ⟨z, h1⟩ h0
  exact ⟨k1, k2, fun j hj => k3 ⟨j, by omega⟩ hj, k4⟩

/-- Behind i bytes that are the same, and one that isn't. -/
theorem common_at {a b : Lab} {i : Nat} (hi : i < 32) (hs : ∀ j, j < i → a.get j = b.get j) (hne : (a.get i).toNat ^^^ (b.get i).toNat ≠ 0) :
    common a b = 8 * i + (8 - Lib.bitLen ((a.get i).toNat ^^^ (b.get i).toNat)) := by
  have hz : (a.get i).toNat ^^^ (b.get i).toNat < 2 ^ 8 := Nat.xor_lt_two_pow (a.get i).toNat_lt (b.get i).toNat_lt
  obtain ⟨k1, k2, k3, k4⟩ := lead _ hne hz
  generalize Lib.bitLen ((a.get i).toNat ^^^ (b.get i).toNat) = n at *
  apply common_of
  refine ⟨by omega, fun j hj => ?_, fun _ => ?_⟩
  · by_cases hlt : j < 8 * i
    · simp only [bit]
      rw [hs (j / 8) (by omega)]
    · have e : j / 8 = i := by omega
      have h := k3 (j % 8) (by omega)
      rw [xor_bitB] at h
      simp only [bit, e]
      have h1 := bitB_lt (a.get i) (j % 8)
      have h2 := bitB_lt (b.get i) (j % 8)
      omega
  · have e : (8 * i + (8 - n)) / 8 = i := by omega
    have e2 : (8 * i + (8 - n)) % 8 = 8 - n := by omega
    rw [xor_bitB] at k4
    simp only [bit, e, e2]
    have h1 := bitB_lt (a.get i) (8 - n)
    have h2 := bitB_lt (b.get i) (8 - n)
    omega
theorem xor_ne {x y : UInt8} : x.toNat ^^^ y.toNat = 0 ↔ x = y := by
  constructor
  · intro h
    have h2 : (x.toNat ^^^ y.toNat) ^^^ y.toNat = 0 ^^^ y.toNat := by rw [h]
    rw [Nat.xor_assoc, Nat.xor_self, Nat.xor_zero, Nat.zero_xor] at h2
    exact UInt8.toNat_inj.1 h2
  · rintro rfl
    exact Nat.xor_self _

/-- The order of two labels. -/
def order (a b : Lab) : Int := if common a b = 256 then 0 else 2 * (bit a (common a b) : Int) - 1

/-- The order of two bytes is that of their first bits that are unlike. -/
theorem byte_lt (x y : UInt8) (k : Nat) (hk : k < 8) (hs : ∀ j, j < k → bitB x j = bitB y j) (hx : bitB x k = 0) (hy : bitB y k = 1) : x < y := by
  rw [UInt8.lt_iff_toNat_lt]
  have hx8 := x.toNat_lt
  have hy8 := y.toNat_lt
  have top : x.toNat / 2 ^ (8 - k) = y.toNat / 2 ^ (8 - k) := by
    apply Nat.eq_of_testBit_eq
    intro i
    rw [Nat.testBit_div_two_pow, Nat.testBit_div_two_pow]
    by_cases hi : i + (8 - k) < 8
    · have := hs (7 - (i + (8 - k))) (by omega)
      simp only [bitB, show 7 - (7 - (i + (8 - k))) = i + (8 - k) by omega] at this
      rw [Nat.testBit_eq_decide_div_mod_eq, Nat.testBit_eq_decide_div_mod_eq, this]
    · have e : 2 ^ 8 ≤ 2 ^ (i + (8 - k)) := Nat.pow_le_pow_right (by decide) (by omega)
      rw [Nat.testBit_lt_two_pow (by omega), Nat.testBit_lt_two_pow (by omega)]
  simp only [bitB] at hx hy
  have e : 2 ^ (8 - k) = 2 * 2 ^ (7 - k) := by rw [show 8 - k = (7 - k) + 1 by omega, Nat.pow_succ, Nat.mul_comm]
  rw [e] at top
  have p : 0 < 2 ^ (7 - k) := Nat.pow_pos (by decide)
  generalize 2 ^ (7 - k) = m at *
  rw [Nat.mul_comm, ← Nat.div_div_eq_div_mul, ← Nat.div_div_eq_div_mul] at top
  have : x.toNat / m < y.toNat / m := by omega
  rcases Nat.lt_or_ge x.toNat y.toNat with h | h
  · exact h
  · have := Nat.div_le_div_right (c := m) h
    omega

theorem compare_at : ∀ (n : Nat) (l m : List UInt8), l.length = m.length → n < l.length → (∀ j, j < n → l.getD j 0 = m.getD j 0) → Lib.compareBytes l m = Lib.compareBytes (l.drop n) (m.drop n)
  | 0, l, m, _, _, _ => by simp
  | n + 1, [], _, _, h, _ => by simp at h
  | n + 1, x :: l, [], h, _, _ => by simp at h
  | n + 1, x :: l, y :: m, h, hn, hs => by
    have e : x = y := by simpa using hs 0 (by omega)
    subst e
    simp only [Lib.compareBytes, UInt8.lt_irrefl, if_false, List.drop_succ_cons]
    exact compare_at n l m (by simpa using h) (by simpa using hn) fun j hj => by simpa using hs (j + 1) (by omega)
theorem compare_self : ∀ l : List UInt8, Lib.compareBytes l l = 0
  | [] => rfl
  | x :: l => by simp [Lib.compareBytes, UInt8.lt_irrefl, compare_self l]

theorem compare_order (a b : Lab) : Lib.compareBytes a.l b.l = order a b := by
  by_cases he : a = b
  · subst he
    rw [compare_self, order, if_pos (common_256.2 rfl)]
  · have hc : common a b ≠ 256 := fun h => he (common_256.1 h)
    have is := common_is a b
    have hlt : common a b < 256 := Nat.lt_of_le_of_ne is.le hc
    rw [order, if_neg hc]
    generalize common a b = n at *
    have ha := a.h
    have hb := b.h
    have hs : ∀ j, j < n / 8 → a.l.getD j 0 = b.l.getD j 0 := by
      intro j hj
      show a.get j = b.get j
      apply byte_ext
      intro k hk
      have := is.same (8 * j + k) (by omega)
      simpa [bit, show (8 * j + k) / 8 = j by omega, show (8 * j + k) % 8 = k by omega] using this
    rw [compare_at (n / 8) a.l b.l (by omega) (by omega) hs]
    have da : a.l.drop (n / 8) = a.get (n / 8) :: a.l.drop (n / 8 + 1) := by
      rw [List.drop_eq_getElem_cons (by omega)]
      simp [Lab.get, List.getD, show n / 8 < a.l.length by omega]
    have db : b.l.drop (n / 8) = b.get (n / 8) :: b.l.drop (n / 8 + 1) := by
      rw [List.drop_eq_getElem_cons (by omega)]
      simp [Lab.get, List.getD, show n / 8 < b.l.length by omega]
    rw [da, db, Lib.compareBytes]
    have hbits : ∀ j, j < n % 8 → bitB (a.get (n / 8)) j = bitB (b.get (n / 8)) j := by
      intro j hj
      have := is.same (8 * (n / 8) + j) (by omega)
      simpa [bit, show (8 * (n / 8) + j) / 8 = n / 8 by omega, show (8 * (n / 8) + j) % 8 = j by omega] using this
    have ho := is.other hlt
    have b1 := bit_lt a n
    have b2 := bit_lt b n
    have c : bit a n = 0 ∧ bit b n = 1 ∨ bit a n = 1 ∧ bit b n = 0 := by omega
    rcases c with ⟨c1, c2⟩ | ⟨c1, c2⟩
    · rw [if_pos (byte_lt _ _ (n % 8) (by omega) hbits c1 c2), c1]
      rfl
    · have hlt' := byte_lt _ _ (n % 8) (by omega) (fun j hj => (hbits j hj).symm) c2 c1
      rw [if_neg (fun h => absurd (UInt8.lt_trans h hlt') (UInt8.lt_irrefl _)), if_pos hlt', c1]
      rfl
/-! ### The walk's words -/
theorem i64_and (a b : Nat) (ha : a < 9223372036854775808) (hb : b < 9223372036854775808) : bits .and .i64 (a : Int) (b : Int) = ((a &&& b : Nat) : Int) := by
  have hx : a &&& b < 2 ^ 63 := Nat.and_lt_two_pow _ (by omega)
  show IntKind.i64.wrap ((BitVec.ofInt 64 (a : Int) &&& BitVec.ofInt 64 (b : Int)).toNat : Int) = _
  rw [BitVec.toNat_and, ofInt_u64 a (by omega), ofInt_u64 b (by omega)]
  exact IntWalk.i64_in _ (by omega)
theorem i64_or (a b : Nat) (ha : a < 9223372036854775808) (hb : b < 9223372036854775808) : bits .or .i64 (a : Int) (b : Int) = ((a ||| b : Nat) : Int) := by
  have hx : a ||| b < 2 ^ 63 := Nat.or_lt_two_pow (by omega) (by omega)
  show IntKind.i64.wrap ((BitVec.ofInt 64 (a : Int) ||| BitVec.ofInt 64 (b : Int)).toNat : Int) = _
  rw [BitVec.toNat_or, ofInt_u64 a (by omega), ofInt_u64 b (by omega)]
  exact IntWalk.i64_in _ (by omega)
theorem div_pow_cast (x k : Nat) : (x : Int) / 2 ^ k = ((x / 2 ^ k : Nat) : Int) := by
  rw [Int.natCast_ediv, Int.natCast_pow]
  rfl
theorem bit_walk (a : Lab) (i : Int) (h0 : 0 ≤ i) (h1 : i < 256) :
    bits .and .i64 (Go.RowKit.wrap64 (((a.get (i / 8).toNat).toNat : Int) / 2 ^ (7 - i % 8).toNat)) 1 = (bit a i.toNat : Int) := by
  have hx := (a.get (i / 8).toNat).toNat_lt
  have hle : (a.get (i / 8).toNat).toNat / 2 ^ (7 - i % 8).toNat ≤ (a.get (i / 8).toNat).toNat := Nat.div_le_self _ _
  rw [div_pow_cast]
  have e : bit a i.toNat = (a.get (i / 8).toNat).toNat / 2 ^ (7 - i % 8).toNat % 2 := by
    rw [bit, bitB, show (i / 8).toNat = i.toNat / 8 by omega, show (7 - i % 8).toNat = 7 - i.toNat % 8 by omega]
  rw [e]
  generalize (a.get (i / 8).toNat).toNat / 2 ^ (7 - i % 8).toNat = q at *
  rw [IntWalk.wrap64_in _ ⟨by omega, by omega⟩, show (1 : Int) = ((1 : Nat) : Int) from rfl, i64_and _ _ (by omega) (by omega), nat_mask1]
end Go.Proofs.YtnffmgpnhlcakaaDoor
