/- The bits of a filter of keys. Conditions: none. -/
import Derived.Test.YtdedlekelkaabaaBloom4
namespace Go.Proofs.Ytdedlekelkaabaa
open Go Go.RowKit Go.Shelf

theorem bits_or_get : ∀ (c : Fin 256) (a b : Fin 8), ((c.val ||| 2 ^ a.val) / 2 ^ b.val % 2 == 1) = (decide (b.val = a.val) || (c.val / 2 ^ b.val % 2 == 1)) ∧ (c.val ||| 2 ^ a.val) < 256 := by decide +kernel
theorem bitK_setK (bs : List UInt8) (k j : Nat) (hk : k < 8 * bs.length) : bitK (setK bs k) j = (decide (j = k) || bitK bs j) := by
  unfold bitK setK
  have hk8 : k / 8 < bs.length := by omega
  have h := bits_or_get ⟨(bs.getD (k / 8) 0).toNat, UInt8.toNat_lt _⟩ ⟨k % 8, Nat.mod_lt _ (by decide)⟩ ⟨j % 8, Nat.mod_lt _ (by decide)⟩
  by_cases e : k / 8 = j / 8
  · have hg : (bs.set (k / 8) (UInt8.ofNat ((bs.getD (k / 8) 0).toNat ||| 2 ^ (k % 8)))).getD (j / 8) 0 = UInt8.ofNat ((bs.getD (k / 8) 0).toNat ||| 2 ^ (k % 8)) := by
      rw [← e]
      simp [List.getD_eq_getElem?_getD, hk8]
    rw [hg, UInt8.toNat_ofNat', Nat.mod_eq_of_lt h.2, ← e]
    refine h.1.trans ?_
    congr 1
    by_cases q : j = k
    · subst q; simp
    · have : j % 8 ≠ k % 8 := by omega
      simp [q, this]
  · have hg : (bs.set (k / 8) (UInt8.ofNat ((bs.getD (k / 8) 0).toNat ||| 2 ^ (k % 8)))).getD (j / 8) 0 = bs.getD (j / 8) 0 := by
      simp [List.getD_eq_getElem?_getD, e]
    rw [hg]
    have : j ≠ k := fun q => e (by rw [q])
    simp [this]
theorem plQ_lt8 (H : UInt64) (n i : Nat) (hn : 0 < n) (hn2 : n ≤ 100000) : (plQ H (8 * n) i).toNat < 8 * n := plQ_lt H (8 * n) i ⟨by omega, by omega⟩
/-- A bit is set if it was, or a key's place is there. -/
theorem bitK_putKey (p : Nat) (bs : List UInt8) (key : List UInt8) (j : Nat) (hn : 0 < bs.length) (hn2 : bs.length ≤ 100000) :
    bitK (putKey p bs key) j = (((List.range p).any fun i => (plQ (hashL key) (8 * bs.length) i).toNat == j) || bitK bs j) := by
  have H : ∀ (l : List Nat) (b : List UInt8), b.length = bs.length → bitK (l.foldl (fun b i => setK b (plQ (hashL key) (8 * bs.length) i).toNat) b) j = ((l.any fun i => (plQ (hashL key) (8 * bs.length) i).toNat == j) || bitK b j) := by
    intro l
    induction l with
    | nil => intro b hb; simp
    | cons i l ih =>
      intro b hb
      rw [List.foldl_cons, ih _ (by rw [setK_length, hb]), bitK_setK _ _ _ (by rw [hb]; exact plQ_lt8 _ _ _ hn hn2), List.any_cons]
      have e : decide (j = (plQ (hashL key) (8 * bs.length) i).toNat) = ((plQ (hashL key) (8 * bs.length) i).toNat == j) := by
        rw [Bool.eq_iff_iff, decide_eq_true_iff, beq_iff_eq]; exact eq_comm
      rw [e]
      cases ((plQ (hashL key) (8 * bs.length) i).toNat == j) <;> cases (l.any fun i => (plQ (hashL key) (8 * bs.length) i).toNat == j) <;> rfl
  exact H _ bs rfl
theorem bitK_zero (n j : Nat) : bitK (List.replicate n 0) j = false := by
  unfold bitK
  have : (List.replicate n (0 : UInt8)).getD (j / 8) 0 = 0 := by
    rw [List.getD_eq_getElem?_getD, List.getElem?_replicate]
    split <;> rfl
  rw [this]
  simp
theorem makeK_length (p n : Nat) (keys : List (List UInt8)) : (makeK p n keys).length = n := by
  unfold makeK
  have : ∀ (l : List (List UInt8)) (b : List UInt8), (l.foldl (putKey p) b).length = b.length := by
    intro l
    induction l with
    | nil => intro b; rfl
    | cons i l ih => intro b; rw [List.foldl_cons, ih, putKey_length]
  rw [this, List.length_replicate]
/-- The bits of a filter of keys. -/
theorem bitK_makeK (p n : Nat) (keys : List (List UInt8)) (j : Nat) (hn : 0 < n) (hn2 : n ≤ 100000) :
    bitK (makeK p n keys) j = keys.any fun key => (List.range p).any fun i => (plQ (hashL key) (8 * n) i).toNat == j := by
  unfold makeK
  have H : ∀ (l : List (List UInt8)) (b : List UInt8), b.length = n → bitK (l.foldl (putKey p) b) j = ((l.any fun key => (List.range p).any fun i => (plQ (hashL key) (8 * n) i).toNat == j) || bitK b j) := by
    intro l
    induction l with
    | nil => intro b hb; simp
    | cons key l ih =>
      intro b hb
      rw [List.foldl_cons, ih _ (by rw [putKey_length, hb]), bitK_putKey _ _ _ _ (by rw [hb]; exact hn) (by rw [hb]; exact hn2), List.any_cons, hb]
      cases (List.range p).any (fun i => (plQ (hashL key) (8 * n) i).toNat == j) <;> cases (l.any fun key => (List.range p).any fun i => (plQ (hashL key) (8 * n) i).toNat == j) <;> rfl
  rw [H _ _ (by simp), bitK_zero]
  simp
/-- No key that is there is missed. -/
theorem may_has (p n : Nat) (keys : List (List UInt8)) (key : List UInt8) (hk : key ∈ keys) (hn : 0 < n) (hn2 : n ≤ 100000) : mayB (makeK p n keys) (hashL key) p = true := by
  unfold mayB
  rw [List.all_eq_true]
  intro i hi
  rw [makeK_length, bitK_makeK p n keys _ hn hn2, List.any_eq_true]
  exact ⟨key, hk, List.any_eq_true.2 ⟨i, hi, by simp⟩⟩
/-- Of more keys no fewer may be there. -/
theorem may_more (p n : Nat) (a b : List (List UInt8)) (H : UInt64) (hab : ∀ k ∈ a, k ∈ b) (hn : 0 < n) (hn2 : n ≤ 100000) (h : mayB (makeK p n a) H p = true) : mayB (makeK p n b) H p = true := by
  unfold mayB at *
  rw [List.all_eq_true] at *
  intro i hi
  have h2 := h i hi
  rw [makeK_length, bitK_makeK p n _ _ hn hn2, List.any_eq_true] at *
  obtain ⟨k, hk, h3⟩ := h2
  exact ⟨k, hab k hk, h3⟩
theorem mayF_has (p n : Nat) (keys : List (List UInt8)) (key : List UInt8) (hk : key ∈ keys) (hn : 0 < n) (hn2 : n ≤ 100000) : mayF p (makeK p n keys) (hashL key) = true := by
  unfold mayF
  rw [Int.toNat_natCast, may_has p n keys key hk hn hn2, Bool.or_true]
theorem mayF_more (p n : Nat) (a b : List (List UInt8)) (H : UInt64) (hab : ∀ k ∈ a, k ∈ b) (hn : 0 < n) (hn2 : n ≤ 100000) (h : mayF p (makeK p n a) H = true) : mayF p (makeK p n b) H = true := by
  unfold mayF at *
  rw [Int.toNat_natCast, makeK_length] at *
  cases hg : goodB p n with
  | false => rfl
  | true =>
    rw [hg] at h
    simp only [Bool.not_true, Bool.false_or] at *
    exact may_more p n a b H hab hn hn2 h
theorem sizeK_pos (m each : Nat) : 0 < sizeK m each := by unfold sizeK; omega
theorem sizeK_le (m each : Nat) (hm : m ≤ 2048) (he : each ≤ 32) : sizeK m each ≤ 8193 := by
  have := Nat.mul_le_mul hm he
  unfold sizeK
  omega
end Go.Proofs.Ytdedlekelkaabaa
