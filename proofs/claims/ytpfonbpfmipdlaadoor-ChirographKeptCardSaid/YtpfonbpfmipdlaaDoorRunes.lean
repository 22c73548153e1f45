/- Runes of a text, as lists of bytes and numbers. Conditions: none. -/
import Derived.Lib.DecodeN
import Derived.Lib.RuneBytes
import Derived.Laws.RangeAny
namespace Go.Proofs.YtpfonbpfmipdlaaDoor
open Go

/-- The rune at the head of some bytes: its number, how many bytes it has. -/
def decL (l : List UInt8) : Nat × Nat := Lib.decodeN l.length (l.getD 0 0).toNat (l.getD 1 0).toNat (l.getD 2 0).toNat (l.getD 3 0).toNat

theorem get_drop (s : ByteArray) (i k : Nat) : s.get! (i + k) = (s.data.toList.drop i).getD k 0 := by
  rw [List.getD_eq_getElem?_getD, List.getElem?_drop, Array.getElem?_toList]
  show s.data[i + k]! = _
  rw [getElem!_def]
  cases s.data[i + k]? <;> rfl
theorem decode_list (s : ByteArray) (i : Nat) : Utf8.decode s i = decL (s.data.toList.drop i) := by
  rw [Lib.decode_at, decL, List.length_drop]
  have h0 := get_drop s i 0
  rw [Nat.add_zero] at h0
  rw [h0, get_drop, get_drop, get_drop]
  rfl

theorem decN_pos (n a b c d : Nat) : 1 ≤ (Lib.decodeN n a b c d).2 := by
  unfold Lib.decodeN
  repeat' split
  all_goals simp
theorem decN_le (n a b c d : Nat) (h : 1 ≤ n) : (Lib.decodeN n a b c d).2 ≤ n := by
  unfold Lib.decodeN
  repeat' split
  all_goals (simp only; omega)
theorem decN_four (n a b c d : Nat) : (Lib.decodeN n a b c d).2 ≤ 4 := by
  unfold Lib.decodeN
  repeat' split
  all_goals (simp only; omega)
/-- What is read is a rune. -/
theorem decN_valid (n a b c d : Nat) : (Lib.decodeN n a b c d).1 < 55296 ∨ (57344 ≤ (Lib.decodeN n a b c d).1 ∧ (Lib.decodeN n a b c d).1 ≤ 1114111) := by
  unfold Lib.decodeN
  repeat' split
  all_goals (simp only; omega)
theorem dec_pos (l : List UInt8) : 1 ≤ (decL l).2 := decN_pos _ _ _ _ _
theorem dec_le (l : List UInt8) (h : l ≠ []) : (decL l).2 ≤ l.length := decN_le _ _ _ _ _ (List.length_pos_iff.2 h)
theorem dec_valid (l : List UInt8) : (decL l).1 < 55296 ∨ (57344 ≤ (decL l).1 ∧ (decL l).1 ≤ 1114111) := decN_valid _ _ _ _ _

def runesF : Nat → List UInt8 → List (Nat × Nat)
  | 0, _ => []
  | f + 1, l => match l with
    | [] => []
    | x :: r => decL (x :: r) :: runesF f ((x :: r).drop (decL (x :: r)).2)
/-- The runes of a text: each with its number, how many bytes it has. -/
def runesL (l : List UInt8) : List (Nat × Nat) := runesF l.length l
theorem runesF_more : ∀ (f : Nat) (l : List UInt8), l.length ≤ f → ∀ g, l.length ≤ g → runesF f l = runesF g l
  | 0, l, hf, g, hg => by
    have : l = [] := List.length_eq_zero_iff.1 (by omega)
    subst this
    cases g <;> rfl
  | f + 1, [], _, g, _ => by cases g <;> rfl
  | f + 1, x :: r, hf, g, hg => by
    obtain ⟨k, rfl⟩ : ∃ k, g = k + 1 := ⟨g - 1, by simp at hg; omega⟩
    have := dec_pos (x :: r)
    have hl : ((x :: r).drop (decL (x :: r)).2).length ≤ r.length := by rw [List.length_drop, List.length_cons]; omega
    simp only [List.length_cons] at hf hg
    simp only [runesF]
    rw [runesF_more f _ (by omega) k (by omega)]
theorem runes_nil : runesL [] = [] := rfl
theorem runes_cons (l : List UInt8) (h : l ≠ []) : runesL l = decL l :: runesL (l.drop (decL l).2) := by
  match l, h with
  | x :: r, _ =>
    have := dec_pos (x :: r)
    have hl : ((x :: r).drop (decL (x :: r)).2).length ≤ r.length := by rw [List.length_drop, List.length_cons]; omega
    show runesF (r.length + 1) (x :: r) = _
    rw [runesF, runesL, runesF_more _ _ hl _ (Nat.le_refl _)]
theorem runes_len : ∀ (n : Nat) (l : List UInt8), l.length ≤ n → (runesL l).length ≤ l.length := by
  intro n
  induction n with
  | zero =>
    intro l h
    have : l = [] := List.length_eq_zero_iff.1 (by omega)
    subst this
    exact Nat.zero_le _
  | succ n ih =>
    intro l h
    by_cases hl : l = []
    · subst hl; exact Nat.zero_le _
    · have := dec_pos l
      have h2 := List.length_pos_iff.2 hl
      have := ih (l.drop (decL l).2) (by rw [List.length_drop]; omega)
      rw [runes_cons l hl, List.length_cons]
      rw [List.length_drop] at this
      omega
/-- Induction over the runes of a text. -/
theorem runes_ind {Q : List UInt8 → Prop} (h0 : Q []) (h1 : ∀ l, l ≠ [] → Q (l.drop (decL l).2) → Q l) : ∀ l, Q l := by
  have : ∀ (n : Nat) (l : List UInt8), l.length ≤ n → Q l := by
    intro n
    induction n with
    | zero =>
      intro l h
      have : l = [] := List.length_eq_zero_iff.1 (by omega)
      subst this
      exact h0
    | succ n ih =>
      intro l h
      by_cases hl : l = []
      · subst hl; exact h0
      · have := dec_pos l
        have h2 := List.length_pos_iff.2 hl
        exact h1 l hl (ih _ (by rw [List.length_drop]; omega))
  exact fun l => this l.length l (Nat.le_refl _)

/-! ### Writing a rune -/
/-- What a rune is written as. -/
def encL (c : Nat) : List UInt8 := Lib.encodeRune c
theorem u8 (n : Nat) (h : n < 256) : ((n : Int).toNat.toUInt8).toNat = n := by
  simp [Nat.mod_eq_of_lt h]
/-- What was written is read, whatever stands behind it. -/
theorem dec_enc (c : Nat) (hc : c < 55296 ∨ (57344 ≤ c ∧ c ≤ 1114111)) (l : List UInt8) : decL (encL c ++ l) = (c, (encL c).length) := by
  unfold encL Lib.encodeRune
  rcases (show c ≤ 127 ∨ (128 ≤ c ∧ c ≤ 2047) ∨ ((2048 ≤ c ∧ c < 55296) ∨ (57343 < c ∧ c ≤ 65535)) ∨ (65536 ≤ c ∧ c ≤ 1114111) by omega) with h | h | h | h
  · rw [Lib.encodeRuneZ_one (by omega) (by omega)]
    have e0 := u8 c (by omega)
    simp only [List.map_cons, List.map_nil, List.cons_append, List.nil_append, decL, List.getD_cons_zero, e0]
    unfold Lib.decodeN
    rw [if_pos (by omega)]
    rfl
  · rw [Lib.encodeRuneZ_two (by omega) (by omega)]
    have e0 := u8 (192 + c / 64) (by omega)
    have e1 := u8 (128 + c % 64) (by omega)
    rw [show ((192 + c / 64 : Nat) : Int) = 192 + (c : Int) / 64 by omega] at e0
    rw [show ((128 + c % 64 : Nat) : Int) = 128 + (c : Int) % 64 by omega] at e1
    simp only [List.map_cons, List.map_nil, List.cons_append, List.nil_append, decL, List.getD_cons_zero, List.getD_cons_succ, e0, e1, List.length_cons, List.length_nil]
    unfold Lib.decodeN
    repeat' split
    all_goals first | (exfalso; omega) | (apply Prod.ext <;> simp only <;> omega)
  · rw [Lib.encodeRuneZ_three (by omega)]
    have e0 := u8 (224 + c / 4096) (by omega)
    have e1 := u8 (128 + c / 64 % 64) (by omega)
    have e2 := u8 (128 + c % 64) (by omega)
    rw [show ((224 + c / 4096 : Nat) : Int) = 224 + (c : Int) / 4096 by omega] at e0
    rw [show ((128 + c / 64 % 64 : Nat) : Int) = 128 + (c : Int) / 64 % 64 by omega] at e1
    rw [show ((128 + c % 64 : Nat) : Int) = 128 + (c : Int) % 64 by omega] at e2
    simp only [List.map_cons, List.map_nil, List.cons_append, List.nil_append, decL, List.getD_cons_zero, List.getD_cons_succ, e0, e1, e2, List.length_cons, List.length_nil]
    unfold Lib.decodeN
    repeat' split
    all_goals first | (exfalso; omega) | (apply Prod.ext <;> simp only <;> omega)
  · rw [Lib.encodeRuneZ_four (by omega) (by omega)]
    have e0 := u8 (240 + c / 262144) (by omega)
    have e1 := u8 (128 + c / 4096 % 64) (by omega)
    have e2 := u8 (128 + c / 64 % 64) (by omega)
    have e3 := u8 (128 + c % 64) (by omega)
    rw [show ((240 + c / 262144 : Nat) : Int) = 240 + (c : Int) / 262144 by omega] at e0
    rw [show ((128 + c / 4096 % 64 : Nat) : Int) = 128 + (c : Int) / 4096 % 64 by omega] at e1
    rw [show ((128 + c / 64 % 64 : Nat) : Int) = 128 + (c : Int) / 64 % 64 by omega] at e2
    rw [show ((128 + c % 64 : Nat) : Int) = 128 + (c : Int) % 64 by omega] at e3
    simp only [List.map_cons, List.map_nil, List.cons_append, List.nil_append, decL, List.getD_cons_zero, List.getD_cons_succ, e0, e1, e2, e3, List.length_cons, List.length_nil]
    unfold Lib.decodeN
    repeat' split
    all_goals first | (exfalso; omega) | (apply Prod.ext <;> simp only <;> omega)
theorem take_1 : ∀ l : List UInt8, 1 ≤ l.length → l.take 1 = [l.getD 0 0]
  | _ :: _, _ => rfl
theorem take_2 : ∀ l : List UInt8, 2 ≤ l.length → l.take 2 = [l.getD 0 0, l.getD 1 0]
  | _ :: _ :: _, _ => rfl
theorem take_3 : ∀ l : List UInt8, 3 ≤ l.length → l.take 3 = [l.getD 0 0, l.getD 1 0, l.getD 2 0]
  | _ :: _ :: _ :: _, _ => rfl
theorem take_4 : ∀ l : List UInt8, 4 ≤ l.length → l.take 4 = [l.getD 0 0, l.getD 1 0, l.getD 2 0, l.getD 3 0]
  | _ :: _ :: _ :: _ :: _, _ => rfl
/-- A rune that isn't the sign of a fault is written as it stands there. -/
theorem enc_dec (l : List UInt8) (h : l ≠ []) (hc : (decL l).1 ≠ 65533) : encL (decL l).1 = l.take (decL l).2 := by
  have b0 := (l.getD 0 0).toNat_lt
  have b1 := (l.getD 1 0).toNat_lt
  have b2 := (l.getD 2 0).toNat_lt
  have b3 := (l.getD 3 0).toNat_lt
  have hn := List.length_pos_iff.2 h
  have byt : ∀ (n : Int) (x : UInt8), n = (x.toNat : Int) → n.toNat.toUInt8 = x := fun n x e => by
    subst e
    simp
  have t1 := take_1 l
  have t2 := take_2 l
  have t3 := take_3 l
  have t4 := take_4 l
  generalize hx0 : l.getD 0 0 = x0 at *
  generalize hx1 : l.getD 1 0 = x1 at *
  generalize hx2 : l.getD 2 0 = x2 at *
  generalize hx3 : l.getD 3 0 = x3 at *
  unfold encL Lib.encodeRune
  unfold decL at hc ⊢
  rw [hx0, hx1, hx2, hx3] at hc ⊢
  generalize hm : l.length = n at *
  unfold Lib.decodeN at hc ⊢
  split at hc
  · rename_i q
    rw [if_pos q, Lib.encodeRuneZ_one (by omega) (by omega), t1 hn]
    simp only [List.map_cons, List.map_nil]
    rw [byt _ x0 rfl]
  · rename_i q
    rw [if_neg q]
    split at hc
    · rename_i q1
      rw [if_pos q1]
      split at hc
      · rename_i q2
        rw [if_pos q2, Lib.encodeRuneZ_two (by omega) (by omega), t2 (by omega)]
        simp only [List.map_cons, List.map_nil]
        rw [byt _ x0 (by omega), byt _ x1 (by omega)]
      · exact absurd rfl hc
    · rename_i q1
      rw [if_neg q1]
      split at hc
      · rename_i q2
        rw [if_pos q2]
        split at hc
        · rename_i q3
          rw [if_pos q3, Lib.encodeRuneZ_three (by omega), t3 (by omega)]
          simp only [List.map_cons, List.map_nil]
          rw [byt _ x0 (by omega), byt _ x1 (by omega), byt _ x2 (by omega)]
        · exact absurd rfl hc
      · rename_i q2
        rw [if_neg q2]
        split at hc
        · rename_i q3
          rw [if_pos q3]
          split at hc
          · rename_i q4
            rw [if_pos q4, Lib.encodeRuneZ_four (by omega) (by omega), t4 (by omega)]
            simp only [List.map_cons, List.map_nil]
            rw [byt _ x0 (by omega), byt _ x1 (by omega), byt _ x2 (by omega), byt _ x3 (by omega)]
          · exact absurd rfl hc
        · exact absurd rfl hc
/-- Bytes that are written runes are these runes. -/
theorem runes_enc (c : Nat) (hc : c < 55296 ∨ (57344 ≤ c ∧ c ≤ 1114111)) (l : List UInt8) : runesL (encL c ++ l) = (c, (encL c).length) :: runesL l := by
  have hne : encL c ++ l ≠ [] := by
    intro e
    have h1 := Lib.encodeRuneZ_length (c : Int)
    have h2 := congrArg List.length e
    rw [List.length_append, encL, Lib.encodeRune, List.length_map] at h2
    simp only [List.length_nil] at h2
    omega
  rw [runes_cons _ hne, dec_enc c hc l]
  simp
end Go.Proofs.YtpfonbpfmipdlaaDoor
