/- What is written is what is read: plain facts on the bytes of numbers and texts. Conditions: none. -/
import Derived.Test.YtnffmgpnhlcakaaDoorCode6
import Derived.Test.YtnffmgpnhlcakaaDoorNumMath
namespace Go.Proofs.YtnffmgpnhlcakaaDoor
open Go

theorem takeS_list (l : List UInt8) (n : Nat) (h : n ≤ l.length) : takeS (txt l) 0 n = txt (l.take n) := by
  rw [takeS, if_pos ⟨rfl, by rw [txt_size]; exact h⟩]
  apply ByteArray.ext
  rw [ByteArray.data_extract]
  apply Array.toList_inj.1
  simp
theorem takeR_list (l : List UInt8) (n : Nat) (h : n ≤ l.length) : takeR (txt l) 0 n = txt (l.drop n) := by
  rw [takeR, if_pos ⟨rfl, by rw [txt_size]; exact h⟩]
  apply ByteArray.ext
  rw [ByteArray.data_extract]
  apply Array.toList_inj.1
  rw [Array.toList_extract]
  rw [txt_size, List.extract_eq_take_drop]
  exact List.take_of_length_le (by simp)
theorem takeE_list (l : List UInt8) (n : Nat) (h : n ≤ l.length) : takeE (txt l) 0 n = 0 := by
  rw [takeE, if_neg (by rw [txt_size]; omega)]
theorem takeE_short (l : List UInt8) (n : Nat) (h : l.length < n) : takeE (txt l) 0 n = 5 := by
  rw [takeE, if_pos ⟨rfl, by rw [txt_size]; exact h⟩]
theorem takeS_short (l : List UInt8) (n : Nat) (h : l.length < n) : takeS (txt l) 0 n = txt [] := by
  rw [takeS, if_neg (by rw [txt_size]; omega)]
theorem takeR_short (l : List UInt8) (n : Nat) (h : l.length < n) : takeR (txt l) 0 n = txt l := by
  rw [takeR, if_neg (by rw [txt_size]; omega)]
theorem takeS_err (s : ByteArray) (e : Int) (n : Nat) (h : e ≠ 0) : takeS s e n = txt [] := by rw [takeS, if_neg (fun k => h k.1)]
theorem takeR_err (s : ByteArray) (e : Int) (n : Nat) (h : e ≠ 0) : takeR s e n = s := by rw [takeR, if_neg (fun k => h k.1)]
theorem takeE_err (s : ByteArray) (e : Int) (n : Nat) (h : e ≠ 0) : takeE s e n = e := by rw [takeE, if_neg (fun k => h k.1)]
theorem at_cons (c : UInt8) (l : List UInt8) : at_ (txt (c :: l)) 0 = c := rfl

theorem octV_cons (c : UInt8) (l : List UInt8) (m : Int) (h : (c.toNat : Int) ≤ m) : octV (txt (c :: l)) 0 m = c.toNat := by
  rw [octV, if_pos ⟨rfl, by rw [txt_size]; simp, by rw [at_cons]; exact h⟩, at_cons]
theorem octE_cons (c : UInt8) (l : List UInt8) (m : Int) (h : (c.toNat : Int) ≤ m) : octE (txt (c :: l)) 0 m = 0 := by
  rw [octE, if_neg (by simp), if_neg (by rw [txt_size]; simp), at_cons, if_pos h]
theorem octE_big (c : UInt8) (l : List UInt8) (m : Int) (h : m < (c.toNat : Int)) : octE (txt (c :: l)) 0 m = 4 := by
  rw [octE, if_neg (by simp), if_neg (by rw [txt_size]; simp), at_cons, if_neg (by omega)]
theorem octE_nil (m : Int) : octE (txt []) 0 m = 5 := rfl
theorem octE_err (s : ByteArray) (e m : Int) (h : e ≠ 0) : octE s e m = e := by rw [octE, if_pos h]

theorem numTail_head (n : Nat) (h : n < 9223372036854775808) (h0 : n ≠ 0) : at_ (txt (numTail n)) 0 ≠ 0 := by
  obtain ⟨h1, h2⟩ := numLen_bounds n (by omega)
  obtain ⟨h3, h4⟩ := h2 h0
  have e : at_ (txt (numTail n)) 0 = UInt8.ofNat (n / 256 ^ (numLen n - 1)) := by
    show (numTail n).getD 0 0 = _
    rw [List.getD_eq_getElem?_getD, numTail]
    simp [h3]
  rw [e]
  intro k
  have k2 := congrArg UInt8.toNat k
  have hp : 0 < 256 ^ (numLen n - 1) := Nat.pow_pos (by decide)
  have h5 : n / 256 ^ (numLen n - 1) < 256 := by
    rw [Nat.div_lt_iff_lt_mul hp]
    have : 256 ^ numLen n = 256 * 256 ^ (numLen n - 1) := by rw [← Nat.pow_succ', show (numLen n - 1).succ = numLen n by omega]
    omega
  have h6 : 1 ≤ n / 256 ^ (numLen n - 1) := by rw [Nat.le_div_iff_mul_le hp]; omega
  simp at k2
  omega

/-- What was written of a number is read. -/
theorem num_read (n : Nat) (l : List UInt8) (h : n < 9223372036854775808) : numV (txt (numBytes n ++ l)) 0 = n ∧ numS (txt (numBytes n ++ l)) 0 = txt l ∧ numE (txt (numBytes n ++ l)) 0 = 0 := by
  have hk := numLen_le n h
  have hb := numLen_byte n h
  have ho : ((UInt8.ofNat (numLen n)).toNat : Int) ≤ 8 := by rw [hb]; omega
  have e : numBytes n ++ l = UInt8.ofNat (numLen n) :: (numTail n ++ l) := rfl
  rw [e]
  have t1 : takeR (txt (UInt8.ofNat (numLen n) :: (numTail n ++ l))) 0 1 = txt (numTail n ++ l) := by rw [takeR_list _ _ (by simp)]; rfl
  have o1 : (octV (txt (UInt8.ofNat (numLen n) :: (numTail n ++ l))) 0 8).toNat = numLen n := by rw [octV_cons _ _ _ ho, hb]; rfl
  have o2 := octE_cons (UInt8.ofNat (numLen n)) (numTail n ++ l) 8 ho
  have hl : numLen n ≤ (numTail n ++ l).length := by rw [List.length_append, numTail_length]; omega
  have T : numT (txt (UInt8.ofNat (numLen n) :: (numTail n ++ l))) 0 = txt (numTail n) := by
    rw [numT, t1, o1, o2, takeS_list _ _ hl, List.take_left' (numTail_length n)]
  have S : numS (txt (UInt8.ofNat (numLen n) :: (numTail n ++ l))) 0 = txt l := by
    rw [numS, t1, o1, o2, takeR_list _ _ hl, List.drop_left' (numTail_length n)]
  have E0 : numE0 (txt (UInt8.ofNat (numLen n) :: (numTail n ++ l))) 0 = 0 := by
    rw [numE0, t1, o1, o2, takeE_list _ _ hl]
  rw [numV, numE, T, S, E0, txt_size, numTail_length]
  by_cases h0 : n = 0
  · subst h0
    rw [numLen_zero]
    simp
  · obtain ⟨h3, _⟩ := (numLen_bounds n (by omega)).2 h0
    have hbad : numBad (txt (numTail n)) = false := by
      rw [numBad, decide_eq_false_iff_not]
      rintro (k | k)
      · exact numTail_head n h h0 k
      · have : beVal (txt (numTail n)).data.toList = n := beVal_numTail n (by omega)
        rw [this] at k
        omega
    rw [if_neg (by omega), numOk, hbad]
    refine ⟨?_, rfl, by simp⟩
    have : beVal (txt (numTail n)).data.toList = n := beVal_numTail n (by omega)
    simp [this]

/-- Of a number's bytes that are cut off some are wanting. -/
theorem num_short (n k : Nat) (h : n < 9223372036854775808) (hk : k < (numBytes n).length) : numE (txt ((numBytes n).take k)) 0 = 5 := by
  have hk2 := numLen_le n h
  have hb := numLen_byte n h
  cases k with
  | zero =>
    have hT : (numT (txt []) 0).size = 0 := by
      unfold numT
      rw [octE_nil, takeS_err _ _ _ (by decide)]
      rfl
    rw [List.take_zero, numE, if_neg (fun e => e.1 hT), numE0, octE_nil, takeE_err _ _ _ (by decide)]
  | succ k =>
    rw [numBytes_eq, List.take_succ_cons]
    have ho : ((UInt8.ofNat (numLen n)).toNat : Int) ≤ 8 := by rw [hb]; omega
    have t1 : takeR (txt (UInt8.ofNat (numLen n) :: (numTail n).take k)) 0 1 = txt ((numTail n).take k) := by rw [takeR_list _ _ (by simp)]; rfl
    have o1 : (octV (txt (UInt8.ofNat (numLen n) :: (numTail n).take k)) 0 8).toNat = numLen n := by rw [octV_cons _ _ _ ho, hb]; rfl
    have o2 := octE_cons (UInt8.ofNat (numLen n)) ((numTail n).take k) 8 ho
    have hl : ((numTail n).take k).length < numLen n := by
      rw [numBytes_length] at hk
      rw [List.length_take, numTail_length]
      omega
    have hT : (numT (txt (UInt8.ofNat (numLen n) :: (numTail n).take k)) 0).size = 0 := by
      rw [numT, t1, o1, o2, takeS_short _ _ hl]
      rfl
    rw [numE, if_neg (fun e => e.1 hT), numE0, t1, o1, o2, takeE_short _ _ hl]

/-- A number's digits to the base 256, so many of them. -/
theorem digs_succ (n k : Nat) : (List.range (k + 1)).map (fun j => UInt8.ofNat (n / 256 ^ (k + 1 - 1 - j))) = (List.range k).map (fun j => UInt8.ofNat (n / 256 / 256 ^ (k - 1 - j))) ++ [UInt8.ofNat n] := by
  rw [List.range_succ, List.map_append]
  congr 1
  · apply List.map_congr_left
    intro j hj
    have hj := List.mem_range.1 hj
    rw [Nat.div_div_eq_div_mul, ← Nat.pow_succ', show k + 1 - 1 - j = k - 1 - j + 1 by omega]
  · simp
theorem digs_beVal : ∀ (k : Nat) (l : List UInt8), l.length = k → (List.range k).map (fun j => UInt8.ofNat (beVal l / 256 ^ (k - 1 - j))) = l := by
  intro k
  induction k with
  | zero => intro l hn; rw [List.length_eq_zero_iff] at hn; subst hn; rfl
  | succ k ih =>
    intro l hn
    have hl : l ≠ [] := by intro e; rw [e] at hn; cases hn
    obtain ⟨m, c, rfl⟩ : ∃ m c, l = m ++ [c] := ⟨l.dropLast, l.getLast hl, (List.dropLast_concat_getLast hl).symm⟩
    have hm : m.length = k := by simpa using hn
    have hc := c.toNat_lt
    rw [digs_succ, beVal_put, show (256 * beVal m + c.toNat) / 256 = beVal m by omega, ih m hm]
    congr 2
    apply UInt8.toNat_inj.1
    simp
theorem numLen_of (l : List UInt8) (h : l.length ≤ 8) (h0 : l = [] ∨ at_ (txt l) 0 ≠ 0) : numLen (beVal l) = l.length := by
  have hlt := beVal_lt l
  have h64 : (256 : Nat) ^ l.length ≤ 256 ^ 8 := Nat.pow_le_pow_right (by decide) h
  obtain ⟨b1, b2⟩ := numLen_bounds (beVal l) (by omega)
  cases l with
  | nil => rfl
  | cons c l =>
    have hc : c ≠ 0 := by
      rcases h0 with h0 | h0
      · cases h0
      · exact h0
    have hc1 : 1 ≤ c.toNat := by
      have : c.toNat ≠ 0 := fun e => hc (UInt8.toNat_inj.1 e)
      omega
    have hv : beVal (c :: l) = c.toNat * 256 ^ l.length + beVal l := by
      have := beVal_append [c] l
      rw [show beVal [c] = c.toNat by simp [beVal]] at this
      exact this
    have hge : 256 ^ l.length ≤ beVal (c :: l) := by
      have := Nat.mul_le_mul_right (256 ^ l.length) hc1
      omega
    have hp : 0 < 256 ^ l.length := Nat.pow_pos (by decide)
    obtain ⟨b3, b4⟩ := b2 (by omega)
    rw [List.length_cons] at hlt ⊢
    have u1 : l.length < numLen (beVal (c :: l)) := (Nat.pow_lt_pow_iff_right (show 1 < 256 by decide)).1 (Nat.lt_of_le_of_lt hge b1)
    have u2 : numLen (beVal (c :: l)) - 1 < l.length + 1 := (Nat.pow_lt_pow_iff_right (show 1 < 256 by decide)).1 (Nat.lt_of_le_of_lt b4 hlt)
    omega
theorem numE_of_zero {s : ByteArray} (h : numE s 0 = 0) : ((numT s 0).size ≠ 0 → numBad (numT s 0) = false) ∧ numE0 s 0 = 0 := by
  unfold numE at h
  split at h
  · cases h
  · rename_i k
    refine ⟨fun h1 => ?_, h⟩
    cases hb : numBad (numT s 0)
    · rfl
    · exact absurd ⟨h1, hb⟩ k

/-- What is read as a number is what is written of it. -/
theorem num_one (l : List UInt8) (h : numE (txt l) 0 = 0) : ∃ n : Nat, n < 9223372036854775808 ∧ numV (txt l) 0 = n ∧ ∃ m, numS (txt l) 0 = txt m ∧ l = numBytes n ++ m := by
  obtain ⟨h1, h2⟩ := numE_of_zero h
  cases l with
  | nil =>
    rw [numE0, octE_nil, takeE_err _ _ _ (by decide)] at h2
    cases h2
  | cons c l =>
    by_cases hc : (c.toNat : Int) ≤ 8
    · have t1 : takeR (txt (c :: l)) 0 1 = txt l := by rw [takeR_list _ _ (by simp)]; rfl
      have o1 : (octV (txt (c :: l)) 0 8).toNat = c.toNat := by rw [octV_cons _ _ _ hc]; rfl
      have o2 := octE_cons c l 8 hc
      by_cases hl : c.toNat ≤ l.length
      · have T : numT (txt (c :: l)) 0 = txt (l.take c.toNat) := by rw [numT, t1, o1, o2, takeS_list _ _ hl]
        have S : numS (txt (c :: l)) 0 = txt (l.drop c.toNat) := by rw [numS, t1, o1, o2, takeR_list _ _ hl]
        have L : (l.take c.toNat).length = c.toNat := by rw [List.length_take]; omega
        rw [T, txt_size, L] at h1
        have hlen : numLen (beVal (l.take c.toNat)) = c.toNat := by
          rw [← L]
          conv => lhs; rw [L]
          rw [numLen_of _ (by omega)]
          by_cases h0 : c.toNat = 0
          · left; rw [h0]; rfl
          · right
            have := h1 h0
            rw [numBad, decide_eq_false_iff_not] at this
            exact fun e => this (.inl e)
        have hbig : beVal (l.take c.toNat) < 9223372036854775808 := by
          by_cases h0 : c.toNat = 0
          · rw [h0]; show beVal [] < _; decide
          · have := h1 h0
            rw [numBad, decide_eq_false_iff_not] at this
            have k : ¬ 9223372036854775807 < beVal (l.take c.toNat) := fun e => this (.inr e)
            omega
        refine ⟨beVal (l.take c.toNat), hbig, ?_, _, S, ?_⟩
        · rw [numV, T, txt_size, L]
          by_cases h0 : c.toNat = 0
          · rw [if_pos h0, h0]; rfl
          · rw [if_neg h0, numOk, h1 h0]
            simp
        · rw [numBytes_eq, numTail, hlen, digs_beVal _ _ L, List.cons_append, List.take_append_drop]
          congr 1
          apply UInt8.toNat_inj.1
          simp
      · rw [numE0, t1, o1, o2, takeE_short _ _ (by omega)] at h2
        cases h2
    · have o2 := octE_big c l 8 (by omega)
      rw [numE0, o2, takeE_err _ _ _ (by decide)] at h2
      cases h2

theorem belE_le {s : ByteArray} (m : Int) (h : belE s 0 m = 0) : numE s 0 = 0 ∧ numV s 0 < m ∧ belV s 0 m = numV s 0 := by
  unfold belE at h
  split at h
  · cases h
  · rename_i k
    have : ¬ m ≤ numV s 0 := fun e => k ⟨h, e⟩
    exact ⟨h, by omega, if_neg k⟩
theorem bel_of {s : ByteArray} {e m : Int} (h : ¬ m ≤ numV s e) : belE s e m = numE s e ∧ belV s e m = numV s e := ⟨if_neg fun k => h k.2, if_neg fun k => h k.2⟩

/-- What was written of a text is read. -/
theorem text_read (t l : List UInt8) (h : t.length ≤ 65536) : textV (txt (numBytes t.length ++ t ++ l)) 0 = txt t ∧ textR (txt (numBytes t.length ++ t ++ l)) 0 = txt l ∧ textE (txt (numBytes t.length ++ t ++ l)) 0 = 0 := by
  rw [List.append_assoc]
  obtain ⟨v, s, e⟩ := num_read t.length (t ++ l) (by omega)
  obtain ⟨b1, b2⟩ := bel_of (s := txt (numBytes t.length ++ (t ++ l))) (e := 0) (m := 65537) (by rw [v]; omega)
  have n : textN (txt (numBytes t.length ++ (t ++ l))) 0 = t.length := by rw [textN, b2, v]; rfl
  rw [textV, textR, textE, n, b1, e, s, takeS_list _ _ (by simp), takeR_list _ _ (by simp), takeE_list _ _ (by simp)]
  simp

/-- Of a text's bytes that are cut off some are wanting. -/
theorem text_short (t : List UInt8) (k : Nat) (h : t.length ≤ 65536) (hk : k < (numBytes t.length ++ t).length) : textE (txt ((numBytes t.length ++ t).take k)) 0 = 5 := by
  by_cases hb : k < (numBytes t.length).length
  · rw [List.take_append_of_le_length (by omega)]
    have hn := num_short t.length k (by omega) hb
    have be : belE (txt ((numBytes t.length).take k)) 0 65537 = 5 := by
      rw [belE, hn, if_neg (fun e => by cases e.1)]
    rw [textE, be, takeE_err _ _ _ (by decide)]
  · rw [List.take_append, List.take_of_length_le (by omega)]
    rw [List.length_append] at hk
    obtain ⟨v, s, e⟩ := num_read t.length (t.take (k - (numBytes t.length).length)) (by omega)
    generalize ht : t.take (k - (numBytes t.length).length) = u at *
    have hu : u.length < t.length := by rw [← ht, List.length_take]; omega
    obtain ⟨b1, b2⟩ := bel_of (s := txt (numBytes t.length ++ u)) (e := 0) (m := 65537) (by rw [v]; omega)
    have n : textN (txt (numBytes t.length ++ u)) 0 = t.length := by rw [textN, b2, v]; rfl
    rw [textE, n, b1, e, s, takeE_short _ _ hu]

/-- What is read as a text is what is written of it. -/
theorem text_one (l : List UInt8) (h : textE (txt l) 0 = 0) : ∃ t : List UInt8, t.length ≤ 65536 ∧ textV (txt l) 0 = txt t ∧ ∃ m, textR (txt l) 0 = txt m ∧ l = numBytes t.length ++ t ++ m := by
  have hb : belE (txt l) 0 65537 = 0 := by
    rcases Decidable.em (belE (txt l) 0 65537 = 0) with k | k
    · exact k
    · rw [textE, takeE_err _ _ _ k] at h
      exact h
  obtain ⟨b1, b2, b3⟩ := belE_le _ hb
  obtain ⟨n, n1, n2, m, n3, n4⟩ := num_one l b1
  have N : textN (txt l) 0 = n := by rw [textN, b3, n2]; rfl
  rw [textE, hb, n3, N] at h
  have hn : n ≤ m.length := by
    rcases Nat.lt_or_ge m.length n with k | k
    · rw [takeE_short _ _ k] at h; cases h
    · exact k
  have hl : (m.take n).length = n := by rw [List.length_take]; omega
  refine ⟨m.take n, by omega, ?_, m.drop n, ?_, ?_⟩
  · rw [textV, hb, n3, N, takeS_list _ _ hn]
  · rw [textR, hb, n3, N, takeR_list _ _ hn]
  · rw [hl, List.append_assoc, List.take_append_drop]
    exact n4

theorem num_err (s : ByteArray) (e : Int) (h : e ≠ 0) : numV s e = 0 ∧ numS s e = s ∧ numE s e = e := by
  have r1 : takeR s e 1 = s := takeR_err _ _ _ h
  have o1 : octE s e 8 = e := octE_err _ _ _ h
  have T : (numT s e).size = 0 := by rw [numT, r1, o1, takeS_err _ _ _ h]; rfl
  exact ⟨if_pos T, by rw [numS, r1, o1, takeR_err _ _ _ h], by rw [numE, if_neg (fun k => k.1 T), numE0, r1, o1, takeE_err _ _ _ h]⟩
theorem text_err (s : ByteArray) (e : Int) (h : e ≠ 0) : textV s e = txt [] ∧ textR s e = s ∧ textE s e = e := by
  obtain ⟨v, n, k⟩ := num_err s e h
  have b : belE s e 65537 = e := by rw [belE, k, if_neg (fun x => h x.1)]
  rw [textV, textR, textE, b, n, takeS_err _ _ _ h, takeR_err _ _ _ h, takeE_err _ _ _ h]
  exact ⟨rfl, rfl, rfl⟩
end Go.Proofs.YtnffmgpnhlcakaaDoor
