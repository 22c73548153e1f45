/- Frames one behind the other, cut off anywhere: plain facts. Conditions: none. -/
import Derived.Test.YtlhdnkfnhdkbkaaGreatDoorSeal4
namespace Go.Proofs.YtlhdnkfnhdkbkaaGreatDoor
open Go

/-- Frames of texts, one behind the other. -/
def cat : List (List UInt8) → List UInt8
  | [] => []
  | t :: ts => frame t ++ cat ts
/-- How many of them are whole among the first c bytes. -/
def whole : List (List UInt8) → Nat → Nat
  | [], _ => 0
  | t :: ts, c => if 8 + t.length ≤ c then whole ts (c - (8 + t.length)) + 1 else 0
/-- Where the first k end. -/
def endAt (ts : List (List UInt8)) (k : Nat) : Nat := (cat (ts.take k)).length
theorem cat_append (a b : List (List UInt8)) : cat (a ++ b) = cat a ++ cat b := by
  induction a with
  | nil => rfl
  | cons t a ih => rw [List.cons_append, cat, cat, ih, List.append_assoc]
theorem endAt_zero (ts : List (List UInt8)) : endAt ts 0 = 0 := rfl
theorem endAt_cons (t : List UInt8) (ts : List (List UInt8)) (k : Nat) : endAt (t :: ts) (k + 1) = 8 + t.length + endAt ts k := by
  rw [endAt, List.take_succ_cons, cat, List.length_append, frame_length]
  rfl
theorem whole_le (ts : List (List UInt8)) (c : Nat) : whole ts c ≤ ts.length := by
  induction ts generalizing c with
  | nil => exact Nat.le_refl _
  | cons t ts ih =>
    rw [whole]
    split
    · have := ih (c - (8 + t.length))
      simp
      omega
    · exact Nat.zero_le _
theorem whole_small (ts : List (List UInt8)) (c : Nat) : whole ts c ≤ c := by
  induction ts generalizing c with
  | nil => exact Nat.zero_le _
  | cons t ts ih =>
    rw [whole]
    split
    · have := ih (c - (8 + t.length))
      omega
    · exact Nat.zero_le _
/-- The first k are whole just if k is at most that number. -/
theorem whole_iff (ts : List (List UInt8)) (c k : Nat) (hk : k ≤ ts.length) : endAt ts k ≤ c ↔ k ≤ whole ts c := by
  induction ts generalizing c k with
  | nil =>
    obtain rfl : k = 0 := by simpa using hk
    simp [endAt_zero]
  | cons t ts ih =>
    cases k with
    | zero => simp [endAt_zero]
    | succ k =>
      rw [endAt_cons, whole]
      have hk' : k ≤ ts.length := by simpa using hk
      split
      · rename_i h
        have := ih (c - (8 + t.length)) k hk'
        omega
      · omega
/-- Bytes that are cut off a frame are none. -/
theorem open_cut (t r : List UInt8) (c : Nat) (ht : t.length ≤ 65536) (hc : c < 8 + t.length) : opE ((frame t ++ r).take c) ≠ 0 := by
  have hl : ((frame t ++ r).take c).length = c := by rw [List.length_take, List.length_append, frame_length]; omega
  unfold opE
  split
  · decide
  · rename_i h8
    rw [hl] at h8
    have hn : num4 ((frame t ++ r).take c) = 1577058304 + t.length := by
      have h4 : ((frame t ++ r).take c) = be4 (1577058304 + t.length) ++ ((frame t ++ r).take c).drop 4 := by
        have : ((frame t ++ r).take c).take 4 = be4 (1577058304 + t.length) := by
          rw [List.take_take, Nat.min_eq_left (by omega)]
          rfl
        rw [← this, List.take_append_drop]
      rw [h4]
      exact num4_be4 _ (by omega) _
    split
    · decide
    · split
      · decide
      · rename_i k
        rw [hl, hn] at k
        omega
theorem opE_nil' : opE [] ≠ 0 := by decide
theorem all_cut (L : List UInt8) : ∀ (f : Nat) (ts : List (List UInt8)) (n c : Nat), (∀ t ∈ ts, t.length ≤ 65536) → whole ts c < f → L.drop n = (cat ts).take c → c ≤ (cat ts).length → allF f L n = (ts.take (whole ts c), n + endAt ts (whole ts c)) := by
  intro f
  induction f with
  | zero => intro ts n c _ h; omega
  | succ f ih =>
    intro ts n c hts hf hd hc
    cases ts with
    | nil =>
      have h0 : L.drop n = [] := by rw [hd]; exact List.take_nil
      rw [allF, h0, if_neg opE_nil']
      rfl
    | cons t ts =>
      have ht := hts t (by simp)
      by_cases h : 8 + t.length ≤ c
      · have hfl := frame_length t
        have e : L.drop n = frame t ++ (cat ts).take (c - (8 + t.length)) := by
          rw [hd, cat, List.take_append, List.take_of_length_le (by omega), hfl]
        obtain ⟨o1, o2, o3⟩ := open_frame t ((cat ts).take (c - (8 + t.length))) ht
        have hd2 : L.drop (n + (8 + t.length)) = (cat ts).take (c - (8 + t.length)) := by
          rw [← List.drop_drop, e, ← hfl, List.drop_left]
        have hc2 : c - (8 + t.length) ≤ (cat ts).length := by
          rw [cat, List.length_append] at hc
          omega
        have := ih ts (n + (8 + t.length)) (c - (8 + t.length)) (fun u hu => hts u (by simp [hu])) (by rw [whole, if_pos h] at hf; omega) hd2 hc2
        rw [allF, e, o1, if_pos rfl, o2, o3, this, whole, if_pos h, endAt_cons]
        simp
        omega
      · have ho : opE (L.drop n) ≠ 0 := by
          rw [hd, cat]
          exact open_cut t (cat ts) c ht (by omega)
        rw [allF, if_neg ho, whole, if_neg h]
        rfl
theorem all_of_cut (ts : List (List UInt8)) (c : Nat) (hts : ∀ t ∈ ts, t.length ≤ 65536) (hc : c ≤ (cat ts).length) : allR ((cat ts).take c) = (ts.take (whole ts c), endAt ts (whole ts c)) := by
  have hw := whole_small ts c
  have hL : ((cat ts).take c).length = c := by rw [List.length_take]; omega
  have := all_cut ((cat ts).take c) (((cat ts).take c).length + 1) ts 0 c hts (by omega) rfl hc
  rw [allR, this, Nat.zero_add]
end Go.Proofs.YtlhdnkfnhdkbkaaGreatDoor
