/- What a list of things is as bytes. Conditions: none. -/
import Derived.Test.YthcaolinajfjpaaThings
import Derived.Test.YthcaolinajfjpaaCode8
namespace Go.Proofs.Ythcaolinajfjpaa
open Go Go.RowKit

def flagB (n : Int) : Bool := decide (0 < n)
def stepW (st : List UInt8 × Int) (t : Thing) : List UInt8 × Int :=
  if t.k = 1 then (numW st.1 st.2 t.n, numWE st.2 t.n)
  else if t.k = 2 then (textW st.1 st.2 t.s, textWE st.2 t.s)
  else if t.k = 3 then (added st.1 st.2 t.l.l, st.2)
  else if t.k = 4 then (added st.1 st.2 [if flagB t.n then 1 else 0], st.2)
  else st
/-- What a writer holds behind the first i things. -/
def stW (T : Nat → Thing) : Nat → List UInt8 × Int
  | 0 => ([], 0)
  | i + 1 => stepW (stW T i) (T i)
def encT (t : Thing) : List UInt8 :=
  if t.k = 1 then numBytes t.n.toNat
  else if t.k = 2 then numBytes t.s.size ++ t.s.data.toList
  else if t.k = 3 then t.l.l
  else if t.k = 4 then [if flagB t.n then 1 else 0]
  else []
def fineT (t : Thing) : Prop := (t.k = 1 → 0 ≤ t.n) ∧ (t.k = 2 → t.s.size ≤ 65536)
def encs (T : Nat → Thing) : Nat → List UInt8
  | 0 => []
  | i + 1 => encs T i ++ encT (T i)
theorem step_back (st : List UInt8 × Int) (t : Thing) (h : (stepW st t).2 = 0) (hl : (stepW st t).1.length ≤ 65536) : st.2 = 0 ∧ st.1.length ≤ 65536 ∧ fineT t ∧ (stepW st t).1 = st.1 ++ encT t := by
  obtain ⟨bs, err⟩ := st
  unfold stepW at h hl ⊢
  unfold encT
  by_cases h1 : t.k = 1
  · rw [if_pos h1] at h hl ⊢
    rw [if_pos h1]
    obtain ⟨h2, h3⟩ := numWE_zero h
    dsimp only at h3 hl ⊢
    subst h3
    rw [numW, if_neg (by omega)] at hl ⊢
    obtain ⟨h4, h5⟩ := added_end hl
    exact ⟨rfl, h4, ⟨fun _ => h2, fun e => by omega⟩, h5⟩
  · rw [if_neg h1] at h hl ⊢
    rw [if_neg h1]
    by_cases h2 : t.k = 2
    · rw [if_pos h2] at h hl ⊢
      rw [if_pos h2]
      obtain ⟨h3, h4⟩ := textWE_zero h
      dsimp only at h4 hl ⊢
      subst h4
      rw [textW, if_neg (by omega)] at hl ⊢
      obtain ⟨h5, h6⟩ := added_end hl
      obtain ⟨h7, h8⟩ := added_end h5
      exact ⟨rfl, h7, ⟨fun e => absurd e h1, fun _ => h3⟩, by rw [h6, h8, List.append_assoc]⟩
    · rw [if_neg h2] at h hl ⊢
      rw [if_neg h2]
      by_cases h3 : t.k = 3
      · rw [if_pos h3] at h hl ⊢
        rw [if_pos h3]
        dsimp only at h hl ⊢
        subst h
        obtain ⟨h7, h8⟩ := added_end hl
        exact ⟨rfl, h7, ⟨fun e => absurd e h1, fun e => absurd e h2⟩, h8⟩
      · rw [if_neg h3] at h hl ⊢
        rw [if_neg h3]
        by_cases h4 : t.k = 4
        · rw [if_pos h4] at h hl ⊢
          rw [if_pos h4]
          dsimp only at h hl ⊢
          subst h
          obtain ⟨h7, h8⟩ := added_end hl
          exact ⟨rfl, h7, ⟨fun e => absurd e h1, fun e => absurd e h2⟩, h8⟩
        · rw [if_neg h4] at h hl ⊢
          rw [if_neg h4]
          exact ⟨h, hl, ⟨fun e => absurd e h1, fun e => absurd e h2⟩, (List.append_nil _).symm⟩
theorem all_back (T : Nat → Thing) : ∀ m, (stW T m).2 = 0 → (stW T m).1.length ≤ 65536 → (stW T m).1 = encs T m ∧ ∀ i, i < m → fineT (T i) := by
  intro m
  induction m with
  | zero => intro _ _; exact ⟨rfl, fun i hi => absurd hi (Nat.not_lt_zero i)⟩
  | succ m ih =>
    intro h hl
    obtain ⟨h1, h2, h3, h4⟩ := step_back (stW T m) (T m) h hl
    obtain ⟨i1, i2⟩ := ih h1 h2
    refine ⟨by rw [stW, h4, i1, encs], fun i hi => ?_⟩
    by_cases e : i = m
    · subst e; exact h3
    · exact i2 i (by omega)
/-- The bytes from the i-th thing on, of m. -/
def rest (T : Nat → Thing) (m i : Nat) : List UInt8 := (encs T m).drop (encs T i).length
theorem encs_prefix (T : Nat → Thing) : ∀ m i, i ≤ m → ∃ r, encs T m = encs T i ++ r := by
  intro m
  induction m with
  | zero => intro i hi; obtain rfl : i = 0 := by omega
            exact ⟨[], rfl⟩
  | succ m ih =>
    intro i hi
    by_cases e : i = m + 1
    · subst e; exact ⟨[], (List.append_nil _).symm⟩
    · obtain ⟨r, hr⟩ := ih i (by omega)
      exact ⟨r ++ encT (T m), by rw [encs, hr, List.append_assoc]⟩
theorem rest_zero (T : Nat → Thing) (m : Nat) : rest T m 0 = encs T m := rfl
theorem rest_end (T : Nat → Thing) (m : Nat) : rest T m m = [] := List.drop_eq_nil_of_le (Nat.le_refl _)
theorem rest_step (T : Nat → Thing) (m i : Nat) (h : i < m) : rest T m i = encT (T i) ++ rest T m (i + 1) := by
  obtain ⟨r, hr⟩ := encs_prefix T m (i + 1) h
  rw [rest, rest, hr, List.drop_left]
  rw [encs, List.append_assoc, List.drop_left]
theorem read_label (a : Lab) (r : List UInt8) : labelV (txt (a.l ++ r)) 0 = a ∧ takeR (txt (a.l ++ r)) 0 32 = txt r ∧ takeE (txt (a.l ++ r)) 0 32 = 0 := by
  have h := a.h
  have hl : 32 ≤ (a.l ++ r).length := by rw [List.length_append]; omega
  refine ⟨?_, ?_, takeE_list _ _ hl⟩
  · rw [labelV, dif_pos ⟨rfl, by rw [txt_size]; exact hl⟩]
    obtain ⟨l, hl2⟩ := a
    have : (l ++ r).take 32 = l := by rw [List.take_append_of_le_length (by omega), List.take_of_length_le (by omega)]
    congr 1
  · rw [takeR_list _ _ hl, List.drop_left' h]
theorem read_flag (v : Bool) (r : List UInt8) : flagV (txt ((if v then (1 : UInt8) else 0) :: r)) 0 = v ∧ takeR (txt ((if v then (1 : UInt8) else 0) :: r)) 0 1 = txt r ∧ octE (txt ((if v then (1 : UInt8) else 0) :: r)) 0 1 = 0 := by
  have hc : (((if v then (1 : UInt8) else 0)).toNat : Int) ≤ 1 := by cases v <;> decide
  refine ⟨?_, ?_, octE_cons _ _ _ hc⟩
  · rw [flagV, octV_cons _ _ _ hc]
    cases v <;> rfl
  · rw [takeR_list _ _ (by simp)]
    rfl
end Go.Proofs.Ythcaolinajfjpaa
