/- Lists of entries split in order, as lists. Conditions: none. -/
import Derived.Test.YtpfkomglghmnfaaEntMath
namespace Go.Proofs.Ytpfkomglghmnfaa

def costE (x : Ent) : Nat := x.key.length + x.val.length + 8
def costs (l : List Ent) : Nat := (l.map costE).sum
theorem costs_nil : costs [] = 0 := rfl
theorem costs_snoc (l : List Ent) (x : Ent) : costs (l ++ [x]) = costs l + costE x := by simp [costs]
theorem costs_take (l : List Ent) (i : Nat) (x : Ent) (h : l[i]? = some x) : costs (l.take (i + 1)) = costs (l.take i) + costE x := by
  rw [List.take_add_one, h]
  exact costs_snoc _ _
theorem costs_le {l : List Ent} {n : Nat} (h : ∀ x ∈ l, costE x ≤ n) : costs l ≤ l.length * n := by
  induction l with
  | nil => exact Nat.zero_le _
  | cons x l ih =>
    have h1 := ih (fun y hy => h y (by simp [hy]))
    have h2 := h x (by simp)
    have h3 : costs (x :: l) = costE x + costs l := by simp [costs]
    rw [h3, List.length_cons, Nat.add_mul]
    omega
/-- Is a list of so many entries, of so many bytes, full? -/
def fullE (g : List Ent) (size most : Int) : Bool := decide (size ≤ (costs g : Int)) || decide (most ≤ (g.length : Int))
/-- The document's split: what has been gathered, what is left. -/
def splitE (size most : Int) : List Ent → List Ent → List (List Ent)
  | g, [] => if g = [] then [] else [g]
  | g, x :: l => if fullE (g ++ [x]) size most then (g ++ [x]) :: splitE size most [] l else splitE size most (g ++ [x]) l
/-- How many of the first entries are a list, of those of which i have been looked at. -/
def cutAt (size most : Int) (l : List Ent) : Nat → Nat → Nat
  | 0, i => i
  | n + 1, i => if fullE (l.take (i + 1)) size most then i + 1 else cutAt size most l n (i + 1)
def cutN (size most : Int) (l : List Ent) : Nat := cutAt size most l l.length 0
theorem cutAt_bounds (size most : Int) (l : List Ent) : ∀ n i, i ≤ cutAt size most l n i ∧ cutAt size most l n i ≤ i + n
  | 0, i => ⟨Nat.le_refl _, Nat.le_refl _⟩
  | n + 1, i => by
    rw [cutAt]
    split
    · omega
    · have := cutAt_bounds size most l n (i + 1)
      omega
theorem cutAt_pos (size most : Int) (l : List Ent) (n i : Nat) (h : 0 < n) : i < cutAt size most l n i := by
  cases n with
  | zero => omega
  | succ n =>
    rw [cutAt]
    split
    · omega
    · have := cutAt_bounds size most l n (i + 1)
      omega
/-- The split by cuts is the document's. -/
theorem split_cut (size most : Int) (l : List Ent) : ∀ n i, i + n = l.length → (i < l.length ∨ i = 0 ∧ l = []) →
    splitE size most (l.take i) (l.drop i) = if l = [] then [] else l.take (cutAt size most l n i) :: splitE size most [] (l.drop (cutAt size most l n i))
  | 0, i, h, h2 => by
    have hl : l = [] := by
      rcases h2 with h2 | h2
      · omega
      · exact h2.2
    subst hl
    simp [splitE]
  | n + 1, i, h, h2 => by
    have hi : i < l.length := by omega
    have hne : l ≠ [] := by
      intro e
      subst e
      simp at hi
    rw [if_neg hne, List.drop_eq_getElem_cons hi, splitE, cutAt]
    have ht : l.take i ++ [l[i]] = l.take (i + 1) := by rw [List.take_succ_eq_append_getElem hi]
    rw [ht]
    by_cases hf : fullE (l.take (i + 1)) size most = true
    · rw [if_pos hf, if_pos hf]
    · rw [if_neg hf, if_neg hf]
      by_cases hi2 : i + 1 < l.length
      · have := split_cut size most l n (i + 1) (by omega) (.inl hi2)
        rw [if_neg hne] at this
        exact this
      · have hn : n = 0 := by omega
        subst hn
        have hd : l.drop (i + 1) = [] := List.drop_eq_nil_of_le (by omega)
        have htk : l.take (i + 1) = l := List.take_of_length_le (by omega)
        rw [cutAt, hd, htk, splitE, if_neg hne, splitE, if_pos rfl]
theorem split_step (size most : Int) (l : List Ent) (h : l ≠ []) : splitE size most [] l = l.take (cutN size most l) :: splitE size most [] (l.drop (cutN size most l)) := by
  have := split_cut size most l l.length 0 (by omega) (.inl (by
    cases l with
    | nil => exact absurd rfl h
    | cons x l => simp))
  rw [if_neg h] at this
  exact this
theorem splitE_flat (size most : Int) : ∀ (l g : List Ent), (splitE size most g l).flatten = g ++ l
  | [], g => by
    rw [splitE]
    split
    · rename_i h; rw [h]; rfl
    · simp
  | x :: l, g => by
    rw [splitE]
    split
    · rw [List.flatten_cons, splitE_flat size most l []]
      simp
    · rw [splitE_flat size most l (g ++ [x])]
      simp
theorem splitE_length (size most : Int) : ∀ (l g : List Ent), (splitE size most g l).length ≤ l.length + 1
  | [], g => by
    rw [splitE]
    split <;> simp
  | x :: l, g => by
    rw [splitE]
    split
    · have := splitE_length size most l []
      simp
      omega
    · have := splitE_length size most l (g ++ [x])
      simp
      omega
end Go.Proofs.Ytpfkomglghmnfaa
