/- The document's lists as one. Conditions: none. -/
import Derived.Test.YtpfkomglghmnfaaMerge5
namespace Go.Proofs.Ytpfkomglghmnfaa
open Go Go.RowKit

def foldE (l acc : List Ent) : List Ent := l.foldl (fun a x => putE x a) acc
theorem foldE_take (l acc : List Ent) (i : Nat) (x : Ent) (h : l[i]? = some x) : foldE (l.take (i + 1)) acc = putE x (foldE (l.take i) acc) := by
  unfold foldE
  rw [List.take_add_one, h, List.foldl_append]
  rfl
theorem foldE_rising (l : List Ent) : ∀ {acc : List Ent}, rising acc → rising (foldE l acc) := by
  induction l with
  | nil => exact fun h => h
  | cons x l ih => exact fun h => ih (putE_rising h)
theorem foldE_length (l : List Ent) : ∀ (acc : List Ent), (foldE l acc).length ≤ acc.length + l.length := by
  induction l with
  | nil => intro acc; simp [foldE]
  | cons x l ih =>
    intro acc
    have h1 := ih (putE x acc)
    have h2 := putE_length x acc
    show (foldE l (putE x acc)).length ≤ _
    rw [List.length_cons]
    omega
theorem mergeE_drop (ls : List (List Ent)) (j : Nat) (l : List Ent) (h : ls[j]? = some l) (hl : rising l) (hr : rising (mergeE (ls.drop (j + 1)))) : mergeE (ls.drop j) = foldE l (mergeE (ls.drop (j + 1))) := by
  obtain ⟨h5, h6⟩ := List.getElem?_eq_some_iff.1 h
  rw [List.drop_eq_getElem_cons h5, h6, mergeE]
  exact (fold_put hl hr).symm
theorem sumE_drop (ls : List (List Ent)) (j : Nat) : sumE (ls.drop j) ≤ sumE ls := by
  have := sumE_split j ls
  omega
end Go.Proofs.Ytpfkomglghmnfaa
