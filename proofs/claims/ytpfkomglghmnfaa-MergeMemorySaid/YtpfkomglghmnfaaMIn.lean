/- Lists of rising entries, made of those that came in. Conditions: none. -/
import Derived.Test.YtpfkomglghmnfaaMerge4
import Derived.Test.YtpfkomglghmnfaaEnts5
namespace Go.Proofs.Ytpfkomglghmnfaa
open Go Go.RowKit

def inE (n : Nat) (ls : List (List Ent)) (m : Nat) : List (List Ent) := (ls.take m).map fun l => riseE (fewE n l)
theorem inE_length (n : Nat) (ls : List (List Ent)) (m : Nat) : (inE n ls m).length ≤ m := by
  unfold inE
  rw [List.length_map]
  exact List.length_take_le _ _
theorem inE_succ (n : Nat) (ls : List (List Ent)) (i : Nat) (l : List Ent) (h : ls[i]? = some l) : inE n ls (i + 1) = inE n ls i ++ [riseE (fewE n l)] := by
  unfold inE
  rw [List.take_add_one, h, List.map_append]
  rfl
theorem inE_all (n : Nat) (ls : List (List Ent)) (m : Nat) : (∀ l ∈ inE n ls m, rising l) ∧ ∀ l ∈ inE n ls m, ∀ x ∈ l, smallE x := by
  refine ⟨fun l hl => ?_, fun l hl x hx => ?_⟩
  · obtain ⟨y, _, rfl⟩ := List.mem_map.1 hl
    exact riseE_rising _
  · obtain ⟨y, _, rfl⟩ := List.mem_map.1 hl
    have := fewE_small n y x (riseE_mem hx)
    exact ⟨by omega, by omega⟩
theorem sumE_le (n : Nat) : ∀ ls : List (List Ent), (∀ l ∈ ls, l.length ≤ n) → sumE ls ≤ ls.length * n
  | [], _ => Nat.zero_le _
  | l :: ls, h => by
    have h1 := sumE_le n ls (fun x hx => h x (by simp [hx]))
    have h2 := h l (by simp)
    have h3 : sumE (l :: ls) = l.length + sumE ls := by simp [sumE]
    rw [h3, List.length_cons, Nat.add_mul]
    omega
theorem inE_sum (n : Nat) (ls : List (List Ent)) (m K : Nat) (h : m ≤ K) : sumE (inE n ls m) ≤ K * n := by
  refine Nat.le_trans (sumE_le n _ fun l hl => ?_) (Nat.mul_le_mul_right _ (Nat.le_trans (inE_length n ls m) h))
  obtain ⟨y, _, rfl⟩ := List.mem_map.1 hl
  refine Nat.le_trans (riseE_length _) ?_
  rw [fewE_length]
  omega
end Go.Proofs.Ytpfkomglghmnfaa
