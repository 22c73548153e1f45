/- Entries in memory: where an entry goes, and what it costs: plain facts. Conditions: none. -/
import Derived.Test.YtpfkomglghmnfaaMemA
import Derived.Test.YtpfkomglghmnfaaSplitMath
namespace Go.Proofs.Ytpfkomglghmnfaa
open Go

theorem dropE_same {k : List UInt8} {l : List Ent} (h : ∀ z ∈ l, z.key ≠ k) : dropE k l = l := by
  unfold dropE
  exact List.filter_eq_self.2 fun z hz => by simpa using h z hz
theorem put_at {x : Ent} : ∀ {l : List Ent}, rising l → putE x l = if seekE l x.key < l.length ∧ (l.getD (seekE l x.key) ⟨[], [], false⟩).key = x.key then l.set (seekE l x.key) x else insE l (seekE l x.key) x
  | [], _ => by
    rw [putE_nil]
    rfl
  | y :: l, h => by
    obtain ⟨h1, h2⟩ := List.pairwise_cons.1 h
    rw [← putF_eq h, putRestE.putF]
    by_cases hy : y.key < x.key
    · have hc : seekE (y :: l) x.key = seekE l x.key + 1 := by
        unfold seekE
        rw [List.countP_cons, decide_eq_true hy]
        rfl
      rw [if_pos hy, putF_eq h2, put_at h2, hc]
      simp only [List.length_cons, Nat.add_lt_add_iff_right, List.getD_cons_succ, List.set_cons_succ]
      split
      · rfl
      · simp [insE]
    · have hl : ∀ z ∈ l, ¬ z.key < x.key := fun z hz q => hy (klt_trans (h1 z hz) q)
      have hl2 : ∀ z ∈ l, z.key ≠ x.key := fun z hz q => hy (q ▸ h1 z hz)
      have hc : seekE (y :: l) x.key = 0 := by
        unfold seekE
        rw [List.countP_cons, decide_eq_false hy, List.countP_eq_zero.2 (fun z hz => by simpa using hl z hz)]
        rfl
      rw [if_neg hy, hc]
      by_cases hk : y.key = x.key
      · rw [if_pos ⟨Nat.succ_pos _, hk⟩]
        show x :: dropE x.key (y :: l) = x :: l
        congr 1
        have : dropE x.key (y :: l) = dropE x.key l := by simp [dropE, hk]
        rw [this, dropE_same hl2]
      · rw [if_neg (fun q => hk q.2)]
        show x :: dropE x.key (y :: l) = x :: y :: l
        congr 1
        exact dropE_same fun z hz => by
          rcases List.mem_cons.1 hz with rfl | hz
          · exact hk
          · exact hl2 z hz
theorem costs_append (a b : List Ent) : costs (a ++ b) = costs a + costs b := by simp [costs]
theorem costs_insE (l : List Ent) (i : Nat) (x : Ent) : costs (insE l i x) = costs l + costE x := by
  have : costs l = costs (l.take i) + costs (l.drop i) := by rw [← costs_append, List.take_append_drop]
  rw [this, insE, costs_append]
  show costs (l.take i) + costs (x :: l.drop i) = _
  have : costs (x :: l.drop i) = costE x + costs (l.drop i) := by simp [costs]
  omega
theorem costs_set (l : List Ent) (c : Nat) (x y : Ent) (h : l[c]? = some y) : costs (l.set c x) + costE y = costs l + costE x := by
  induction l generalizing c with
  | nil => simp at h
  | cons z l ih =>
    cases c with
    | zero =>
      obtain rfl : z = y := by simpa using h
      have a1 : costs (z :: l) = costE z + costs l := by simp [costs]
      have a2 : costs (x :: l) = costE x + costs l := by simp [costs]
      rw [List.set_cons_zero, a1, a2]
      omega
    | succ c =>
      have := ih c (by simpa using h)
      have a1 : costs (z :: l) = costE z + costs l := by simp [costs]
      have a2 : costs (z :: l.set c x) = costE z + costs (l.set c x) := by simp [costs]
      rw [List.set_cons_succ, a1, a2]
      omega
/-- An entry as it is kept. -/
def keepE (x : Ent) : Ent := if x.gone then ⟨x.key, [], x.gone⟩ else x
end Go.Proofs.Ytpfkomglghmnfaa
