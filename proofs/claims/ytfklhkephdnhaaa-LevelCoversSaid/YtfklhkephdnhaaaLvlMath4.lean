/- Tables of levels: what is picked, and that it has all that a key among it may be in. Conditions: none. -/
import Derived.Test.YtfklhkephdnhaaaLvlMath3
namespace Go.Proofs.Ytfklhkephdnhaaa

theorem oldF_mem : ∀ (l : List Fl) (m : Fl), oldF l m = m ∨ oldF l m ∈ l
  | [], m => .inl rfl
  | f :: r, m => by
    rw [oldF]
    by_cases h : f.num < m.num
    · rw [if_pos h]
      rcases oldF_mem r f with e | e
      · rw [e]; exact .inr (by simp)
      · exact .inr (List.mem_cons_of_mem _ e)
    · rw [if_neg h]
      rcases oldF_mem r m with e | e
      · exact .inl e
      · exact .inr (List.mem_cons_of_mem _ e)
theorem sizeF_nil : sizeF [] = 0 := rfl
theorem old_in {F : List Fl} (h : F ≠ []) : oldF F (F.headD default) ∈ F := by
  cases F with
  | nil => exact absurd rfl h
  | cons f r =>
    rcases oldF_mem (f :: r) f with e | e
    · show oldF (f :: r) f ∈ _
      rw [e]
      simp
    · exact e
/-- What is picked: tables of one level, all of them if it is the newest. -/
theorem pick_is {s : St} {count size : Int} {j : Jb} (h : pickF s count size = some j) : chkS s = 0 ∧ ∃ n l, j = jobF s.files n l ∧ l ≠ [] ∧ (∀ x ∈ l, x ∈ s.files ∧ x.lev = n) ∧ 0 ≤ n ∧ n ≤ 2 ∧ (n = 0 → ∀ x ∈ s.files, x.lev = 0 → x ∈ l) ∧ l.length ≤ s.files.length := by
  unfold pickF at h
  by_cases h0 : chkS s ≠ 0 ∨ count < 1 ∨ size < 1 ∨ 1073741824 < size
  · rw [if_pos h0] at h
    cases h
  · rw [if_neg h0] at h
    have hc : chkS s = 0 := Decidable.byContradiction fun e => h0 (.inl e)
    have hcount : ¬ count < 1 := fun e => h0 (.inr (.inl e))
    have hsize : ¬ size < 1 := fun e => h0 (.inr (.inr (.inl e)))
    refine ⟨hc, ?_⟩
    by_cases h1 : count ≤ ((s.files.filter (onB 0)).length : Int)
    · rw [if_pos h1] at h
      obtain rfl := Option.some.inj h
      refine ⟨0, _, rfl, fun e => ?_, fun x hx => ?_, by decide, by decide, fun _ x hx hz => List.mem_filter.2 ⟨hx, decide_eq_true hz⟩, List.length_filter_le _ _⟩
      · rw [e] at h1
        simp at h1
        omega
      · obtain ⟨q1, q2⟩ := List.mem_filter.1 hx
        exact ⟨q1, of_decide_eq_true q2⟩
    · rw [if_neg h1] at h
      have key : ∀ n : Int, 0 < sizeF (s.files.filter (onB n)) → ∀ x ∈ [oldF (s.files.filter (onB n)) ((s.files.filter (onB n)).headD default)], x ∈ s.files ∧ x.lev = n := fun n hn x hx => by
        rw [List.mem_singleton.1 hx]
        have hne : s.files.filter (onB n) ≠ [] := fun e => by
          rw [e] at hn
          exact absurd hn (by decide)
        obtain ⟨q1, q2⟩ := List.mem_filter.1 (old_in hne)
        exact ⟨q1, of_decide_eq_true q2⟩
      by_cases h2 : size < sizeF (s.files.filter (onB 1))
      · rw [if_pos h2] at h
        obtain rfl := Option.some.inj h
        exact ⟨1, _, rfl, by simp, key 1 (by omega), by decide, by decide, fun e => absurd e (by decide), List.length_pos_of_mem (key 1 (by omega) _ (List.mem_singleton.2 rfl)).1⟩
      · rw [if_neg h2] at h
        by_cases h3 : size * 8 < sizeF (s.files.filter (onB 2))
        · rw [if_pos h3] at h
          obtain rfl := Option.some.inj h
          exact ⟨2, _, rfl, by simp, key 2 (by omega), by decide, by decide, fun e => absurd e (by decide), List.length_pos_of_mem (key 2 (by omega) _ (List.mem_singleton.2 rfl)).1⟩
        · rw [if_neg h3] at h
          cases h
/-- A job's numbers are those of tables. -/
theorem job_nums {L l : List Fl} {n : Int} (hl : ∀ x ∈ l, x ∈ L) (hll : l.length ≤ L.length) : (∀ k ∈ (jobF L n l).fr, ∃ f ∈ L, f.num = k) ∧ (∀ k ∈ (jobF L n l).to, ∃ f ∈ L, f.num = k) ∧ (jobF L n l).fr.length ≤ L.length ∧ (jobF L n l).to.length ≤ L.length := by
  unfold jobF
  refine ⟨fun k hk => ?_, fun k hk => ?_, by rw [List.length_map]; exact hll, by rw [List.length_map]; exact List.length_filter_le _ _⟩
  · obtain ⟨f, hf, e⟩ := List.mem_map.1 hk
    exact ⟨f, hl f hf, e⟩
  · obtain ⟨f, hf, e⟩ := List.mem_map.1 hk
    exact ⟨f, (List.mem_filter.1 hf).1, e⟩
theorem pick_nums {s : St} {count size : Int} {j : Jb} (h : pickF s count size = some j) : (∀ k ∈ j.fr, ∃ f ∈ s.files, f.num = k) ∧ (∀ k ∈ j.to, ∃ f ∈ s.files, f.num = k) ∧ j.fr.length ≤ s.files.length ∧ j.to.length ≤ s.files.length ∧ 0 ≤ j.lev ∧ j.lev ≤ 2 := by
  obtain ⟨_, n, l, rfl, _, hl, h0, h2, _, hll⟩ := pick_is h
  obtain ⟨q1, q2, q3, q4⟩ := job_nums (n := n) (fun x hx => (hl x hx).1) hll
  exact ⟨q1, q2, q3, q4, h0, h2⟩
/-- A key among a job's tables: all of its level and the next one that it may be in are of the job. -/
theorem covers {s : St} {count size : Int} {j : Jb} (h : pickF s count size = some j) {key : List UInt8} {f g : Fl} (hf : f ∈ s.files) (f1 : ¬ key < f.first) (f2 : ¬ f.last < key) (f3 : calledB (j.fr ++ j.to) f = true) (f4 : f.lev = j.lev)
    (hg : g ∈ s.files) (g1 : ¬ key < g.first) (g2 : ¬ g.last < key) (g3 : calledB (j.fr ++ j.to) g = false) (g4 : g.lev = j.lev + 1 ∨ g.lev = 0 ∧ j.lev = 0) : False := by
  obtain ⟨hc, n, l, rfl, hne, hl, hn0, hn2, hall, _⟩ := pick_is h
  have hG := (chkS_zero.1 hc).2.2.2
  have hcall : ∀ {x}, x ∈ s.files → (calledB ((jobF s.files n l).fr ++ (jobF s.files n l).to) x = true ↔ x ∈ l ∨ (x.lev = n + 1 ∧ meetsB (spanF l) x = true)) := fun hx => job_called hG n l (fun x hx => (hl x hx).1) hx
  change f.lev = n at f4
  change g.lev = n + 1 ∨ g.lev = 0 ∧ n = 0 at g4
  have hfl : f ∈ l := by
    rcases (hcall hf).1 f3 with q | q
    · exact q
    · omega
  have hgc : ¬ (g ∈ l ∨ (g.lev = n + 1 ∧ meetsB (spanF l) g = true)) := fun q => by
    rw [(hcall hg).2 q] at g3
    cases g3
  rcases g4 with q | ⟨q, z⟩
  · refine hgc (.inr ⟨q, ?_⟩)
    unfold meetsB
    simp only [Bool.and_eq_true, Bool.not_eq_true', decide_eq_false_iff_not]
    exact ⟨fun e => f2 (klt_le (kle_lt (span_last f hfl) e) g1), fun e => f1 (klt_le (kle_lt g2 e) (span_first f hfl))⟩
  · exact hgc (.inl (hall z g hg q))
end Go.Proofs.Ytfklhkephdnhaaa
