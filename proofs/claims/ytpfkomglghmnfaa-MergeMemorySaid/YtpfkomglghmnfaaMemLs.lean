/- Lists of entries in memory with the blocks that hold them; one more in front. Conditions: none. -/
import Derived.Test.YtpfkomglghmnfaaMemSix
namespace Go.Proofs.Ytpfkomglghmnfaa
open Go Go.RowKit

/-- Lists of entries that lie in memory, for as long as these blocks stay as they are. -/
def KeptLists (w : World) (v : Value) (ls : List (List Ent)) (cs : List Nat) : Prop :=
  (∀ k ∈ cs, k < w.heap.size) ∧ ∃ (g cap : Nat) (us : List Value), v = .slice (some ⟨g, 0, none⟩) ls.length cap ∧ ls.length ≤ cap ∧ cap ≤ maxLen ∧ g ∈ cs ∧ us.length = ls.length ∧
    (∀ (i : Nat) (u : Value), us[i]? = some u → w.cell? ⟨g, i, none⟩ = some u ∧ u.oneCell' = true) ∧
    ∀ (i : Nat) (u : Value) (l : List Ent), us[i]? = some u → ls[i]? = some l → ∀ w' : World, (∀ k ∈ cs, w'.heap[k]? = w.heap[k]?) → EntsAt w' u l
theorem KeptLists.lie {w : World} {v : Value} {ls : List (List Ent)} {cs : List Nat} (h : KeptLists w v ls cs) : EntssAt w v ls := by
  obtain ⟨_, g, cap, us, rfl, h1, h2, h3, h4, h5, h6⟩ := h
  refine ⟨_, cap, rfl, h1, h2, fun i l hi => ?_⟩
  have hil := (List.getElem?_eq_some_iff.1 hi).1
  obtain ⟨u, hu⟩ : ∃ u, us[i]? = some u := ⟨_, List.getElem?_eq_getElem (by omega)⟩
  exact ⟨g, 0, u, rfl, by rw [Nat.zero_add]; exact (h5 i u hu).1, h6 i u l hu hi w fun _ _ => rfl⟩
theorem KeptLists.kept {w w' : World} {v : Value} {ls : List (List Ent)} {cs : List Nat} (h : KeptLists w v ls cs) (hz : w.heap.size ≤ w'.heap.size) (hk : ∀ k ∈ cs, w'.heap[k]? = w.heap[k]?) : KeptLists w' v ls cs := by
  obtain ⟨h0, g, cap, us, rfl, h1, h2, h3, h4, h5, h6⟩ := h
  exact ⟨fun k q => Nat.lt_of_lt_of_le (h0 k q) hz, g, cap, us, rfl, h1, h2, h3, h4, fun i u hu => ⟨(World.cell?_of_block (a := ⟨g, i, none⟩) (hk g h3)).trans (h5 i u hu).1, (h5 i u hu).2⟩, fun i u l q1 q2 w'' q3 => h6 i u l q1 q2 w'' fun k q => (q3 k q).trans (hk k q)⟩
theorem KeptLists.below {w w' : World} {v : Value} {ls : List (List Ent)} {cs : List Nat} (h : KeptLists w v ls cs) (k : Below w.heap.size w w') : KeptLists w' v ls cs :=
  h.kept k.size fun i hi => k.block i (h.1 i hi)
theorem KeptLists.shape {w : World} {v : Value} {ls : List (List Ent)} {cs : List Nat} (h : KeptLists w v ls cs) : ∃ ao cap, v = .slice ao ls.length cap := by
  obtain ⟨_, g, cap, us, rfl, _⟩ := h
  exact ⟨_, _, rfl⟩
theorem entsAt_one {w : World} {b : Nat} {x : Ent} (h : rowAt w b = some (entC x).toArray) : EntsAt w (.slice (some ⟨b, 0, none⟩) 1 1) [x] :=
  ⟨_, 1, rfl, Nat.le_refl _, by decide, fun i y hi => by
    have h0 : i = 0 := by
      have := (List.getElem?_eq_some_iff.1 hi).1
      simp at this
      exact this
    subst h0
    obtain rfl : x = y := by simpa using hi
    exact ⟨b, 0, rfl, cell_of_rowAt h 0, cell_of_rowAt h 1, cell_of_rowAt h 2⟩⟩
/-- One more list in front: a new row of one, the others behind it. -/
theorem wpList_cons_list {ops : Array Oper} {rest : List Oper} {o : Oper} {a : Act} {w : World} {Q : Exit → Act → World → Prop} (hgd : o.guard = none) (s y : Operand)
    (ho : o.op = .call { callee := .builtin .append, args := #[s, y], argTypes := #[23, 23] }) (b1 b2 : Nat) (x : Ent) (v : Value) (ls : List (List Ent)) (cs : List Nat)
    (hs : a.eval s = .slice (some ⟨b2, 0, none⟩) 1 1) (hy : a.eval y = v) (h2 : w.heap[b2]? = some (.cells #[.slice (some ⟨b1, 0, none⟩) 1 1] 22 (0, 0))) (h1 : rowAt w b1 = some (entC x).toArray) (hne : b1 ≠ b2) (hk : KeptLists w v ls cs) (hcs : b2 ∉ cs) (hl : ls.length ≤ 1000)
    (h : ∀ v' w' g', KeptLists w' v' ([x] :: ls) (g' :: b1 :: cs) → w.grownBy w' (some b2) → (g' = b2 ∨ g' = w.heap.size) → wpList Try.prog ops Q rest (a.put o.dst v') w') : wpList Try.prog ops Q (o :: rest) a w := by
  obtain ⟨i0, hi, hz0, hz1, hz2⟩ := info_ents
  obtain ⟨k0, g, cap, us, hv, k1, k2, k3, k4, k5, k6⟩ := hk
  have hown : w.ownsRow b2 22 1 (.slice (some ⟨b2, 0, none⟩) 1 1) 1 [.slice (some ⟨b1, 0, none⟩) 1 1] := ⟨rfl, .inr ⟨b2, 1, _, rfl, Nat.le_refl _, h2, Nat.le_refl _, by decide, rfl, rfl⟩⟩
  refine wpList_append_own_at (P := Try.prog) w hgd s y 23 ho b2 22 i0 _ 1 24 Try.underlying23 hi hz0 hz1 hz2 rfl (by decide) _ 1 _ hs hown ⟨g, 0, none⟩ ls.length cap us (hy.trans hv) (by rw [k4, Nat.mul_one]) (fun j u hj => by rw [add_lit, Nat.zero_add]; exact (k5 j u hj).1) (fun u hu => by
    obtain ⟨j, hj⟩ := List.getElem?_of_mem hu
    exact (k5 j u hj).2) (by unfold maxLen; omega) (by omega) (Nat.le_of_lt (Array.getElem?_eq_some_iff.1 h2).1) ?_
  intro v' w' q1 q2 _ _
  have hb1 := lt_of_rowAt h1
  rcases q1.2 with ⟨_, e⟩ | ⟨g', cap', cur, rfl, p1, p2, p3, p4, p5, p6⟩
  · omega
  · rename_i hob
    have hg' : g' = b2 ∨ g' = w.heap.size := by
      rcases hob with e | e
      · exact .inl (by simpa [Value.ownBlock] using e)
      · exact .inr (by simpa [Value.ownBlock] using e)
    have hsame : ∀ k, k < w.heap.size → k ≠ b2 → w'.heap[k]? = w.heap[k]? := fun k q r => q2.block k q (by simpa [Value.ownBlock] using r)
    refine h _ w' g' ⟨fun k q => ?_, g', cap', .slice (some ⟨b1, 0, none⟩) 1 1 :: us, by rw [List.length_cons, Nat.add_comm], by rw [List.length_cons]; omega, p4, by simp, by simp [k4], fun i u q => ?_, fun i u l r1 r2 w'' r3 => ?_⟩ q2 hg'
    · simp only [List.mem_cons] at q
      rcases q with rfl | rfl | q
      · exact (Array.getElem?_eq_some_iff.1 p2).1
      · exact Nat.lt_of_lt_of_le hb1 q2.size
      · exact Nat.lt_of_lt_of_le (k0 k q) q2.size
    · have hil := (List.getElem?_eq_some_iff.1 q).1
      rw [List.length_cons] at hil
      refine ⟨?_, ?_⟩
      · rw [Lib.cell_of_heap p2 i, ← Array.getElem?_toList]
        have e : cur.toList.take ((1 + ls.length) * 1) = .slice (some ⟨b1, 0, none⟩) 1 1 :: us := p6
        rw [← e, List.getElem?_take, if_pos (by omega)] at q
        exact q
      · cases i with
        | zero =>
          obtain rfl : Value.slice (some ⟨b1, 0, none⟩) 1 1 = u := by simpa using q
          rfl
        | succ i => exact (k5 i u (by simpa using q)).2
    · cases i with
      | zero =>
        obtain rfl : Value.slice (some ⟨b1, 0, none⟩) 1 1 = u := by simpa using r1
        obtain rfl : [x] = l := by simpa using r2
        exact entsAt_one ((rowAt_same ((r3 b1 (by simp)).trans (hsame b1 hb1 hne))).trans h1)
      | succ i =>
        exact k6 i u l (by simpa using r1) (by simpa using r2) w'' fun k q => (r3 k (by simp [q])).trans (hsame k (k0 k q) (fun e => hcs (e ▸ q)))
end Go.Proofs.Ytpfkomglghmnfaa
