/- Lists of entries in memory, as lists. Conditions: none. -/
import Derived.Test.YtpfkomglghmnfaaEnts2
namespace Go.Proofs.Ytpfkomglghmnfaa
open Go Go.RowKit

/-- Lists of entries that lie in memory. -/
def EntssAt (w : World) (v : Value) (ls : List (List Ent)) : Prop :=
  ∃ A cap, v = .slice A ls.length cap ∧ ls.length ≤ cap ∧ cap ≤ maxLen ∧ ∀ i l, ls[i]? = some l → ∃ g o u, A = some ⟨g, o, none⟩ ∧ w.cell? ⟨g, o + i, none⟩ = some u ∧ EntsAt w u l
theorem EntssAt.below {w w' : World} {v : Value} {ls : List (List Ent)} (h : EntssAt w v ls) (k : Below w.heap.size w w') : EntssAt w' v ls := by
  obtain ⟨A, cap, h1, h2, h3, h4⟩ := h
  refine ⟨A, cap, h1, h2, h3, fun i x hi => ?_⟩
  obtain ⟨g, o, u, h5, h6, h7⟩ := h4 i x hi
  exact ⟨g, o, u, h5, (k.cell (p := ⟨g, o + i, none⟩) (cellLt h6)).trans h6, h7.below k⟩
theorem EntssAt.take {w : World} {A : Option Addr} {n cap k : Nat} {ls : List (List Ent)} (h : EntssAt w (.slice A n cap) ls) (hk : k ≤ ls.length) : EntssAt w (.slice A k cap) (ls.take k) := by
  obtain ⟨A', cap', h1, h2, h3, h4⟩ := h
  obtain ⟨rfl, rfl, rfl⟩ : A = A' ∧ n = ls.length ∧ cap = cap' := by simpa using h1
  refine ⟨_, _, by rw [List.length_take, Nat.min_eq_left hk], by rw [List.length_take]; omega, by omega, fun i x hi => ?_⟩
  rw [List.getElem?_take] at hi
  split at hi
  · exact h4 i x hi
  · cases hi
theorem EntssAt.drop {w : World} {g o n cap k : Nat} {ls : List (List Ent)} (h : EntssAt w (.slice (some ⟨g, o, none⟩) n cap) ls) (hk : k ≤ ls.length) : EntssAt w (.slice (if cap = k then some ⟨g, o, none⟩ else some ⟨g, o + k, none⟩) (n - k) (cap - k)) (ls.drop k) := by
  obtain ⟨A', cap', h1, h2, h3, h4⟩ := h
  obtain ⟨rfl, rfl, rfl⟩ : some ⟨g, o, none⟩ = A' ∧ n = ls.length ∧ cap = cap' := by simpa using h1
  refine ⟨_, _, by rw [List.length_drop], by rw [List.length_drop]; omega, by omega, fun i x hi => ?_⟩
  rw [List.getElem?_drop] at hi
  obtain ⟨g', o', u, e, h6, h7⟩ := h4 _ x hi
  obtain ⟨rfl, rfl⟩ : g = g' ∧ o = o' := by simpa using e
  have hl := (List.getElem?_eq_some_iff.1 hi).1
  rw [if_neg (by omega)]
  exact ⟨g, o + k, u, rfl, by rwa [show o + k + i = o + (k + i) by omega], h7⟩
/-- Lists of entries of the call's own, each in a block of its own. -/
def OwnLists (w : World) (B : Nat) (v : Value) (ls : List (List Ent)) : Prop :=
  ∃ us : List Value, us.length = ls.length ∧ w.ownsRow B 22 1 v ls.length us ∧ ∀ (i : Nat) (u : Value) (l : List Ent), us[i]? = some u → ls[i]? = some l → OwnEnts w B u l
theorem OwnLists.lie {w : World} {B : Nat} {v : Value} {ls : List (List Ent)} (h : OwnLists w B v ls) : EntssAt w v ls := by
  obtain ⟨us, hl, ho, hu⟩ := h
  have ho' := ho
  rcases ho.2 with ⟨rfl, h0⟩ | ⟨g, cap, cur, rfl, hb, hg, h1, h2, h3, h4⟩
  · exact ⟨none, 0, by rw [h0], by omega, Nat.zero_le _, fun i f hi => by rw [List.eq_nil_of_length_eq_zero h0] at hi; simp at hi⟩
  · refine ⟨_, cap, rfl, h1, h2, fun i l hi => ?_⟩
    have hil := (List.getElem?_eq_some_iff.1 hi).1
    obtain ⟨u, hui⟩ : ∃ u, us[i]? = some u := ⟨_, List.getElem?_eq_getElem (by omega)⟩
    refine ⟨g, 0, u, rfl, ?_, (hu i u l hui hi).lie⟩
    have := World.ownsRow.cells ho' (g := g) rfl i u hui
    rwa [add_lit] at this
theorem OwnLists.below {w w' : World} {B : Nat} {v : Value} {ls : List (List Ent)} (h : OwnLists w B v ls) (k : Below w.heap.size w w') : OwnLists w' B v ls := by
  obtain ⟨us, hl, ho, hu⟩ := h
  exact ⟨us, hl, World.ownsRow.kept ho (row := none) ⟨k.os, k.tape, k.output, k.size, fun j hj _ => k.block j hj⟩ (by cases hv : v.ownBlock <;> simp), fun i u l h1 h2 => (hu i u l h1 h2).below k⟩
theorem OwnLists.shape {w : World} {B : Nat} {v : Value} {ls : List (List Ent)} (h : OwnLists w B v ls) : ∃ ao cap, v = .slice ao ls.length cap := by
  obtain ⟨us, hl, ho, hu⟩ := h
  rcases ho.2 with ⟨h1, h2⟩ | ⟨g, cap, cur, h1, _⟩
  · exact ⟨none, 0, by rw [h1, h2]⟩
  · exact ⟨_, _, h1⟩
theorem ownLists_nil (w : World) (B : Nat) : OwnLists w B (.slice none 0 0) [] := ⟨[], rfl, World.ownsRow_nil w B _ 1, fun i u l h => by simp at h⟩
theorem ownLists_new (w : World) (B n : Nat) (hn : n = w.heap.size) (hB : B ≤ n) : OwnLists (w.alloc (.cells #[] 22)) B (.slice (some ⟨n, 0, none⟩) 0 0) [] := by
  subst hn
  exact ⟨[], rfl, ⟨rfl, .inr ⟨w.heap.size, 0, #[], rfl, hB, heap_alloc_new w _, Nat.le_refl _, Nat.zero_le _, rfl, rfl⟩⟩, fun i u l h => by simp at h⟩
theorem info_ents : ∃ i : TypeInfo, Try.prog.info? 22 = some i ∧ i.zero = some (.slice none 0 0) ∧ i.size = 1 ∧ i.bytes = 24 := by
  have h : (Try.prog.info? 22).map (fun i => (i.zero, i.size, i.bytes)) = some (some (.slice none 0 0), 1, 24) := by kernel_rfl
  cases hq : Try.prog.info? 22 with
  | none => rw [hq] at h; cases h
  | some i =>
    rw [hq] at h
    simp only [Option.map_some, Option.some.injEq, Prod.mk.injEq] at h
    exact ⟨i, rfl, h.1, h.2.1, h.2.2⟩
theorem ents_ne_ent : 28 ≠ 22 := by decide
/-- One list is put behind lists of the call's own. -/
theorem wpList_put_list {ops : Array Oper} {rest : List Oper} {o : Oper} {a : Act} {w : World} {Q : Exit → Act → World → Prop} (hgd : o.guard = none) (s x : Operand)
    (ho : o.op = .call { callee := .builtin .append, args := #[s, x], argTypes := #[23, 23] }) (B : Nat) (v : Value) (ls : List (List Ent)) (hs : a.eval s = v) (hown : OwnLists w B v ls)
    (u : Value) (l : List Ent) (hul : OwnEnts w B u l) (g c : Nat) (hx : a.eval x = .slice (some ⟨g, 0, none⟩) 1 c) (hcell : w.cell? ⟨g, 0, none⟩ = some u) (hB : B ≤ w.heap.size) (hl : ls.length ≤ 1000000)
    (h : ∀ v' w', OwnLists w' B v' (ls ++ [l]) → w.grownBy w' v.ownBlock → wpList Try.prog ops Q rest (a.put o.dst v') w') : wpList Try.prog ops Q (o :: rest) a w := by
  obtain ⟨i0, hi, hz0, hz1, hz2⟩ := info_ents
  obtain ⟨us, hus, hrow, hu⟩ := hown
  have hone : u.oneCell' = true := by
    obtain ⟨A, cap, rfl⟩ := hul.shape
    rfl
  refine wpList_append_own_at (P := Try.prog) w hgd s x 23 ho B 22 i0 _ 1 24 Try.underlying23 hi hz0 hz1 hz2 rfl (by decide) v ls.length us hs hrow ⟨g, 0, none⟩ 1 c [u] hx rfl ?_ ?_ (by unfold maxLen; omega) (by omega) hB ?_
  · intro j y hy
    have hj : j = 0 := by
      have := (List.getElem?_eq_some_iff.1 hy).1
      simpa using this
    subst hj
    rw [add_lit]
    obtain rfl : u = y := by simpa using hy
    exact hcell
  · intro y hy
    rw [List.mem_singleton.1 hy]
    exact hone
  · intro v' w' h1 h2 _ _
    refine h v' w' ⟨us ++ [u], by simp [hus], by rw [List.length_append]; exact h1, fun i y m hy hm => ?_⟩ h2
    have hkeep : ∀ y m, OwnEnts w B y m → OwnEnts w' B y m := fun y m hym => own_other hym hrow ents_ne_ent h2
    by_cases hil : i < ls.length
    · rw [List.getElem?_append_left (by omega)] at hy
      rw [List.getElem?_append_left hil] at hm
      exact hkeep y m (hu i y m hy hm)
    · rw [List.getElem?_append_right (by omega)] at hy
      rw [List.getElem?_append_right (by omega)] at hm
      have hi1 := (List.getElem?_eq_some_iff.1 hm).1
      have hi0 : i - ls.length = 0 := by simpa using hi1
      rw [hus, hi0] at hy
      rw [hi0] at hm
      obtain rfl : u = y := by simpa using hy
      obtain rfl : l = m := by simpa using hm
      exact hkeep _ _ hul
theorem OwnLists.some {w : World} {B : Nat} {v : Value} {ls : List (List Ent)} {l : List Ent} (h : OwnLists w B v (ls ++ [l])) : ∃ g k, v = .slice (some ⟨g, 0, none⟩) (ls ++ [l]).length k := by
  obtain ⟨us, hus, hrow, hu⟩ := h
  rcases hrow.2 with ⟨_, h0⟩ | ⟨g, cap, cur, rfl, _⟩
  · simp at h0
  · exact ⟨g, cap, rfl⟩
theorem OwnLists.grown {w w' : World} {B : Nat} {v : Value} {ls : List (List Ent)} {a : World} (h : OwnLists w B v ls) (hg : w.grownBy w' v.ownBlock) (b : Below B a w) (hB : B ≤ w.heap.size) : Below B a w' := by
  obtain ⟨us, hus, hrow, hu⟩ := h
  exact b.grown hg hB (fun k hk => (World.ownsRow.lt hrow k hk).1)
end Go.Proofs.Ytpfkomglghmnfaa
