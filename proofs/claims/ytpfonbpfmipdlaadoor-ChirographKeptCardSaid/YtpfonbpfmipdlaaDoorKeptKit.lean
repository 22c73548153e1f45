/- Files kept in mind, in memory: a list of the call's own of three cells each, and the texts of each in a block of its own. Conditions: none. -/
import Derived.Test.YtpfonbpfmipdlaaDoorKeptMath
import Derived.Test.YtpfonbpfmipdlaaDoorRow
import Derived.Laws.AppendOwnNone
import Derived.Maps.AppendAt
import Derived.Deep.AppendLies
namespace Go.Proofs.YtpfonbpfmipdlaaDoor
open Go Go.RowKit

def keptC (p : KFile × Value) : List Value := [.string (stx p.1.id), p.2, .int .i64 p.1.sure]
def keptCells (ks : List KFile) (us : List Value) : List Value := (ks.zip us).flatMap keptC
theorem keptC_length (p : KFile × Value) : (keptC p).length = 3 := rfl
theorem flat3_length (l : List (KFile × Value)) : (l.flatMap keptC).length = l.length * 3 := by
  induction l with
  | nil => rfl
  | cons f r ih => simp [keptC] at ih ⊢; omega
theorem keptCells_length {ks : List KFile} {us : List Value} (h : us.length = ks.length) : (keptCells ks us).length = ks.length * 3 := by
  unfold keptCells
  rw [flat3_length, List.length_zip, h, Nat.min_self]
theorem keptCells_put {ks : List KFile} {us : List Value} (h : us.length = ks.length) (k : KFile) (u : Value) : keptCells (ks ++ [k]) (us ++ [u]) = keptCells ks us ++ keptC (k, u) := by
  unfold keptCells
  rw [List.zip_append h.symm, List.flatMap_append]
  simp
theorem flat3_get : ∀ (l : List (KFile × Value)) (i : Nat) (p : KFile × Value), l[i]? = some p → ∀ j, j < 3 → (l.flatMap keptC)[i * 3 + j]? = (keptC p)[j]?
  | x :: r, 0, p, h, j, hj => by
    obtain rfl : x = p := by simpa using h
    rw [List.flatMap_cons, Nat.zero_mul, Nat.zero_add, List.getElem?_append_left (by rw [keptC_length]; exact hj)]
  | x :: r, i + 1, p, h, j, hj => by
    rw [List.flatMap_cons, List.getElem?_append_right (by rw [keptC_length]; omega), keptC_length, show (i + 1) * 3 + j - 3 = i * 3 + j by omega]
    exact flat3_get r i p (by simpa using h) j hj
theorem flat3_set : ∀ (l : List (KFile × Value)) (i : Nat) (p q : KFile × Value) (j : Nat) (u : Value), l[i]? = some p → j < 3 → (keptC p).set j u = keptC q → (l.flatMap keptC).set (i * 3 + j) u = (l.set i q).flatMap keptC
  | x :: r, 0, p, q, j, u, h, hj, e => by
    obtain rfl : x = p := by simpa using h
    rw [List.flatMap_cons, List.set_cons_zero, List.flatMap_cons, Nat.zero_mul, Nat.zero_add, List.set_append_left _ _ (by rw [keptC_length]; exact hj), e]
  | x :: r, i + 1, p, q, j, u, h, hj, e => by
    rw [List.flatMap_cons, List.set_cons_succ, List.flatMap_cons, List.set_append_right _ _ (by rw [keptC_length]; omega), keptC_length, show (i + 1) * 3 + j - 3 = i * 3 + j by omega]
    rw [flat3_set r i p q j u (by simpa using h) hj e]
theorem zip_get {ks : List KFile} {us : List Value} {i : Nat} {k : KFile} {u : Value} (h1 : ks[i]? = some k) (h2 : us[i]? = some u) : (ks.zip us)[i]? = some (k, u) := by
  rw [List.getElem?_zip_eq_some]
  exact ⟨h1, h2⟩
theorem zip_set : ∀ (ks : List KFile) (us : List Value) (i : Nat) (k : KFile) (u : Value), (ks.set i k).zip (us.set i u) = (ks.zip us).set i (k, u)
  | [], us, i, k, u => by simp
  | k0 :: ks, [], i, k, u => by simp
  | k0 :: ks, u0 :: us, 0, k, u => rfl
  | k0 :: ks, u0 :: us, i + 1, k, u => by simp [zip_set ks us i k u]

/-- A list of kept files of the call's own; the texts of each are the call's own, too. -/
def OwnKepts (w : World) (B : Nat) (v : Value) (ks : List KFile) : Prop :=
  ∃ us : List Value, us.length = ks.length ∧ w.ownsRow B 37 3 v ks.length (keptCells ks us) ∧ ∀ (i : Nat) (u : Value) (k : KFile), us[i]? = some u → ks[i]? = some k → OwnStrs w B u k.texts
theorem OwnKepts.below {w w' : World} {B : Nat} {v : Value} {ks : List KFile} (h : OwnKepts w B v ks) (k : Below w.heap.size w w') : OwnKepts w' B v ks := by
  obtain ⟨us, hl, ho, hu⟩ := h
  exact ⟨us, hl, World.ownsRow.kept ho (row := none) ⟨k.os, k.tape, k.output, k.size, fun j hj _ => k.block j hj⟩ (by cases hv : v.ownBlock <;> simp), fun i u l h1 h2 => (hu i u l h1 h2).below k⟩
theorem OwnKepts.stir {B C : Nat} {w w' : World} {v : Value} {ks : List KFile} (s : Stir B w w') (h : OwnKepts w C v ks) : OwnKepts w' C v ks := by
  obtain ⟨us, hl, ho, hu⟩ := h
  exact ⟨us, hl, s.row ho (by decide), fun i u l h1 h2 => s.strs (hu i u l h1 h2)⟩
theorem OwnKepts.shape {w : World} {B : Nat} {v : Value} {ks : List KFile} (h : OwnKepts w B v ks) : ∃ ao cap, v = .slice ao ks.length cap := by
  obtain ⟨us, hl, ho, hu⟩ := h
  rcases ho.2 with ⟨h1, h2⟩ | ⟨g, cap, cur, h1, _⟩
  · exact ⟨none, 0, by rw [h1, h2]⟩
  · exact ⟨_, _, h1⟩
theorem ownKepts_nil (w : World) (B : Nat) : OwnKepts w B (.slice none 0 0) [] := ⟨[], rfl, World.ownsRow_nil w B _ 3, fun i u l h => by simp at h⟩
theorem ownKepts_new (w : World) (B n : Nat) (hn : n = w.heap.size) (hB : B ≤ n) : OwnKepts (w.alloc (.cells #[] 37)) B (.slice (some ⟨n, 0, none⟩) 0 0) [] := by
  subst hn
  exact ⟨[], rfl, ⟨rfl, .inr ⟨w.heap.size, 0, #[], rfl, hB, heap_alloc_new w _, Nat.le_refl _, Nat.zero_le _, rfl, rfl⟩⟩, fun i u l h => by simp at h⟩
theorem OwnKepts.grown {w w' : World} {B : Nat} {v : Value} {ks : List KFile} {a : World} (h : OwnKepts w B v ks) (hg : w.grownBy w' v.ownBlock) (b : Below B a w) (hB : B ≤ w.heap.size) : Below B a w' := by
  obtain ⟨us, hus, hrow, hu⟩ := h
  exact b.grown hg hB (fun k hk => (World.ownsRow.lt hrow k hk).1)
/-- The three cells of the file at i. -/
theorem OwnKepts.cell {w : World} {B n cap : Nat} {ao : Option Addr} {ks : List KFile} (h : OwnKepts w B (.slice ao n cap) ks) {i : Nat} (hi : i < ks.length) :
    ∃ g u, ao = some ⟨g, 0, none⟩ ∧ n = ks.length ∧ B ≤ g ∧ g < w.heap.size ∧ OwnStrs w B u ks[i].texts ∧ w.cell? ⟨g, i * 3, none⟩ = some (.string (stx ks[i].id)) ∧ w.cell? ⟨g, i * 3 + 1, none⟩ = some u ∧ w.cell? ⟨g, i * 3 + 2, none⟩ = some (.int .i64 ks[i].sure) ∧
      (∀ j, w.frozen? ⟨g, j, none⟩ = false) := by
  obtain ⟨us, hl, ho, hu⟩ := h
  obtain ⟨u, hui⟩ : ∃ u, us[i]? = some u := ⟨_, List.getElem?_eq_getElem (by omega)⟩
  have hki : ks[i]? = some ks[i] := List.getElem?_eq_getElem hi
  rcases ho.2 with ⟨hv, h0⟩ | ⟨g, cap', cur, hv, hb, hh, h1, h2, h3, h4⟩
  · omega
  · injection hv with e1 e3 e2
    subst e1 e2
    have hg := flat3_get _ _ _ (zip_get hki hui)
    have e : ∀ j, j < 3 → w.cell? ⟨g, i * 3 + j, none⟩ = (keptC (ks[i], u))[j]? := fun j hj => by
      rw [← hg j hj, Lib.cell_of_heap hh (i * 3 + j)]
      show _ = (keptCells ks us)[i * 3 + j]?
      rw [← h4, List.getElem?_take, if_pos (by omega)]
      simp
    exact ⟨g, u, rfl, e3, hb, (Array.getElem?_eq_some_iff.1 hh).1, hu i u _ hui hki, e 0 (by decide), e 1 (by decide), e 2 (by decide), fun j => Lib.frozen_of_heap hh j⟩
/-- A cell of an own row of structures is another one. -/
theorem own_set3 {w : World} {B e s n : Nat} {v : Value} {xs : List Value} (h : w.ownsRow B e s v n xs) {g : Nat} (hg : v.ownBlock = some g) (j : Nat) (u : Value) : (w.setCell ⟨g, j, none⟩ u).ownsRow B e s v n (xs.set j u) := by
  refine ⟨by rw [List.length_set]; exact h.1, ?_⟩
  rcases h.2 with ⟨rfl, _⟩ | ⟨g', cap, cur, rfl, hb, hh, h1, h2, h3, h4⟩
  · cases hg
  · obtain rfl : g' = g := by simpa [Value.ownBlock] using hg
    refine .inr ⟨g', cap, cur.setIfInBounds j u, rfl, hb, dHeap_put hh u, h1, h2, by simpa using h3, ?_⟩
    rw [Array.toList_setIfInBounds, ← h4, List.take_set]
theorem str_ne_kept : 9 ≠ 37 := by decide
theorem OwnStrs.aside {w : World} {B g j : Nat} {v u : Value} {ts : List (List UInt8)} (h : OwnStrs w B v ts) {cs : Array Value} {fr : Nat × Nat} (hg : w.heap[g]? = some (.cells cs 37 fr)) : OwnStrs (w.setCell ⟨g, j, none⟩ u) B v ts :=
  World.ownsRow.kept h (row := some g) (setCell_grown w g j u) (by
    cases hv : v.ownBlock with
    | none => exact .inl rfl
    | some k => exact .inr (hv ▸ own_ne h hg str_ne_kept))
/-- The file at i has other texts. -/
theorem OwnKepts.texts {w : World} {B g n cap : Nat} {ks : List KFile} (h : OwnKepts w B (.slice (some ⟨g, 0, none⟩) n cap) ks) {i : Nat} (hi : i < ks.length) (u : Value) (ts : List (List UInt8)) (hu : OwnStrs w B u ts) :
    OwnKepts (w.setCell ⟨g, i * 3 + 1, none⟩ u) B (.slice (some ⟨g, 0, none⟩) n cap) (ks.set i ⟨ks[i].id, ts, ks[i].sure⟩) := by
  obtain ⟨us, hl, ho, ht⟩ := h
  have hki : ks[i]? = some ks[i] := List.getElem?_eq_getElem hi
  obtain ⟨u0, hui⟩ : ∃ u, us[i]? = some u := ⟨_, List.getElem?_eq_getElem (by omega)⟩
  obtain ⟨cs, hcs, -⟩ := own_blk ho (k := g) rfl
  refine ⟨us.set i u, by simp [hl], ?_, ?_⟩
  · have := own_set3 ho (g := g) rfl (i * 3 + 1) u
    rw [List.length_set]
    have e : (keptCells ks us).set (i * 3 + 1) u = keptCells (ks.set i ⟨ks[i].id, ts, ks[i].sure⟩) (us.set i u) := by
      unfold keptCells
      rw [zip_set, flat3_set _ i _ (⟨ks[i].id, ts, ks[i].sure⟩, u) 1 u (zip_get hki hui) (by decide) rfl]
    rw [← e]
    exact this
  · intro j x k hx hk
    by_cases hj : i = j
    · subst hj
      rw [List.getElem?_set_self (by omega)] at hx
      rw [List.getElem?_set_self hi] at hk
      cases hx
      cases hk
      exact hu.aside hcs
    · rw [List.getElem?_set_ne hj] at hx hk
      exact (ht j x k hx hk).aside hcs
/-- The file at i is sure so far. -/
theorem OwnKepts.sure {w : World} {B g n cap : Nat} {ks : List KFile} (h : OwnKepts w B (.slice (some ⟨g, 0, none⟩) n cap) ks) {i : Nat} (hi : i < ks.length) (s : Nat) :
    OwnKepts (w.setCell ⟨g, i * 3 + 2, none⟩ (.int .i64 s)) B (.slice (some ⟨g, 0, none⟩) n cap) (ks.set i ⟨ks[i].id, ks[i].texts, s⟩) := by
  obtain ⟨us, hl, ho, ht⟩ := h
  have hki : ks[i]? = some ks[i] := List.getElem?_eq_getElem hi
  obtain ⟨u0, hui⟩ : ∃ u, us[i]? = some u := ⟨_, List.getElem?_eq_getElem (by omega)⟩
  obtain ⟨cs, hcs, -⟩ := own_blk ho (k := g) rfl
  have hs : us.set i u0 = us := set_self hui
  refine ⟨us, by simp [hl], ?_, ?_⟩
  · have := own_set3 ho (g := g) rfl (i * 3 + 2) (.int .i64 s)
    rw [List.length_set]
    have e : (keptCells ks us).set (i * 3 + 2) (.int .i64 s) = keptCells (ks.set i ⟨ks[i].id, ks[i].texts, s⟩) us := by
      unfold keptCells
      rw [flat3_set _ i _ (⟨ks[i].id, ks[i].texts, s⟩, u0) 2 (.int .i64 s) (zip_get hki hui) (by decide) rfl]
      conv => rhs; rw [← hs, zip_set]
    rw [← e]
    exact this
  · intro j x k hx hk
    by_cases hj : i = j
    · subst hj
      rw [List.getElem?_set_self hi] at hk
      cases hk
      exact (ht i x ks[i] hx hki).aside hcs
    · rw [List.getElem?_set_ne hj] at hk
      exact (ht j x k hx hk).aside hcs
theorem info_kept : ∃ i : TypeInfo, Tryd.prog.info? 37 = some i ∧ i.zero = some (.agg #[.string ⟨#[]⟩, .slice none 0 0, .int .i64 0]) ∧ i.size = 3 ∧ i.bytes = 48 := by
  have h : (Tryd.prog.info? 37).map (fun i => (i.zero, i.size, i.bytes)) = some (some (.agg #[.string ⟨#[]⟩, .slice none 0 0, .int .i64 0]), 3, 48) := by kernel_rfl
  cases hq : Tryd.prog.info? 37 with
  | none => rw [hq] at h; cases h
  | some i =>
    rw [hq] at h
    simp only [Option.map_some, Option.some.injEq, Prod.mk.injEq] at h
    exact ⟨i, rfl, h.1, h.2.1, h.2.2⟩
theorem add_litK (g o k : Nat) : (⟨g, o, none⟩ : Addr).add k = ⟨g, o + k, none⟩ := by
  unfold Addr.add
  split
  · rename_i h; rw [h]; rfl
  · rfl
/-- A file without texts is put behind a list of the call's own. -/
theorem wpList_put_kept {ops : Array Oper} {rest : List Oper} {o : Oper} {a : Act} {w : World} {Q : Exit → Act → World → Prop} (hgd : o.guard = none) (s x : Operand)
    (ho : o.op = .call { callee := .builtin .append, args := #[s, x], argTypes := #[30, 30] }) (B : Nat) (v : Value) (ks : List KFile) (hs : a.eval s = v) (hown : OwnKepts w B v ks)
    (id : List UInt8) (g c : Nat) (hx : a.eval x = .slice (some ⟨g, 0, none⟩) 1 c) (h0 : w.cell? ⟨g, 0, none⟩ = some (.string (stx id))) (h1 : w.cell? ⟨g, 1, none⟩ = some (.slice none 0 0)) (h2 : w.cell? ⟨g, 2, none⟩ = some (.int .i64 0)) (hB : B ≤ w.heap.size) (hl : ks.length ≤ 1000000)
    (h : ∀ v' w', OwnKepts w' B v' (ks ++ [⟨id, [], 0⟩]) → w.grownBy w' v.ownBlock → wpList Tryd.prog ops Q rest (a.put o.dst v') w') : wpList Tryd.prog ops Q (o :: rest) a w := by
  obtain ⟨i0, hi, hz0, hz1, hz2⟩ := info_kept
  obtain ⟨us, hus, hrow, hu⟩ := hown
  refine wpList_append_own_at (P := Tryd.prog) w hgd s x 30 ho B 37 i0 _ 3 48 Tryd.underlying30 hi hz0 hz1 hz2 rfl (by decide) v ks.length (keptCells ks us) hs hrow ⟨g, 0, none⟩ 1 c (keptC (⟨id, [], 0⟩, .slice none 0 0)) hx rfl ?_ ?_ (by unfold maxLen; omega) (by omega) hB ?_
  · intro j y hy
    rw [add_litK, Nat.zero_add]
    match j, hy with
    | 0, hy => rw [h0]; exact hy
    | 1, hy => rw [h1]; exact hy
    | 2, hy => rw [h2]; exact hy
  · intro y hy
    simp only [keptC, List.mem_cons, List.mem_nil_iff, or_false] at hy
    rcases hy with rfl | rfl | rfl <;> rfl
  · intro v' w' k1 k2 _ _
    refine h v' w' ⟨us ++ [.slice none 0 0], by simp [hus], by rw [List.length_append, keptCells_put hus]; exact k1, fun i y m hy hm => ?_⟩ k2
    by_cases hil : i < ks.length
    · rw [List.getElem?_append_left (by omega)] at hy
      rw [List.getElem?_append_left hil] at hm
      exact own_other (hu i y m hy hm) hrow (by decide) k2
    · rw [List.getElem?_append_right (by omega)] at hy
      rw [List.getElem?_append_right (by omega)] at hm
      have hi1 := (List.getElem?_eq_some_iff.1 hm).1
      have hi0 : i - ks.length = 0 := by simpa using hi1
      rw [hus, hi0] at hy
      rw [hi0] at hm
      obtain rfl : (.slice none 0 0 : Value) = y := by simpa using hy
      obtain rfl : (⟨id, [], 0⟩ : KFile) = m := by simpa using hm
      exact World.ownsRow_nil w' B _ 1
end Go.Proofs.YtpfonbpfmipdlaaDoor
