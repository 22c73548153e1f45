/- Entries in memory: lists that lie there, lists of the call's own, and what is put behind them. Conditions: none. -/
import Derived.Test.YtfklhkephdnhaaaEntMath
import Derived.Test.YtfklhkephdnhaaaRow
import Derived.Test.YtfklhkephdnhaaaStrs
import Derived.Test.YtfklhkephdnhaaaAppNone
import Derived.Laws.AppendOwnNone
import Derived.Maps.AppendAt
import Derived.Deep.AppendLies
namespace Go.Proofs.Ytfklhkephdnhaaa
open Go Go.RowKit

def entC (x : Ent) : List Value := [.string (stx x.key), .string (stx x.val), .bool x.gone]
def entCells (l : List Ent) : List Value := l.flatMap entC
theorem entCells_length (l : List Ent) : (entCells l).length = l.length * 3 := by
  induction l with
  | nil => rfl
  | cons f r ih => simp [entCells, entC] at ih ⊢; omega
theorem entCells_append (l m : List Ent) : entCells (l ++ m) = entCells l ++ entCells m := by simp [entCells]
theorem entCells_one (f : Ent) : entCells [f] = entC f := by simp [entCells]
theorem entCells_get : ∀ (fs : List Ent) (i : Nat) (f : Ent), fs[i]? = some f → (entCells fs)[i * 3]? = some (.string (stx f.key)) ∧ (entCells fs)[i * 3 + 1]? = some (.string (stx f.val)) ∧ (entCells fs)[i * 3 + 2]? = some (.bool f.gone)
  | x :: r, 0, f, h => by
    obtain rfl : x = f := by simpa using h
    simp [entCells, entC]
  | x :: r, i + 1, f, h => by
    have := entCells_get r i f (by simpa using h)
    have e : ∀ k, (entCells (x :: r))[(i + 1) * 3 + k]? = (entCells r)[i * 3 + k]? := fun k => by
      rw [show entCells (x :: r) = entC x ++ entCells r by simp [entCells], List.getElem?_append_right (by simp [entC]; omega)]
      congr 1
      simp [entC]
      omega
    exact ⟨(e 0).trans this.1, (e 1).trans this.2.1, (e 2).trans this.2.2⟩
theorem oneE (x : Ent) : ∀ u ∈ entC x, u.oneCell' = true := by
  intro u hu
  simp only [entC, List.mem_cons, List.mem_nil_iff, or_false] at hu
  rcases hu with rfl | rfl | rfl <;> rfl
theorem oneEs (l : List Ent) : ∀ u ∈ entCells l, u.oneCell' = true := by
  intro u hu
  obtain ⟨x, _, hx⟩ := List.mem_flatMap.1 hu
  exact oneE x u hx

/-- An entry's three cells. -/
def EntAt (w : World) (g o : Nat) (x : Ent) : Prop :=
  w.cell? ⟨g, o, none⟩ = some (.string (stx x.key)) ∧ w.cell? ⟨g, o + 1, none⟩ = some (.string (stx x.val)) ∧ w.cell? ⟨g, o + 2, none⟩ = some (.bool x.gone)
theorem EntAt.below {w w' : World} {g o : Nat} {x : Ent} (h : EntAt w g o x) (k : Below w.heap.size w w') : EntAt w' g o x := by
  obtain ⟨h1, h2, h3⟩ := h
  exact ⟨(k.cell (p := ⟨g, o, none⟩) (cellLt h1)).trans h1, (k.cell (p := ⟨g, o + 1, none⟩) (cellLt h2)).trans h2, (k.cell (p := ⟨g, o + 2, none⟩) (cellLt h3)).trans h3⟩
theorem EntAt.lt {w : World} {g o : Nat} {x : Ent} (h : EntAt w g o x) : g < w.heap.size := cellLt h.1
/-- Entries that lie in memory. -/
def EntsAt (w : World) (v : Value) (es : List Ent) : Prop :=
  ∃ A cap, v = .slice A es.length cap ∧ es.length ≤ cap ∧ cap ≤ maxLen ∧ ∀ i x, es[i]? = some x → ∃ g o, A = some ⟨g, o, none⟩ ∧ EntAt w g (o + i * 3) x
theorem EntsAt.below {w w' : World} {v : Value} {es : List Ent} (h : EntsAt w v es) (k : Below w.heap.size w w') : EntsAt w' v es := by
  obtain ⟨A, cap, h1, h2, h3, h4⟩ := h
  refine ⟨A, cap, h1, h2, h3, fun i x hi => ?_⟩
  obtain ⟨g, o, h5, h6⟩ := h4 i x hi
  exact ⟨g, o, h5, h6.below k⟩
theorem EntsAt.nil (w : World) : EntsAt w (.slice none 0 0) [] := ⟨none, 0, rfl, Nat.le_refl _, Nat.zero_le _, fun i x h => by simp at h⟩
/-- What s[k:] is. -/
def cutV (A : Option Addr) (n cap k : Nat) : Value := .slice (if cap = k then A else A.map (·.add (k * 3))) (n - k) (cap - k)
theorem add_lit (g o k : Nat) : (⟨g, o, none⟩ : Addr).add k = ⟨g, o + k, none⟩ := by
  unfold Addr.add
  split
  · rename_i h; rw [h]; rfl
  · rfl
theorem EntsAt.drop {w : World} {A : Option Addr} {n cap k : Nat} {es : List Ent} (h : EntsAt w (.slice A n cap) es) (hk : k ≤ es.length) : EntsAt w (cutV A n cap k) (es.drop k) := by
  obtain ⟨A', cap', h1, h2, h3, h4⟩ := h
  obtain ⟨rfl, rfl, rfl⟩ : A = A' ∧ n = es.length ∧ cap = cap' := by simpa using h1
  refine ⟨_, _, by rw [List.length_drop]; rfl, by rw [List.length_drop]; omega, by omega, fun i x hi => ?_⟩
  rw [List.getElem?_drop] at hi
  obtain ⟨g, o, rfl, h6⟩ := h4 _ x hi
  have hl := (List.getElem?_eq_some_iff.1 hi).1
  rw [if_neg (by omega)]
  refine ⟨g, o + k * 3, by rw [Option.map_some, add_lit], ?_⟩
  rwa [show o + k * 3 + i * 3 = o + (k + i) * 3 by omega]
theorem EntsAt.take {w : World} {A : Option Addr} {n cap k : Nat} {es : List Ent} (h : EntsAt w (.slice A n cap) es) (hk : k ≤ es.length) : EntsAt w (.slice A k cap) (es.take k) := by
  obtain ⟨A', cap', h1, h2, h3, h4⟩ := h
  obtain ⟨rfl, rfl, rfl⟩ : A = A' ∧ n = es.length ∧ cap = cap' := by simpa using h1
  refine ⟨_, _, by rw [List.length_take, Nat.min_eq_left hk], by rw [List.length_take]; omega, by omega, fun i x hi => ?_⟩
  rw [List.getElem?_take] at hi
  split at hi
  · exact h4 i x hi
  · cases hi
theorem EntsAt.cells {w : World} {g o n cap : Nat} {es : List Ent} (h : EntsAt w (.slice (some ⟨g, o, none⟩) n cap) es) : ∀ j u, (entCells es)[j]? = some u → w.cell? ((⟨g, o, none⟩ : Addr).add j) = some u := by
  intro j u hu
  obtain ⟨A', cap', h1, h2, h3, h4⟩ := h
  have hj : j < es.length * 3 := by rw [← entCells_length]; exact (List.getElem?_eq_some_iff.1 hu).1
  obtain ⟨x, hx⟩ : ∃ x, es[j / 3]? = some x := ⟨_, List.getElem?_eq_getElem (by omega)⟩
  obtain ⟨g', o', e, k1, k2, k3⟩ := h4 _ x hx
  obtain ⟨e1, _, _⟩ : some (⟨g, o, none⟩ : Addr) = A' ∧ n = es.length ∧ cap = cap' := by simpa using h1
  rw [e] at e1
  obtain ⟨rfl, rfl⟩ : g = g' ∧ o = o' := by simpa using e1
  obtain ⟨c0, c1, c2⟩ := entCells_get es _ x hx
  rw [add_lit]
  rcases (by omega : j = j / 3 * 3 ∨ j = j / 3 * 3 + 1 ∨ j = j / 3 * 3 + 2) with q | q | q
  · rw [← q] at c0 k1
    rw [k1, ← hu, c0]
  · rw [← q] at c1
    rw [show o + j / 3 * 3 + 1 = o + (j / 3 * 3 + 1) by omega, ← q] at k2
    rw [k2, ← hu, c1]
  · rw [← q] at c2
    rw [show o + j / 3 * 3 + 2 = o + (j / 3 * 3 + 2) by omega, ← q] at k3
    rw [k3, ← hu, c2]

/-- Entries of the call's own. -/
def OwnEnts (w : World) (B : Nat) (v : Value) (es : List Ent) : Prop := w.ownsRow B 66 3 v es.length (entCells es)
theorem OwnEnts.lie {w : World} {B : Nat} {v : Value} {es : List Ent} (h : OwnEnts w B v es) : EntsAt w v es := by
  rcases h.2 with ⟨rfl, h0⟩ | ⟨g, cap, cur, rfl, hb, hg, h1, h2, h3, h4⟩
  · exact ⟨none, 0, by rw [h0], by omega, Nat.zero_le _, fun i f hi => by rw [List.eq_nil_of_length_eq_zero h0] at hi; simp at hi⟩
  · refine ⟨_, cap, rfl, h1, h2, fun i f hi => ⟨g, 0, rfl, ?_⟩⟩
    obtain ⟨e0, e1, e2⟩ := entCells_get es i f hi
    have hl : i < es.length := (List.getElem?_eq_some_iff.1 hi).1
    have e : ∀ k, k < 3 → w.cell? ⟨g, i * 3 + k, none⟩ = (entCells es)[i * 3 + k]? := fun k hk => by
      rw [Lib.cell_of_heap hg (i * 3 + k), ← h4, List.getElem?_take, if_pos (by omega)]
      simp
    have z : 0 + i * 3 = i * 3 := Nat.zero_add _
    unfold EntAt
    rw [z]
    exact ⟨(e 0 (by decide)).trans e0, (e 1 (by decide)).trans e1, (e 2 (by decide)).trans e2⟩
theorem OwnEnts.shape {w : World} {B : Nat} {v : Value} {es : List Ent} (h : OwnEnts w B v es) : ∃ ao cap, v = .slice ao es.length cap := by
  rcases h.2 with ⟨h1, h2⟩ | ⟨g, cap, cur, h1, _⟩
  · exact ⟨none, 0, by rw [h1, h2]⟩
  · exact ⟨_, _, h1⟩
theorem OwnEnts.below {w w' : World} {B : Nat} {v : Value} {es : List Ent} (h : OwnEnts w B v es) (k : Below w.heap.size w w') : OwnEnts w' B v es :=
  World.ownsRow.kept h (row := none) ⟨k.os, k.tape, k.output, k.size, fun j hj _ => k.block j hj⟩ (by cases hv : v.ownBlock <;> simp)
theorem OwnEnts.low {w : World} {B B' : Nat} {v : Value} {es : List Ent} (h : OwnEnts w B v es) (hb : B' ≤ B) : OwnEnts w B' v es :=
  ⟨h.1, h.2.imp id fun ⟨g, cap, cur, h1, h2, h3⟩ => ⟨g, cap, cur, h1, Nat.le_trans hb h2, h3⟩⟩
theorem OwnEnts.grown {w w' : World} {B : Nat} {v : Value} {es : List Ent} {a : World} (h : OwnEnts w B v es) (hg : w.grownBy w' v.ownBlock) (b : Below B a w) (hB : B ≤ w.heap.size) : Below B a w' :=
  b.grown hg hB (fun k hk => (World.ownsRow.lt h k hk).1)
theorem ownEnts_nil (w : World) (B : Nat) : OwnEnts w B (.slice none 0 0) [] := World.ownsRow_nil w B _ 3
theorem ownEnts_new (w : World) (B n : Nat) (hn : n = w.heap.size) (hB : B ≤ n) : OwnEnts (w.alloc (.cells #[] 66)) B (.slice (some ⟨n, 0, none⟩) 0 0) [] := by
  subst hn
  exact ⟨rfl, .inr ⟨w.heap.size, 0, #[], rfl, hB, heap_alloc_new w _, Nat.le_refl _, Nat.zero_le _, rfl, rfl⟩⟩
theorem info_ent : ∃ i : TypeInfo, Try.prog.info? 66 = some i ∧ i.zero = some (.agg #[.string ⟨#[]⟩, .string ⟨#[]⟩, .bool false]) ∧ i.size = 3 ∧ i.bytes = 40 := by
  have h : (Try.prog.info? 66).map (fun i => (i.zero, i.size, i.bytes)) = some (some (.agg #[.string ⟨#[]⟩, .string ⟨#[]⟩, .bool false]), 3, 40) := by kernel_rfl
  cases hq : Try.prog.info? 66 with
  | none => rw [hq] at h; cases h
  | some i =>
    rw [hq] at h
    simp only [Option.map_some, Option.some.injEq, Prod.mk.injEq] at h
    exact ⟨i, rfl, h.1, h.2.1, h.2.2⟩
/-- One entry is put behind a list of the call's own. -/
theorem wpList_put_ent {ops : Array Oper} {rest : List Oper} {o : Oper} {a : Act} {w : World} {Q : Exit → Act → World → Prop} (hgd : o.guard = none) (s x : Operand)
    (ho : o.op = .call { callee := .builtin .append, args := #[s, x], argTypes := #[63, 63] }) (B : Nat) (v : Value) (es : List Ent) (hs : a.eval s = v) (hown : OwnEnts w B v es)
    (t : Ent) (g c : Nat) (hx : a.eval x = .slice (some ⟨g, 0, none⟩) 1 c) (hcell : EntAt w g 0 t) (hB : B ≤ w.heap.size) (hl : es.length ≤ 1000000)
    (h : ∀ v' w', OwnEnts w' B v' (es ++ [t]) → w.grownBy w' v.ownBlock → (v'.ownBlock = v.ownBlock ∨ v'.ownBlock = some w.heap.size) → wpList Try.prog ops Q rest (a.put o.dst v') w') : wpList Try.prog ops Q (o :: rest) a w := by
  obtain ⟨i0, hi, hz0, hz1, hz2⟩ := info_ent
  refine wpList_append_own_at (P := Try.prog) w hgd s x 63 ho B 66 i0 _ 3 40 Try.underlying63 hi hz0 hz1 hz2 rfl (by decide) v es.length (entCells es) hs hown ⟨g, 0, none⟩ 1 c (entC t) hx rfl ?_ (oneE t) (by unfold maxLen; omega) (by omega) hB ?_
  · intro j u hu
    rw [add_lit, Nat.zero_add]
    obtain ⟨k0, k1, k2⟩ := hcell
    match j, hu with
    | 0, hu => rw [k0]; exact hu
    | 1, hu => rw [k1]; exact hu
    | 2, hu => rw [k2]; exact hu
  · intro v' w' h1 h2 _ h4
    refine h v' w' ?_ h2 h4
    unfold OwnEnts
    rw [entCells_append, entCells_one, List.length_append]
    exact h1
/-- Entries are put behind a list of the call's own. -/
theorem wpList_put_ents {ops : Array Oper} {rest : List Oper} {o : Oper} {a : Act} {w : World} {Q : Exit → Act → World → Prop} (hgd : o.guard = none) (s x : Operand)
    (ho : o.op = .call { callee := .builtin .append, args := #[s, x], argTypes := #[63, 63] }) (B : Nat) (v : Value) (es : List Ent) (hs : a.eval s = v) (hown : OwnEnts w B v es)
    (u : Value) (ts : List Ent) (hx : a.eval x = u) (hu : EntsAt w u ts) (hB : B ≤ w.heap.size) (hl : es.length ≤ 1000000) (hl2 : ts.length ≤ 1000000)
    (h : ∀ v' w', OwnEnts w' B v' (es ++ ts) → w.grownBy w' v.ownBlock → (v'.ownBlock = v.ownBlock ∨ v'.ownBlock = some w.heap.size) → wpList Try.prog ops Q rest (a.put o.dst v') w') : wpList Try.prog ops Q (o :: rest) a w := by
  obtain ⟨i0, hi, hz0, hz1, hz2⟩ := info_ent
  obtain ⟨A, cap, hu1, hu2, hu3, hu4⟩ := id hu
  have key : ∀ (ad : Addr), (∀ j u, (entCells ts)[j]? = some u → w.cell? (ad.add j) = some u) → u = .slice (some ad) ts.length cap → wpList Try.prog ops Q (o :: rest) a w := fun ad hc hv => by
    refine wpList_append_own_at (P := Try.prog) w hgd s x 63 ho B 66 i0 _ 3 40 Try.underlying63 hi hz0 hz1 hz2 rfl (by decide) v es.length (entCells es) hs hown ad ts.length cap (entCells ts) (hx.trans hv) (entCells_length ts) hc (oneEs ts) (by unfold maxLen; omega) (by omega) hB ?_
    intro v' w' h1 h2 _ h4
    refine h v' w' ?_ h2 h4
    unfold OwnEnts
    rw [entCells_append, List.length_append]
    exact h1
  by_cases h0 : ts = []
  · subst h0
    cases A with
    | some ad => exact key ad (fun j u hj => by simp [entCells] at hj) hu1
    | none =>
      have hrun := run_append_none_len (w := w) Try.underlying63 hi hown cap o.type
      refine wpList_plain hgd fun K hK => ?_
      unfold Oper.wp execOp
      simp only [ho, resolve, invoke, builtin, Sem.run_bind, Sem.run_pure, Result.andThen_ok, List.map_toArray, List.map_cons, List.map_nil, hs, hx.trans hu1, List.length_nil, hrun]
      exact hK _ _ (h v w (by rw [List.append_nil]; exact hown) ⟨rfl, rfl, rfl, Nat.le_refl _, fun _ _ _ => rfl⟩ (.inl rfl))
  · obtain ⟨y, hy⟩ : ∃ y, ts[0]? = some y := by
      cases ts with
      | nil => exact absurd rfl h0
      | cons y r => exact ⟨y, rfl⟩
    obtain ⟨g, o', rfl, _⟩ := hu4 0 y hy
    subst hu1
    exact key _ hu.cells rfl
end Go.Proofs.Ytfklhkephdnhaaa
