/- Tables of levels in memory: lists that lie there, lists of the call's own, and what is put behind them. Conditions: none. -/
import Derived.Test.YtfklhkephdnhaaaLvlMath
import Derived.Test.YtfklhkephdnhaaaRow
import Derived.Test.YtfklhkephdnhaaaStrs
import Derived.Test.YtfklhkephdnhaaaAppNone
import Derived.Laws.AppendOwnNone
import Derived.Maps.AppendAt
import Derived.Deep.AppendLies
namespace Go.Proofs.Ytfklhkephdnhaaa
open Go Go.RowKit

def flC (x : Fl) : List Value := [.int .i64 x.num, .int .i64 x.lev, .int .i64 x.size, .string (stx x.first), .string (stx x.last)]
def flV (x : Fl) : Value := .agg #[.int .i64 x.num, .int .i64 x.lev, .int .i64 x.size, .string (stx x.first), .string (stx x.last)]
def flCells (l : List Fl) : List Value := l.flatMap flC
theorem flCells_length (l : List Fl) : (flCells l).length = l.length * 5 := by
  induction l with
  | nil => rfl
  | cons f r ih => simp [flCells, flC] at ih ⊢; omega
theorem flCells_append (l m : List Fl) : flCells (l ++ m) = flCells l ++ flCells m := by simp [flCells]
theorem flCells_one (f : Fl) : flCells [f] = flC f := by simp [flCells]
theorem flCells_get : ∀ (fs : List Fl) (i : Nat) (f : Fl), fs[i]? = some f → ∀ k, k < 5 → (flCells fs)[i * 5 + k]? = (flC f)[k]?
  | x :: r, 0, f, h, k, hk => by
    obtain rfl : x = f := by simpa using h
    rw [show flCells (x :: r) = flC x ++ flCells r by simp [flCells], List.getElem?_append_left (by simp [flC]; omega)]
    simp
  | x :: r, i + 1, f, h, k, hk => by
    have := flCells_get r i f (by simpa using h) k hk
    rw [show flCells (x :: r) = flC x ++ flCells r by simp [flCells], List.getElem?_append_right (by simp [flC]; omega), ← this]
    congr 1
    simp [flC]
    omega
theorem oneFl (x : Fl) : ∀ u ∈ flC x, u.oneCell' = true := by
  intro u hu
  simp only [flC, List.mem_cons, List.mem_nil_iff, or_false] at hu
  rcases hu with rfl | rfl | rfl | rfl | rfl <;> rfl
theorem oneFls (l : List Fl) : ∀ u ∈ flCells l, u.oneCell' = true := by
  intro u hu
  obtain ⟨x, _, hx⟩ := List.mem_flatMap.1 hu
  exact oneFl x u hx
theorem add_litL (g o k : Nat) : (⟨g, o, none⟩ : Addr).add k = ⟨g, o + k, none⟩ := by
  unfold Addr.add
  split
  · rename_i h; rw [h]; rfl
  · rfl

/-- A table's five cells. -/
def FlAt (w : World) (g o : Nat) (x : Fl) : Prop :=
  w.cell? ⟨g, o, none⟩ = some (.int .i64 x.num) ∧ w.cell? ⟨g, o + 1, none⟩ = some (.int .i64 x.lev) ∧ w.cell? ⟨g, o + 2, none⟩ = some (.int .i64 x.size) ∧ w.cell? ⟨g, o + 3, none⟩ = some (.string (stx x.first)) ∧ w.cell? ⟨g, o + 4, none⟩ = some (.string (stx x.last))
theorem FlAt.below {w w' : World} {g o : Nat} {x : Fl} (h : FlAt w g o x) (k : Below w.heap.size w w') : FlAt w' g o x := by
  obtain ⟨h1, h2, h3, h4, h5⟩ := h
  exact ⟨(k.cell (p := ⟨g, o, none⟩) (cellLt h1)).trans h1, (k.cell (p := ⟨g, o + 1, none⟩) (cellLt h2)).trans h2, (k.cell (p := ⟨g, o + 2, none⟩) (cellLt h3)).trans h3, (k.cell (p := ⟨g, o + 3, none⟩) (cellLt h4)).trans h4, (k.cell (p := ⟨g, o + 4, none⟩) (cellLt h5)).trans h5⟩
theorem FlAt.lt {w : World} {g o : Nat} {x : Fl} (h : FlAt w g o x) : g < w.heap.size := cellLt h.1
theorem flAt_row {w : World} {g : Nat} {c : Array Value} {t : TypeId} {fz : Nat × Nat} (h : w.heap[g]? = some (.cells c t fz)) {x : Fl} (hc : c = (flC x).toArray) : FlAt w g 0 x := by
  subst hc
  exact ⟨(Lib.cell_of_heap h 0).trans rfl, (Lib.cell_of_heap h 1).trans rfl, (Lib.cell_of_heap h 2).trans rfl, (Lib.cell_of_heap h 3).trans rfl, (Lib.cell_of_heap h 4).trans rfl⟩
theorem flAt_new (w : World) (x : Fl) (t : TypeId) (n : Nat) (hn : n = w.heap.size) : FlAt (w.alloc (.cells #[.int .i64 x.num, .int .i64 x.lev, .int .i64 x.size, .string (stx x.first), .string (stx x.last)] t)) n 0 x := by
  subst hn
  exact flAt_row (heap_alloc_new w _) rfl
/-- Tables that lie in memory. -/
def FlsAt (w : World) (v : Value) (es : List Fl) : Prop :=
  ∃ A cap, v = .slice A es.length cap ∧ es.length ≤ cap ∧ cap ≤ maxLen ∧ ∀ i x, es[i]? = some x → ∃ g o, A = some ⟨g, o, none⟩ ∧ FlAt w g (o + i * 5) x
theorem FlsAt.below {w w' : World} {v : Value} {es : List Fl} (h : FlsAt w v es) (k : Below w.heap.size w w') : FlsAt w' v es := by
  obtain ⟨A, cap, h1, h2, h3, h4⟩ := h
  refine ⟨A, cap, h1, h2, h3, fun i x hi => ?_⟩
  obtain ⟨g, o, h5, h6⟩ := h4 i x hi
  exact ⟨g, o, h5, h6.below k⟩
theorem FlsAt.nil (w : World) : FlsAt w (.slice none 0 0) [] := ⟨none, 0, rfl, Nat.le_refl _, Nat.zero_le _, fun i x h => by simp at h⟩
theorem FlsAt.take {w : World} {A : Option Addr} {n cap k : Nat} {es : List Fl} (h : FlsAt w (.slice A n cap) es) (hk : k ≤ es.length) : FlsAt w (.slice A k cap) (es.take k) := by
  obtain ⟨A', cap', h1, h2, h3, h4⟩ := h
  obtain ⟨rfl, rfl, rfl⟩ : A = A' ∧ n = es.length ∧ cap = cap' := by simpa using h1
  refine ⟨_, _, by rw [List.length_take, Nat.min_eq_left hk], by rw [List.length_take]; omega, by omega, fun i x hi => ?_⟩
  rw [List.getElem?_take] at hi
  split at hi
  · exact h4 i x hi
  · cases hi
theorem FlsAt.cells {w : World} {g o n cap : Nat} {es : List Fl} (h : FlsAt w (.slice (some ⟨g, o, none⟩) n cap) es) : ∀ j u, (flCells es)[j]? = some u → w.cell? ((⟨g, o, none⟩ : Addr).add j) = some u := by
  intro j u hu
  obtain ⟨A', cap', h1, h2, h3, h4⟩ := h
  have hj : j < es.length * 5 := by rw [← flCells_length]; exact (List.getElem?_eq_some_iff.1 hu).1
  obtain ⟨x, hx⟩ : ∃ x, es[j / 5]? = some x := ⟨_, List.getElem?_eq_getElem (by omega)⟩
  obtain ⟨g', o', e, k0, k1, k2, k3, k4⟩ := h4 _ x hx
  obtain ⟨e1, _, _⟩ : some (⟨g, o, none⟩ : Addr) = A' ∧ n = es.length ∧ cap = cap' := by simpa using h1
  rw [e] at e1
  obtain ⟨rfl, rfl⟩ : g = g' ∧ o = o' := by simpa using e1
  have c := flCells_get es _ x hx (j % 5) (by omega)
  rw [show j / 5 * 5 + j % 5 = j by omega, hu] at c
  rw [add_litL, c]
  rcases (by omega : j % 5 = 0 ∨ j % 5 = 1 ∨ j % 5 = 2 ∨ j % 5 = 3 ∨ j % 5 = 4) with q | q | q | q | q <;> rw [q]
  · rw [show o + j = o + j / 5 * 5 by omega]; exact k0
  · rw [show o + j = o + j / 5 * 5 + 1 by omega]; exact k1
  · rw [show o + j = o + j / 5 * 5 + 2 by omega]; exact k2
  · rw [show o + j = o + j / 5 * 5 + 3 by omega]; exact k3
  · rw [show o + j = o + j / 5 * 5 + 4 by omega]; exact k4
/-- Tables of the call's own. -/
def OwnV (w : World) (B : Nat) (v : Value) (es : List Fl) : Prop := w.ownsRow B 58 5 v es.length (flCells es)
theorem OwnV.lie {w : World} {B : Nat} {v : Value} {es : List Fl} (h : OwnV w B v es) : FlsAt w v es := by
  rcases h.2 with ⟨rfl, h0⟩ | ⟨g, cap, cur, rfl, hb, hg, h1, h2, h3, h4⟩
  · exact ⟨none, 0, by rw [h0], by omega, Nat.zero_le _, fun i f hi => by rw [List.eq_nil_of_length_eq_zero h0] at hi; simp at hi⟩
  · refine ⟨_, cap, rfl, h1, h2, fun i f hi => ⟨g, 0, rfl, ?_⟩⟩
    have e := flCells_get es i f hi
    have hl : i < es.length := (List.getElem?_eq_some_iff.1 hi).1
    have e : ∀ k, k < 5 → w.cell? ⟨g, i * 5 + k, none⟩ = (flC f)[k]? := fun k hk => by
      rw [Lib.cell_of_heap hg (i * 5 + k), ← e k hk, ← h4, List.getElem?_take, if_pos (by omega)]
      simp
    have z : 0 + i * 5 = i * 5 := Nat.zero_add _
    unfold FlAt
    rw [z]
    exact ⟨e 0 (by decide), e 1 (by decide), e 2 (by decide), e 3 (by decide), e 4 (by decide)⟩
theorem OwnV.shape {w : World} {B : Nat} {v : Value} {es : List Fl} (h : OwnV w B v es) : ∃ ao cap, v = .slice ao es.length cap := by
  rcases h.2 with ⟨h1, h2⟩ | ⟨g, cap, cur, h1, _⟩
  · exact ⟨none, 0, by rw [h1, h2]⟩
  · exact ⟨_, _, h1⟩
theorem OwnV.below {w w' : World} {B : Nat} {v : Value} {es : List Fl} (h : OwnV w B v es) (k : Below w.heap.size w w') : OwnV w' B v es :=
  World.ownsRow.kept h (row := none) ⟨k.os, k.tape, k.output, k.size, fun j hj _ => k.block j hj⟩ (by cases hv : v.ownBlock <;> simp)
theorem OwnV.low {w : World} {B B' : Nat} {v : Value} {es : List Fl} (h : OwnV w B v es) (hb : B' ≤ B) : OwnV w B' v es :=
  ⟨h.1, h.2.imp id fun ⟨g, cap, cur, h1, h2, h3⟩ => ⟨g, cap, cur, h1, Nat.le_trans hb h2, h3⟩⟩
theorem OwnV.grown {w w' : World} {B : Nat} {v : Value} {es : List Fl} {a : World} (h : OwnV w B v es) (hg : w.grownBy w' v.ownBlock) (b : Below B a w) (hB : B ≤ w.heap.size) : Below B a w' :=
  b.grown hg hB (fun k hk => (World.ownsRow.lt h k hk).1)
theorem OwnV.block {w : World} {B : Nat} {v : Value} {L : List Fl} (h : OwnV w B v L) {g : Nat} (hg : v.ownBlock = some g) : B ≤ g ∧ g < w.heap.size ∧ ∃ cur, w.heap[g]? = some (.cells cur 58 (0, 0)) := by
  rcases h.2 with ⟨h1, h2⟩ | ⟨g', cap, cur, h1, h2, h3, _⟩
  · rw [h1] at hg
    cases hg
  · rw [h1] at hg
    cases hg
    exact ⟨h2, (Array.getElem?_eq_some_iff.1 h3).1, cur, h3⟩
theorem OwnV.apart {W : World} {B : Nat} {v : Value} {L : List Fl} {b : Nat} {c : Array Value} {t : TypeId} (h : OwnV W B v L) (hb : W.heap[b]? = some (.cells c t (0, 0))) (hne : t ≠ 58) : v.ownBlock ≠ some b := fun e => by
  obtain ⟨_, _, cur, h3⟩ := OwnV.block h e
  rw [hb] at h3
  cases h3
  exact hne rfl
/-- Another block may be written. -/
theorem OwnV.aside {W W' : World} {B : Nat} {v : Value} {L : List Fl} {b : Nat} (h : OwnV W B v L) (hg : W.grownBy W' (some b)) (hne : v.ownBlock ≠ some b) : OwnV W' B v L := by
  refine World.ownsRow.kept h hg ?_
  cases hq : v.ownBlock with
  | none => exact .inl rfl
  | some g => exact .inr fun e => hne (by rw [hq]; exact e)
theorem ownV_nil (w : World) (B : Nat) : OwnV w B (.slice none 0 0) [] := World.ownsRow_nil w B _ 5
theorem ownV_new (w : World) (B n : Nat) (hn : n = w.heap.size) (hB : B ≤ n) : OwnV (w.alloc (.cells #[] 58)) B (.slice (some ⟨n, 0, none⟩) 0 0) [] := by
  subst hn
  exact ⟨rfl, .inr ⟨w.heap.size, 0, #[], rfl, hB, heap_alloc_new w _, Nat.le_refl _, Nat.zero_le _, rfl, rfl⟩⟩
theorem info_lfile : ∃ i : TypeInfo, Try.prog.info? 58 = some i ∧ i.zero = some (.agg #[.int .i64 0, .int .i64 0, .int .i64 0, .string ⟨#[]⟩, .string ⟨#[]⟩]) ∧ i.size = 5 ∧ i.bytes = 56 := by
  have h : (Try.prog.info? 58).map (fun i => (i.zero, i.size, i.bytes)) = some (some (.agg #[.int .i64 0, .int .i64 0, .int .i64 0, .string ⟨#[]⟩, .string ⟨#[]⟩]), 5, 56) := by kernel_rfl
  cases hq : Try.prog.info? 58 with
  | none => rw [hq] at h; cases h
  | some i =>
    rw [hq] at h
    simp only [Option.map_some, Option.some.injEq, Prod.mk.injEq] at h
    exact ⟨i, rfl, h.1, h.2.1, h.2.2⟩
/-- One table is put behind a list of the call's own. -/
theorem wpList_putV {ops : Array Oper} {rest : List Oper} {o : Oper} {a : Act} {w : World} {Q : Exit → Act → World → Prop} (hgd : o.guard = none) (s x : Operand)
    (ho : o.op = .call { callee := .builtin .append, args := #[s, x], argTypes := #[22, 22] }) (B : Nat) (v : Value) (es : List Fl) (hs : a.eval s = v) (hown : OwnV w B v es)
    (t : Fl) (g c : Nat) (hx : a.eval x = .slice (some ⟨g, 0, none⟩) 1 c) (hcell : FlAt w g 0 t) (hB : B ≤ w.heap.size) (hl : es.length ≤ 1000000)
    (h : ∀ v' w', OwnV w' B v' (es ++ [t]) → w.grownBy w' v.ownBlock → (v'.ownBlock = v.ownBlock ∨ v'.ownBlock = some w.heap.size) → wpList Try.prog ops Q rest (a.put o.dst v') w') : wpList Try.prog ops Q (o :: rest) a w := by
  obtain ⟨i0, hi, hz0, hz1, hz2⟩ := info_lfile
  refine wpList_append_own_at (P := Try.prog) w hgd s x 22 ho B 58 i0 _ 5 56 Try.underlying22 hi hz0 hz1 hz2 rfl (by decide) v es.length (flCells es) hs hown ⟨g, 0, none⟩ 1 c (flC t) hx rfl ?_ (oneFl t) (by unfold maxLen; omega) (by omega) hB ?_
  · intro j u hu
    rw [add_litL, Nat.zero_add]
    obtain ⟨k0, k1, k2, k3, k4⟩ := hcell
    match j, hu with
    | 0, hu => rw [k0]; exact hu
    | 1, hu => rw [k1]; exact hu
    | 2, hu => rw [k2]; exact hu
    | 3, hu => rw [k3]; exact hu
    | 4, hu => rw [k4]; exact hu
  · intro v' w' h1 h2 _ h4
    refine h v' w' ?_ h2 h4
    unfold OwnV
    rw [flCells_append, flCells_one, List.length_append]
    exact h1
/-- Tables are put behind a list of the call's own. -/
theorem wpList_putsV {ops : Array Oper} {rest : List Oper} {o : Oper} {a : Act} {w : World} {Q : Exit → Act → World → Prop} (hgd : o.guard = none) (s x : Operand)
    (ho : o.op = .call { callee := .builtin .append, args := #[s, x], argTypes := #[22, 22] }) (B : Nat) (v : Value) (es : List Fl) (hs : a.eval s = v) (hown : OwnV w B v es)
    (u : Value) (ts : List Fl) (hx : a.eval x = u) (hu : FlsAt w u ts) (hB : B ≤ w.heap.size) (hl : es.length ≤ 1000000) (hl2 : ts.length ≤ 1000000)
    (h : ∀ v' w', OwnV w' B v' (es ++ ts) → w.grownBy w' v.ownBlock → (v'.ownBlock = v.ownBlock ∨ v'.ownBlock = some w.heap.size) → wpList Try.prog ops Q rest (a.put o.dst v') w') : wpList Try.prog ops Q (o :: rest) a w := by
  obtain ⟨i0, hi, hz0, hz1, hz2⟩ := info_lfile
  obtain ⟨A, cap, hu1, hu2, hu3, hu4⟩ := id hu
  have key : ∀ (ad : Addr), (∀ j u, (flCells ts)[j]? = some u → w.cell? (ad.add j) = some u) → u = .slice (some ad) ts.length cap → wpList Try.prog ops Q (o :: rest) a w := fun ad hc hv => by
    refine wpList_append_own_at (P := Try.prog) w hgd s x 22 ho B 58 i0 _ 5 56 Try.underlying22 hi hz0 hz1 hz2 rfl (by decide) v es.length (flCells es) hs hown ad ts.length cap (flCells ts) (hx.trans hv) (flCells_length ts) hc (oneFls ts) (by unfold maxLen; omega) (by omega) hB ?_
    intro v' w' h1 h2 _ h4
    refine h v' w' ?_ h2 h4
    unfold OwnV
    rw [flCells_append, List.length_append]
    exact h1
  by_cases h0 : ts = []
  · subst h0
    cases A with
    | some ad => exact key ad (fun j u hj => by simp [flCells] at hj) hu1
    | none =>
      have hrun := run_append_none_len (w := w) Try.underlying22 hi hown cap o.type
      refine wpList_plain hgd fun K hK => ?_
      unfold Oper.wp execOp
      simp only [ho, resolve, invoke, builtin, Sem.run_bind, Sem.run_pure, Result.andThen_ok, List.map_toArray, List.map_cons, List.map_nil, hs, hx.trans hu1, List.length_nil, hrun]
      exact hK _ _ (h v w (by rw [List.append_nil]; exact hown) ⟨rfl, rfl, rfl, Nat.le_refl _, fun _ _ _ => rfl⟩ (.inl rfl))
  · obtain ⟨y, hy⟩ : ∃ y, ts[0]? = some y := by
      cases ts with
      | nil => exact absurd rfl h0
      | cons y r => exact ⟨y, rfl⟩
    obtain ⟨g, o', rfl, _⟩ := hu4 0 y hy
    subst hu1
    exact key _ hu.cells rfl
/-- Tables of the call's own. -/
def OwnW (w : World) (B : Nat) (v : Value) (es : List Fl) : Prop := w.ownsRow B 89 5 v es.length (flCells es)
theorem OwnW.lie {w : World} {B : Nat} {v : Value} {es : List Fl} (h : OwnW w B v es) : FlsAt w v es := by
  rcases h.2 with ⟨rfl, h0⟩ | ⟨g, cap, cur, rfl, hb, hg, h1, h2, h3, h4⟩
  · exact ⟨none, 0, by rw [h0], by omega, Nat.zero_le _, fun i f hi => by rw [List.eq_nil_of_length_eq_zero h0] at hi; simp at hi⟩
  · refine ⟨_, cap, rfl, h1, h2, fun i f hi => ⟨g, 0, rfl, ?_⟩⟩
    have e := flCells_get es i f hi
    have hl : i < es.length := (List.getElem?_eq_some_iff.1 hi).1
    have e : ∀ k, k < 5 → w.cell? ⟨g, i * 5 + k, none⟩ = (flC f)[k]? := fun k hk => by
      rw [Lib.cell_of_heap hg (i * 5 + k), ← e k hk, ← h4, List.getElem?_take, if_pos (by omega)]
      simp
    have z : 0 + i * 5 = i * 5 := Nat.zero_add _
    unfold FlAt
    rw [z]
    exact ⟨e 0 (by decide), e 1 (by decide), e 2 (by decide), e 3 (by decide), e 4 (by decide)⟩
theorem OwnW.shape {w : World} {B : Nat} {v : Value} {es : List Fl} (h : OwnW w B v es) : ∃ ao cap, v = .slice ao es.length cap := by
  rcases h.2 with ⟨h1, h2⟩ | ⟨g, cap, cur, h1, _⟩
  · exact ⟨none, 0, by rw [h1, h2]⟩
  · exact ⟨_, _, h1⟩
theorem OwnW.below {w w' : World} {B : Nat} {v : Value} {es : List Fl} (h : OwnW w B v es) (k : Below w.heap.size w w') : OwnW w' B v es :=
  World.ownsRow.kept h (row := none) ⟨k.os, k.tape, k.output, k.size, fun j hj _ => k.block j hj⟩ (by cases hv : v.ownBlock <;> simp)
theorem OwnW.low {w : World} {B B' : Nat} {v : Value} {es : List Fl} (h : OwnW w B v es) (hb : B' ≤ B) : OwnW w B' v es :=
  ⟨h.1, h.2.imp id fun ⟨g, cap, cur, h1, h2, h3⟩ => ⟨g, cap, cur, h1, Nat.le_trans hb h2, h3⟩⟩
theorem OwnW.grown {w w' : World} {B : Nat} {v : Value} {es : List Fl} {a : World} (h : OwnW w B v es) (hg : w.grownBy w' v.ownBlock) (b : Below B a w) (hB : B ≤ w.heap.size) : Below B a w' :=
  b.grown hg hB (fun k hk => (World.ownsRow.lt h k hk).1)
theorem OwnW.block {w : World} {B : Nat} {v : Value} {L : List Fl} (h : OwnW w B v L) {g : Nat} (hg : v.ownBlock = some g) : B ≤ g ∧ g < w.heap.size ∧ ∃ cur, w.heap[g]? = some (.cells cur 89 (0, 0)) := by
  rcases h.2 with ⟨h1, h2⟩ | ⟨g', cap, cur, h1, h2, h3, _⟩
  · rw [h1] at hg
    cases hg
  · rw [h1] at hg
    cases hg
    exact ⟨h2, (Array.getElem?_eq_some_iff.1 h3).1, cur, h3⟩
theorem OwnW.apart {W : World} {B : Nat} {v : Value} {L : List Fl} {b : Nat} {c : Array Value} {t : TypeId} (h : OwnW W B v L) (hb : W.heap[b]? = some (.cells c t (0, 0))) (hne : t ≠ 89) : v.ownBlock ≠ some b := fun e => by
  obtain ⟨_, _, cur, h3⟩ := OwnW.block h e
  rw [hb] at h3
  cases h3
  exact hne rfl
/-- Another block may be written. -/
theorem OwnW.aside {W W' : World} {B : Nat} {v : Value} {L : List Fl} {b : Nat} (h : OwnW W B v L) (hg : W.grownBy W' (some b)) (hne : v.ownBlock ≠ some b) : OwnW W' B v L := by
  refine World.ownsRow.kept h hg ?_
  cases hq : v.ownBlock with
  | none => exact .inl rfl
  | some g => exact .inr fun e => hne (by rw [hq]; exact e)
theorem ownW_nil (w : World) (B : Nat) : OwnW w B (.slice none 0 0) [] := World.ownsRow_nil w B _ 5
theorem ownW_new (w : World) (B n : Nat) (hn : n = w.heap.size) (hB : B ≤ n) : OwnW (w.alloc (.cells #[] 89)) B (.slice (some ⟨n, 0, none⟩) 0 0) [] := by
  subst hn
  exact ⟨rfl, .inr ⟨w.heap.size, 0, #[], rfl, hB, heap_alloc_new w _, Nat.le_refl _, Nat.zero_le _, rfl, rfl⟩⟩
theorem info_gfile : ∃ i : TypeInfo, Try.prog.info? 89 = some i ∧ i.zero = some (.agg #[.int .i64 0, .int .i64 0, .int .i64 0, .string ⟨#[]⟩, .string ⟨#[]⟩]) ∧ i.size = 5 ∧ i.bytes = 56 := by
  have h : (Try.prog.info? 89).map (fun i => (i.zero, i.size, i.bytes)) = some (some (.agg #[.int .i64 0, .int .i64 0, .int .i64 0, .string ⟨#[]⟩, .string ⟨#[]⟩]), 5, 56) := by kernel_rfl
  cases hq : Try.prog.info? 89 with
  | none => rw [hq] at h; cases h
  | some i =>
    rw [hq] at h
    simp only [Option.map_some, Option.some.injEq, Prod.mk.injEq] at h
    exact ⟨i, rfl, h.1, h.2.1, h.2.2⟩
/-- One table is put behind a list of the call's own. -/
theorem wpList_putW {ops : Array Oper} {rest : List Oper} {o : Oper} {a : Act} {w : World} {Q : Exit → Act → World → Prop} (hgd : o.guard = none) (s x : Operand)
    (ho : o.op = .call { callee := .builtin .append, args := #[s, x], argTypes := #[31, 31] }) (B : Nat) (v : Value) (es : List Fl) (hs : a.eval s = v) (hown : OwnW w B v es)
    (t : Fl) (g c : Nat) (hx : a.eval x = .slice (some ⟨g, 0, none⟩) 1 c) (hcell : FlAt w g 0 t) (hB : B ≤ w.heap.size) (hl : es.length ≤ 1000000)
    (h : ∀ v' w', OwnW w' B v' (es ++ [t]) → w.grownBy w' v.ownBlock → (v'.ownBlock = v.ownBlock ∨ v'.ownBlock = some w.heap.size) → wpList Try.prog ops Q rest (a.put o.dst v') w') : wpList Try.prog ops Q (o :: rest) a w := by
  obtain ⟨i0, hi, hz0, hz1, hz2⟩ := info_gfile
  refine wpList_append_own_at (P := Try.prog) w hgd s x 31 ho B 89 i0 _ 5 56 Try.underlying31 hi hz0 hz1 hz2 rfl (by decide) v es.length (flCells es) hs hown ⟨g, 0, none⟩ 1 c (flC t) hx rfl ?_ (oneFl t) (by unfold maxLen; omega) (by omega) hB ?_
  · intro j u hu
    rw [add_litL, Nat.zero_add]
    obtain ⟨k0, k1, k2, k3, k4⟩ := hcell
    match j, hu with
    | 0, hu => rw [k0]; exact hu
    | 1, hu => rw [k1]; exact hu
    | 2, hu => rw [k2]; exact hu
    | 3, hu => rw [k3]; exact hu
    | 4, hu => rw [k4]; exact hu
  · intro v' w' h1 h2 _ h4
    refine h v' w' ?_ h2 h4
    unfold OwnW
    rw [flCells_append, flCells_one, List.length_append]
    exact h1
/-- Tables are put behind a list of the call's own. -/
theorem wpList_putsW {ops : Array Oper} {rest : List Oper} {o : Oper} {a : Act} {w : World} {Q : Exit → Act → World → Prop} (hgd : o.guard = none) (s x : Operand)
    (ho : o.op = .call { callee := .builtin .append, args := #[s, x], argTypes := #[31, 31] }) (B : Nat) (v : Value) (es : List Fl) (hs : a.eval s = v) (hown : OwnW w B v es)
    (u : Value) (ts : List Fl) (hx : a.eval x = u) (hu : FlsAt w u ts) (hB : B ≤ w.heap.size) (hl : es.length ≤ 1000000) (hl2 : ts.length ≤ 1000000)
    (h : ∀ v' w', OwnW w' B v' (es ++ ts) → w.grownBy w' v.ownBlock → (v'.ownBlock = v.ownBlock ∨ v'.ownBlock = some w.heap.size) → wpList Try.prog ops Q rest (a.put o.dst v') w') : wpList Try.prog ops Q (o :: rest) a w := by
  obtain ⟨i0, hi, hz0, hz1, hz2⟩ := info_gfile
  obtain ⟨A, cap, hu1, hu2, hu3, hu4⟩ := id hu
  have key : ∀ (ad : Addr), (∀ j u, (flCells ts)[j]? = some u → w.cell? (ad.add j) = some u) → u = .slice (some ad) ts.length cap → wpList Try.prog ops Q (o :: rest) a w := fun ad hc hv => by
    refine wpList_append_own_at (P := Try.prog) w hgd s x 31 ho B 89 i0 _ 5 56 Try.underlying31 hi hz0 hz1 hz2 rfl (by decide) v es.length (flCells es) hs hown ad ts.length cap (flCells ts) (hx.trans hv) (flCells_length ts) hc (oneFls ts) (by unfold maxLen; omega) (by omega) hB ?_
    intro v' w' h1 h2 _ h4
    refine h v' w' ?_ h2 h4
    unfold OwnW
    rw [flCells_append, List.length_append]
    exact h1
  by_cases h0 : ts = []
  · subst h0
    cases A with
    | some ad => exact key ad (fun j u hj => by simp [flCells] at hj) hu1
    | none =>
      have hrun := run_append_none_len (w := w) Try.underlying31 hi hown cap o.type
      refine wpList_plain hgd fun K hK => ?_
      unfold Oper.wp execOp
      simp only [ho, resolve, invoke, builtin, Sem.run_bind, Sem.run_pure, Result.andThen_ok, List.map_toArray, List.map_cons, List.map_nil, hs, hx.trans hu1, List.length_nil, hrun]
      exact hK _ _ (h v w (by rw [List.append_nil]; exact hown) ⟨rfl, rfl, rfl, Nat.le_refl _, fun _ _ _ => rfl⟩ (.inl rfl))
  · obtain ⟨y, hy⟩ : ∃ y, ts[0]? = some y := by
      cases ts with
      | nil => exact absurd rfl h0
      | cons y r => exact ⟨y, rfl⟩
    obtain ⟨g, o', rfl, _⟩ := hu4 0 y hy
    subst hu1
    exact key _ hu.cells rfl
end Go.Proofs.Ytfklhkephdnhaaa
