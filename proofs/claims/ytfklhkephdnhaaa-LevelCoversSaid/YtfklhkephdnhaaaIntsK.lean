/- Lists of numbers in memory, and sets of numbers as maps of the call's own. Conditions: none. -/
import Derived.Test.YtfklhkephdnhaaaRow
import Derived.Test.YtfklhkephdnhaaaAppNone
import Derived.Maps.AppendAt
import Derived.Maps.OwnSet
import Derived.Deep.AppendLies
namespace Go.Proofs.Ytfklhkephdnhaaa
open Go Go.RowKit Go.Maps

def in64 (k : Int) : Prop := -9223372036854775808 ≤ k ∧ k ≤ 9223372036854775807
/-- Numbers that lie in memory. -/
def NsAt (w : World) (v : Value) (ks : List Int) : Prop :=
  ∃ ao cap, v = .slice ao ks.length cap ∧ ks.length ≤ cap ∧ cap ≤ maxLen ∧ (∀ k ∈ ks, in64 k) ∧ ∀ i k, ks[i]? = some k → ∃ a : Addr, ao = some a ∧ w.cell? (a.add i) = some (.int .i64 k)
theorem NsAt.below {w w' : World} {v : Value} {ks : List Int} (h : NsAt w v ks) (k : Below w.heap.size w w') : NsAt w' v ks := by
  obtain ⟨ao, cap, h1, h0, hm, h2, h3⟩ := h
  refine ⟨ao, cap, h1, h0, hm, h2, fun i x hi => ?_⟩
  obtain ⟨a, h4, h5⟩ := h3 i x hi
  exact ⟨a, h4, (k.cell (p := a.add i) (cellLt h5)).trans h5⟩
theorem NsAt.nil (w : World) : NsAt w (.slice none 0 0) [] := ⟨none, 0, rfl, Nat.le_refl _, Nat.zero_le _, fun k h => absurd h (by simp), fun i x h => by simp at h⟩
theorem NsAt.take {w : World} {A : Option Addr} {n cap k : Nat} {es : List Int} (h : NsAt w (.slice A n cap) es) (hk : k ≤ es.length) : NsAt w (.slice A k cap) (es.take k) := by
  obtain ⟨A', cap', h1, h2, h3, h4, h5⟩ := h
  obtain ⟨rfl, rfl, rfl⟩ : A = A' ∧ n = es.length ∧ cap = cap' := by simpa using h1
  refine ⟨_, _, by rw [List.length_take, Nat.min_eq_left hk], by rw [List.length_take]; omega, by omega, fun x hx => h4 x (List.mem_of_mem_take hx), fun i x hi => ?_⟩
  rw [List.getElem?_take] at hi
  split at hi
  · exact h5 i x hi
  · cases hi
def OwnNs (w : World) (B : Nat) (v : Value) (ks : List Int) : Prop := w.ownsRow B 3 1 v ks.length (ks.map (Value.int .i64))
theorem OwnNs.lie {w : World} {B : Nat} {v : Value} {es : List Int} (h : OwnNs w B v es) (hr : ∀ k ∈ es, in64 k) : NsAt w v es := by
  rcases h.2 with ⟨rfl, h0⟩ | ⟨g, cap, cur, rfl, hb, hg, h1, h2, h3, h4⟩
  · exact ⟨none, 0, by rw [h0], by omega, Nat.zero_le _, hr, fun i f hi => by rw [List.eq_nil_of_length_eq_zero h0] at hi; simp at hi⟩
  · refine ⟨_, cap, rfl, h1, h2, hr, fun i f hi => ⟨⟨g, 0, none⟩, rfl, ?_⟩⟩
    have hl : i < es.length := (List.getElem?_eq_some_iff.1 hi).1
    rw [show (⟨g, 0, none⟩ : Addr).add i = ⟨g, i, none⟩ by simp [Addr.add]; exact fun e => e.symm, Lib.cell_of_heap hg i]
    have : cur[i]? = (cur.toList.take (es.length * 1))[i]? := by rw [List.getElem?_take, if_pos (by omega)]; simp
    rw [this, h4, List.getElem?_map, hi]
    rfl
theorem OwnNs.shape {w : World} {B : Nat} {v : Value} {es : List Int} (h : OwnNs w B v es) : ∃ ao cap, v = .slice ao es.length cap := by
  rcases h.2 with ⟨h1, h2⟩ | ⟨g, cap, cur, h1, _⟩
  · exact ⟨none, 0, by rw [h1, h2]⟩
  · exact ⟨_, _, h1⟩
theorem OwnNs.below {w w' : World} {B : Nat} {v : Value} {es : List Int} (h : OwnNs w B v es) (k : Below w.heap.size w w') : OwnNs w' B v es :=
  World.ownsRow.kept h (row := none) ⟨k.os, k.tape, k.output, k.size, fun j hj _ => k.block j hj⟩ (by cases hv : v.ownBlock <;> simp)
theorem OwnNs.low {w : World} {B B' : Nat} {v : Value} {es : List Int} (h : OwnNs w B v es) (hb : B' ≤ B) : OwnNs w B' v es :=
  ⟨h.1, h.2.imp id fun ⟨g, cap, cur, h1, h2, h3⟩ => ⟨g, cap, cur, h1, Nat.le_trans hb h2, h3⟩⟩
theorem OwnNs.grown {w w' : World} {B : Nat} {v : Value} {es : List Int} {a : World} (h : OwnNs w B v es) (hg : w.grownBy w' v.ownBlock) (b : Below B a w) (hB : B ≤ w.heap.size) : Below B a w' :=
  b.grown hg hB (fun k hk => (World.ownsRow.lt h k hk).1)
theorem OwnNs.block {w : World} {B : Nat} {v : Value} {L : List Int} (h : OwnNs w B v L) {g : Nat} (hg : v.ownBlock = some g) : B ≤ g ∧ g < w.heap.size ∧ ∃ cur, w.heap[g]? = some (.cells cur 3 (0, 0)) := by
  rcases h.2 with ⟨h1, h2⟩ | ⟨g', cap, cur, h1, h2, h3, _⟩
  · rw [h1] at hg
    cases hg
  · rw [h1] at hg
    cases hg
    exact ⟨h2, (Array.getElem?_eq_some_iff.1 h3).1, cur, h3⟩
theorem OwnNs.apart {W : World} {B : Nat} {v : Value} {L : List Int} {b : Nat} {c : Array Value} {t : TypeId} (h : OwnNs W B v L) (hb : W.heap[b]? = some (.cells c t (0, 0))) (hne : t ≠ 3) : v.ownBlock ≠ some b := fun e => by
  obtain ⟨_, _, cur, h3⟩ := OwnNs.block h e
  rw [hb] at h3
  cases h3
  exact hne rfl
/-- Another block may be written. -/
theorem OwnNs.aside {W W' : World} {B : Nat} {v : Value} {L : List Int} {b : Nat} (h : OwnNs W B v L) (hg : W.grownBy W' (some b)) (hne : v.ownBlock ≠ some b) : OwnNs W' B v L := by
  refine World.ownsRow.kept h hg ?_
  cases hq : v.ownBlock with
  | none => exact .inl rfl
  | some g => exact .inr fun e => hne (by rw [hq]; exact e)
theorem grown_setCell (w : World) (b j : Nat) (x : Value) : w.grownBy (w.setCell ⟨b, j, none⟩ x) (some b) :=
  ⟨rfl, rfl, rfl, by simp [World.setCell], fun k _ hk => Below.heap_setCell _ _ _ _ (fun e => hk (by simp [e]))⟩
theorem heap_put {w : World} {b j : Nat} {cs : Array Value} {T : TypeId} {fr : Nat × Nat} (h : w.heap[b]? = some (.cells cs T fr)) (x : Value) : (w.setCell ⟨b, j, none⟩ x).heap[b]? = some (.cells (cs.setIfInBounds j x) T fr) := by
  simp [World.setCell, Array.getElem?_modify, h]
/-- A structure of three cells is written, beside. -/
theorem grown_three (w : World) (b : Nat) (x y z : Value) : w.grownBy (((w.setCell ⟨b, 0, none⟩ x).setCell ⟨b, 1, none⟩ y).setCell ⟨b, 2, none⟩ z) (some b) :=
  ((grown_setCell w b 0 x).trans (grown_setCell _ b 1 y)).trans (grown_setCell _ b 2 z)
theorem heap_three {w : World} {b : Nat} {cs : Array Value} {T : TypeId} {fr : Nat × Nat} (h : w.heap[b]? = some (.cells cs T fr)) (hs : cs.size = 3) (x y z : Value) : (((w.setCell ⟨b, 0, none⟩ x).setCell ⟨b, 1, none⟩ y).setCell ⟨b, 2, none⟩ z).heap[b]? = some (.cells #[x, y, z] T fr) := by
  rw [heap_put (heap_put (heap_put h x) y) z]
  obtain ⟨l⟩ := cs
  match l, hs with
  | [_, _, _], _ => rfl
theorem ownNs_nil (w : World) (B : Nat) : OwnNs w B (.slice none 0 0) [] := World.ownsRow_nil w B _ 1
theorem ownNs_new (w : World) (B n : Nat) (hn : n = w.heap.size) (hB : B ≤ n) : OwnNs (w.alloc (.cells #[] 3)) B (.slice (some ⟨n, 0, none⟩) 0 0) [] := by
  subst hn
  exact ⟨rfl, .inr ⟨w.heap.size, 0, #[], rfl, hB, heap_alloc_new w _, Nat.le_refl _, Nat.zero_le _, rfl, rfl⟩⟩
theorem info_intK : ∃ i : TypeInfo, Try.prog.info? 3 = some i ∧ i.zero = some (.int .i64 0) ∧ i.size = 1 ∧ i.bytes = 8 := by
  have h : (Try.prog.info? 3).map (fun i => (i.zero, i.size, i.bytes)) = some (some (.int .i64 0), 1, 8) := by kernel_rfl
  cases hq : Try.prog.info? 3 with
  | none => rw [hq] at h; cases h
  | some i =>
    rw [hq] at h
    simp only [Option.map_some, Option.some.injEq, Prod.mk.injEq] at h
    exact ⟨i, rfl, h.1, h.2.1, h.2.2⟩
theorem oneNs (l : List Int) : ∀ u ∈ l.map (Value.int .i64), u.oneCell' = true := by
  intro u hu
  obtain ⟨x, _, rfl⟩ := List.mem_map.1 hu
  rfl
/-- A number is put behind a list of the call's own. -/
theorem wpList_putN {ops : Array Oper} {rest : List Oper} {o : Oper} {a : Act} {w : World} {Q : Exit → Act → World → Prop} (hgd : o.guard = none) (s x : Operand)
    (ho : o.op = .call { callee := .builtin .append, args := #[s, x], argTypes := #[25, 25] }) (B : Nat) (v : Value) (ts : List Int) (hs : a.eval s = v) (hown : OwnNs w B v ts)
    (t : Int) (ad : Addr) (c : Nat) (hx : a.eval x = .slice (some ad) 1 c) (hcell : w.cell? ad = some (.int .i64 t)) (hB : B ≤ w.heap.size) (hl : ts.length ≤ 1000000)
    (h : ∀ v' w', OwnNs w' B v' (ts ++ [t]) → w.grownBy w' v.ownBlock → (v'.ownBlock = v.ownBlock ∨ v'.ownBlock = some w.heap.size) → wpList Try.prog ops Q rest (a.put o.dst v') w') : wpList Try.prog ops Q (o :: rest) a w := by
  obtain ⟨i0, hi, hz0, hz1, hz2⟩ := info_intK
  refine wpList_append_own_at (P := Try.prog) w hgd s x 25 ho B 3 i0 (.int .i64 0) 1 8 Try.underlying25 hi hz0 hz1 hz2 rfl (by decide) v ts.length (ts.map (Value.int .i64)) hs hown ad 1 c [.int .i64 t] hx rfl ?_ (oneNs [t]) (by unfold maxLen; omega) (by omega) hB ?_
  · intro j u hu
    have hj : j = 0 := by
      have := (List.getElem?_eq_some_iff.1 hu).1
      simpa using this
    subst hj
    have hu2 : Value.int .i64 t = u := by simpa using hu
    rw [← hu2, show ad.add 0 = ad by simp [Addr.add]]
    exact hcell
  · intro v' w' h1 h2 _ h4
    refine h v' w' ?_ h2 h4
    show w'.ownsRow B 3 1 v' (ts ++ [t]).length ((ts ++ [t]).map (Value.int .i64))
    rw [List.length_append, List.map_append]
    exact h1
theorem nsAt_cells {w : World} {a : Addr} {n cap : Nat} {es : List Int} (h : NsAt w (.slice (some a) n cap) es) : ∀ j u, (es.map (Value.int .i64))[j]? = some u → w.cell? (a.add j) = some u := by
  intro j u hu
  obtain ⟨A', cap', h1, h2, h3, _, h4⟩ := h
  rw [List.getElem?_map] at hu
  cases hx : es[j]? with
  | none => rw [hx] at hu; cases hu
  | some x =>
    rw [hx] at hu
    obtain ⟨a', e, h5⟩ := h4 j x hx
    obtain ⟨e1, _, _⟩ : some a = A' ∧ n = es.length ∧ cap = cap' := by simpa using h1
    rw [e] at e1
    obtain rfl : a = a' := by simpa using e1
    rw [h5]
    exact hu
/-- Numbers are put behind a list of the call's own. -/
theorem wpList_putsN {ops : Array Oper} {rest : List Oper} {o : Oper} {a : Act} {w : World} {Q : Exit → Act → World → Prop} (hgd : o.guard = none) (s x : Operand)
    (ho : o.op = .call { callee := .builtin .append, args := #[s, x], argTypes := #[25, 25] }) (B : Nat) (v : Value) (es : List Int) (hs : a.eval s = v) (hown : OwnNs w B v es)
    (u : Value) (ts : List Int) (hx : a.eval x = u) (hu : NsAt w u ts) (hB : B ≤ w.heap.size) (hl : es.length ≤ 1000000) (hl2 : ts.length ≤ 1000000)
    (h : ∀ v' w', OwnNs w' B v' (es ++ ts) → w.grownBy w' v.ownBlock → (v'.ownBlock = v.ownBlock ∨ v'.ownBlock = some w.heap.size) → wpList Try.prog ops Q rest (a.put o.dst v') w') : wpList Try.prog ops Q (o :: rest) a w := by
  obtain ⟨i0, hi, hz0, hz1, hz2⟩ := info_intK
  obtain ⟨A, cap, hu1, hu2, hu3, _, hu4⟩ := id hu
  have key : ∀ (ad : Addr), (∀ j u, (ts.map (Value.int .i64))[j]? = some u → w.cell? (ad.add j) = some u) → u = .slice (some ad) ts.length cap → wpList Try.prog ops Q (o :: rest) a w := fun ad hc hv => by
    refine wpList_append_own_at (P := Try.prog) w hgd s x 25 ho B 3 i0 _ 1 8 Try.underlying25 hi hz0 hz1 hz2 rfl (by decide) v es.length (es.map (Value.int .i64)) hs hown ad ts.length cap (ts.map (Value.int .i64)) (hx.trans hv) (by simp) hc (oneNs ts) (by unfold maxLen; omega) (by omega) hB ?_
    intro v' w' h1 h2 _ h4
    refine h v' w' ?_ h2 h4
    unfold OwnNs
    rw [List.map_append, List.length_append]
    exact h1
  by_cases h0 : ts = []
  · subst h0
    cases A with
    | some ad => exact key ad (fun j u hj => by simp at hj) hu1
    | none =>
      have hrun := run_append_none_len (w := w) Try.underlying25 hi hown cap o.type
      refine wpList_plain hgd fun K hK => ?_
      unfold Oper.wp execOp
      simp only [ho, resolve, invoke, builtin, Sem.run_bind, Sem.run_pure, Result.andThen_ok, List.map_toArray, List.map_cons, List.map_nil, hs, hx.trans hu1, List.length_nil, hrun]
      exact hK _ _ (h v w (by rw [List.append_nil]; exact hown) ⟨rfl, rfl, rfl, Nat.le_refl _, fun _ _ _ => rfl⟩ (.inl rfl))
  · obtain ⟨y, hy⟩ : ∃ y, ts[0]? = some y := by
      cases ts with
      | nil => exact absurd rfl h0
      | cons y r => exact ⟨y, rfl⟩
    obtain ⟨a0, rfl, _⟩ := hu4 0 y hy
    subst hu1
    exact key _ (nsAt_cells hu) rfl

/-! Sets of numbers. -/
theorem lawN : Keyed Try.prog 3 := int_keyed Try.underlying3
theorem zeroU (w : World) : (zeroValue 77).run Try.prog w = .ok (.agg #[]) w := by kernel_rfl
theorem wf64 {x : Int} (h : in64 x) : (Lit.int .i64 x).wf = true := by
  unfold in64 at h
  simp [Lit.wf, IntKind.min, IntKind.max, IntKind.signed, IntKind.bits]
  omega
theorem keyN {x : Int} (h : in64 x) : keyOf Try.prog 3 (.int .i64 x) = some (.int .i64 x) := keyOf_int_mk Try.underlying3 (wf64 h)
/-- A map of the call's own that holds just these numbers. -/
def SetAt (w : World) (b : Nat) (S : List Int) : Prop :=
  ∃ n, ∃ D : DataW Unit, n ≤ S.length ∧ w.ownsMap Try.prog 3 unitElem b n D ∧ ∀ x, in64 x → Maps.has D (.int .i64 x) = decide (x ∈ S)
theorem SetAt.lt {w : World} {b : Nat} {S : List Int} (h : SetAt w b S) : b < w.heap.size := by
  obtain ⟨n, D, _, h2, _⟩ := h
  obtain ⟨es, clock, hb, _⟩ := h2
  exact (Array.getElem?_eq_some_iff.1 hb).1
theorem SetAt.kept {w w' : World} {b : Nat} {S : List Int} (h : SetAt w b S) (hb : w'.heap[b]? = w.heap[b]?) : SetAt w' b S := by
  obtain ⟨n, D, h1, ⟨es, clock, hb', hr⟩, h3⟩ := h
  exact ⟨n, D, h1, ⟨es, clock, hb.trans hb', hr⟩, h3⟩
theorem SetAt.below {w w' : World} {b : Nat} {S : List Int} (h : SetAt w b S) (k : Below w.heap.size w w') : SetAt w' b S := h.kept (k.block b h.lt)
theorem setAt_new (w : World) : SetAt (w.alloc (.map #[] 0)) w.heap.size [] :=
  ⟨0, .map [], Nat.le_refl _, World.ownsMap_made _ _ _ _, fun x _ => by simp [Maps.has]⟩
theorem SetAt.look {w : World} {b : Nat} {S : List Int} (h : SetAt w b S) {x : Int} (hx : in64 x) : (Instr.lookup 74 (.map (some b)) (.int .i64 x) true).run Try.prog w = .ok (.tuple #[.agg #[], .bool (decide (x ∈ S))]) w := by
  obtain ⟨n, D, h1, h2, h3⟩ := h
  obtain ⟨v, ps, hr, hv⟩ := h2.look_ok lawN Try.underlying74 (zeroU w) unitElem_mk (keyN hx)
  obtain ⟨rfl, _⟩ := unitElem_inv hv
  rw [hr, h3 x hx]
/-- A number comes into a set. -/
theorem wpList_putS {ops : Array Oper} {rest : List Oper} {o : Oper} {a : Act} {w : World} {Q : Exit → Act → World → Prop} (hgd : o.guard = none) (m x v : Operand) (ho : o.op = .mapUpdate 74 m x v) (b : Nat) (S : List Int) (hm : a.eval m = .map (some b)) (h : SetAt w b S)
    (t : Int) (ht : in64 t) (hx : a.eval x = .int .i64 t) (hv : a.eval v = .agg #[]) (hl : S.length ≤ 1000000) (hK : ∀ w', SetAt w' b (t :: S) → w.grownBy w' (some b) → wpList Try.prog ops Q rest (a.put o.dst undef) w') : wpList Try.prog ops Q (o :: rest) a w := by
  obtain ⟨n, D, h1, h2, h3⟩ := h
  have hD := h2.isMap
  refine wpList_mapUpdate_own _ hgd m x v 74 ho 3 77 lawN Try.underlying74 (unitElem (H := Unit)) b n D hm h2 (by unfold maxLen; omega) _ _ _ hx hv (keyN ht) _ [] unitElem_mk ?_
  intro w1 hown hgrow
  refine hK w1 ⟨n + 1, _, by rw [List.length_cons]; omega, hown, fun y hy => ?_⟩ hgrow
  by_cases e : y = t
  · subst e
    rw [has_put_same hD (by simp [WideAt.IsKeyLit])]
    simp
  · rw [has_put_other (fun q => e (by simpa using q)), h3 y hy]
    simp [e]
end Go.Proofs.Ytfklhkephdnhaaa
