/- Entries that came in, and lists of them, opened. Conditions: none. -/
import Derived.Test.YtpfkomglghmnfaaEnts5
import Derived.Deep.Slices
namespace Go.Proofs.Ytpfkomglghmnfaa
open Go Go.RowKit Go.ChangeShapes Go.WideShapes Go.Deep

/-- Lists of entries that came in. -/
def InEntss (w : World) (v : Value) (ls : List (List Ent)) : Prop :=
  ∃ ao cap, v = .slice ao ls.length cap ∧ ls.length ≤ cap ∧ cap ≤ maxLen ∧ ∀ i l, ls[i]? = some l → ∃ (a : Addr) (u : Value), ao = some a ∧ w.cell? (a.add i) = some u ∧ InEnts w u l
theorem InEntss.below {w w' : World} {v : Value} {ls : List (List Ent)} (h : InEntss w v ls) (k : Below w.heap.size w w') : InEntss w' v ls := by
  obtain ⟨ao, cap, h1, h2, h3, h4⟩ := h
  refine ⟨ao, cap, h1, h2, h3, fun i x hi => ?_⟩
  obtain ⟨a, u, h5, h6, h7⟩ := h4 i x hi
  exact ⟨a, u, h5, (k.cell (p := a.add i) (cellLt h6)).trans h6, h7.below k⟩
section
variable {P : Program} {H : Type} {enc : TypeId × Value → H} {W : World} {sp : Nat → Bool} {held : Bool} {base : TypeId}
/-- One entry, opened. -/
theorem ent_of {t ts tb : TypeId} {f0 f1 f2 : Field} (hs : P.underlying t = some (.struct #[f0, f1, f2])) (ct : P.cellsOf t = 3)
    (t0 : f0.type = ts) (t1 : f1.type = ts) (t2 : f2.type = tb) (o0 : f0.offset = 0) (o1 : f1.offset = 1) (o2 : f2.offset = 2)
    (hss : P.underlying ts = some .string) (cs1 : P.cellsOf ts = 1) (hb : P.underlying tb = some .bool) (cb : P.cellsOf tb = 1)
    {fuel : Nat} {cs : List Value} {x : DataW H × List MemPlace} (hf : DataW.trod enc P W 0 sp held fuel t cs = some x) :
    ∃ y : Ent, cs = entC y ∧ y.key.length ≤ maxLen ∧ y.val.length ≤ maxLen := by
  obtain ⟨xs, n, _, _, hl, hn, hfs⟩ := DataW.trod_struct hs hf
  rw [ct] at hl
  match cs, hl with
  | [c0, c1, c2], _ =>
    have hx : xs.length = 3 := hn
    have g0 := hfs 0 f0 rfl
    have g1 := hfs 1 f1 rfl
    have g2 := hfs 2 f2 rfl
    rw [List.getElem?_eq_getElem (by omega)] at g0 g1 g2
    rw [t0, o0, cs1] at g0
    rw [t1, o1, cs1] at g1
    rw [t2, o2, cb] at g2
    obtain ⟨s0, e0, _, w0⟩ := DataW.trod_string hss g0
    obtain ⟨s1, e1, _, w1⟩ := DataW.trod_string hss g1
    obtain ⟨b, e2, _⟩ := DataW.trod_bool hb g2
    simp only [List.drop_zero, List.drop_succ_cons, List.take_succ_cons, List.take_zero, List.cons.injEq, and_true] at e0 e1 e2
    subst e0 e1 e2
    exact ⟨⟨s0.data.toList, s1.data.toList, b⟩, rfl, w0, w1⟩
theorem cells_three {a : Addr} {i : Nat} {cs : List Value} {x : Ent} (h : W.cells? 0 (a.add (i * 3)) 3 = some cs) (e : cs = entC x) :
    W.cell? (a.add (i * 3)) = some (.string (stx x.key)) ∧ W.cell? (a.add (i * 3 + 1)) = some (.string (stx x.val)) ∧ W.cell? (a.add (i * 3 + 2)) = some (.bool x.gone) := by
  obtain ⟨_, _, hat⟩ := World.cells?_some h
  subst e
  have h0 := hat 0 (by decide)
  have h1 := hat 1 (by decide)
  have h2 := hat 2 (by decide)
  rw [add_twoE] at h0 h1 h2
  exact ⟨h0, h1, h2⟩
theorem ents_of {tt t ts tb : TypeId} {f0 f1 f2 : Field} (hu : P.underlying tt = some (.slice t)) (hs : P.underlying t = some (.struct #[f0, f1, f2])) (ct : P.cellsOf t = 3)
    (t0 : f0.type = ts) (t1 : f1.type = ts) (t2 : f2.type = tb) (o0 : f0.offset = 0) (o1 : f1.offset = 1) (o2 : f2.offset = 2)
    (hss : P.underlying ts = some .string) (cs1 : P.cellsOf ts = 1) (hb : P.underlying tb = some .bool) (cb : P.cellsOf tb = 1)
    {fuel : Nat} {cs : List Value} {x : DataW H × List MemPlace} (hf : DataW.trod enc P W 0 sp held fuel tt cs = some x) :
    ∃ (v : Value) (es : List Ent), cs = [v] ∧ InEnts W v es ∧ ∀ y ∈ es, y.key.length ≤ maxLen ∧ y.val.length ≤ maxLen := by
  rcases open_slice hu hf with ⟨h, _⟩ | ⟨a, len, cap, m, n, D, Pl, hcs, _, hl, hm, hmm, _, hx⟩
  · exact ⟨_, [], h, ⟨none, 0, rfl, Nat.le_refl _, Nat.zero_le _, fun i y hy => by simp at hy⟩, fun y hy => by cases hy⟩
  · have hlm : len ≤ m := by rw [hmm]; split <;> omega
    rw [ct] at hx
    have key : ∀ i, ∃ y : Ent, i < len → (W.cell? (a.add (i * 3)) = some (.string (stx y.key)) ∧ W.cell? (a.add (i * 3 + 1)) = some (.string (stx y.val)) ∧ W.cell? (a.add (i * 3 + 2)) = some (.bool y.gone)) ∧ y.key.length ≤ maxLen ∧ y.val.length ≤ maxLen := fun i => by
      by_cases hi : i < len
      · obtain ⟨cs', h1, h2⟩ := hx i (by omega)
        obtain ⟨y, e, h3⟩ := ent_of hs ct t0 t1 t2 o0 o1 o2 hss cs1 hb cb h2
        exact ⟨y, fun _ => ⟨cells_three h1 e, h3⟩⟩
      · exact ⟨⟨[], [], false⟩, fun h => absurd h hi⟩
    obtain ⟨E, hE⟩ := Classical.axiomOfChoice key
    refine ⟨_, (List.range len).map E, hcs, ⟨some a, cap, by simp, by simpa using hl, hm, fun i y hy => ?_⟩, fun y hy => ?_⟩
    · rw [List.getElem?_map] at hy
      have hi : i < len := by
        rcases Nat.lt_or_ge i len with h | h
        · exact h
        · rw [List.getElem?_eq_none (by simpa using h)] at hy
          cases hy
      rw [List.getElem?_range hi] at hy
      obtain rfl : E i = y := by simpa using hy
      exact ⟨a, rfl, (hE i hi).1⟩
    · obtain ⟨i, hi, rfl⟩ := List.mem_map.1 hy
      exact (hE i (List.mem_range.1 hi)).2
theorem in_ents_of {tt t ts tb : TypeId} {f0 f1 f2 : Field} {v : Value} {d : DataW H} {p : List MemPlace} (hu : P.underlying tt = some (.slice t)) (hs : P.underlying t = some (.struct #[f0, f1, f2])) (ct : P.cellsOf t = 3)
    (t0 : f0.type = ts) (t1 : f1.type = ts) (t2 : f2.type = tb) (o0 : f0.offset = 0) (o1 : f1.offset = 1) (o2 : f2.offset = 2)
    (hss : P.underlying ts = some .string) (cs1 : P.cellsOf ts = 1) (hb : P.underlying tb = some .bool) (cb : P.cellsOf tb = 1)
    (hval : Value.okWide P W .any base tt v) (hd : DataW.Trod enc P W 0 sp held tt v d p) : ∃ es : List Ent, InEnts W v es ∧ ∀ y ∈ es, y.key.length ≤ maxLen ∧ y.val.length ≤ maxLen := by
  obtain ⟨ao, len, cap, rfl⟩ := okWide_slice hu hval
  obtain ⟨fuel, hf⟩ := hd
  obtain ⟨v', es, e, h⟩ := ents_of hu hs ct t0 t1 t2 o0 o1 o2 hss cs1 hb cb hf
  obtain rfl : Value.slice ao len cap = v' := by simpa [Value.cells] using e
  exact ⟨es, h⟩
theorem in_entss_of {tl tt t ts tb : TypeId} {f0 f1 f2 : Field} {v : Value} {d : DataW H} {p : List MemPlace} (hl0 : P.underlying tl = some (.slice tt)) (ctt : P.cellsOf tt = 1) (hu : P.underlying tt = some (.slice t)) (hs : P.underlying t = some (.struct #[f0, f1, f2])) (ct : P.cellsOf t = 3)
    (t0 : f0.type = ts) (t1 : f1.type = ts) (t2 : f2.type = tb) (o0 : f0.offset = 0) (o1 : f1.offset = 1) (o2 : f2.offset = 2)
    (hss : P.underlying ts = some .string) (cs1 : P.cellsOf ts = 1) (hb : P.underlying tb = some .bool) (cb : P.cellsOf tb = 1)
    (hval : Value.okWide P W .any base tl v) (hd : DataW.Trod enc P W 0 sp held tl v d p) : ∃ ls : List (List Ent), InEntss W v ls := by
  obtain ⟨ao, len, cap, rfl⟩ := okWide_slice hl0 hval
  obtain ⟨fuel, hf⟩ := hd
  rcases open_slice hl0 hf with ⟨h, _⟩ | ⟨a, len', cap', m, n, D, Pl, hcs, _, hl, hm, hmm, _, hx⟩
  · have hc : ao = none ∧ len = 0 ∧ cap = 0 := by simpa [Value.cells] using h
    obtain ⟨rfl, rfl, rfl⟩ := hc
    exact ⟨[], none, 0, rfl, Nat.le_refl _, Nat.zero_le _, fun i y hy => by simp at hy⟩
  · have hc : (ao = some a ∧ len = len' ∧ cap = cap') := by simpa [Value.cells] using hcs
    obtain ⟨rfl, rfl, rfl⟩ := hc
    have hlm : len ≤ m := by rw [hmm]; split <;> omega
    rw [ctt] at hx
    have key : ∀ i, ∃ l : List Ent, i < len → ∃ u, W.cell? (a.add i) = some u ∧ InEnts W u l := fun i => by
      by_cases hi : i < len
      · obtain ⟨cs', h1, h2⟩ := hx i (by omega)
        obtain ⟨u, l, e, h3, _⟩ := ents_of hu hs ct t0 t1 t2 o0 o1 o2 hss cs1 hb cb h2
        subst e
        obtain ⟨_, _, hat⟩ := World.cells?_some h1
        have h4 := hat 0 (by decide)
        rw [add_twoE, Nat.mul_one, Nat.add_zero] at h4
        exact ⟨l, fun _ => ⟨u, h4, h3⟩⟩
      · exact ⟨[], fun h => absurd h hi⟩
    obtain ⟨E, hE⟩ := Classical.axiomOfChoice key
    refine ⟨(List.range len).map E, some a, cap, by simp, by simpa using hl, hm, fun i l hy => ?_⟩
    rw [List.getElem?_map] at hy
    have hi : i < len := by
      rcases Nat.lt_or_ge i len with h | h
      · exact h
      · rw [List.getElem?_eq_none (by simpa using h)] at hy
        cases hy
    rw [List.getElem?_range hi] at hy
    obtain rfl : E i = l := by simpa using hy
    obtain ⟨u, h1, h2⟩ := hE i hi
    exact ⟨a, u, rfl, h1, h2⟩
end
end Go.Proofs.Ytpfkomglghmnfaa
