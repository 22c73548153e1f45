/- Entries that came in, with how long their texts are by the form's own reach. Conditions: none. -/
import Derived.Test.YtpfkomglghmnfaaEntsIn
import Derived.SizedLaws
namespace Go.Proofs.Ytpfkomglghmnfaa
open Go Go.RowKit Go.ChangeShapes Go.WideShapes Go.Deep
section
variable {P : Program} {H : Type} {enc : TypeId × Value → H} {W : World} {sp : Nat → Bool} {held : Bool} {base : TypeId}
theorem mem_weightsAll {e : TypeId} {d : DataW H} {n : Nat} (hn : n ∈ d.weights P e) : ∀ {l : List (DataW H)}, d ∈ l → n ∈ DataW.weightsAll P e l
  | [], h => by cases h
  | x :: r, h => by
    simp only [DataW.weightsAll, List.mem_append]
    rcases List.mem_cons.1 h with rfl | h
    · exact .inl hn
    · exact .inr (mem_weightsAll hn h)
theorem ent_of_w {t ts tb : TypeId} {f0 f1 f2 : Field} (hs : P.underlying t = some (.struct #[f0, f1, f2])) (ct : P.cellsOf t = 3)
    (t0 : f0.type = ts) (t1 : f1.type = ts) (t2 : f2.type = tb) (o0 : f0.offset = 0) (o1 : f1.offset = 1) (o2 : f2.offset = 2)
    (hss : P.underlying ts = some .string) (cs1 : P.cellsOf ts = 1) (hb : P.underlying tb = some .bool) (cb : P.cellsOf tb = 1)
    {fuel : Nat} {cs : List Value} {x : DataW H × List MemPlace} (hf : DataW.trod enc P W 0 sp held fuel t cs = some x) :
    ∃ y : Ent, cs = entC y ∧ y.key.length ∈ x.1.weights P t ∧ y.val.length ∈ x.1.weights P t := by
  obtain ⟨xs, n, _, hxe, hl, hn, hfs⟩ := DataW.trod_struct hs hf
  rw [ct] at hl
  match cs, hl with
  | [c0, c1, c2], _ =>
    have hx : xs.length = 3 := hn
    have g0 := hfs 0 f0 rfl
    have g1 := hfs 1 f1 rfl
    have g2 := hfs 2 f2 rfl
    rw [List.getElem?_eq_getElem (by omega)] at g0 g1 g2
    rw [t0, o0, cs1] at g0
    rw [t1, o1, cs1] at g1
    rw [t2, o2, cb] at g2
    obtain ⟨s0, e0, d0, _⟩ := DataW.trod_string hss g0
    obtain ⟨s1, e1, d1, _⟩ := DataW.trod_string hss g1
    obtain ⟨b, e2, _⟩ := DataW.trod_bool hb g2
    simp only [List.drop_zero, List.drop_succ_cons, List.take_succ_cons, List.take_zero, List.cons.injEq, and_true] at e0 e1 e2
    subst e0 e1 e2
    have hw : x.1.weights P t = DataW.weightsEach P [ts, ts, tb] (xs.map (·.1)) := by
      rw [hxe]
      simp only [DataW.weights, hs]
      show DataW.weightsEach P [f0.type, f1.type, f2.type] _ = _
      rw [t0, t1, t2]
    refine ⟨⟨s0.data.toList, s1.data.toList, b⟩, rfl, ?_, ?_⟩
    · rw [hw]
      refine DataW.weights_mem_each (j := 0) (t := ts) (d := .lit (.string s0.data.toList)) rfl ?_ _ (by simp [DataW.weights])
      rw [List.getElem?_map, List.getElem?_eq_getElem (by omega), d0]
      rfl
    · rw [hw]
      refine DataW.weights_mem_each (j := 1) (t := ts) (d := .lit (.string s1.data.toList)) rfl ?_ _ (by simp [DataW.weights])
      rw [List.getElem?_map, List.getElem?_eq_getElem (by omega), d1]
      rfl
theorem in_ents_w {tt t ts tb : TypeId} {f0 f1 f2 : Field} {v : Value} {d : DataW H} {p : List MemPlace} (hu : P.underlying tt = some (.slice t)) (hs : P.underlying t = some (.struct #[f0, f1, f2])) (ct : P.cellsOf t = 3)
    (t0 : f0.type = ts) (t1 : f1.type = ts) (t2 : f2.type = tb) (o0 : f0.offset = 0) (o1 : f1.offset = 1) (o2 : f2.offset = 2)
    (hss : P.underlying ts = some .string) (cs1 : P.cellsOf ts = 1) (hb : P.underlying tb = some .bool) (cb : P.cellsOf tb = 1)
    (hval : Value.okWide P W .any base tt v) (hd : DataW.Trod enc P W 0 sp held tt v d p) : ∃ es : List Ent, InEnts W v es ∧ ∀ y ∈ es, y.key.length ∈ d.weights P tt ∧ y.val.length ∈ d.weights P tt := by
  obtain ⟨ao, len0, cap0, rfl⟩ := okWide_slice hu hval
  obtain ⟨fuel, hf⟩ := hd
  rcases open_slice hu hf with ⟨h, _⟩ | ⟨a, len, cap, m, n, D, Pl, hcs, _, hl, hm, hmm, hxe, hx⟩
  · have e : Value.slice ao len0 cap0 = .slice none 0 0 := by simpa [Value.cells] using h
    rw [e]
    exact ⟨[], ⟨none, 0, rfl, Nat.le_refl _, Nat.zero_le _, fun i y hy => by simp at hy⟩, fun y hy => by cases hy⟩
  · have e : Value.slice ao len0 cap0 = .slice (some a) len cap := by simpa [Value.cells] using hcs
    rw [e]
    have hlm : len ≤ m := by rw [hmm]; split <;> omega
    rw [ct] at hx
    have key : ∀ i, ∃ y : Ent, i < len → (W.cell? (a.add (i * 3)) = some (.string (stx y.key)) ∧ W.cell? (a.add (i * 3 + 1)) = some (.string (stx y.val)) ∧ W.cell? (a.add (i * 3 + 2)) = some (.bool y.gone)) ∧ y.key.length ∈ (D i).weights P t ∧ y.val.length ∈ (D i).weights P t := fun i => by
      by_cases hi : i < len
      · obtain ⟨cs', h1, h2⟩ := hx i (by omega)
        obtain ⟨y, e, h3⟩ := ent_of_w hs ct t0 t1 t2 o0 o1 o2 hss cs1 hb cb h2
        exact ⟨y, fun _ => ⟨cells_three h1 e, h3⟩⟩
      · exact ⟨⟨[], [], false⟩, fun h => absurd h hi⟩
    obtain ⟨E, hE⟩ := Classical.axiomOfChoice key
    refine ⟨(List.range len).map E, ⟨some a, cap, by simp, by simpa using hl, hm, fun i y hy => ?_⟩, fun y hy => ?_⟩
    · rw [List.getElem?_map] at hy
      have hi : i < len := by
        rcases Nat.lt_or_ge i len with h | h
        · exact h
        · rw [List.getElem?_eq_none (by simpa using h)] at hy
          cases hy
      rw [List.getElem?_range hi] at hy
      obtain rfl : E i = y := by simpa using hy
      exact ⟨a, rfl, (hE i hi).1⟩
    · obtain ⟨i, hi, rfl⟩ := List.mem_map.1 hy
      have hil := List.mem_range.1 hi
      have hw : ∀ q, q ∈ (D i).weights P t → q ∈ d.weights P tt := fun q hq => by
        have hde : d = .slice ((List.range len).map D) ((List.range (m - len)).map fun j => D (len + j)) := congrArg Prod.fst hxe
        rw [hde]
        simp only [DataW.weights, hu, List.mem_cons, List.mem_append]
        exact .inr (.inl (mem_weightsAll hq (List.mem_map.2 ⟨i, hi, rfl⟩)))
      exact ⟨hw _ (hE i hil).2.1, hw _ (hE i hil).2.2⟩
end
end Go.Proofs.Ytpfkomglghmnfaa
