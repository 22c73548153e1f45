/- Levels: tables, states and numbers that came in, opened. Conditions: none. -/
import Derived.Test.YtfklhkephdnhaaaLevel17
import Derived.ChangeMaps5
namespace Go.Proofs.Ytfklhkephdnhaaa
open Go Go.RowKit Go.Maps Go.ChangeShapes Go.WideShapes Go.Deep

section
variable {P : Program} {H : Type} {enc : TypeId × Value → H} {W : World} {sp : Nat → Bool} {held : Bool} {base : TypeId}
theorem in64_wf {n : Int} (h : (Lit.int .i64 n).wf = true) : in64 n := by
  simp [Lit.wf, IntKind.min, IntKind.max, IntKind.signed, IntKind.bits] at h
  exact ⟨by omega, by omega⟩
/-- One table, opened. -/
theorem fl_of {t ti ts : TypeId} {f0 f1 f2 f3 f4 : Field} (hs : P.underlying t = some (.struct #[f0, f1, f2, f3, f4])) (ct : P.cellsOf t = 5)
    (t0 : f0.type = ti) (t1 : f1.type = ti) (t2 : f2.type = ti) (t3 : f3.type = ts) (t4 : f4.type = ts) (o0 : f0.offset = 0) (o1 : f1.offset = 1) (o2 : f2.offset = 2) (o3 : f3.offset = 3) (o4 : f4.offset = 4)
    (hi : P.underlying ti = some (.int .i64)) (ci : P.cellsOf ti = 1) (hss : P.underlying ts = some .string) (cs1 : P.cellsOf ts = 1)
    {fuel : Nat} {cs : List Value} {x : DataW H × List MemPlace} (hf : DataW.trod enc P W 0 sp held fuel t cs = some x) :
    ∃ y : Fl, cs = flC y ∧ FlNums y := by
  obtain ⟨xs, n, _, _, hl, hn, hfs⟩ := DataW.trod_struct hs hf
  rw [ct] at hl
  match cs, hl with
  | [c0, c1, c2, c3, c4], _ =>
    have hx : xs.length = 5 := hn
    have g0 := hfs 0 f0 rfl
    have g1 := hfs 1 f1 rfl
    have g2 := hfs 2 f2 rfl
    have g3 := hfs 3 f3 rfl
    have g4 := hfs 4 f4 rfl
    rw [List.getElem?_eq_getElem (by omega)] at g0 g1 g2 g3 g4
    rw [t0, o0, ci] at g0
    rw [t1, o1, ci] at g1
    rw [t2, o2, ci] at g2
    rw [t3, o3, cs1] at g3
    rw [t4, o4, cs1] at g4
    obtain ⟨n0, e0, _, w0⟩ := DataW.trod_int hi g0
    obtain ⟨n1, e1, _, w1⟩ := DataW.trod_int hi g1
    obtain ⟨n2, e2, _, w2⟩ := DataW.trod_int hi g2
    obtain ⟨s3, e3, _, _⟩ := DataW.trod_string hss g3
    obtain ⟨s4, e4, _, _⟩ := DataW.trod_string hss g4
    simp only [List.drop_zero, List.drop_succ_cons, List.take_succ_cons, List.take_zero, List.cons.injEq, and_true] at e0 e1 e2 e3 e4
    subst e0 e1 e2 e3 e4
    exact ⟨⟨n0, n1, n2, s3.data.toList, s4.data.toList⟩, rfl, in64_wf w0, in64_wf w1, in64_wf w2⟩
theorem cells_five {a : Addr} {i : Nat} {cs : List Value} {x : Fl} (h : W.cells? 0 (a.add (i * 5)) 5 = some cs) (e : cs = flC x) :
    W.cell? (a.add (i * 5)) = some (.int .i64 x.num) ∧ W.cell? (a.add (i * 5 + 1)) = some (.int .i64 x.lev) ∧ W.cell? (a.add (i * 5 + 2)) = some (.int .i64 x.size) ∧ W.cell? (a.add (i * 5 + 3)) = some (.string (stx x.first)) ∧ W.cell? (a.add (i * 5 + 4)) = some (.string (stx x.last)) := by
  obtain ⟨_, _, hat⟩ := World.cells?_some h
  subst e
  have h0 := hat 0 (by decide)
  have h1 := hat 1 (by decide)
  have h2 := hat 2 (by decide)
  have h3 := hat 3 (by decide)
  have h4 := hat 4 (by decide)
  rw [add_twoE] at h0 h1 h2 h3 h4
  exact ⟨h0, h1, h2, h3, h4⟩
theorem fls_of {tt t ti ts : TypeId} {f0 f1 f2 f3 f4 : Field} (hu : P.underlying tt = some (.slice t)) (hs : P.underlying t = some (.struct #[f0, f1, f2, f3, f4])) (ct : P.cellsOf t = 5)
    (t0 : f0.type = ti) (t1 : f1.type = ti) (t2 : f2.type = ti) (t3 : f3.type = ts) (t4 : f4.type = ts) (o0 : f0.offset = 0) (o1 : f1.offset = 1) (o2 : f2.offset = 2) (o3 : f3.offset = 3) (o4 : f4.offset = 4)
    (hi : P.underlying ti = some (.int .i64)) (ci : P.cellsOf ti = 1) (hss : P.underlying ts = some .string) (cs1 : P.cellsOf ts = 1)
    {fuel : Nat} {cs : List Value} {x : DataW H × List MemPlace} (hf : DataW.trod enc P W 0 sp held fuel tt cs = some x) :
    ∃ (v : Value) (es : List Fl), cs = [v] ∧ InFls W v es ∧ ∀ y ∈ es, FlNums y := by
  rcases open_slice hu hf with ⟨h, _⟩ | ⟨a, len, cap, m, n, D, Pl, hcs, _, hl, hm, hmm, _, hx⟩
  · exact ⟨_, [], h, ⟨none, 0, rfl, Nat.le_refl _, Nat.zero_le _, fun i y hy => by simp at hy⟩, fun y hy => absurd hy (by simp)⟩
  · have hlm : len ≤ m := by rw [hmm]; split <;> omega
    rw [ct] at hx
    have key : ∀ i, ∃ y : Fl, i < len → (W.cell? (a.add (i * 5)) = some (.int .i64 y.num) ∧ W.cell? (a.add (i * 5 + 1)) = some (.int .i64 y.lev) ∧ W.cell? (a.add (i * 5 + 2)) = some (.int .i64 y.size) ∧ W.cell? (a.add (i * 5 + 3)) = some (.string (stx y.first)) ∧ W.cell? (a.add (i * 5 + 4)) = some (.string (stx y.last))) ∧ FlNums y := fun i => by
      by_cases hi2 : i < len
      · obtain ⟨cs', h1, h2⟩ := hx i (by omega)
        obtain ⟨y, e, h3⟩ := fl_of hs ct t0 t1 t2 t3 t4 o0 o1 o2 o3 o4 hi ci hss cs1 h2
        exact ⟨y, fun _ => ⟨cells_five h1 e, h3⟩⟩
      · exact ⟨default, fun h => absurd h hi2⟩
    obtain ⟨E, hE⟩ := Classical.axiomOfChoice key
    refine ⟨_, (List.range len).map E, hcs, ⟨some a, cap, by simp, by simpa using hl, hm, fun i y hy => ?_⟩, fun y hy => ?_⟩
    · rw [List.getElem?_map] at hy
      have hi2 : i < len := by
        rcases Nat.lt_or_ge i len with h | h
        · exact h
        · rw [List.getElem?_eq_none (by simpa using h)] at hy
          cases hy
      rw [List.getElem?_range hi2] at hy
      obtain rfl : E i = y := by simpa using hy
      exact ⟨a, rfl, (hE i hi2).1⟩
    · obtain ⟨i, hi2, rfl⟩ := List.mem_map.1 hy
      exact (hE i (List.mem_range.1 hi2)).2
theorem in_fls_of {tt t ti ts : TypeId} {f0 f1 f2 f3 f4 : Field} {v : Value} {d : DataW H} {p : List MemPlace} (hu : P.underlying tt = some (.slice t)) (hs : P.underlying t = some (.struct #[f0, f1, f2, f3, f4])) (ct : P.cellsOf t = 5)
    (t0 : f0.type = ti) (t1 : f1.type = ti) (t2 : f2.type = ti) (t3 : f3.type = ts) (t4 : f4.type = ts) (o0 : f0.offset = 0) (o1 : f1.offset = 1) (o2 : f2.offset = 2) (o3 : f3.offset = 3) (o4 : f4.offset = 4)
    (hi : P.underlying ti = some (.int .i64)) (ci : P.cellsOf ti = 1) (hss : P.underlying ts = some .string) (cs1 : P.cellsOf ts = 1)
    (hval : Value.okWide P W .any base tt v) (hd : DataW.Trod enc P W 0 sp held tt v d p) : ∃ es : List Fl, InFls W v es ∧ ∀ y ∈ es, FlNums y := by
  obtain ⟨ao, len, cap, rfl⟩ := okWide_slice hu hval
  obtain ⟨fuel, hf⟩ := hd
  obtain ⟨v', es, e, h⟩ := fls_of hu hs ct t0 t1 t2 t3 t4 o0 o1 o2 o3 o4 hi ci hss cs1 hf
  obtain rfl : Value.slice ao len cap = v' := by simpa [Value.cells] using e
  exact ⟨es, h⟩
/-- A state that came in. -/
theorem in_state_of {tS tt t ti ts : TypeId} {s0 s1 s2 f0 f1 f2 f3 f4 : Field} {v : Value} {d : DataW H} {p : List MemPlace} (hS : P.underlying tS = some (.struct #[s0, s1, s2])) (cS : P.cellsOf tS = 3)
    (q0 : s0.type = ti) (q1 : s1.type = ti) (q2 : s2.type = tt) (r0 : s0.offset = 0) (r1 : s1.offset = 1) (r2 : s2.offset = 2) (ctt : P.cellsOf tt = 1)
    (hu : P.underlying tt = some (.slice t)) (hs : P.underlying t = some (.struct #[f0, f1, f2, f3, f4])) (ct : P.cellsOf t = 5)
    (t0 : f0.type = ti) (t1 : f1.type = ti) (t2 : f2.type = ti) (t3 : f3.type = ts) (t4 : f4.type = ts) (o0 : f0.offset = 0) (o1 : f1.offset = 1) (o2 : f2.offset = 2) (o3 : f3.offset = 3) (o4 : f4.offset = 4)
    (hi : P.underlying ti = some (.int .i64)) (ci : P.cellsOf ti = 1) (hss : P.underlying ts = some .string) (cs1 : P.cellsOf ts = 1)
    (hval : Value.okWide P W .any base tS v) (hd : DataW.Trod enc P W 0 sp held tS v d p) : ∃ (next log : Int) (u : Value) (es : List Fl), v = stV next log u ∧ in64 next ∧ in64 log ∧ InFls W u es ∧ ∀ y ∈ es, FlNums y := by
  obtain ⟨cs, rfl⟩ := agg_of_struct hS hval
  obtain ⟨fuel, hf⟩ := hd
  obtain ⟨xs, n, _, _, hl, hn, hfs⟩ := DataW.trod_struct hS hf
  rw [cS] at hl
  obtain ⟨l⟩ := cs
  match l, hl with
  | [c0, c1, c2], _ =>
    have hx : xs.length = 3 := hn
    have g0 := hfs 0 s0 rfl
    have g1 := hfs 1 s1 rfl
    have g2 := hfs 2 s2 rfl
    rw [List.getElem?_eq_getElem (by omega)] at g0 g1 g2
    rw [q0, r0, ci] at g0
    rw [q1, r1, ci] at g1
    rw [q2, r2, ctt] at g2
    obtain ⟨n0, e0, _, w0⟩ := DataW.trod_int hi g0
    obtain ⟨n1, e1, _, w1⟩ := DataW.trod_int hi g1
    obtain ⟨u, es, e2, h2⟩ := fls_of hu hs ct t0 t1 t2 t3 t4 o0 o1 o2 o3 o4 hi ci hss cs1 g2
    simp only [Value.cells, List.drop_zero, List.drop_succ_cons, List.take_succ_cons, List.take_zero, List.cons.injEq, and_true] at e0 e1 e2
    subst e0 e1 e2
    exact ⟨n0, n1, _, es, rfl, in64_wf w0, in64_wf w1, h2.1, h2.2⟩
theorem in_two_of {t ti : TypeId} {f0 f1 : Field} {v : Value} {d : DataW H} {p : List MemPlace} (hs : P.underlying t = some (.struct #[f0, f1])) (ct : P.cellsOf t = 2) (t0 : f0.type = ti) (t1 : f1.type = ti) (o0 : f0.offset = 0) (o1 : f1.offset = 1)
    (hi : P.underlying ti = some (.int .i64)) (ci : P.cellsOf ti = 1) (hval : Value.okWide P W .any base t v) (hd : DataW.Trod enc P W 0 sp held t v d p) : ∃ (a b : Int), v = .agg #[.int .i64 a, .int .i64 b] ∧ in64 a ∧ in64 b := by
  obtain ⟨cs, rfl⟩ := agg_of_struct hs hval
  obtain ⟨fuel, hf⟩ := hd
  obtain ⟨xs, n, _, _, hl, hn, hfs⟩ := DataW.trod_struct hs hf
  rw [ct] at hl
  obtain ⟨l⟩ := cs
  match l, hl with
  | [c0, c1], _ =>
    have hx : xs.length = 2 := hn
    have g0 := hfs 0 f0 rfl
    have g1 := hfs 1 f1 rfl
    rw [List.getElem?_eq_getElem (by omega)] at g0 g1
    rw [t0, o0, ci] at g0
    rw [t1, o1, ci] at g1
    obtain ⟨n0, e0, _, w0⟩ := DataW.trod_int hi g0
    obtain ⟨n1, e1, _, w1⟩ := DataW.trod_int hi g1
    simp only [Value.cells, List.drop_zero, List.drop_succ_cons, List.take_succ_cons, List.take_zero, List.cons.injEq, and_true] at e0 e1
    subst e0 e1
    exact ⟨n0, n1, rfl, in64_wf w0, in64_wf w1⟩
theorem in_ns_of {t e : TypeId} {v : Value} {d : DataW H} {p : List MemPlace} (ht : P.underlying t = some (.slice e)) (he : P.underlying e = some (.int .i64)) (ce : P.cellsOf e = 1) (hval : Value.okWide P W .any base t v) (hd : DataW.Trod enc P W 0 sp held t v d p) :
    ∃ ks : List Int, NsAt W v ks := by
  obtain ⟨ao, len, cap, rfl⟩ := okWide_slice ht hval
  obtain ⟨fuel, hf⟩ := hd
  rcases open_ints ht he ce hf with ⟨h, _⟩ | ⟨a, len', cap', zs, hcs, _, hl, hm, hz, _, hx, hw⟩
  · have hc : ao = none ∧ len = 0 ∧ cap = 0 := by simpa [Value.cells] using h
    obtain ⟨rfl, rfl, rfl⟩ := hc
    exact ⟨[], NsAt.nil W⟩
  · have hc : (ao = some a ∧ len = len' ∧ cap = cap') := by simpa [Value.cells] using hcs
    obtain ⟨rfl, rfl, rfl⟩ := hc
    have hlz : len ≤ zs.length := by rw [hz]; split <;> omega
    have hlt : (zs.take len).length = len := by rw [List.length_take]; omega
    refine ⟨zs.take len, some a, cap, by rw [hlt], by rw [hlt]; exact hl, hm, fun k hk => in64_wf (hw k (List.mem_of_mem_take hk)), fun i k hi => ⟨a, rfl, ?_⟩⟩
    have hil : i < len := by
      have := (List.getElem?_eq_some_iff.1 hi).1
      omega
    rw [hx i (by omega)]
    congr 2
    rw [List.getElem?_take, if_pos hil] at hi
    rw [List.getD_eq_getElem?_getD, hi]
    rfl
end
end Go.Proofs.Ytfklhkephdnhaaa
