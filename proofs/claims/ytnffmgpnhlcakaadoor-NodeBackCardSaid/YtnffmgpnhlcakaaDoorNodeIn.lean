/- Leaves and items that came in as arguments. Conditions: none. -/
import Derived.Test.YtnffmgpnhlcakaaDoorRow
import Derived.Test.YtnffmgpnhlcakaaDoorNode1
import Derived.ChangeMaps5
import Derived.Deep.Slices
namespace Go.Proofs.YtnffmgpnhlcakaaDoor
open Go Go.RowKit Go.ChangeShapes Go.WideShapes Go.Deep

section
variable {P : Program} {H : Type} {enc : TypeId × Value → H} {W : World} {sp : Nat → Bool} {held : Bool} {base : Nat} {t tp tl ti : TypeId}
theorem take_drop3 {α : Type} (cs : List α) (n m k : Nat) (h : cs.length = n + m + k) : cs = cs.take n ++ ((cs.drop n).take m ++ (cs.drop (n + m)).take k) := by
  rw [show (cs.drop (n + m)).take k = cs.drop (n + m) from List.take_of_length_le (by rw [List.length_drop]; omega), ← List.drop_drop, List.take_append_drop, List.take_append_drop]
theorem pre_of_cells {fuel : Nat} {cs : List Value} {x : DataW H × List MemPlace} {f0 f1 : Field} (hs : P.underlying t = some (.struct #[f0, f1])) (hi : P.underlying f0.type = some (.int .i64)) (ci : P.cellsOf f0.type = 1) (o0 : f0.offset = 0) (o1 : f1.offset = 1)
    (hl : ∀ (fuel : Nat) (cs : List Value) (x : DataW H × List MemPlace), DataW.trod enc P W 0 sp held fuel f1.type cs = some x → ∃ a : Lab, cs = lcells a) (ct : P.cellsOf f1.type = 32) (cp : P.cellsOf t = 33)
    (hf : DataW.trod enc P W 0 sp held fuel t cs = some x) : ∃ (n : Int) (a : Lab), cs = Value.int .i64 n :: lcells a ∧ (Lit.int .i64 n).wf = true := by
  obtain ⟨y0, y1, m, _, hlen, h0, h1⟩ := trod_struct2 hs hf
  rw [cp] at hlen
  rw [ci, o0] at h0
  rw [ct, o1] at h1
  obtain ⟨n, e1, _, e3⟩ := DataW.trod_int hi h0
  obtain ⟨a, ha⟩ := hl _ _ _ h1
  refine ⟨n, a, ?_, e3⟩
  rw [← ha]
  match cs, hlen with
  | c :: r, hr =>
    simp only [List.drop_zero, List.take_succ_cons, List.take_zero, List.cons.injEq, and_true] at e1
    rw [e1, List.drop_succ_cons, List.drop_zero, List.take_of_length_le (by simp at hr; omega)]
/-- An item that came in. -/
theorem open_item {v : Value} {d : DataW H} {p : List MemPlace} {f0 f1 f2 : Field} (hs : P.underlying t = some (.struct #[f0, f1, f2])) (o0 : f0.offset = 0) (o1 : f1.offset = 33) (o2 : f2.offset = 65)
    (c0 : P.cellsOf f0.type = 33) (c1 : P.cellsOf f1.type = 32) (c2 : P.cellsOf f2.type = 1) (ct : P.cellsOf t = 66)
    (hp : ∀ (fuel : Nat) (cs : List Value) (x : DataW H × List MemPlace), DataW.trod enc P W 0 sp held fuel f0.type cs = some x → ∃ (n : Int) (a : Lab), cs = Value.int .i64 n :: lcells a ∧ (Lit.int .i64 n).wf = true)
    (hl : ∀ (fuel : Nat) (cs : List Value) (x : DataW H × List MemPlace), DataW.trod enc P W 0 sp held fuel f1.type cs = some x → ∃ a : Lab, cs = lcells a)
    (hi : P.underlying f2.type = some (.int .i64))
    (hval : Value.okWide P W .any base t v) (hd : DataW.Trod enc P W 0 sp held t v d p) : ∃ x : Itm, v = .agg (cellsI x) ∧ (Lit.int .i64 x.n).wf = true ∧ (Lit.int .i64 x.e).wf = true := by
  obtain ⟨cs, rfl⟩ := agg_of_struct hs hval
  obtain ⟨fuel, hf⟩ := hd
  obtain ⟨xs, m, _, _, hlen, hxl, hg⟩ := DataW.trod_struct hs hf
  rw [ct] at hlen
  have g0 := hg 0 f0 rfl
  have g1 := hg 1 f1 rfl
  have g2 := hg 2 f2 rfl
  rw [o0, c0] at g0
  rw [o1, c1] at g1
  rw [o2, c2] at g2
  have hx : xs.length = 3 := hxl
  rw [List.getElem?_eq_getElem (by omega)] at g0 g1 g2
  obtain ⟨n, b, e0, w0⟩ := hp _ _ _ g0
  obtain ⟨s, e1⟩ := hl _ _ _ g1
  obtain ⟨k, e2, _, w2⟩ := DataW.trod_int hi g2
  refine ⟨⟨n, b, s, k⟩, ?_, w0, w2⟩
  have hcl : cs.toList.length = 33 + 32 + 1 := hlen
  have h := take_drop3 cs.toList 33 32 1 hcl
  have e0 : List.take 33 cs.toList = Value.int .i64 n :: lcells b := e0
  rw [e0, show List.take 32 (List.drop 33 cs.toList) = lcells s from e1, show List.take 1 (List.drop (33 + 32) cs.toList) = [Value.int .i64 k] from e2] at h
  rw [cellsI, icells, show cs = cs.toList.toArray from by simp, h]
  simp
/-- A leaf that came in. -/
theorem open_leaf {v : Value} {d : DataW H} {p : List MemPlace} {f0 f1 f2 : Field} (hs : P.underlying t = some (.struct #[f0, f1, f2])) (o0 : f0.offset = 0) (o1 : f1.offset = 32) (o2 : f2.offset = 64)
    (c0 : P.cellsOf f0.type = 32) (c1 : P.cellsOf f1.type = 32) (c2 : P.cellsOf f2.type = 1) (ct : P.cellsOf t = 65)
    (hl0 : ∀ (fuel : Nat) (cs : List Value) (x : DataW H × List MemPlace), DataW.trod enc P W 0 sp held fuel f0.type cs = some x → ∃ a : Lab, cs = lcells a)
    (hl : ∀ (fuel : Nat) (cs : List Value) (x : DataW H × List MemPlace), DataW.trod enc P W 0 sp held fuel f1.type cs = some x → ∃ a : Lab, cs = lcells a)
    (hi : P.underlying f2.type = some (.int .i64))
    (hval : Value.okWide P W .any base t v) (hd : DataW.Trod enc P W 0 sp held t v d p) : ∃ x : Lf, v = .agg (cellsF x) ∧ (Lit.int .i64 x.e).wf = true := by
  obtain ⟨cs, rfl⟩ := agg_of_struct hs hval
  obtain ⟨fuel, hf⟩ := hd
  obtain ⟨xs, m, _, _, hlen, hxl, hg⟩ := DataW.trod_struct hs hf
  rw [ct] at hlen
  have g0 := hg 0 f0 rfl
  have g1 := hg 1 f1 rfl
  have g2 := hg 2 f2 rfl
  rw [o0, c0] at g0
  rw [o1, c1] at g1
  rw [o2, c2] at g2
  have hx : xs.length = 3 := hxl
  rw [List.getElem?_eq_getElem (by omega)] at g0 g1 g2
  obtain ⟨a, e0⟩ := hl0 _ _ _ g0
  obtain ⟨s, e1⟩ := hl _ _ _ g1
  obtain ⟨k, e2, _, w2⟩ := DataW.trod_int hi g2
  refine ⟨⟨a, s, k⟩, ?_, w2⟩
  have hcl : cs.toList.length = 32 + 32 + 1 := hlen
  have h := take_drop3 cs.toList 32 32 1 hcl
  have e0 : List.take 32 cs.toList = lcells a := e0
  rw [e0, show List.take 32 (List.drop 32 cs.toList) = lcells s from e1, show List.take 1 (List.drop (32 + 32) cs.toList) = [Value.int .i64 k] from e2] at h
  rw [cellsF, fcells, show cs = cs.toList.toArray from by simp, h]
end
section
variable {H : Type} {enc : TypeId × Value → H} {W : World} {sp : Nat → Bool} {held : Bool} {base : Nat}
theorem lab_in {fuel : Nat} {cs : List Value} {x : DataW H × List MemPlace} (h : DataW.trod enc Tryd.prog W 0 sp held fuel 29 cs = some x) : ∃ a : Lab, cs = lcells a :=
  lab_of_cells Tryd.underlying29 Tryd.underlying5 cellsOf_u8 cellsOf_lab h
theorem pre_in {fuel : Nat} {cs : List Value} {x : DataW H × List MemPlace} (h : DataW.trod enc Tryd.prog W 0 sp held fuel 41 cs = some x) : ∃ (n : Int) (a : Lab), cs = Value.int .i64 n :: lcells a ∧ (Lit.int .i64 n).wf = true :=
  pre_of_cells Tryd.underlying41 Tryd.underlying3 cellsOf_int rfl rfl (fun _ _ _ h => lab_in h) cellsOf_lab cellsOf_pre h
theorem cellsOf_item : Tryd.prog.cellsOf 43 = 66 := by kernel_rfl
theorem cellsOf_leaf : Tryd.prog.cellsOf 37 = 65 := by kernel_rfl
end
theorem trodAll_six {P : Program} {H : Type} {enc : TypeId × Value → H} {W : World} {base : Nat} {sp : Nat → Bool} {held : Bool} {t0 t1 t2 t3 t4 t5 : TypeId} {args : Array Value} {ds : List (DataW H)} {ps : List MemPlace} (h : DataW.TrodAll enc P W base sp held [t0, t1, t2, t3, t4, t5] args.toList ds ps) :
    ∃ v0 v1 v2 v3 v4 v5 d0 d1 d2 d3 d4 d5 p0 p1 p2 p3 p4 p5, args = #[v0, v1, v2, v3, v4, v5] ∧ ds = [d0, d1, d2, d3, d4, d5] ∧ DataW.Trod enc P W base sp held t0 v0 d0 p0 ∧ DataW.Trod enc P W base sp held t1 v1 d1 p1 ∧ DataW.Trod enc P W base sp held t2 v2 d2 p2 ∧ DataW.Trod enc P W base sp held t3 v3 d3 p3 ∧ DataW.Trod enc P W base sp held t4 v4 d4 p4 ∧ DataW.Trod enc P W base sp held t5 v5 d5 p5 := by
  obtain ⟨v0, vs0, d0, ds0, p0, q0, e0, rfl, rfl, h0, r0⟩ := trodAll_cons h
  obtain ⟨v1, vs1, d1, ds1, p1, q1, rfl, rfl, rfl, h1, r1⟩ := trodAll_cons r0
  obtain ⟨v2, vs2, d2, ds2, p2, q2, rfl, rfl, rfl, h2, r2⟩ := trodAll_cons r1
  obtain ⟨v3, vs3, d3, ds3, p3, q3, rfl, rfl, rfl, h3, r3⟩ := trodAll_cons r2
  obtain ⟨v4, vs4, d4, ds4, p4, q4, rfl, rfl, rfl, h4, r4⟩ := trodAll_cons r3
  obtain ⟨v5, vs5, d5, ds5, p5, q5, rfl, rfl, rfl, h5, r5⟩ := trodAll_cons r4
  obtain ⟨rfl, rfl, rfl⟩ := trodAll_nil r5
  refine ⟨v0, v1, v2, v3, v4, v5, d0, d1, d2, d3, d4, d5, p0, p1, p2, p3, p4, p5, ?_, rfl, h0, h1, h2, h3, h4, h5⟩
  cases args
  simp_all
end Go.Proofs.YtnffmgpnhlcakaaDoor
