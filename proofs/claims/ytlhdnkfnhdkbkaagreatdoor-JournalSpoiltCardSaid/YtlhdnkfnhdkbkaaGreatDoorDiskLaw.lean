/- Lists of numbers that came in or are the call's own; answers that the document fixes. Conditions: none. -/
import Derived.Test.YtlhdnkfnhdkbkaaGreatDoorDisk10
import Derived.Test.YtlhdnkfnhdkbkaaGreatDoorLists
namespace Go.Proofs.YtlhdnkfnhdkbkaaGreatDoor
open Go Go.RowKit Go.Maps Go.ChangeShapes Go.WideShapes Go.ChangeAt
attribute [local go_sem] Oper.semAt_some

/-- A list of numbers that came in. -/
def InInts (w : World) (v : Value) (ks : List Int) : Prop :=
  ∃ ao cap, v = .slice ao ks.length cap ∧ ks.length ≤ cap ∧ cap ≤ maxLen ∧ (∀ k ∈ ks, -9223372036854775808 ≤ k ∧ k ≤ 9223372036854775807) ∧ ∀ i, i < ks.length → ∃ a, ao = some a ∧ w.cell? (a.add i) = some (.int .i64 (ks.getD i 0))
theorem InInts.below {w w' : World} {v : Value} {ks : List Int} (h : InInts w v ks) (k : Below w.heap.size w w') : InInts w' v ks := by
  obtain ⟨ao, cap, h1, h0, hm, h2, h3⟩ := h
  refine ⟨ao, cap, h1, h0, hm, h2, fun i hi => ?_⟩
  obtain ⟨a, h4, h5⟩ := h3 i hi
  exact ⟨a, h4, (k.cell (p := a.add i) (cellLt h5)).trans h5⟩
theorem InInts.at_ {B : Nat} {w w1 : World} {v : Value} {ks : List Int} (h : InInts w v ks) (b : Below w.heap.size w w1) (hB : w.heap.size ≤ B) : IntsAt B w1 v ks := by
  obtain ⟨ao, cap, h1, _, _, h2, h3⟩ := h
  refine ⟨ao, cap, h1, h2, fun i hi => ?_⟩
  obtain ⟨a, h4, h5⟩ := h3 i hi
  refine ⟨a, h4, fun w' s => ?_⟩
  have hlt := cellLt h5
  exact (World.cell?_of_block (s.block _ (Nat.lt_of_lt_of_le hlt hB))).trans ((b.cell (p := a.add i) hlt).trans h5)
theorem in_ints {P : Program} {H : Type} {enc : TypeId × Value → H} {W : World} {sp : Nat → Bool} {held : Bool} {base t e : TypeId} {v : Value} {d : DataW H} {p : List MemPlace} (ht : P.underlying t = some (.slice e)) (he : P.underlying e = some (.int .i64)) (ce : P.cellsOf e = 1) (hval : Value.okWide P W .any base t v) (hd : DataW.Trod enc P W 0 sp held t v d p) :
    ∃ ks : List Int, InInts W v ks := by
  obtain ⟨ao, len, cap, rfl⟩ := okWide_slice ht hval
  obtain ⟨fuel, hf⟩ := hd
  rcases open_ints ht he ce hf with ⟨h, _⟩ | ⟨a, len', cap', zs, hcs, _, hl, hm, hz, _, hx, hw⟩
  · have hc : ao = none ∧ len = 0 ∧ cap = 0 := by simpa [Value.cells] using h
    obtain ⟨rfl, rfl, rfl⟩ := hc
    exact ⟨[], none, 0, rfl, Nat.le_refl _, Nat.zero_le _, (fun k hk => (by cases hk)), fun i hi => absurd hi (Nat.not_lt_zero i)⟩
  · have hc : (ao = some a ∧ len = len' ∧ cap = cap') := by simpa [Value.cells] using hcs
    obtain ⟨rfl, rfl, rfl⟩ := hc
    have hlz : len ≤ zs.length := by rw [hz]; split <;> omega
    have hlt : (zs.take len).length = len := by rw [List.length_take]; omega
    refine ⟨zs.take len, some a, cap, by rw [hlt], by rw [hlt]; exact hl, hm, fun k hk => ?_, fun i hi => ⟨a, rfl, ?_⟩⟩
    · have := hw k (List.mem_of_mem_take hk)
      simpa [Lit.wf, IntKind.min, IntKind.max, IntKind.signed, IntKind.bits] using this
    · rw [hlt] at hi
      rw [hx i (by omega)]
      congr 2
      rw [List.getD_eq_getElem?_getD, List.getD_eq_getElem?_getD, List.getElem?_take, if_pos hi]
def intCells (ks : List Int) : List Value := ks.map (Value.int .i64)
def OwnInts (w : World) (B : Nat) (v : Value) (ks : List Int) : Prop := w.ownsRow B 3 1 v ks.length (intCells ks)
theorem OwnInts.at_ {B C : Nat} {w : World} {v : Value} {ks : List Int} (h : OwnInts w C v ks) (hr : ∀ k ∈ ks, -9223372036854775808 ≤ k ∧ k ≤ 9223372036854775807) : IntsAt B w v ks := by
  obtain ⟨ao, cap, rfl⟩ := own_shape h
  refine ⟨ao, cap, rfl, hr, fun i hi => ?_⟩
  obtain ⟨g, rfl, _, _⟩ := own_cell h i hi
  refine ⟨_, rfl, fun w' s => ?_⟩
  obtain ⟨g', e, h1, _⟩ := own_cell (s.row h (by decide)) i hi
  obtain rfl : g = g' := by simpa using e
  rw [show (⟨g, 0, none⟩ : Addr).add i = ⟨g, i, none⟩ by simp [Addr.add]; exact fun e => e.symm, h1]
  simp [intCells, hi]

/-- What a disk comes to. -/
def w0 : DDisk := ⟨100, -1, false, []⟩
def w1' : DDisk := aD w0 [97] [120, 121, 122]
def w2' : DDisk := sD w1' [97]
def w3' : DDisk := aD w2' [97] [117, 118]
def w4' : DDisk := crashD w3' [1]
theorem max100 : max (100 : Int) 0 = 100 := by decide
theorem info_int : ∃ i : TypeInfo, Tryz.prog.info? 3 = some i ∧ i.zero = some (.int .i64 0) ∧ i.size = 1 ∧ i.bytes = 8 := by
  have h : (Tryz.prog.info? 3).map (fun i => (i.zero, i.size, i.bytes)) = some (some (.int .i64 0), 1, 8) := by kernel_rfl
  cases hq : Tryz.prog.info? 3 with
  | none => rw [hq] at h; cases h
  | some i =>
    rw [hq] at h
    simp only [Option.map_some, Option.some.injEq, Prod.mk.injEq] at h
    exact ⟨i, rfl, h.1, h.2.1, h.2.2⟩
/-- Nothing is put behind an empty row. -/
theorem wpList_app_zero {P : Program} {w : World} {ops : Array Oper} {rest : List Oper} {o : Oper} {a : Act} {Q : Exit → Act → World → Prop} (hgd : o.guard = none) (s x : Operand) (t : TypeId)
    (ho : o.op = .call { callee := .builtin .append, args := #[s, x], argTypes := #[t, t] }) (e : TypeId) (i : TypeInfo) (ht : P.underlying t = some (.slice e)) (hi : P.info? e = some i)
    (g : Addr) (hs : a.eval s = .slice (some g) 0 0) (ao : Option Addr) (cap : Nat) (hx : a.eval x = .slice ao 0 cap) (h : wpList P ops Q rest (a.put o.dst (.slice (some g) 0 0)) w) : wpList P ops Q (o :: rest) a w := by
  refine wpList_plain hgd fun K hK => ?_
  have hr : (Builtin.append_ #[t, t] o.type #[.slice (some g) 0 0, .slice ao 0 cap]).run P w = .ok (.slice (some g) 0 0) w := by
    cases ao <;> simp [Builtin.append_, run_underlying ht, sizeOf, typeInfo, hi, Builtin.lenOf, Builtin.firstCells, loadCells, loadCellsFrom, storeCells, Result.andThen]
  unfold Oper.wp execOp
  simp only [ho, resolve, invoke, builtin, Sem.run_bind, Sem.run_pure, Result.andThen_ok, List.map_toArray, List.map_cons, List.map_nil, hs, hx, hr]
  exact hK _ _ h
end Go.Proofs.YtlhdnkfnhdkbkaaGreatDoor
