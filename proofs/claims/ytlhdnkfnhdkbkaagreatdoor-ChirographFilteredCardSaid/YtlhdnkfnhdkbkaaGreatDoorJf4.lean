/- Texts that the next ones stand on: Lists, DiskLaw, Puts, AppNone, Jour2, Jour3, Jour4, SealBits, SealLaw, SealRef, SealRef3, Jour5, Jour6, JKit, LabRun, Math, Bits1, Read. -/
import Derived.Test.YtlhdnkfnhdkbkaaGreatDoorJf3
import Derived.Deep.Strs
import Derived.Maps.AppendAt
import Derived.Laws.AppendOwnNone
import Derived.Deep.Grids
import Derived.Test.YtlhdnkfnhdkbkaaGreatDoorRows
import Derived.WalkLawsBesides
import Derived.WalkSpells
import Derived.Lib.BitFns
import Derived.Lib.Bytealg
import Derived.Laws.BitsAllLaws
import Derived.IntWalk
import Derived.Test.YtlhdnkfnhdkbkaaGreatDoorShelf
import Derived.Outline
import Derived.BigQuiet
import Derived.Deep.QuietTactic
import Derived.Deep.RegionHeld3
import Derived.Lib.Hide
import Derived.Lib.BytesEntry
import Derived.BigRegion
import Derived.Deep.DeepCutAuto
import Derived.Laws.CopyOwn
import Derived.Lib.IndexLaws
namespace Go.Proofs.YtlhdnkfnhdkbkaaGreatDoor
open Go Go.ChangeShapes Go.WideShapes Go.ChangeAt Go.RowKit

/-- A list of texts that came in. -/
def InStrs (w : World) (v : Value) (len : Nat) (S : Nat → ByteArray) : Prop :=
  ∃ ao cap, v = .slice ao len cap ∧ ∀ i, i < len → ∃ a, ao = some a ∧ w.cell? (a.add i) = some (.string (S i))
theorem in_strs {P : Program} {H : Type} {enc : TypeId × Value → H} {W : World} {sp : Nat → Bool} {held : Bool} {base t e : TypeId} {v : Value} {d : DataW H} {p : List MemPlace} (ht : P.underlying t = some (.slice e)) (he : P.underlying e = some .string) (ce : P.cellsOf e = 1) (hval : Value.okWide P W .any base t v) (hd : DataW.Trod enc P W 0 sp held t v d p) :
    ∃ (len : Nat) (S : Nat → ByteArray), InStrs W v len S := by
  obtain ⟨ao, len, cap, rfl⟩ := okWide_slice ht hval
  obtain ⟨fuel, hf⟩ := hd
  rcases Deep.open_strs ht he ce hf with ⟨h, _⟩ | ⟨a, len', cap', m, S, hcs, _, hl, hm, hmm, _, hx⟩
  · have hc : ao = none ∧ len = 0 ∧ cap = 0 := by simpa [Value.cells] using h
    obtain ⟨rfl, rfl, rfl⟩ := hc
    exact ⟨0, fun _ => ⟨#[]⟩, none, 0, rfl, fun i hi => absurd hi (Nat.not_lt_zero i)⟩
  · have hc : (ao = some a ∧ len = len' ∧ cap = cap') := by simpa [Value.cells] using hcs
    obtain ⟨rfl, rfl, rfl⟩ := hc
    have hlm : len ≤ m := by rw [hmm]; split <;> omega
    exact ⟨len, S, some a, cap, rfl, fun i hi => ⟨a, rfl, (hx i (by omega)).1⟩⟩
/-- A byte that came in. -/
theorem in_byte {P : Program} {H : Type} {enc : TypeId × Value → H} {W : World} {sp : Nat → Bool} {held : Bool} {base t : TypeId} {v : Value} {d : DataW H} {p : List MemPlace} (hu : P.underlying t = some (.int .u8)) (hval : Value.okWide P W .any base t v) (hd : DataW.Trod enc P W 0 sp held t v d p) :
    ∃ c : UInt8, v = .int .u8 (c.toNat : Int) := by
  obtain ⟨n, rfl, _, _, w0⟩ := open_int hu hval hd
  obtain ⟨h0, h1⟩ := wf_u8 w0
  exact ⟨UInt8.ofNat n.toNat, congrArg (Value.int .u8) (byte_of_int h0 (by omega)).symm⟩
theorem cellsOf_string : Tryz.prog.cellsOf 9 = 1 := by kernel_rfl
theorem InStrs.below {w w' : World} {v : Value} {len : Nat} {S : Nat → ByteArray} (h : InStrs w v len S) (k : Below w.heap.size w w') : InStrs w' v len S := by
  obtain ⟨ao, cap, h1, h2⟩ := h
  refine ⟨ao, cap, h1, fun i hi => ?_⟩
  obtain ⟨a, h3, h4⟩ := h2 i hi
  exact ⟨a, h3, (k.cell (p := a.add i) (cellLt h4)).trans h4⟩
theorem one_cell {w : World} {T : TypeId} (x : Value) : ∀ j u, [x][j]? = some u → (w.alloc (.cells #[x] T)).cell? ((⟨w.heap.size, 0, none⟩ : Addr).add j) = some u := by
  intro j u hu
  have hj : j = 0 := by
    have := (List.getElem?_eq_some_iff.1 hu).1
    simpa using this
  subst hj
  have hu2 : x = u := by simpa using hu
  rw [← hu2, show (⟨w.heap.size, 0, none⟩ : Addr).add 0 = ⟨w.heap.size, 0, none⟩ by simp [Addr.add]]
  exact cell_of_rowAt (rowAt_alloc_at w #[x] T _ rfl) 0

/-- The first m texts, cut. -/
def cutsL (S : Nat → ByteArray) (c m : Nat) : List (List UInt8) := (List.range m).map fun i => (S i).data.toList.take c
theorem cutsL_length (S : Nat → ByteArray) (c m : Nat) : (cutsL S c m).length = m := by simp [cutsL]
theorem cutsL_succ (S : Nat → ByteArray) (c m : Nat) : cutsL S c (m + 1) = cutsL S c m ++ [(S m).data.toList.take c] := by simp [cutsL, List.range_succ]
theorem cutsL_short (S : Nat → ByteArray) (c m : Nat) : ∀ t ∈ cutsL S c m, t.length ≤ c := by
  intro t ht
  obtain ⟨i, _, rfl⟩ := List.mem_map.1 ht
  exact List.length_take_le _ _
theorem cutsL_get (S : Nat → ByteArray) (c m i : Nat) (h : i < m) : (cutsL S c m).getD i [] = (S i).data.toList.take c := by
  rw [List.getD_eq_getElem?_getD, cutsL, List.getElem?_map, List.getElem?_range h]
  rfl
/-- An empty list of the call's own, in a block that is behind others. -/
theorem ownStrs_new (w : World) (B n : Nat) (hn : n = w.heap.size) (hB : B ≤ n) : OwnStrs (w.alloc (.cells #[] 9)) B (.slice (some ⟨n, 0, none⟩) 0 0) [] := by
  subst hn
  exact ⟨rfl, .inr ⟨w.heap.size, 0, #[], rfl, hB, heap_alloc_new w _, Nat.le_refl _, Nat.zero_le _, rfl, rfl⟩⟩

/-- A text is put behind a list of the call's own. -/
theorem wpList_put_text {ops : Array Oper} {rest : List Oper} {o : Oper} {a : Act} {w : World} {Q : Exit → Act → World → Prop} (hgd : o.guard = none) (s x : Operand)
    (ho : o.op = .call { callee := .builtin .append, args := #[s, x], argTypes := #[27, 27] }) (B : Nat) (v : Value) (ts : List (List UInt8)) (hs : a.eval s = v) (hown : OwnStrs w B v ts)
    (t : List UInt8) (ad : Addr) (c : Nat) (hx : a.eval x = .slice (some ad) 1 c) (hcell : w.cell? ad = some (.string (stx t))) (hB : B ≤ w.heap.size) (hl : ts.length ≤ 1000000)
    (h : ∀ v' w', OwnStrs w' B v' (ts ++ [t]) → w.grownBy w' v.ownBlock → (v'.ownBlock = v.ownBlock ∨ v'.ownBlock = some w.heap.size) → wpList Tryz.prog ops Q rest (a.put o.dst v') w') : wpList Tryz.prog ops Q (o :: rest) a w := by
  obtain ⟨i0, hi, hz0, hz1, hz2⟩ := info_str
  refine wpList_append_own_at (P := Tryz.prog) w hgd s x 27 ho B 9 i0 (.string ⟨#[]⟩) 1 16 Tryz.underlying27 hi hz0 hz1 hz2 rfl (by decide) v ts.length (strCells ts) hs hown ad 1 c [.string (stx t)] hx rfl ?_ ?_ (by unfold maxLen; omega) (by omega) hB ?_
  · intro j u hu
    have hj : j = 0 := by
      have := (List.getElem?_eq_some_iff.1 hu).1
      simpa using this
    subst hj
    have hu2 : Value.string (stx t) = u := by simpa using hu
    rw [← hu2, show ad.add 0 = ad by simp [Addr.add]]
    exact hcell
  · intro u hu
    have hu2 : u = Value.string (stx t) := by simpa using hu
    rw [hu2]
    rfl
  · intro v' w' h1 h2 _ h4
    refine h v' w' ?_ h2 h4
    show w'.ownsRow B 9 1 v' (ts ++ [t]).length (strCells (ts ++ [t]))
    rw [List.length_append, ← strCells_put]
    exact h1
/-- Two lists lie in two blocks. -/
def Apart (v u : Value) : Prop := ∀ g, v.ownBlock = some g → u.ownBlock ≠ some g
theorem Apart.symm {v u : Value} (h : Apart v u) : Apart u v := fun g h1 h2 => h g h2 h1
theorem Apart.grow {w : World} {B : Nat} {v v' u : Value} {us : List (List UInt8)} {N : Nat} (h : Apart v u) (hu : OwnStrs w B u us) (hat : v'.ownBlock = v.ownBlock ∨ v'.ownBlock = some N) (hN : w.heap.size ≤ N) : Apart v' u := by
  intro g h1 h2
  rcases hat with e | e
  · exact h g (e ▸ h1) h2
  · rw [e] at h1
    have := (World.ownsRow.lt hu g h2).2
    simp only [Option.some.injEq] at h1
    omega
theorem OwnStrs.apart {w w' : World} {B : Nat} {v u : Value} {us : List (List UInt8)} (hu : OwnStrs w B u us) (h : Apart v u) (hg : w.grownBy w' v.ownBlock) : OwnStrs w' B u us := by
  refine World.ownsRow.kept hu hg ?_
  cases hq : u.ownBlock with
  | none => exact .inl rfl
  | some g => exact .inr (fun e => h g e.symm hq)
theorem OwnStrs.grown {w w' : World} {B : Nat} {v : Value} {ts : List (List UInt8)} {a : World} (h : OwnStrs w B v ts) (hg : w.grownBy w' v.ownBlock) (b : Below B a w) (hB : B ≤ w.heap.size) : Below B a w' :=
  b.grown hg hB (fun k hk => (World.ownsRow.lt h k hk).1)

theorem take_alike {ts us : List (List UInt8)} {i : Nat} (h : ts.take i = us.take i) (h1 : i < ts.length) (h2 : i < us.length) (he : ts.getD i [] = us.getD i []) : ts.take (i + 1) = us.take (i + 1) := by
  rw [List.take_succ_eq_append_getElem h1, List.take_succ_eq_append_getElem h2, h]
  congr 2
  rw [List.getD_eq_getElem?_getD, List.getElem?_eq_getElem h1, List.getD_eq_getElem?_getD, List.getElem?_eq_getElem h2] at he
  exact he

end Go.Proofs.YtlhdnkfnhdkbkaaGreatDoor
namespace Go.Proofs.YtlhdnkfnhdkbkaaGreatDoor
open Go Go.RowKit Go.Maps Go.ChangeShapes Go.WideShapes Go.ChangeAt
attribute [local go_sem] Oper.semAt_some

/-- A list of numbers that came in. -/
def InInts (w : World) (v : Value) (ks : List Int) : Prop :=
  ∃ ao cap, v = .slice ao ks.length cap ∧ ks.length ≤ cap ∧ cap ≤ maxLen ∧ (∀ k ∈ ks, -9223372036854775808 ≤ k ∧ k ≤ 9223372036854775807) ∧ ∀ i, i < ks.length → ∃ a, ao = some a ∧ w.cell? (a.add i) = some (.int .i64 (ks.getD i 0))
theorem InInts.below {w w' : World} {v : Value} {ks : List Int} (h : InInts w v ks) (k : Below w.heap.size w w') : InInts w' v ks := by
  obtain ⟨ao, cap, h1, h0, hm, h2, h3⟩ := h
  refine ⟨ao, cap, h1, h0, hm, h2, fun i hi => ?_⟩
  obtain ⟨a, h4, h5⟩ := h3 i hi
  exact ⟨a, h4, (k.cell (p := a.add i) (cellLt h5)).trans h5⟩
theorem InInts.at_ {B : Nat} {w w1 : World} {v : Value} {ks : List Int} (h : InInts w v ks) (b : Below w.heap.size w w1) (hB : w.heap.size ≤ B) : IntsAt B w1 v ks := by
  obtain ⟨ao, cap, h1, _, _, h2, h3⟩ := h
  refine ⟨ao, cap, h1, h2, fun i hi => ?_⟩
  obtain ⟨a, h4, h5⟩ := h3 i hi
  refine ⟨a, h4, fun w' s => ?_⟩
  have hlt := cellLt h5
  exact (World.cell?_of_block (s.block _ (Nat.lt_of_lt_of_le hlt hB))).trans ((b.cell (p := a.add i) hlt).trans h5)
theorem in_ints {P : Program} {H : Type} {enc : TypeId × Value → H} {W : World} {sp : Nat → Bool} {held : Bool} {base t e : TypeId} {v : Value} {d : DataW H} {p : List MemPlace} (ht : P.underlying t = some (.slice e)) (he : P.underlying e = some (.int .i64)) (ce : P.cellsOf e = 1) (hval : Value.okWide P W .any base t v) (hd : DataW.Trod enc P W 0 sp held t v d p) :
    ∃ ks : List Int, InInts W v ks := by
  obtain ⟨ao, len, cap, rfl⟩ := okWide_slice ht hval
  obtain ⟨fuel, hf⟩ := hd
  rcases open_ints ht he ce hf with ⟨h, _⟩ | ⟨a, len', cap', zs, hcs, _, hl, hm, hz, _, hx, hw⟩
  · have hc : ao = none ∧ len = 0 ∧ cap = 0 := by simpa [Value.cells] using h
    obtain ⟨rfl, rfl, rfl⟩ := hc
    exact ⟨[], none, 0, rfl, Nat.le_refl _, Nat.zero_le _, (fun k hk => (by cases hk)), fun i hi => absurd hi (Nat.not_lt_zero i)⟩
  · have hc : (ao = some a ∧ len = len' ∧ cap = cap') := by simpa [Value.cells] using hcs
    obtain ⟨rfl, rfl, rfl⟩ := hc
    have hlz : len ≤ zs.length := by rw [hz]; split <;> omega
    have hlt : (zs.take len).length = len := by rw [List.length_take]; omega
    refine ⟨zs.take len, some a, cap, by rw [hlt], by rw [hlt]; exact hl, hm, fun k hk => ?_, fun i hi => ⟨a, rfl, ?_⟩⟩
    · have := hw k (List.mem_of_mem_take hk)
      simpa [Lit.wf, IntKind.min, IntKind.max, IntKind.signed, IntKind.bits] using this
    · rw [hlt] at hi
      rw [hx i (by omega)]
      congr 2
      rw [List.getD_eq_getElem?_getD, List.getD_eq_getElem?_getD, List.getElem?_take, if_pos hi]
def intCells (ks : List Int) : List Value := ks.map (Value.int .i64)
def OwnInts (w : World) (B : Nat) (v : Value) (ks : List Int) : Prop := w.ownsRow B 3 1 v ks.length (intCells ks)
theorem OwnInts.at_ {B C : Nat} {w : World} {v : Value} {ks : List Int} (h : OwnInts w C v ks) (hr : ∀ k ∈ ks, -9223372036854775808 ≤ k ∧ k ≤ 9223372036854775807) : IntsAt B w v ks := by
  obtain ⟨ao, cap, rfl⟩ := own_shape h
  refine ⟨ao, cap, rfl, hr, fun i hi => ?_⟩
  obtain ⟨g, rfl, _, _⟩ := own_cell h i hi
  refine ⟨_, rfl, fun w' s => ?_⟩
  obtain ⟨g', e, h1, _⟩ := own_cell (s.row h (by decide)) i hi
  obtain rfl : g = g' := by simpa using e
  rw [show (⟨g, 0, none⟩ : Addr).add i = ⟨g, i, none⟩ by simp [Addr.add]; exact fun e => e.symm, h1]
  simp [intCells, hi]

/-- What a disk comes to. -/
def w0 : DDisk := ⟨100, -1, false, []⟩
def w1' : DDisk := aD w0 [97] [120, 121, 122]
def w2' : DDisk := sD w1' [97]
def w3' : DDisk := aD w2' [97] [117, 118]
def w4' : DDisk := crashD w3' [1]
theorem max100 : max (100 : Int) 0 = 100 := by decide
theorem info_int : ∃ i : TypeInfo, Tryz.prog.info? 3 = some i ∧ i.zero = some (.int .i64 0) ∧ i.size = 1 ∧ i.bytes = 8 := by
  have h : (Tryz.prog.info? 3).map (fun i => (i.zero, i.size, i.bytes)) = some (some (.int .i64 0), 1, 8) := by kernel_rfl
  cases hq : Tryz.prog.info? 3 with
  | none => rw [hq] at h; cases h
  | some i =>
    rw [hq] at h
    simp only [Option.map_some, Option.some.injEq, Prod.mk.injEq] at h
    exact ⟨i, rfl, h.1, h.2.1, h.2.2⟩
/-- Nothing is put behind an empty row. -/
theorem wpList_app_zero {P : Program} {w : World} {ops : Array Oper} {rest : List Oper} {o : Oper} {a : Act} {Q : Exit → Act → World → Prop} (hgd : o.guard = none) (s x : Operand) (t : TypeId)
    (ho : o.op = .call { callee := .builtin .append, args := #[s, x], argTypes := #[t, t] }) (e : TypeId) (i : TypeInfo) (ht : P.underlying t = some (.slice e)) (hi : P.info? e = some i)
    (g : Addr) (hs : a.eval s = .slice (some g) 0 0) (ao : Option Addr) (cap : Nat) (hx : a.eval x = .slice ao 0 cap) (h : wpList P ops Q rest (a.put o.dst (.slice (some g) 0 0)) w) : wpList P ops Q (o :: rest) a w := by
  refine wpList_plain hgd fun K hK => ?_
  have hr : (Builtin.append_ #[t, t] o.type #[.slice (some g) 0 0, .slice ao 0 cap]).run P w = .ok (.slice (some g) 0 0) w := by
    cases ao <;> simp [Builtin.append_, run_underlying ht, sizeOf, typeInfo, hi, Builtin.lenOf, Builtin.firstCells, loadCells, loadCellsFrom, storeCells, Result.andThen]
  unfold Oper.wp execOp
  simp only [ho, resolve, invoke, builtin, Sem.run_bind, Sem.run_pure, Result.andThen_ok, List.map_toArray, List.map_cons, List.map_nil, hs, hx, hr]
  exact hK _ _ h
end Go.Proofs.YtlhdnkfnhdkbkaaGreatDoor
namespace Go.Proofs.YtlhdnkfnhdkbkaaGreatDoor
open Go Go.RowKit

/-- Texts are put behind a list of the call's own. -/
theorem wpList_put_texts {ops : Array Oper} {rest : List Oper} {o : Oper} {a : Act} {w : World} {Q : Exit → Act → World → Prop} (hgd : o.guard = none) (s x : Operand)
    (ho : o.op = .call { callee := .builtin .append, args := #[s, x], argTypes := #[27, 27] }) (B : Nat) (v : Value) (ts us : List (List UInt8)) (hs : a.eval s = v) (hown : OwnStrs w B v ts)
    (ad : Addr) (m c : Nat) (hx : a.eval x = .slice (some ad) m c) (hm : us.length = m) (hcell : ∀ j u, (strCells us)[j]? = some u → w.cell? (ad.add j) = some u) (hB : B ≤ w.heap.size) (hl : ts.length ≤ 1000000) (hl2 : us.length ≤ 1000000)
    (h : ∀ v' w', OwnStrs w' B v' (ts ++ us) → w.grownBy w' v.ownBlock → (v'.ownBlock = v.ownBlock ∨ v'.ownBlock = some w.heap.size) → wpList Tryz.prog ops Q rest (a.put o.dst v') w') : wpList Tryz.prog ops Q (o :: rest) a w := by
  subst hm
  obtain ⟨i0, hi, hz0, hz1, hz2⟩ := info_str
  refine wpList_append_own_at (P := Tryz.prog) w hgd s x 27 ho B 9 i0 (.string ⟨#[]⟩) 1 16 Tryz.underlying27 hi hz0 hz1 hz2 rfl (by decide) v ts.length (strCells ts) hs hown ad us.length c (strCells us) hx (by rw [strCells_length, Nat.mul_one]) hcell ?_ (by unfold maxLen; omega) (by omega) hB ?_
  · intro u hu
    obtain ⟨t, _, rfl⟩ := List.mem_map.1 hu
    rfl
  · intro v' w' h1 h2 _ h4
    refine h v' w' ?_ h2 h4
    show w'.ownsRow B 9 1 v' (ts ++ us).length (strCells (ts ++ us))
    rw [List.length_append, show strCells (ts ++ us) = strCells ts ++ strCells us by simp [strCells]]
    exact h1
end Go.Proofs.YtlhdnkfnhdkbkaaGreatDoor
namespace Go.Proofs.YtlhdnkfnhdkbkaaGreatDoor
open Go Go.RowKit

theorem run_append_none_len {P : Program} {w : World} {base : Nat} {t e : TypeId} {i : TypeInfo} {size : Nat} (ht : P.underlying t = some (.slice e)) (hi : P.info? e = some i)
    {v : Value} {n : Nat} {xs : List Value} (hown : w.ownsRow base e size v n xs) (cap : Nat) (ty : TypeId) :
    (Builtin.append_ #[t, t] ty #[v, .slice none 0 cap]).run P w = .ok v w := by
  rcases hown.2 with ⟨rfl, rfl⟩ | ⟨g, cap, cur, rfl, _, _, hnc, _⟩
  · simp [Builtin.append_, run_underlying ht, sizeOf, typeInfo, hi, Builtin.lenOf, Builtin.firstCells]
  · simp [Builtin.append_, run_underlying ht, sizeOf, typeInfo, hi, Builtin.lenOf, Builtin.firstCells, hnc, storeCells]
end Go.Proofs.YtlhdnkfnhdkbkaaGreatDoor
namespace Go.Proofs.YtlhdnkfnhdkbkaaGreatDoor
open Go Go.RowKit
attribute [local go_sem] Oper.semAt_some

/-- A number is put behind a list of the call's own. -/
theorem wpList_put_int {ops : Array Oper} {rest : List Oper} {o : Oper} {a : Act} {w : World} {Q : Exit → Act → World → Prop} (hgd : o.guard = none) (s x : Operand)
    (ho : o.op = .call { callee := .builtin .append, args := #[s, x], argTypes := #[32, 32] }) (B : Nat) (v : Value) (ts : List Int) (hs : a.eval s = v) (hown : OwnInts w B v ts)
    (t : Int) (ad : Addr) (c : Nat) (hx : a.eval x = .slice (some ad) 1 c) (hcell : w.cell? ad = some (.int .i64 t)) (hB : B ≤ w.heap.size) (hl : ts.length ≤ 1000000)
    (h : ∀ v' w', OwnInts w' B v' (ts ++ [t]) → w.grownBy w' v.ownBlock → wpList Tryz.prog ops Q rest (a.put o.dst v') w') : wpList Tryz.prog ops Q (o :: rest) a w := by
  obtain ⟨i0, hi, hz0, hz1, hz2⟩ := info_int
  refine wpList_append_own_at (P := Tryz.prog) w hgd s x 32 ho B 3 i0 (.int .i64 0) 1 8 Tryz.underlying32 hi hz0 hz1 hz2 rfl (by decide) v ts.length (intCells ts) hs hown ad 1 c [.int .i64 t] hx rfl ?_ ?_ (by unfold maxLen; omega) (by omega) hB ?_
  · intro j u hu
    have hj : j = 0 := by
      have := (List.getElem?_eq_some_iff.1 hu).1
      simpa using this
    subst hj
    have hu2 : Value.int .i64 t = u := by simpa using hu
    rw [← hu2, show ad.add 0 = ad by simp [Addr.add]]
    exact hcell
  · intro u hu
    have hu2 : u = Value.int .i64 t := by simpa using hu
    rw [hu2]
    rfl
  · intro v' w' h1 h2 _ h4
    refine h v' w' ?_ h2
    show w'.ownsRow B 3 1 v' (ts ++ [t]).length (intCells (ts ++ [t]))
    rw [List.length_append, show intCells (ts ++ [t]) = intCells ts ++ [.int .i64 t] by simp [intCells]]
    exact h1
/-- Texts of one list of the call's own are put behind another. -/
theorem wpList_put_rows {ops : Array Oper} {rest : List Oper} {o : Oper} {a : Act} {w : World} {Q : Exit → Act → World → Prop} (hgd : o.guard = none) (s x : Operand)
    (ho : o.op = .call { callee := .builtin .append, args := #[s, x], argTypes := #[27, 27] }) (B C : Nat) (v u : Value) (ts us : List (List UInt8)) (hs : a.eval s = v) (hown : OwnStrs w B v ts)
    (hx : a.eval x = u) (hu : OwnStrs w C u us) (hB : B ≤ w.heap.size) (hl : ts.length ≤ 1000000) (hl2 : us.length ≤ 1000000)
    (h : ∀ v' w', OwnStrs w' B v' (ts ++ us) → w.grownBy w' v.ownBlock → wpList Tryz.prog ops Q rest (a.put o.dst v') w') : wpList Tryz.prog ops Q (o :: rest) a w := by
  rcases hu.2 with ⟨rfl, h0⟩ | ⟨g, cap, cur, rfl, _⟩
  · obtain rfl := List.eq_nil_of_length_eq_zero h0
    obtain ⟨i0, hi, hz0, hz1, hz2⟩ := info_str
    have hrun := run_append_none_len (w := w) Tryz.underlying27 hi hown 0 o.type
    refine wpList_plain hgd fun K hK => ?_
    unfold Oper.wp execOp
    simp only [ho, resolve, invoke, builtin, Sem.run_bind, Sem.run_pure, Result.andThen_ok, List.map_toArray, List.map_cons, List.map_nil, hs, hx, hrun]
    exact hK _ _ (h v w (by rw [List.append_nil]; exact hown) ⟨rfl, rfl, rfl, Nat.le_refl _, fun _ _ _ => rfl⟩)
  · exact wpList_put_texts hgd s x ho B v ts us hs hown ⟨g, 0, none⟩ us.length cap hx rfl (fun j y hy => World.ownsRow.cells hu (g := g) rfl j y hy) hB hl hl2 (fun v' w' h1 h2 _ => h v' w' h1 h2)
theorem OwnInts.below {w w' : World} {B : Nat} {v : Value} {ts : List Int} (h : OwnInts w B v ts) (k : Below w.heap.size w w') : OwnInts w' B v ts :=
  World.ownsRow.kept h (row := none) ⟨k.os, k.tape, k.output, k.size, fun j hj _ => k.block j hj⟩ (by cases hv : v.ownBlock <;> simp)
def numsI (ns : List Nat) : List Int := ns.map fun (n : Nat) => (n : Int)
theorem numsI_take (ns : List Nat) (i : Nat) (h : i < ns.length) : numsI (ns.take (i + 1)) = numsI (ns.take i) ++ [((ns.getD i 0 : Nat) : Int)] := by
  unfold numsI
  rw [List.take_add_one, List.map_append, List.getElem?_eq_getElem h, List.getD_eq_getElem?_getD, List.getElem?_eq_getElem h]
  rfl
theorem numsI_len (ns : List Nat) : (numsI ns).length = ns.length := by unfold numsI; rw [List.length_map]
set_option maxRecDepth 100000 in
set_option maxHeartbeats 1000000 in
theorem jSegments_any (B b : Nat) (d : DDisk) (ns : List Nat) (w : World) (h0 : DiskAt B b d w) (hd : listL d = ns.map nm) (hns : ∀ n ∈ ns, n < 100) (hl : ns.length ≤ 100) (hf : d.files.length ≤ 100) (hnl : ∀ f ∈ d.files, f.name.length ≤ 281474976710656) :
    Calls Tryz.prog 28 #[.pointer (some ⟨b, 0, none⟩)] w fun e w' => ∃ v, e = .returned v ∧ OwnInts w' w.heap.size v (numsI ns) ∧ Below w.heap.size w w' := by
  have HLS := Lib.hid (dList_any B b d w h0 (by omega) hnl)
  rw [hd] at HLS
  obtain ⟨n, hn⟩ : ∃ n, ns.length = n := ⟨_, rfl⟩
  have HNN := Lib.hid hn
  have HNS := Lib.hid hns
  rw [hn] at hl
  have hli : (n : Int) ≤ 100 := by omega
  have hml : (ns.map nm).length = n := by rw [List.length_map, hn]
  have HML := Lib.hid hml
  clear h0 hd hns hf hnl hn hml
  obtain ⟨C, hC⟩ : ∃ C, w.heap.size = C := ⟨_, rfl⟩
  have HC := Lib.hid hC
  rw [hC] at HLS ⊢
  clear hC
  go_enter Tryz.func28, Tryz.ntmps28
  go_wp2_with fail
  refine HLS.out.mono ?_
  rintro e w1 ⟨v, rfl, ow, b1⟩
  obtain ⟨ao, cap, hv⟩ := own_shape ow
  rw [HML.out] at hv
  subst hv
  have z1 : C ≤ w1.heap.size := by have := b1.size; rw [HC.out] at this; exact this
  have oi0 : OwnInts w1 C (.slice none 0 0) (numsI (ns.take 0)) := World.ownsRow_nil _ _ _ _
  clear HLS
  go_wp2_with fail
  go_loopw [3, 11] (fun u x wr => ∃ i : Nat, i ≤ n ∧ x = .int .i64 i ∧ OwnInts wr C u (numsI (ns.take i)) ∧ OwnStrs wr C (.slice ao n cap) (ns.map nm) ∧ C ≤ wr.heap.size ∧ Below C w wr) (fun _ x _ => (n - intOf x).toNat)
  case atStart => exact ⟨0, Nat.zero_le _, rfl, oi0, ow, z1, b1⟩
  case round =>
    obtain ⟨i, hi, rfl, oi, os, zr, b2⟩ := hrel
    clear ow b1 z1 oi0
    by_cases hlt : i < n
    · have hlt' : (i : Int) < n := by omega
      have o2 := os
      unfold OwnStrs at o2
      rw [HML.out] at o2
      obtain ⟨g, rfl, k1, k2⟩ := own_cell o2 i hlt
      have hget : (strCells (ns.map nm))[i]? = some (.string (stx (nm (ns.getD i 0)))) := by
        rw [strCells, List.getElem?_map, List.getElem?_map, List.getElem?_eq_getElem (by rw [HNN.out]; exact hlt), List.getD_eq_getElem?_getD, List.getElem?_eq_getElem (by rw [HNN.out]; exact hlt)]
        rfl
      rw [hget] at k1
      have hsm : ns.getD i 0 < 100 := by
        rw [List.getD_eq_getElem?_getD, List.getElem?_eq_getElem (by rw [HNN.out]; exact hlt)]
        exact HNS.out _ (List.getElem_mem _)
      have HNU := Lib.hid (jnumber_any (ns.getD i 0) wr hsm)
      have HTK := Lib.hid (numsI_take ns i (by rw [HNN.out]; exact hlt))
      have HLI : Hid ((numsI (ns.take i)).length ≤ 1000000) := Lib.hid (by rw [numsI_len, List.length_take]; omega)
      generalize nm (ns.getD i 0) = T at *
      generalize ns.getD i 0 = t at *
      generalize numsI (ns.take i) = L at *
      have OI := Lib.hid oi
      have OS := Lib.hid os
      have hb1 : i + 1 ≤ n := hlt
      clear oi os o2 hget hsm
      go_wp2_with fail
      refine HNU.out.mono ?_
      rintro e w3 ⟨rfl, b3⟩
      have oi3 := OI.out.below b3
      have OS3 := Lib.hid (OS.out.below b3)
      have b4 := below_past b2 b3 zr
      have z3 : C ≤ w3.heap.size := Nat.le_trans zr b3.size
      have a1 : Below w3.heap.size w3 (w3.alloc (.cells #[.int .i64 t] 3)) := (Below.refl _ _).alloc (Nat.le_refl _) _
      have oi4 : OwnInts (w3.alloc (.cells #[.int .i64 t] 3)) C u3 L := oi3.below a1
      have OS4 := Lib.hid (OS3.out.below a1)
      have b5 := below_past b4 a1 z3
      have z4 : C ≤ (w3.alloc (.cells #[.int .i64 t] 3)).heap.size := Nat.le_trans z3 a1.size
      have hc1 : (w3.alloc (.cells #[.int .i64 t] 3)).cell? ⟨w3.heap.size, 0, none⟩ = some (.int .i64 t) := cell_of_rowAt (rowAt_alloc_at w3 #[.int .i64 t] 3 _ rfl) 0
      have HC1 := Lib.hid hc1
      clear HNU OI OS b2 b3 oi3 OS3 k1 k2 hc1 zr
      go_wp2_with (at_builtin; refine wpList_put_int rfl _ _ rfl C u3 L rfl oi4 t ⟨w3.heap.size, 0, none⟩ 1 rfl HC1.out z4 HLI.out ?_)
      intro v' w5 o5 g5
      have OS5 : OwnStrs w5 C (.slice (some ⟨g, 0, none⟩) n cap) (ns.map nm) := own_other OS4.out oi4 (by decide) g5
      have b6 := b5.grown g5 z4 (fun k hk => (World.ownsRow.lt oi4 k hk).1)
      have z5 := Nat.le_trans z4 g5.size
      have O5 := Lib.hid o5
      rw [← HTK.out] at O5
      have OS6 := Lib.hid OS5
      clear oi4 OS4 b4 b5 z3 a1 o5 g5 OS5 z4
      go_wp2_with fail
      exact ⟨⟨i + 1, hb1, by go_num, O5.out, OS6.out, z5, b6⟩, by simp [intOf]; omega⟩
    · have hlt' : decide ((i : Int) < n) = false := decide_eq_false (by omega)
      have hlt2 : decide (i < n) = false := decide_eq_false hlt
      obtain rfl : i = n := by omega
      rw [List.take_of_length_le (Nat.le_of_eq HNN.out)] at oi
      have OI := Lib.hid oi
      clear oi os
      go_wp2_with fail
      go_ret
      exact ⟨_, rfl, OI.out, b2⟩
set_option maxRecDepth 100000 in
set_option maxHeartbeats 1000000 in
theorem jread_any (B b : Nat) (d : DDisk) (n : Nat) (w : World) (h0 : DiskAt B b d w) (hn : n < 100) (hs : (rdB d (nm n)).length ≤ 1000000) (ht : Tabs w) :
    Calls Tryz.prog 29 #[.pointer (some ⟨b, 0, none⟩), .int .i64 n] w fun e w' => ∃ v, e = .returned v ∧ OwnStrs w' w.heap.size v (allR (rdB d (nm n))).1 ∧ Below w.heap.size w w' := by
  have HN := Lib.hid (jName_any n w hn)
  have HT := Lib.hid ht
  have HD := Lib.hid h0
  obtain ⟨T, hT⟩ : ∃ T, nm n = T := ⟨_, rfl⟩
  have hTl : T.length = 14 := by rw [← hT]; exact nm_length n
  rw [hT] at HN hs ⊢
  have HR : Hid (∀ w, DiskAt B b d w → Calls Tryz.prog 36 #[.pointer (some ⟨b, 0, none⟩), .string (stx T)] w fun e w' => e = .returned (.tuple #[.string (stx (rdB d T)), .int .i64 (findE d T)]) ∧ w' = w) := Lib.hid fun w h => dRead_any B b d (stx T) w h (by rw [stx_size]; omega)
  generalize findE d T = E at *
  generalize rdB d T = R at *
  have HA : Hid (∀ w, Tabs w → Calls Tryz.prog 44 #[.string (stx R)] w (AllRet w R)) := Lib.hid fun w ht => All_any (stx R) w (by rw [stx_size]; exact hs) ht
  clear h0 ht hn hT hTl hs
  obtain ⟨C, hC⟩ : ∃ C, w.heap.size = C := ⟨_, rfl⟩
  have HC := Lib.hid hC
  go_enter Tryz.func29, Tryz.ntmps29
  go_wp2_with fail
  refine HN.out.mono ?_
  rintro e w1 ⟨rfl, b1⟩
  have HR1 := Lib.hid (HR.out _ (HD.out.kept b1))
  have HA1 := Lib.hid (HA.out _ (HT.out.below b1))
  clear HN HR HA HD
  go_wp2_with fail
  refine HR1.out.mono ?_
  rintro e w2 ⟨rfl, rfl⟩
  clear HR1
  go_wp2_with fail
  refine HA1.out.mono ?_
  rintro e w3 ⟨v, rfl, ov, b3⟩
  have OV := Lib.hid ov
  have b4 := below_past b1 b3 b1.size
  have zz := b1.size
  clear HA1 b1 b3 ov
  go_wp2_with fail
  go_ret
  exact ⟨_, rfl, own_base OV.out zz, b4⟩
end Go.Proofs.YtlhdnkfnhdkbkaaGreatDoor
namespace Go.Proofs.YtlhdnkfnhdkbkaaGreatDoor
open Go Go.RowKit
attribute [local go_sem] Oper.semAt_some

/-- A journal in block j: its disk, the number of the segment that takes texts. -/
structure JAt (B j b : Nat) (now : Nat) (w : World) : Prop where
  row : w.heap[j]? = some (.cells #[.pointer (some ⟨b, 0, none⟩), .int .i64 now] 62 (0, 0))
  low : B ≤ j
theorem jr_ne_str : 9 ≠ 62 := by decide
theorem jr_ne_int : 3 ≠ 62 := by decide
theorem jr_plain : 62 ≠ 5 ∧ 62 ≠ 60 ∧ 62 ≠ 71 := by decide
theorem JAt.kept {B j b now : Nat} {w w' : World} (h : JAt B j b now w) (k : Below w.heap.size w w') : JAt B j b now w' := ⟨(k.block j (dHeap_lt h.row)).trans h.row, h.low⟩
theorem JAt.stir {B C j b now : Nat} {w w' : World} (h : JAt B j b now w) (k : Stir C w w') : JAt B j b now w' := ⟨k.keep h.row jr_plain, h.low⟩
theorem JAt.aside {B C j b now e n : Nat} {w w' : World} {v : Value} {xs : List Value} (h : JAt B j b now w) (ho : w.ownsRow C e 1 v n xs) (he : e ≠ 62) (hg : w.grownBy w' v.ownBlock) : JAt B j b now w' :=
  ⟨(hg.block j (dHeap_lt h.row) (fun q => own_ne ho h.row he q.symm)).trans h.row, h.low⟩
theorem JAt.set {B j b now : Nat} {w : World} (h : JAt B j b now w) (m : Nat) (x : Int) (hx : x = m) : JAt B j b m (w.setCell ⟨j, 1, none⟩ (.int .i64 x)) := ⟨by subst hx; exact dHeap_put h.row _, h.low⟩
theorem own_set_aside {w : World} {B C g j e s n b now : Nat} {v u : Value} {xs : List Value} (h : w.ownsRow B e s v n xs) (hg : JAt C g b now w) (he : e ≠ 62) : (w.setCell ⟨g, j, none⟩ u).ownsRow B e s v n xs :=
  World.ownsRow.kept h (row := some g) (setCell_grown w g j u) (by
    cases hv : v.ownBlock with
    | none => exact .inl rfl
    | some k => exact .inr (hv ▸ own_ne h hg.row he))
theorem disk_set_aside {B C b g j bb now : Nat} {d : DDisk} {w : World} {u : Value} (h : DiskAt B b d w) (hg : JAt C g bb now w) : DiskAt B b d (w.setCell ⟨g, j, none⟩ u) := by
  obtain ⟨m, left, D, G, V, h⟩ := h
  obtain ⟨es, c, hm⟩ := mapBlk h.map
  have hgr := setCell_grown w g j u
  refine ⟨m, left, D, G, V, ⟨(hgr.block b (dHeap_lt h.row) (fun e => ?_)).trans h.row, h.fuse, h.map.kept hgr (fun e => ?_), h.is, h.sorted, fun f hf => (h.file f hf).kept hgr (fun e => ?_) ?_, h.apart, h.low, h.room, h.left_⟩⟩
  · obtain rfl : b = g := by simpa using e
    exact blk_ne hg.row h.row jr_plain.2.1 rfl
  · obtain rfl : m = g := by simpa using e
    exact blk_ne_map hg.row hm rfl
  · have e2 : G f.name = g := by simpa using e
    exact blk_ne hg.row (h.file f hf).row jr_plain.2.2 e2.symm
  · exact .inr (own_ne (h.file f hf).own hg.row jr_plain.1.symm)
theorem stir_set {B g j b now : Nat} {w : World} {u : Value} (hg : JAt B g b now w) : Below B w (w.setCell ⟨g, j, none⟩ u) :=
  Below.setCell (p := ⟨g, j, none⟩) (Below.refl _ _) hg.low u

/-- The number behind the last one. -/
def nowOf (ns : List Nat) : Nat := match ns.getLast? with | some n => n + 1 | none => 0
theorem nowOf_put (ns : List Nat) (n : Nat) : nowOf (ns ++ [n]) = n + 1 := by unfold nowOf; rw [List.getLast?_append]; rfl
def textsOf (d : DDisk) (ns : List Nat) : List (List UInt8) := (ns.map fun n => (allR (rdB d (nm n))).1).flatten
theorem textsOf_put (d : DDisk) (ns : List Nat) (n : Nat) : textsOf d (ns ++ [n]) = textsOf d ns ++ (allR (rdB d (nm n))).1 := by unfold textsOf; rw [List.map_append, List.flatten_append]; simp
theorem textsOf_take (d : DDisk) (ns : List Nat) (i : Nat) (h : i < ns.length) : textsOf d (ns.take (i + 1)) = textsOf d (ns.take i) ++ (allR (rdB d (nm (ns.getD i 0)))).1 ∧ nowOf (ns.take (i + 1)) = ns.getD i 0 + 1 := by
  have e : ns.take (i + 1) = ns.take i ++ [ns.getD i 0] := by
    rw [List.take_add_one, List.getElem?_eq_getElem h, List.getD_eq_getElem?_getD, List.getElem?_eq_getElem h]; rfl
  rw [e, textsOf_put, nowOf_put]
  exact ⟨rfl, rfl⟩
theorem textsOf_le (d : DDisk) (ns : List Nat) (i : Nat) : (textsOf d (ns.take i)).length ≤ (textsOf d ns).length := by
  have : textsOf d ns = textsOf d (ns.take i) ++ textsOf d (ns.drop i) := by
    unfold textsOf
    rw [← List.flatten_append, ← List.map_append, List.take_append_drop]
  rw [this, List.length_append]
  omega
theorem texts_one_le (d : DDisk) (ns : List Nat) (i : Nat) (h : i < ns.length) : ((allR (rdB d (nm (ns.getD i 0)))).1).length ≤ (textsOf d ns).length := by
  have h1 := textsOf_le d ns (i + 1)
  rw [(textsOf_take d ns i h).1, List.length_append] at h1
  omega
set_option maxRecDepth 100000 in
set_option maxHeartbeats 2000000 in
theorem jOpen_any (B b : Nat) (d : DDisk) (ns : List Nat) (w : World) (h0 : DiskAt B b d w) (hd : d.dead = false) (hn : dNames d.files = ns.map nm) (hns : ∀ n ∈ ns, n < 100) (hl : ns.length ≤ 100)
    (hr : ∀ n ∈ ns, (rdB d (nm n)).length ≤ 1000000) (hm : (textsOf d ns).length ≤ 1000000) (ht : Tabs w) :
    Calls Tryz.prog 10 #[.pointer (some ⟨b, 0, none⟩), .int .i64 0] w fun e w' => ∃ j v, e = .returned (.tuple #[.pointer (some ⟨j, 0, none⟩), v, .int .i64 0]) ∧ JAt w.heap.size j b (nowOf ns) w' ∧ OwnStrs w' w.heap.size v (textsOf d ns) ∧ Below w.heap.size w w' := by
  have hfl : d.files.length ≤ 100 := by
    have : (dNames d.files).length = (ns.map nm).length := by rw [hn]
    unfold dNames at this
    rw [List.length_map, List.length_map] at this
    omega
  have hnl : ∀ f ∈ d.files, f.name.length ≤ 281474976710656 := by
    intro f hf
    have : f.name ∈ dNames d.files := List.mem_map.2 ⟨f, hf, rfl⟩
    rw [hn] at this
    obtain ⟨x, _, e⟩ := List.mem_map.1 this
    rw [← e, nm_length]
    decide
  have hlist : listL d = ns.map nm := by unfold listL; rw [if_neg (by rw [hd]; decide), hn]
  have HDD := Lib.hid (dDead_any B b d w h0)
  rw [hd] at HDD
  obtain ⟨C, hC⟩ : ∃ C, w.heap.size = C := ⟨_, rfl⟩
  have HC := Lib.hid hC
  have HSG : Hid (∀ w, DiskAt B b d w → Calls Tryz.prog 28 #[.pointer (some ⟨b, 0, none⟩)] w fun e w' => ∃ v, e = .returned v ∧ OwnInts w' w.heap.size v (numsI ns) ∧ Below w.heap.size w w') := Lib.hid fun w h => jSegments_any B b d ns w h hlist hns hl hfl hnl
  have HRD : Hid (∀ i, i < ns.length → ∀ w, DiskAt B b d w → Tabs w → Calls Tryz.prog 29 #[.pointer (some ⟨b, 0, none⟩), .int .i64 ((ns.getD i 0 : Nat) : Int)] w fun e w' => ∃ v, e = .returned v ∧ OwnStrs w' w.heap.size v (allR (rdB d (nm (ns.getD i 0)))).1 ∧ Below w.heap.size w w') := Lib.hid fun i hi w h k => by
    have hmem : ns.getD i 0 ∈ ns := by
      rw [List.getD_eq_getElem?_getD, List.getElem?_eq_getElem hi]
      exact List.getElem_mem _
    exact jread_any B b d _ w h (hns _ hmem) (hr _ hmem) k
  have HST : Hid (∀ i, i < ns.length → (textsOf d (ns.take (i + 1)) = textsOf d (ns.take i) ++ (allR (rdB d (nm (ns.getD i 0)))).1 ∧ nowOf (ns.take (i + 1)) = ns.getD i 0 + 1) ∧ (textsOf d (ns.take i)).length ≤ 1000000 ∧ ((allR (rdB d (nm (ns.getD i 0)))).1).length ≤ 1000000 ∧ ns.getD i 0 < 100) := Lib.hid fun i hi => ⟨textsOf_take d ns i hi, Nat.le_trans (textsOf_le d ns i) hm, Nat.le_trans (texts_one_le d ns i hi) hm, by
    rw [List.getD_eq_getElem?_getD, List.getElem?_eq_getElem hi]
    exact hns _ (List.getElem_mem _)⟩
  obtain ⟨n, hnn⟩ : ∃ n, ns.length = n := ⟨_, rfl⟩
  have HNN := Lib.hid hnn
  have HNL := Lib.hid (numsI_len ns)
  have HGET : Hid (∀ i, i < n → (intCells (numsI ns))[i]? = some (.int .i64 ((ns.getD i 0 : Nat) : Int))) := Lib.hid fun i hi => by
    unfold intCells numsI
    rw [List.getElem?_map, List.getElem?_map, List.getElem?_eq_getElem (by rw [hnn]; exact hi), List.getD_eq_getElem?_getD, List.getElem?_eq_getElem (by rw [hnn]; exact hi)]
    rfl
  have HT := Lib.hid ht
  have HDK := Lib.hid h0
  rw [hnn] at hl HST HRD HNL
  have hli : (n : Int) ≤ 100 := by omega
  clear h0 hd hn hns hr hm ht hfl hnl hlist hnn
  rw [hC]
  have a0 : Below w.heap.size w (w.alloc (.cells #[.pointer (some ⟨b, 0, none⟩), .int .i64 0] 62)) := (Below.refl _ _).alloc (Nat.le_refl _) _
  have j0 : JAt C C b 0 (w.alloc (.cells #[.pointer (some ⟨b, 0, none⟩), .int .i64 0] 62)) := ⟨by rw [← hC]; exact heap_alloc_new w _, Nat.le_refl _⟩
  rw [hC] at a0
  have z0 : C ≤ (w.alloc (.cells #[.pointer (some ⟨b, 0, none⟩), .int .i64 0] 62)).heap.size := by rw [World.size_alloc, hC]; exact Nat.le_succ _
  have DK0 := Lib.hid (HDK.out.kept ((Below.refl _ _).alloc (Nat.le_refl _) (.cells #[.pointer (some ⟨b, 0, none⟩), .int .i64 0] 62)))
  go_enter Tryz.func10, Tryz.ntmps10
  go_wp2_with fail
  refine HDD.out.mono ?_
  rintro e w1 ⟨rfl, rfl⟩
  clear HDD
  go_wp2_with fail
  generalize (w1.alloc (.cells #[.pointer (some ⟨b, 0, none⟩), .int .i64 0] 62)) = W1 at *
  have HS1 := Lib.hid (HSG.out _ DK0.out)
  clear HSG hC
  refine HS1.out.mono ?_
  rintro e w2 ⟨v, rfl, ov, b2⟩
  obtain ⟨ao, cap, hv⟩ := own_shape ov
  rw [HNL.out] at hv
  subst hv
  have ov2 := own_base ov z0
  have j2 := j0.kept b2
  have b3 := below_past a0 b2 z0
  have z2 : C ≤ w2.heap.size := Nat.le_trans z0 b2.size
  have ot : OwnStrs w2 C (.slice none 0 0) (textsOf d (ns.take 0)) := World.ownsRow_nil _ _ _ _
  clear HS1 ov b2 a0 z0 j0 DK0
  go_wp2_with fail
  go_loopw [8, 26] (fun u x wr => ∃ i : Nat, i ≤ n ∧ x = .int .i64 i ∧ OwnStrs wr C u (textsOf d (ns.take i)) ∧ wr.ownsRow C 3 1 (.slice ao n cap) (numsI ns).length (intCells (numsI ns)) ∧ JAt C C b (nowOf (ns.take i)) wr ∧ C ≤ wr.heap.size ∧ Below C w1 wr) (fun _ x _ => (n - intOf x).toNat)
  case atStart => exact ⟨0, Nat.zero_le _, rfl, ot, ov2, j2, z2, b3⟩
  case round =>
    obtain ⟨i, hi, rfl, os, oi, ja, zr, bb⟩ := hrel
    clear ot ov2 j2 b3 z2
    by_cases hlt : i < n
    · have hlt' : (i : Int) < n := by omega
      have o2 := oi
      rw [HNL.out] at o2
      obtain ⟨g, rfl, k1, k2⟩ := own_cell o2 i hlt
      rw [HGET.out i hlt] at k1
      obtain ⟨⟨s1, s2⟩, s3, s4, s5⟩ := HST.out i hlt
      have HR1 := Lib.hid (HRD.out i hlt wr (HDK.out.kept (by rw [HC.out]; exact bb)) (HT.out.below (by rw [HC.out]; exact bb)))
      have S1 := Lib.hid s1
      have S2 := Lib.hid s2
      have S3 := Lib.hid s3
      have S4 := Lib.hid s4
      generalize (allR (rdB d (nm (ns.getD i 0)))).1 = T at *
      generalize textsOf d (ns.take i) = L at *
      generalize nowOf (ns.take i) = q at *
      generalize ns.getD i 0 = t at *
      have ht1 : (t : Int) < 100 := by omega
      have ht0 : decide ((t : Int) < 0) = false := decide_eq_false (by omega)
      have OS := Lib.hid os
      have OI := Lib.hid oi
      have JA := Lib.hid ja
      have hb1 : i + 1 ≤ n := hlt
      clear os oi o2 ja s1 s2 s3 s4 s5
      go_wp2_with fail
      refine HR1.out.mono ?_
      rintro e w3 ⟨uv, rfl, ou, b3⟩
      have os3 := OS.out.below b3
      have OI3 := Lib.hid (OwnInts.below (ts := numsI ns) OI.out b3)
      have JA3 := Lib.hid (JA.out.kept b3)
      have b4 := below_past bb b3 zr
      have z3 : C ≤ w3.heap.size := Nat.le_trans zr b3.size
      clear HR1 OS OI JA b3 bb k1 k2 zr
      go_wp2_with (at_builtin; refine wpList_put_rows rfl _ _ rfl C _ u8 uv L T rfl os3 rfl ou z3 S3.out S4.out ?_)
      intro v' w4 o4 g4
      have ja4 := JA3.out.aside os3 jr_ne_str g4
      have oi4 : w4.ownsRow C 3 1 (.slice (some ⟨g, 0, none⟩) n cap) (numsI ns).length (intCells (numsI ns)) := own_other OI3.out os3 (by decide) g4
      have b5 := b4.grown g4 z3 (fun k hk => (World.ownsRow.lt os3 k hk).1)
      have z4 := Nat.le_trans z3 g4.size
      rw [← S1.out] at o4
      have c1 : w4.cell? ⟨C, 1, none⟩ = some (.int .i64 q) := (Lib.cell_of_heap ja4.row 1).trans rfl
      have f1 := Lib.frozen_of_heap ja4.row 1
      have ja5 := ja4.set (nowOf (ns.take (i + 1))) ((t : Int) + 1) (by rw [S2.out]; rfl)
      have o5 : OwnStrs (w4.setCell ⟨C, 1, none⟩ (.int .i64 ((t : Int) + 1))) C v' _ := own_set_aside (j := 1) (u := .int .i64 (t + 1 : Nat)) o4 ja4 jr_ne_str
      have oi5 := own_set_aside (j := 1) (u := .int .i64 (t + 1 : Nat)) oi4 ja4 jr_ne_int
      have b6 := Below.setCell (p := ⟨C, 1, none⟩) b5 (Nat.le_refl C) (.int .i64 ((t : Int) + 1))
      have z5 : C ≤ (w4.setCell ⟨C, 1, none⟩ (.int .i64 ((t : Int) + 1))).heap.size := by simpa [World.setCell] using z4
      have JA5 := Lib.hid ja5
      have O5 := Lib.hid o5
      have OI5 := Lib.hid oi5
      clear os3 ou JA3 OI3 b4 z3 o4 g4 ja4 oi4 b5 ja5 o5 oi5 z4
      go_wp2_with fail
      exact ⟨⟨i + 1, hb1, by go_num, O5.out, OI5.out, JA5.out, z5, b6⟩, by simp [intOf]; omega⟩
    · have hlt' : decide ((i : Int) < n) = false := decide_eq_false (by omega)
      have hlt2 : decide (i < n) = false := decide_eq_false hlt
      obtain rfl : i = n := by omega
      rw [List.take_of_length_le (Nat.le_of_eq HNN.out)] at os ja
      have OS := Lib.hid os
      have JA := Lib.hid ja
      clear os oi ja
      go_wp2_with fail
      go_ret3
      exact ⟨C, _, rfl, JA.out, OS.out, bb⟩
end Go.Proofs.YtlhdnkfnhdkbkaaGreatDoor
namespace Go.Proofs.YtlhdnkfnhdkbkaaGreatDoor
open Go Go.RowKit
attribute [local go_sem] Oper.semAt_some

def addE (d : DDisk) (n s : List UInt8) : Int := if aE d n (frame s) = 0 then sE (aD d n (frame s)) n else aE d n (frame s)
def addD (d : DDisk) (n s : List UInt8) : DDisk := if aE d n (frame s) = 0 then sD (aD d n (frame s)) n else aD d n (frame s)
set_option maxRecDepth 100000 in
set_option maxHeartbeats 1000000 in
theorem jAdd_any (B C j b now : Nat) (d : DDisk) (s : ByteArray) (w : World) (hj : JAt B j b now w) (h0 : DiskAt C b d w) (hn : now < 100) (hs : s.size ≤ 65536) (hu : dUsed d.files + s.size + 8 ≤ 1000000000000) (ht : Tabs w) :
    Calls Tryz.prog 13 #[.pointer (some ⟨j, 0, none⟩), .string s] w fun e w' => e = .returned (.int .i64 (addE d (nm now) s.data.toList)) ∧ DiskAt C b (addD d (nm now) s.data.toList) w' ∧ Stir C w w' := by
  have HW := Lib.hid (Wrap_any s w hs ht)
  have HN := Lib.hid (fun w => jName_any now w hn)
  obtain ⟨F, hF⟩ : ∃ F, frame s.data.toList = F := ⟨_, rfl⟩
  have hFl : F.length = 8 + s.size := by rw [← hF]; exact frame_length _
  obtain ⟨T, hT⟩ : ∃ T, nm now = T := ⟨_, rfl⟩
  have hTl : T.length = 14 := by rw [← hT]; exact nm_length now
  unfold addE addD
  rw [hF, hT]
  rw [hF] at HW
  rw [hT] at HN
  have HA : Hid (∀ w, DiskAt C b d w → Calls Tryz.prog 31 #[.pointer (some ⟨b, 0, none⟩), .string (stx T), .string (stx F)] w fun e w' => e = .returned (.int .i64 (aE d T F)) ∧ DiskAt C b (aD d T F) w' ∧ Stir C w w') := Lib.hid fun w h =>
    dAppend_any C b d (stx T) (stx F) w h (by rw [stx_size]; omega) (by rw [stx_size]; omega)
  have HY : Hid (∀ w, DiskAt C b (aD d T F) w → Calls Tryz.prog 32 #[.pointer (some ⟨b, 0, none⟩), .string (stx T)] w fun e w' => e = .returned (.int .i64 (sE (aD d T F) T)) ∧ DiskAt C b (sD (aD d T F) T) w' ∧ Stir C w w') := Lib.hid fun w h =>
    dSync_any C b (aD d T F) (stx T) w h (by rw [stx_size]; omega)
  generalize sE (aD d T F) T = E2 at *
  generalize sD (aD d T F) T = D2 at *
  generalize aE d T F = E1 at *
  generalize aD d T F = D1 at *
  obtain ⟨RE, hRE⟩ : ∃ RE, (if E1 = 0 then E2 else E1) = RE := ⟨_, rfl⟩
  obtain ⟨RD, hRD⟩ : ∃ RD, (if E1 = 0 then D2 else D1) = RD := ⟨_, rfl⟩
  rw [hRE, hRD]
  have HRE := Lib.hid hRE
  have HRD := Lib.hid hRD
  clear hRE hRD
  have HD := Lib.hid h0
  have HJ := Lib.hid hj
  have c0 : w.cell? ⟨j, 0, none⟩ = some (.pointer (some ⟨b, 0, none⟩)) := (Lib.cell_of_heap hj.row 0).trans rfl
  have c1 : w.cell? ⟨j, 1, none⟩ = some (.int .i64 now) := (Lib.cell_of_heap hj.row 1).trans rfl
  have hCw : C ≤ w.heap.size := by have := h0.low; omega
  clear h0 hj hn hs hu ht hF hFl hT hTl c0 c1
  go_enter Tryz.func13, Tryz.ntmps13
  go_wp2_with fail
  refine HW.out.mono ?_
  rintro e w1 ⟨rfl, b1⟩
  have j1 := HJ.out.kept b1
  have D1' := Lib.hid (HD.out.kept b1)
  have c1 : w1.cell? ⟨j, 1, none⟩ = some (.int .i64 now) := (Lib.cell_of_heap j1.row 1).trans rfl
  have HN1 := Lib.hid (HN.out w1)
  have J1 := Lib.hid j1
  have S1 := Lib.hid (Below.stir b1 hCw)
  have z1 := Nat.le_trans hCw b1.size
  clear HW HD HJ b1 HN j1
  go_wp2_with fail
  refine HN1.out.mono ?_
  rintro e w2 ⟨rfl, b2⟩
  have j2 := J1.out.kept b2
  have c0 : w2.cell? ⟨j, 0, none⟩ = some (.pointer (some ⟨b, 0, none⟩)) := (Lib.cell_of_heap j2.row 0).trans rfl
  have HA2 := Lib.hid (HA.out w2 (D1'.out.kept b2))
  have J2 := Lib.hid j2
  have S2 := Lib.hid (S1.out.trans (Below.stir b2 z1))
  clear HN1 J1 b2 D1' HA S1 j2 c1
  go_wp2_with fail
  refine HA2.out.mono ?_
  rintro e w3 ⟨rfl, d3, s3⟩
  have j3 := J2.out.stir s3
  have S3 := Lib.hid (S2.out.trans s3)
  have D3 := Lib.hid d3
  have J3 := Lib.hid j3
  have HY3 := Lib.hid (HY.out w3 d3)
  have c0 : w3.cell? ⟨j, 0, none⟩ = some (.pointer (some ⟨b, 0, none⟩)) := (Lib.cell_of_heap j3.row 0).trans rfl
  clear HA2 J2 S2 HY d3 j3 s3
  by_cases hE : E1 = 0
  · have q : (E1 != 0) = false := by simpa using hE
    have hre : E2 = RE := by rw [← HRE.out, if_pos hE]
    have hrd : D2 = RD := by rw [← HRD.out, if_pos hE]
    subst hre hrd
    clear hE HRE HRD
    go_wp2_with fail
    refine HY3.out.mono ?_
    rintro e w4 ⟨rfl, d4, s4⟩
    have S4 := Lib.hid (S3.out.trans s4)
    have D4 := Lib.hid d4
    clear HY3 d4 s4
    go_wp2_with fail
    go_ret
    exact ⟨rfl, D4.out, S4.out⟩
  · have q : (E1 != 0) = true := by simpa using hE
    have hre : E1 = RE := by rw [← HRE.out, if_neg hE]
    have hrd : D1 = RD := by rw [← HRD.out, if_neg hE]
    subst hre hrd
    clear hE HRE HRD
    go_wp2_with fail
    go_ret
    exact ⟨rfl, D3.out, S3.out⟩
theorem jNow_any (B j b now : Nat) (w : World) (hj : JAt B j b now w) : Calls Tryz.prog 21 #[.pointer (some ⟨j, 0, none⟩)] w fun e w' => e = .returned (.int .i64 now) ∧ w' = w := by
  have c1 : w.cell? ⟨j, 1, none⟩ = some (.int .i64 now) := (Lib.cell_of_heap hj.row 1).trans rfl
  clear hj
  go_enter Tryz.func21, Tryz.ntmps21
  go_wp2_with fail
  go_ret
  exact ⟨rfl, rfl⟩
theorem jTurn_any (B j b now : Nat) (w : World) (hj : JAt B j b now w) (hn : now < 100) : Calls Tryz.prog 14 #[.pointer (some ⟨j, 0, none⟩)] w fun e w' => e = .returned (.int .i64 ((now : Int) + 1)) ∧ w' = w.setCell ⟨j, 1, none⟩ (.int .i64 ((now : Int) + 1)) := by
  have c1 : w.cell? ⟨j, 1, none⟩ = some (.int .i64 now) := (Lib.cell_of_heap hj.row 1).trans rfl
  have f1 := Lib.frozen_of_heap hj.row 1
  have j2 := hj.set (now + 1) ((now : Int) + 1) rfl
  have c2 : (w.setCell ⟨j, 1, none⟩ (.int .i64 ((now : Int) + 1))).cell? ⟨j, 1, none⟩ = some (.int .i64 ((now : Int) + 1)) := (Lib.cell_of_heap j2.row 1).trans rfl
  have hni : (now : Int) < 100 := by omega
  clear hj j2 hn
  go_enter Tryz.func14, Tryz.ntmps14
  go_wp2_with fail
  go_ret
  exact ⟨rfl, rfl⟩
end Go.Proofs.YtlhdnkfnhdkbkaaGreatDoor
namespace Go.Proofs.YtlhdnkfnhdkbkaaGreatDoor
open Go

/-- One bit goes out. -/
def out1 (x : Nat) : Nat := if x % 2 = 1 then x / 2 ^^^ 3988292384 else x / 2
def outN : Nat → Nat → Nat
  | 0, x => x
  | k + 1, x => out1 (outN k x)
theorem xor_mod2 (x y : Nat) : (x ^^^ y) % 2 = (x % 2 + y % 2) % 2 := by
  have h := Nat.testBit_xor (x := x) (y := y) (i := 0)
  simp only [Nat.testBit_zero] at h
  have hx := Nat.mod_two_eq_zero_or_one x
  have hy := Nat.mod_two_eq_zero_or_one y
  have hz := Nat.mod_two_eq_zero_or_one (x ^^^ y)
  rcases hx with hx | hx <;> rcases hy with hy | hy <;> rcases hz with hz | hz <;> simp_all
theorem out1_xor (x y : Nat) : out1 (x ^^^ y) = out1 x ^^^ out1 y := by
  unfold out1
  rw [Nat.xor_div_two, xor_mod2]
  have hx := Nat.mod_two_eq_zero_or_one x
  have hy := Nat.mod_two_eq_zero_or_one y
  rcases hx with hx | hx <;> rcases hy with hy | hy
  · rw [if_neg (by omega), if_neg (by omega), if_neg (by omega)]
  · rw [if_pos (by omega), if_neg (by omega), if_pos (by omega), Nat.xor_assoc]
  · rw [if_pos (by omega), if_pos (by omega), if_neg (by omega), Nat.xor_assoc, Nat.xor_assoc, Nat.xor_comm (y / 2)]
  · rw [if_neg (by omega), if_pos (by omega), if_pos (by omega), Nat.xor_assoc, ← Nat.xor_assoc 3988292384, Nat.xor_comm 3988292384, Nat.xor_assoc (y / 2), Nat.xor_self, Nat.xor_zero]
theorem outN_xor (k x y : Nat) : outN k (x ^^^ y) = outN k x ^^^ outN k y := by
  induction k with
  | zero => rfl
  | succ k ih => rw [outN, outN, outN, ih, out1_xor]
theorem outN_add (k j x : Nat) : outN (k + j) x = outN k (outN j x) := by
  induction k with
  | zero => rw [Nat.zero_add]; rfl
  | succ k ih => rw [show k + 1 + j = (k + j) + 1 by omega, outN, outN, ih]
theorem out1_twice (z : Nat) : out1 (2 * z) = z := by
  rw [out1, if_neg (by omega)]
  omega
theorem outN_pow (k z : Nat) : outN k (2 ^ k * z) = z := by
  induction k generalizing z with
  | zero => show 1 * z = z; omega
  | succ k ih =>
    rw [outN, show 2 ^ (k + 1) * z = 2 ^ k * (2 * z) by rw [Nat.pow_succ, Nat.mul_assoc], ih, out1_twice]
theorem out1_lt (x : Nat) (h : x < 4294967296) : out1 x < 4294967296 := by
  unfold out1
  split
  · exact Nat.xor_lt_two_pow (n := 32) (by omega) (by decide)
  · omega
theorem outN_lt (k x : Nat) (h : x < 4294967296) : outN k x < 4294967296 := by
  induction k with
  | zero => exact h
  | succ k ih => exact out1_lt _ ih
theorem xor_cancel {a b c : Nat} (h : a ^^^ c = b ^^^ c) : a = b := by
  have := congrArg (· ^^^ c) h
  simpa [Nat.xor_assoc] using this
theorem high_bit (x : Nat) (h : x < 2147483648) : 2147483648 ≤ x ^^^ 3988292384 := by
  have h1 : (x ^^^ 3988292384).testBit 31 = true := by
    rw [Nat.testBit_xor, Nat.testBit_lt_two_pow (show x < 2 ^ 31 from h)]
    decide +kernel
  exact Nat.ge_two_pow_of_testBit h1
theorem out1_inj {x y : Nat} (hx : x < 4294967296) (hy : y < 4294967296) (h : out1 x = out1 y) : x = y := by
  unfold out1 at h
  rcases Nat.mod_two_eq_zero_or_one x with ex | ex <;> rcases Nat.mod_two_eq_zero_or_one y with ey | ey
  · rw [if_neg (by omega), if_neg (by omega)] at h
    omega
  · rw [if_neg (by omega), if_pos ey] at h
    have := high_bit (y / 2) (by omega)
    omega
  · rw [if_pos ex, if_neg (by omega)] at h
    have := high_bit (x / 2) (by omega)
    omega
  · rw [if_pos ex, if_pos ey] at h
    have := xor_cancel h
    omega
theorem outN_inj {k x y : Nat} (hx : x < 4294967296) (hy : y < 4294967296) (h : outN k x = outN k y) : x = y := by
  induction k with
  | zero => exact h
  | succ k ih => exact ih (out1_inj (outN_lt k x hx) (outN_lt k y hy) h)
theorem tabs_out : ∀ o : Fin 256, outN 8 o.val = lowT (o.val % 16) ^^^ highT (o.val / 16) := by decide +kernel
theorem split_xor (a b : Nat) (h : b < 256) : 256 * a ^^^ b = 256 * a + b := by
  have h1 := Nat.shiftLeft_add_eq_or_of_lt (i := 8) h a
  rw [Nat.shiftLeft_eq, Nat.mul_comm] at h1
  rw [show (256 : Nat) = 2 ^ 8 from rfl, h1]
  apply Nat.eq_of_testBit_eq
  intro i
  rw [Nat.testBit_xor, Nat.testBit_or, Nat.testBit_two_pow_mul]
  by_cases hi : 8 ≤ i
  · rw [Nat.testBit_lt_two_pow (show b < 2 ^ i from Nat.lt_of_lt_of_le (show b < 2 ^ 8 from h) (Nat.pow_le_pow_right (show 0 < 2 by decide) hi))]
    simp
  · simp [hi]
/-- A byte goes in bit by bit as by the tables. -/
theorem stepC_out (c : Nat) (b : UInt8) : stepC c b = outN 8 (c ^^^ b.toNat) := by
  have hb := b.toNat_lt
  have ho := outB_lt c b
  have e : c ^^^ b.toNat = 256 * (c / 256) ^^^ outB c b := by
    rw [outB, ← Nat.xor_assoc, split_xor (c / 256) (c % 256) (Nat.mod_lt c (by decide))]
    congr 1
    omega
  rw [e, outN_xor, outN_pow 8 (c / 256), tabs_out ⟨outB c b, ho⟩, stepC, Nat.xor_assoc]
def refB (c b : Nat) : Nat → Nat
  | 0 => c
  | k + 1 => if (refB c b k ^^^ b / 2 ^ k) % 2 = 1 then refB c b k / 2 ^^^ 3988292384 else refB c b k / 2
theorem refB_out (c b k : Nat) : refB c b k = outN k (c ^^^ b) ^^^ b / 2 ^ k := by
  induction k with
  | zero =>
    show c = c ^^^ b ^^^ b / 1
    rw [Nat.div_one, Nat.xor_assoc, Nat.xor_self, Nat.xor_zero]
  | succ k ih =>
    have e1 : refB c b k ^^^ b / 2 ^ k = outN k (c ^^^ b) := by rw [ih, Nat.xor_assoc, Nat.xor_self, Nat.xor_zero]
    have e2 : refB c b k / 2 = outN k (c ^^^ b) / 2 ^^^ b / 2 ^ (k + 1) := by rw [ih, Nat.xor_div_two, Nat.div_div_eq_div_mul, ← Nat.pow_succ]
    rw [refB, e1, e2, outN, out1]
    split
    · rw [Nat.xor_assoc, Nat.xor_comm (b / 2 ^ (k + 1)), ← Nat.xor_assoc]
    · rfl
theorem refB_step (c : Nat) (b : UInt8) : refB c b.toNat 8 = stepC c b := by
  have hb := b.toNat_lt
  rw [refB_out, stepC_out, show b.toNat / 2 ^ 8 = 0 by omega, Nat.xor_zero]
theorem refB_lt (c b : Nat) (h : c < 4294967296) (k : Nat) : refB c b k < 4294967296 := by
  induction k with
  | zero => exact h
  | succ k ih =>
    rw [refB]
    split
    · exact Nat.xor_lt_two_pow (n := 32) (by omega) (by decide)
    · omega

/-- The sum of unlike bytes behind like ones is unlike. -/
theorem stepC_inj {c d : Nat} (b : UInt8) (hc : c < 4294967296) (hd : d < 4294967296) (h : stepC c b = stepC d b) : c = d := by
  have hb := b.toNat_lt
  rw [stepC_out, stepC_out] at h
  have := outN_inj (Nat.xor_lt_two_pow (n := 32) (by omega) (by omega)) (Nat.xor_lt_two_pow (n := 32) (by omega) (by omega)) h
  exact xor_cancel this
theorem crcF_inj {c d : Nat} (l : List UInt8) (hc : c < 4294967296) (hd : d < 4294967296) (h : crcF c l = crcF d l) : c = d := by
  induction l generalizing c d with
  | nil => exact h
  | cons b l ih => exact stepC_inj b hc hd (ih (stepC_lt c b hc) (stepC_lt d b hd) h)
/-- A few bytes as a number, the lowest first. -/
def leV : List UInt8 → Nat
  | [] => 0
  | b :: l => b.toNat + 256 * leV l
theorem leV_lt (l : List UInt8) : leV l < 256 ^ l.length := by
  induction l with
  | nil => decide
  | cons b l ih =>
    have := b.toNat_lt
    rw [leV, List.length_cons, Nat.pow_succ]
    omega
theorem leV_inj : ∀ (l m : List UInt8), l.length = m.length → leV l = leV m → l = m
  | [], [], _, _ => rfl
  | a :: l, b :: m, hl, h => by
    have ha := a.toNat_lt
    have hb := b.toNat_lt
    rw [leV, leV] at h
    have h1 : a = b := UInt8.toNat_inj.1 (by omega)
    have h2 := leV_inj l m (by simpa using hl) (by omega)
    rw [h1, h2]
theorem crcF_le (c : Nat) (l : List UInt8) : crcF c l = outN (8 * l.length) (c ^^^ leV l) := by
  induction l generalizing c with
  | nil => rw [leV, Nat.xor_zero]; rfl
  | cons b l ih =>
    have hb := b.toNat_lt
    rw [show crcF c (b :: l) = crcF (stepC c b) l from rfl, ih, List.length_cons, show 8 * (l.length + 1) = 8 * l.length + 8 by omega, outN_add, stepC_out]
    congr 1
    have : b.toNat + 256 * leV l = b.toNat ^^^ 2 ^ 8 * leV l := by
      rw [Nat.xor_comm, show (2 : Nat) ^ 8 = 256 from rfl, split_xor _ _ hb]
      omega
    rw [leV, this, ← Nat.xor_assoc, outN_xor 8 (c ^^^ b.toNat), outN_pow 8]
theorem crcF_few {c : Nat} (l m : List UInt8) (hc : c < 4294967296) (hl : l.length = m.length) (h4 : l.length ≤ 4) (h : crcF c l = crcF c m) : l = m := by
  rw [crcF_le, crcF_le, ← hl] at h
  have p : 256 ^ l.length ≤ 256 ^ 4 := Nat.pow_le_pow_right (by decide) h4
  have h1 := leV_lt l
  have h2 := leV_lt m
  rw [← hl] at h2
  have := outN_inj (Nat.xor_lt_two_pow (n := 32) hc (by omega)) (Nat.xor_lt_two_pow (n := 32) hc (by omega)) h
  rw [Nat.xor_comm c, Nat.xor_comm c] at this
  exact leV_inj l m hl (xor_cancel this)
/-- Texts that are unlike in at most four bytes one behind the other have unlike sums. -/
theorem crc_few (a x y b : List UInt8) (hl : x.length = y.length) (h4 : x.length ≤ 4) (h : crc (a ++ x ++ b) = crc (a ++ y ++ b)) : x = y := by
  unfold crc at h
  have l1 := crcF_lt 4294967295 (a ++ x ++ b) (by decide)
  have l2 := crcF_lt 4294967295 (a ++ y ++ b) (by decide)
  have h2 : crcF 4294967295 (a ++ x ++ b) = crcF 4294967295 (a ++ y ++ b) := by omega
  rw [crcF_append, crcF_append, crcF_append, crcF_append] at h2
  have la := crcF_lt 4294967295 a (by decide)
  have := crcF_inj b (crcF_lt _ x la) (crcF_lt _ y la) h2
  exact crcF_few x y la hl h4 this
end Go.Proofs.YtlhdnkfnhdkbkaaGreatDoor
namespace Go.Proofs.YtlhdnkfnhdkbkaaGreatDoor
open Go Go.RowKit

theorem aw4_f : frame [] = [94, 0, 0, 0] ++ (be4 (crc [94, 0, 0, 0]) ++ []) := rfl
theorem aw4_all : allR (frame [] ++ frame [] ++ [120]) = ([[], []], 16) := by decide +kernel
theorem aw4_crc : crc [49, 50, 51, 52, 53, 54, 55, 56, 57] = 3421780262 := by decide +kernel
end Go.Proofs.YtlhdnkfnhdkbkaaGreatDoor
namespace Go.Proofs.YtlhdnkfnhdkbkaaGreatDoor
open Go Go.RowKit

set_option maxRecDepth 100000 in
theorem four_any (n : Nat) (w : World) (hn : n < 4294967296) :
    Calls Tryz.prog 72 #[.int .u32 n] w fun e w' => e = .returned (.string (stx (be4 n))) ∧ Below w.heap.size w w' := by
  have hc := cells_be4 n w
  have b0 : Below w.heap.size w (w.alloc (.cells #[.int .u8 ((n : Int) / 16777216), .int .u8 ((n : Int) / 65536 % 256), .int .u8 ((n : Int) / 256 % 256), .int .u8 ((n : Int) % 256)] 5)) := (Below.refl _ _).alloc (Nat.le_refl _) _
  go_enter Tryz.func72, Tryz.ntmps72
  go_wp2_with fail
  try rw [hc hn]
  try simp only [Result.andThen]
  try rw [Oper.upon_value]
  go_wp2_with fail
  go_ret
  exact ⟨rfl, b0⟩

theorem refB_bit (c b k : Nat) (hc : c < 4294967296) (hb : b < 256) : bits .and .u32 (bits .xor .u32 (c : Int) ((b / 2 ^ k : Nat) : Int)) 1 = (((c ^^^ b / 2 ^ k) % 2 : Nat) : Int) := by
  have hd : b / 2 ^ k < 4294967296 := Nat.lt_of_le_of_lt (Nat.div_le_self _ _) (by omega)
  rw [u32_xor_nat _ _ hc hd]
  have h := u32_and_nat (c ^^^ b / 2 ^ k) 1 (Nat.xor_lt_two_pow (n := 32) hc hd) (by decide)
  rw [show ((1 : Nat) : Int) = 1 from rfl] at h
  rw [h, Nat.and_one_is_mod]
set_option maxRecDepth 100000 in
set_option maxHeartbeats 1000000 in
theorem r4Check_any (s : ByteArray) (w : World) (hs : s.size ≤ 1000000) :
    Calls Tryz.prog 73 #[.string s] w fun e w' => e = .returned (.int .u32 (crc s.data.toList)) ∧ w' = w := by
  have hs' : (s.size : Int) ≤ 1000000 := by omega
  clear hs
  go_enter Tryz.func73, Tryz.ntmps73
  go_wp2_with fail
  go_loop [3, 4] (fun x t => ∃ i : Nat, i ≤ s.size ∧ t = .int .i64 i ∧ Hid (x = .int .u32 (crcF 4294967295 (s.data.toList.take i)))) (fun _ t => (s.size - intOf t).toNat)
  case atStart => exact ⟨0, Nat.zero_le _, rfl, Lib.hid rfl⟩
  case round =>
    obtain ⟨i, hi, rfl, HX⟩ := hrel
    obtain ⟨n, hn⟩ : ∃ n, crcF 4294967295 (s.data.toList.take i) = n := ⟨_, rfl⟩
    have hx := HX.out
    rw [hn] at hx
    subst hx
    have hn32 : n < 4294967296 := by rw [← hn]; exact crcF_lt _ _ (by decide)
    by_cases hlt : i < s.size
    · have hlt' : (i : Int) < s.size := by omega
      have hat := atB_get s i hlt
      obtain ⟨y, hy⟩ : ∃ y, atB s i = y := ⟨_, rfl⟩
      rw [hy] at hat
      have hyb := y.toNat_lt
      have HS : Hid (crcF 4294967295 (s.data.toList.take (i + 1)) = refB n y.toNat 8) := Lib.hid (by
        have hl : i < s.data.toList.length := hlt
        have hy2 : s.data.toList[i] = y := by
          rw [← hy, atB, List.getD_eq_getElem?_getD, List.getElem?_eq_getElem hl]
          rfl
        rw [List.take_succ_eq_append_getElem hl, crcF_put, hn, hy2, refB_step])
      clear hn hy HX
      go_wp2_with fail
      go_loop [3, 5] (fun x t => ∃ k : Nat, k ≤ 8 ∧ t = .int .i64 k ∧ Hid (x = .int .u32 (refB n y.toNat k))) (fun _ t => (8 - intOf t).toNat)
      case atStart => exact ⟨0, Nat.zero_le _, rfl, Lib.hid rfl⟩
      case round =>
        obtain ⟨k, hk, rfl, HY⟩ := hrel
        obtain ⟨c, hc⟩ : ∃ c, refB n y.toNat k = c := ⟨_, rfl⟩
        have hx := HY.out
        rw [hc] at hx
        subst hx
        have hc32 : c < 4294967296 := by rw [← hc]; exact refB_lt _ _ hn32 k
        by_cases hlt3 : k < 8
        · have hlt3' : (k : Int) < 8 := by omega
          have hdv : (y.toNat : Int) / 2 ^ k = ((y.toNat / 2 ^ k : Nat) : Int) := by
            rw [Int.natCast_ediv, Int.natCast_pow]
            rfl
          have hand := refB_bit c y.toNat k hc32 hyb
          rw [← hdv] at hand
          have hxp : bits .xor .u32 ((c : Int) / 2) 3988292384 = ((c / 2 ^^^ 3988292384 : Nat) : Int) := by
            have h := u32_xor_nat (c / 2) 3988292384 (by omega) (by decide)
            rw [show ((3988292384 : Nat) : Int) = 3988292384 from rfl, show ((c / 2 : Nat) : Int) = (c : Int) / 2 by omega] at h
            exact h
          rcases Nat.mod_two_eq_zero_or_one (c ^^^ y.toNat / 2 ^ k) with hm | hm
          · rw [hm, show ((0 : Nat) : Int) = 0 from rfl] at hand
            have HS2 : Hid (refB n y.toNat (k + 1) = c / 2) := Lib.hid (by rw [refB, hc, if_neg (by omega)])
            clear hm hdv hxp hc HY
            go_wp2_with fail
            exact ⟨⟨k + 1, hlt3, by go_num, Lib.hid (by rw [HS2.out]; rfl)⟩, by simp [intOf]; omega⟩
          · rw [hm, show ((1 : Nat) : Int) = 1 from rfl] at hand
            have HS2 : Hid (refB n y.toNat (k + 1) = c / 2 ^^^ 3988292384) := Lib.hid (by rw [refB, hc, if_pos hm])
            clear hm hdv hc HY
            generalize c / 2 ^^^ 3988292384 = d at *
            go_wp2_with fail
            exact ⟨⟨k + 1, hlt3, by go_num, Lib.hid (by rw [HS2.out])⟩, by simp [intOf]; omega⟩
        · obtain rfl : k = 8 := by omega
          have HS3 : Hid (crcF 4294967295 (s.data.toList.take (i + 1)) = c) := Lib.hid (by rw [HS.out, hc])
          clear hc HY
          go_wp2_with fail
          exact ⟨⟨i + 1, hlt, by go_num, Lib.hid (by rw [HS3.out])⟩, by simp [intOf]; omega⟩
    · obtain rfl : i = s.size := by omega
      have HN : Hid (crc s.data.toList = 4294967295 - n) := Lib.hid (by rw [crc, ← hn, List.take_of_length_le (show s.data.toList.length ≤ s.size from Nat.le_refl _)])
      clear hn HX
      go_wp2_with fail
      go_ret
      exact ⟨by rw [HN.out, show ((4294967295 - n : Nat) : Int) = 4294967295 - (n : Int) by omega]; rfl, rfl⟩

theorem sizeB_eq (n : Nat) (h : n ≤ 65536) : stx [94] ++ (stx (be4 n)).extract 1 4 = stx (sizeB n) := by
  rw [stx_extract, stx_append]
  congr 2
  show (94 :: (be4 n).drop 1) = be4 (1577058304 + n)
  rw [be4, be4]
  have h1 : UInt8.ofNat ((1577058304 + n) / 16777216) = 94 := by apply UInt8.toNat_inj.1; rw [UInt8.toNat_ofNat']; show _ = 94; omega
  have h2 : UInt8.ofNat ((1577058304 + n) / 65536) = UInt8.ofNat (n / 65536) := by apply UInt8.toNat_inj.1; rw [UInt8.toNat_ofNat', UInt8.toNat_ofNat']; omega
  have h3 : UInt8.ofNat ((1577058304 + n) / 256) = UInt8.ofNat (n / 256) := by apply UInt8.toNat_inj.1; rw [UInt8.toNat_ofNat', UInt8.toNat_ofNat']; omega
  have h4 : UInt8.ofNat (1577058304 + n) = UInt8.ofNat n := by apply UInt8.toNat_inj.1; rw [UInt8.toNat_ofNat', UInt8.toNat_ofNat']; omega
  rw [h1, h2, h3, h4]
  rfl
end Go.Proofs.YtlhdnkfnhdkbkaaGreatDoor
namespace Go.Proofs.YtlhdnkfnhdkbkaaGreatDoor
open Go Go.RowKit

theorem be4_num4 (l : List UInt8) (h : 4 ≤ l.length) : l.take 4 = be4 (num4 l) := by
  match l, h with
  | a :: b :: c :: d :: r, _ =>
    have ha := a.toNat_lt
    have hb := b.toNat_lt
    have hc := c.toNat_lt
    have hd := d.toNat_lt
    show [a, b, c, d] = be4 (a.toNat * 16777216 + b.toNat * 65536 + c.toNat * 256 + d.toNat)
    have h1 : UInt8.ofNat ((a.toNat * 16777216 + b.toNat * 65536 + c.toNat * 256 + d.toNat) / 16777216) = a := by apply UInt8.toNat_inj.1; rw [UInt8.toNat_ofNat']; omega
    have h2 : UInt8.ofNat ((a.toNat * 16777216 + b.toNat * 65536 + c.toNat * 256 + d.toNat) / 65536) = b := by apply UInt8.toNat_inj.1; rw [UInt8.toNat_ofNat']; omega
    have h3 : UInt8.ofNat ((a.toNat * 16777216 + b.toNat * 65536 + c.toNat * 256 + d.toNat) / 256) = c := by apply UInt8.toNat_inj.1; rw [UInt8.toNat_ofNat']; omega
    have h4 : UInt8.ofNat (a.toNat * 16777216 + b.toNat * 65536 + c.toNat * 256 + d.toNat) = d := by apply UInt8.toNat_inj.1; rw [UInt8.toNat_ofNat']; omega
    rw [be4, h1, h2, h3, h4]
theorem be4_inj {a b : Nat} (ha : a < 4294967296) (hb : b < 4294967296) (h : be4 a = be4 b) : a = b := by
  have h1 := num4_be4 a ha []
  have h2 := num4_be4 b hb []
  rw [← h1, ← h2, h]
set_option maxRecDepth 100000 in
set_option maxHeartbeats 1000000 in
theorem r4Open_any (s : ByteArray) (w : World) (hs : s.size ≤ 1000000) :
    Calls Tryz.prog 54 #[.string s] w fun e w' => e = .returned (OpenR s.data.toList) ∧ Below w.heap.size w w' := by
  obtain ⟨n, hn⟩ : ∃ n, s.size = n := ⟨_, rfl⟩
  have hl : s.data.toList.length = n := hn
  obtain ⟨R, hR⟩ : ∃ R, OpenR s.data.toList = R := ⟨_, rfl⟩
  have hn48 : (n : Int) ≤ 1000000 := by omega
  rw [hR]
  by_cases h8 : n < 8
  · have h8' : decide ((n : Int) < 8) = true := decide_eq_true (by omega)
    have hE : opE s.data.toList = 5 := by rw [opE, if_pos (by omega)]
    have HR := Lib.hid (hR.symm.trans (OpenR_err _ 5 hE (by decide)))
    clear hR hE h8 hs hl
    go_enter Tryz.func54, Tryz.ntmps54
    go_wp2_with fail
    go_ret3
    exact ⟨by rw [HR.out]; rfl, Below.refl _ _⟩
  · have h8' : decide ((n : Int) < 8) = false := decide_eq_false (by omega)
    have h8n : (8 : Int) ≤ n := by omega
    have hs0 : 0 < s.size := by omega
    have hs1 : 1 < s.size := by omega
    have hs2 : 2 < s.size := by omega
    have hs3 : 3 < s.size := by omega
    have g0 := atB_get s 0 hs0
    have g1 := atB_get s 1 hs1
    have g2 := atB_get s 2 hs2
    have g3 := atB_get s 3 hs3
    obtain ⟨m, hm⟩ : ∃ m, num4 s.data.toList % 16777216 = m := ⟨_, rfl⟩
    have hx2 : s.data.toList.getD 0 0 = atB s 0 := rfl
    have l0 := (atB s 0).toNat_lt
    have l1 := (atB s 1).toNat_lt
    have l2 := (atB s 2).toNat_lt
    have l3 := (atB s 3).toNat_lt
    have hmv : (atB s 1).toNat * 65536 + (atB s 2).toNat * 256 + (atB s 3).toNat = m := by
      have : num4 s.data.toList = (atB s 0).toNat * 16777216 + (atB s 1).toNat * 65536 + (atB s 2).toNat * 256 + (atB s 3).toNat := rfl
      omega
    generalize atB s 0 = x at *
    generalize atB s 1 = x1 at *
    generalize atB s 2 = x2 at *
    generalize atB s 3 = x3 at *
    have HM : Hid ((x1.toNat : Int) * 65536 + (x2.toNat : Int) * 256 + (x3.toNat : Int) = (m : Int)) := Lib.hid (by omega)
    have hm1 : (m : Int) < 16777216 := by omega
    by_cases hx94 : x.toNat = 94
    · have hx' : ((x.toNat : Int) != 94) = false := by simp; omega
      by_cases hbig : 65536 < m
      · have hb' : decide (65536 < (m : Int)) = true := decide_eq_true (by omega)
        have hE : opE s.data.toList = 4 := by rw [opE, if_neg (by omega), if_pos (.inr (by rw [hm]; exact hbig))]
        have HR := Lib.hid (hR.symm.trans (OpenR_err _ 4 hE (by decide)))
        clear hR hE h8 hs hl hm hx2 hx94 hbig hmv
        go_enter Tryz.func54, Tryz.ntmps54
        go_wp2_with fail
        go_region
        try rw [HM.out]
        have b1 : Below w.heap.size w w.drew := (Below.refl _ _).drew
        have hs1 : w.heap.size ≤ w.drew.heap.size := Nat.le_refl _
        generalize w.drew = w1 at *
        go_wp2_with fail
        go_ret3
        exact ⟨by rw [HR.out]; rfl, b1⟩
      · have hb' : decide (65536 < (m : Int)) = false := decide_eq_false (by omega)
        have hno : ¬ ((s.data.toList.getD 0 0).toNat ≠ 94 ∨ 65536 < num4 s.data.toList % 16777216) := by
          rw [hx2, hm]
          omega
        by_cases hsh : n - 8 < m
        · have hq : decide ((n : Int) - 8 < m) = true := decide_eq_true (by omega)
          have hE : opE s.data.toList = 5 := by rw [opE, if_neg (by omega), if_neg hno, if_pos (by rw [hl, hm]; exact hsh)]
          have HR := Lib.hid (hR.symm.trans (OpenR_err _ 5 hE (by decide)))
          clear hR hE h8 hs hl hm hx2 hx94 hbig hno hsh hmv
          go_enter Tryz.func54, Tryz.ntmps54
          go_wp2_with fail
          go_region
          try rw [HM.out]
          have b1 : Below w.heap.size w w.drew := (Below.refl _ _).drew
          have hs1 : w.heap.size ≤ w.drew.heap.size := Nat.le_refl _
          generalize w.drew = w1 at *
          go_wp2_with fail
          go_ret3
          exact ⟨by rw [HR.out]; rfl, b1⟩
        · have hq : decide ((n : Int) - 8 < m) = false := decide_eq_false (by omega)
          have x1e : s.extract 8 (8 + m) = stx ((s.data.toList.drop 8).take m) := by
            have := stx_extract s.data.toList 8 (8 + m)
            rwa [List.drop_take, show 8 + m - 8 = m by omega] at this
          have x2e : s.extract 4 8 = stx (be4 (num4 (s.data.toList.drop 4))) := by
            have := stx_extract s.data.toList 4 8
            rwa [List.drop_take, be4_num4 _ (by rw [List.length_drop]; omega)] at this
          have x3e : s.extract 0 4 = stx (s.data.toList.take 4) := stx_extract s.data.toList 0 4
          have y1 : (stx ((s.data.toList.drop 8).take m)).size = m := by rw [stx_size, List.length_take, List.length_drop]; omega
          have y3 : (stx (s.data.toList.take 4)).size = 4 := by rw [stx_size, List.length_take]; omega
          have hcat : Hid (stx (s.data.toList.take 4) ++ stx ((s.data.toList.drop 8).take m) = stx (s.data.toList.take 4 ++ (s.data.toList.drop 8).take m)) := Lib.hid (stx_append _ _)
          obtain ⟨k, hk⟩ : ∃ k, num4 (s.data.toList.drop 4) = k := ⟨_, rfl⟩
          obtain ⟨j, hjj⟩ : ∃ j, crc (s.data.toList.take 4 ++ (s.data.toList.drop 8).take m) = j := ⟨_, rfl⟩
          have H5 : Hid (∀ w, Calls Tryz.prog 73 #[.string (stx (s.data.toList.take 4) ++ stx ((s.data.toList.drop 8).take m))] w fun e w' => e = .returned (.int .u32 j) ∧ w' = w) := Lib.hid fun w => by
            rw [hcat.out, ← hjj]
            refine r4Check_any _ w ?_
            rw [← hcat.out, ByteArray.size_append, y1, y3]
            omega
          have H6 : Hid (∀ w, Calls Tryz.prog 72 #[.int .u32 j] w fun e w' => e = .returned (.string (stx (be4 j))) ∧ Below w.heap.size w w') := Lib.hid fun w => four_any j w (by rw [← hjj]; exact crc_lt _)
          have hk32 : k < 4294967296 := by rw [← hk]; exact num4_lt _
          have hj32 : j < 4294967296 := by rw [← hjj]; exact crc_lt _
          rw [hk] at x2e
          have hj : (8 : Int) + m ≤ n := by omega
          have hj0 : (0 : Int) ≤ 8 + m := by omega
          have hj1 : (8 : Int) ≤ 8 + m := by omega
          have hj2 : ((8 : Int) + m).toNat = 8 + m := by omega
          have hm0 : (0 : Int) ≤ m := by omega
          have hEE : opE s.data.toList = if k ≠ j then 6 else 0 := by
            rw [opE, if_neg (by omega), if_neg hno, if_neg (by rw [hl, hm]; exact hsh), hm, hk, hjj]
          have hSS : opE s.data.toList = 0 → OpenR s.data.toList = .tuple #[.string (stx ((s.data.toList.drop 8).take m)), .int .i64 (8 + (m : Int)), .int .i64 0] := fun e => by
            rw [OpenR, opS, opN, if_pos e, if_pos e, e, hm]
            rfl
          by_cases hkj : k = j
          · subst hkj
            rw [if_neg (fun e => e rfl)] at hEE
            have HR := Lib.hid (hR.symm.trans (hSS hEE))
            clear hR hEE hSS h8 hs hl hm hx2 hx94 hbig hno hsh hk hjj hmv
            generalize stx (s.data.toList.take 4) = A at *
            generalize stx (be4 k) = B at *
            generalize stx ((s.data.toList.drop 8).take m) = C at *
            go_enter Tryz.func54, Tryz.ntmps54
            go_wp2_with fail
            go_region
            try rw [HM.out]
            have b1 : Below w.heap.size w w.drew := (Below.refl _ _).drew
            have hs1 : w.heap.size ≤ w.drew.heap.size := Nat.le_refl _
            generalize w.drew = w1 at *
            go_wp2_with fail
            refine wp_region_past (by kernel_rfl) (by kernel_rfl) ?_
            repeat (go_big_quiet_step (first | (go_at_call 73; exact Past.call_same (H5.out _)) | (go_at_call 72; exact Past.call (H6.out _))))
            refine wpQuiet_nil ?_
            intro w2 hw2
            obtain ⟨⟨wn, hn⟩, rfl⟩ := hw2
            try dsimp only
            have b3 := below_past b1 hn hs1
            clear b1 hn
            go_wp2_with fail
            go_ret3
            exact ⟨by rw [HR.out]; rfl, b3⟩
          · rw [if_pos hkj] at hEE
            have HR := Lib.hid (hR.symm.trans (OpenR_err _ 6 hEE (by decide)))
            have hne := str_ne (fun e => hkj (be4_inj hk32 hj32 (stx_inj e)))
            clear hR hEE hSS h8 hs hl hm hx2 hx94 hbig hno hsh hk hjj hmv
            generalize stx (s.data.toList.take 4) = A at *
            generalize stx (be4 k) = B at *
            generalize stx (be4 j) = D at *
            generalize stx ((s.data.toList.drop 8).take m) = C at *
            go_enter Tryz.func54, Tryz.ntmps54
            go_wp2_with fail
            go_region
            try rw [HM.out]
            have b1 : Below w.heap.size w w.drew := (Below.refl _ _).drew
            have hs1 : w.heap.size ≤ w.drew.heap.size := Nat.le_refl _
            generalize w.drew = w1 at *
            go_wp2_with fail
            refine wp_region_past (by kernel_rfl) (by kernel_rfl) ?_
            repeat (go_big_quiet_step (first | (go_at_call 73; exact Past.call_same (H5.out _)) | (go_at_call 72; exact Past.call (H6.out _))))
            refine wpQuiet_nil ?_
            intro w2 hw2
            obtain ⟨⟨wn, hn⟩, rfl⟩ := hw2
            try dsimp only
            have b3 := below_past b1 hn hs1
            clear b1 hn
            go_wp2_with fail
            go_ret3
            exact ⟨by rw [HR.out]; rfl, b3⟩
    · have hx' : ((x.toNat : Int) != 94) = true := by simp; omega
      have hE : opE s.data.toList = 4 := by rw [opE, if_neg (by omega), if_pos (.inl (by rw [hx2]; exact hx94))]
      have HR := Lib.hid (hR.symm.trans (OpenR_err _ 4 hE (by decide)))
      clear hR hE h8 hs hl hm hx2 hx94 hmv
      go_enter Tryz.func54, Tryz.ntmps54
      go_wp2_with fail
      go_region
      try rw [HM.out]
      have b1 : Below w.heap.size w w.drew := (Below.refl _ _).drew
      have hs1 : w.heap.size ≤ w.drew.heap.size := Nat.le_refl _
      generalize w.drew = w1 at *
      go_wp2_with fail
      go_ret3
      exact ⟨by rw [HR.out]; rfl, b1⟩
end Go.Proofs.YtlhdnkfnhdkbkaaGreatDoor
namespace Go.Proofs.YtlhdnkfnhdkbkaaGreatDoor
open Go Go.RowKit

theorem opE_nil : opE [] = 5 := rfl
set_option maxRecDepth 100000 in
set_option maxHeartbeats 1000000 in
theorem r4All_any (s : ByteArray) (w : World) (hs : s.size ≤ 1000000) :
    Calls Tryz.prog 37 #[.string s] w (AllRet w s.data.toList) := by
  obtain ⟨n, hn⟩ : ∃ n, s.size = n := ⟨_, rfl⟩
  obtain ⟨l, hl⟩ : ∃ l, s.data.toList = l := ⟨_, rfl⟩
  have hln : l.length = n := by rw [← hl]; exact hn
  have hlim : n ≤ 1000000 := by omega
  have hlim' : (n : Int) ≤ 1000000 := by omega
  have HLN := Lib.hid hln
  have HL := Lib.hid hl
  rw [hl]
  obtain ⟨i0, hi, hz0, hz1, hz2⟩ := info_str
  have o0 := ownStrs_empty w
  have a0 : Below w.heap.size w (w.alloc (.cells #[] 9)) := (Below.refl _ _).alloc (Nat.le_refl _) _
  clear hs hl hln
  go_enter Tryz.func37, Tryz.ntmps37
  go_wp2_with fail
  go_loopw [4, 5] (fun v x wr => ∃ (at0 : Nat) (ts : List (List UInt8)) (f : Nat), at0 ≤ n ∧ 8 * ts.length ≤ at0 ∧ x = .int .i64 at0 ∧ Hid (n + 1 ≤ f + at0 ∧ allR l = (ts ++ (allF f l at0).1, (allF f l at0).2)) ∧ OwnStrs wr w.heap.size v ts ∧ Below w.heap.size w wr) (fun _ x _ => (n - intOf x).toNat)
  case atStart => exact ⟨0, [], n + 1, Nat.zero_le _, Nat.le_refl _, rfl, Lib.hid ⟨Nat.le_refl _, by rw [allR, HLN.out]; rfl⟩, o0, a0⟩
  case round =>
    obtain ⟨at0, ts, f, h1, h2, rfl, HF, ow, b0⟩ := hrel
    clear o0 a0
    have ha0 : (0 : Int) ≤ at0 := by omega
    have ha1 : (at0 : Int) ≤ n := by omega
    obtain ⟨f2, hf2⟩ : ∃ f2, f = f2 + 1 := ⟨f - 1, by have := HF.out.1; omega⟩
    subst hf2
    obtain ⟨d, hd⟩ : ∃ d, l.drop at0 = d := ⟨_, rfl⟩
    have hdl : d.length = n - at0 := by rw [← hd, List.length_drop, HLN.out]
    by_cases hend : at0 < n
    · have hend' : decide (at0 < n) = true := decide_eq_true hend
      have x1 : s.extract at0 n = stx d := by
        have := stx_extract s.data.toList at0 n
        rw [HL.out, List.take_of_length_le (Nat.le_of_eq HLN.out), hd] at this
        rw [show s = stx l by rw [← HL.out]]
        exact this
      have HO : Hid (Calls Tryz.prog 54 #[.string (stx d)] wr fun e w' => e = .returned (OpenR d) ∧ Below wr.heap.size wr w') := Lib.hid (r4Open_any (stx d) wr (by rw [stx_size, hdl]; omega))
      have hle := opN_le d
      rw [hdl] at hle
      obtain ⟨E, hE⟩ : ∃ E, opE d = E := ⟨_, rfl⟩
      obtain ⟨N, hN⟩ : ∃ N, opN d = N := ⟨_, rfl⟩
      obtain ⟨S, hS⟩ : ∃ S, opS d = S := ⟨_, rfl⟩
      have hO : OpenR d = .tuple #[.string (stx S), .int .i64 N, .int .i64 E] := by rw [OpenR, hE, hN, hS]
      rw [hO] at HO
      have hall : allF (f2 + 1) l at0 = if E = 0 then (S :: (allF f2 l (at0 + N)).1, (allF f2 l (at0 + N)).2) else ([], at0) := by
        rw [allF, hd, hE, hN, hS]
      rw [hE, hN] at hle
      by_cases h0 : E = 0
      · have hq : (E != 0) = false := by simpa using h0
        rw [if_pos h0] at hall
        obtain ⟨hle1, hle2, _⟩ := hle
        have hle3 := hle2 h0
        have hNn : (at0 : Int) + N ≤ n := by omega
        have hlt2 : at0 + N ≤ n := by omega
        have HF2 : Hid (n + 1 ≤ f2 + (at0 + N) ∧ allR l = ((ts ++ [S]) ++ (allF f2 l (at0 + N)).1, (allF f2 l (at0 + N)).2)) := Lib.hid ⟨by have := HF.out.1; omega, by rw [HF.out.2, hall]; simp⟩
        subst h0
        clear hall hO hE hN hS hd hle2 HF
        go_wp2_with fail
        refine HO.out.mono ?_
        rintro e w3 ⟨rfl, b1⟩
        have ow3 := ow.below b1
        have b3 := below_past b0 b1 b0.size
        have b4 : Below w3.heap.size w3 (w3.alloc (.cells #[.string (stx S)] 9)) := (Below.refl _ _).alloc (Nat.le_refl _) _
        have ow4 : (w3.alloc (.cells #[.string (stx S)] 9)).ownsRow w.heap.size 9 1 u4 ts.length (strCells ts) := ow3.below b4
        have b5 := below_past b3 b4 b3.size
        clear ow ow3 b1 b0 HO
        go_wp2_with (at_builtin; refine wpList_append_own _ rfl _ _ 27 rfl w.heap.size 9 i0 (.string ⟨#[]⟩) 1 16 Tryz.underlying27 hi hz0 hz1 hz2 rfl (by decide) _ _ _ rfl ow4 ⟨w3.heap.size, 0, none⟩ 1 1 [.string (stx S)] rfl rfl ?c1 ?c2 ?c3 ?c4 ?c5 ?_)
        case c1 =>
          intro j u hu
          have hj : j = 0 := by
            have := (List.getElem?_eq_some_iff.1 hu).1
            simpa using this
          subst hj
          have hu2 : Value.string (stx S) = u := by simpa using hu
          rw [← hu2, show (⟨w3.heap.size, 0, none⟩ : Addr).add 0 = ⟨w3.heap.size, 0, none⟩ by simp [Addr.add]]
          exact cell_of_rowAt (rowAt_alloc_at w3 #[.string (stx S)] 9 _ rfl) 0
        case c2 =>
          intro u hu
          have hu2 : u = Value.string (stx S) := by simpa using hu
          rw [hu2]
          rfl
        case c3 => unfold maxLen; omega
        case c4 => omega
        case c5 => exact b5.size
        intro v' w' hown hgrow hnil
        have b6 := b5.grown hgrow b5.size (fun k hk => (ow4.lt k hk).1)
        have hown2 : OwnStrs w' w.heap.size v' (ts ++ [S]) := by
          show w'.ownsRow w.heap.size 9 1 v' (ts ++ [S]).length (strCells (ts ++ [S]))
          rw [List.length_append, ← strCells_put]
          exact hown
        clear hown hgrow hnil b5 b4 b3 ow4
        go_wp2_with fail
        exact ⟨⟨at0 + N, ts ++ [S], f2, hlt2, by rw [List.length_append, List.length_singleton]; omega, by go_num, HF2, hown2, b6⟩, by simp [intOf]; omega⟩
      · have hq : (E != 0) = true := by simpa using h0
        rw [if_neg h0] at hall
        have HF2 : Hid (allR l = (ts, at0)) := Lib.hid (by rw [HF.out.2, hall]; simp)
        clear hall hO hE hN hS hd hle HF h0
        go_wp2_with fail
        refine HO.out.mono ?_
        rintro e w3 ⟨rfl, b1⟩
        have ow3 := Lib.hid (ow.below b1)
        have b3 := below_past b0 b1 b0.size
        clear ow b1 b0 HO
        go_wp2_with fail
        go_ret2
        exact ⟨_, by rw [HF2.out]; rfl, by rw [HF2.out]; exact ow3.out, b3⟩
    · have hend' : decide (at0 < n) = false := decide_eq_false hend
      have hd0 : d = [] := List.eq_nil_of_length_eq_zero (by omega)
      have hall : allF (f2 + 1) l at0 = ([], at0) := by rw [allF, hd, hd0, opE_nil, if_neg (by decide)]
      have HF2 : Hid (allR l = (ts, at0)) := Lib.hid (by rw [HF.out.2, hall]; simp)
      have OW := Lib.hid ow
      clear hall hd hd0 hdl HF ow hend
      go_wp2_with fail
      go_ret2
      exact ⟨_, by rw [HF2.out]; rfl, by rw [HF2.out]; exact OW.out, b0⟩

set_option maxRecDepth 100000 in
theorem same_any (v u : Value) (ts : List (List UInt8)) (w : World) (h1 : StrsAt w v ts) (h2 : StrsAt w u ts) (hlim : ts.length ≤ 1000000) :
    Calls Tryz.prog 22 #[v, u] w fun e w' => e = .returned (.bool true) ∧ Below w.heap.size w w' := by
  obtain ⟨ao, c1, rfl, k1⟩ := h1
  obtain ⟨bo, c2, rfl, k2⟩ := h2
  obtain ⟨n, hn⟩ : ∃ n, ts.length = n := ⟨_, rfl⟩
  rw [hn] at hlim k1 k2 ⊢
  have hn' : (n : Int) ≤ 1000000 := by omega
  have K1 := Lib.hid k1
  have K2 := Lib.hid k2
  clear k1 k2 hn
  go_enter Tryz.func22, Tryz.ntmps22
  go_wp2_with fail
  go_loopw [13] (fun x wr => ∃ i : Nat, i ≤ n ∧ x = .int .i64 i ∧ Below w.heap.size w wr) (fun x _ => (n - intOf x).toNat)
  case atStart => exact ⟨0, Nat.zero_le _, rfl, Below.refl _ _⟩
  case round =>
    obtain ⟨i, hi, rfl, b0⟩ := hrel
    by_cases hlt : i < n
    · have hlt' : (i : Int) < n := by omega
      obtain ⟨g1, rfl, d1⟩ := K1.out i hlt
      obtain ⟨g2, rfl, d2⟩ := K2.out i hlt
      have c1 := (b0.cell (p := ⟨g1, i, none⟩) (cellLt d1)).trans d1
      have c2 := (b0.cell (p := ⟨g2, i, none⟩) (cellLt d2)).trans d2
      clear d1 d2
      go_wp2_with fail
      go_region
      have b1 := b0.drew
      go_wp2_with fail
      exact ⟨⟨i + 1, hlt, by go_num, b1⟩, by simp [intOf]; omega⟩
    · obtain rfl : i = n := by omega
      go_wp2_with fail
      go_ret
      exact ⟨rfl, b0⟩
end Go.Proofs.YtlhdnkfnhdkbkaaGreatDoor
namespace Go.Proofs.YtlhdnkfnhdkbkaaGreatDoor
open Go Go.RowKit
attribute [local go_sem] Oper.semAt_some

/-- A journal j on a disk q that lives, since the world W, whose blocks lie below B. -/
structure JW (B q j : Nat) (room : Int) (pre : List Seg) (now : Nat) (cur want : List (List UInt8)) (d : DDisk) (W w : World) : Prop where
  js : JS room pre now cur want d
  ja : JAt B j q now w
  da : DiskAt B q d w
  bel : Below B W w
  tab : Tabs W
  hB : W.heap.size = B
  cap : (dUsed d.files : Int) ≤ room
  few : room ≤ 2000000
variable {B q j : Nat} {room : Int} {pre : List Seg} {now : Nat} {cur want : List (List UInt8)} {d : DDisk} {W w : World}
theorem JW.tabs (h : JW B q j room pre now cur want d W w) : Tabs w := h.tab.below (by rw [h.hB]; exact h.bel)
theorem JW.low (h : JW B q j room pre now cur want d W w) : B ≤ w.heap.size := by have := h.bel.size; rw [h.hB] at this; exact this
theorem JW.kept (h : JW B q j room pre now cur want d W w) {w' : World} (k : Below w.heap.size w w') : JW B q j room pre now cur want d W w' :=
  ⟨h.js, h.ja.kept k, h.da.kept k, below_past h.bel k h.low, h.tab, h.hB, h.cap, h.few⟩
/-- A text for which there is room. -/
theorem jw_add (h : JW B q j room pre now cur want d W w) (s : List UInt8) (hs : s.length ≤ 65536) (hr : (s.length : Int) + 8 ≤ room - dUsed d.files) :
    Calls Tryz.prog 13 #[.pointer (some ⟨j, 0, none⟩), .string (stx s)] w fun e w' => e = .returned (.int .i64 0) ∧ JW B q j room pre now (cur ++ [s]) (want ++ [s]) (addD d (nm now) s) W w' ∧ dUsed (addD d (nm now) s).files = dUsed d.files + (s.length + 8) ∧ Stir B w w' := by
  obtain ⟨a1, a2, a3, a4⟩ := h.js.add s hs hr
  have hc := h.cap
  have hf := h.few
  refine (jAdd_any B B j q now d (stx s) w h.ja h.da h.js.few (by rw [stx_size]; exact hs) (by rw [stx_size]; omega) h.tabs).mono ?_
  rintro e w' ⟨rfl, d1, s1⟩
  have e1 : addE d (nm now) (stx s).data.toList = 0 := by unfold addE; rw [if_pos a1]; exact a2
  have e2 : addD d (nm now) (stx s).data.toList = sD (aD d (nm now) (frame s)) (nm now) := if_pos a1
  have e3 : addD d (nm now) s = addD d (nm now) (stx s).data.toList := rfl
  rw [e1, e3]
  refine ⟨rfl, ⟨by rw [e2]; exact a3, h.ja.stir s1, d1, h.bel.trans s1.below, h.tab, h.hB, by rw [e2, a4]; omega, hf⟩, by rw [e2]; exact a4, s1⟩
/-- A text for which there is none. -/
theorem jw_full (h : JW B q j room pre now cur want d W w) (s : List UInt8) (hs : s.length ≤ 65536) (hr : ¬ (s.length : Int) + 8 ≤ room - dUsed d.files) :
    Calls Tryz.prog 13 #[.pointer (some ⟨j, 0, none⟩), .string (stx s)] w fun e w' => e = .returned (.int .i64 9) ∧ JW B q j room pre now cur want d W w' ∧ Stir B w w' := by
  obtain ⟨a1, a2⟩ := h.js.full s hr
  have hc := h.cap
  have hf := h.few
  refine (jAdd_any B B j q now d (stx s) w h.ja h.da h.js.few (by rw [stx_size]; exact hs) (by rw [stx_size]; omega) h.tabs).mono ?_
  rintro e w' ⟨rfl, d1, s1⟩
  have e1 : addE d (nm now) (stx s).data.toList = 9 := by unfold addE; rw [if_neg (by show ¬ aE d (nm now) (frame s) = 0; rw [a1]; decide)]; exact a1
  have e2 : addD d (nm now) (stx s).data.toList = d := by unfold addD; rw [if_neg (by show ¬ aE d (nm now) (frame s) = 0; rw [a1]; decide)]; exact a2
  rw [e1]
  rw [e2] at d1
  exact ⟨rfl, ⟨h.js, h.ja.stir s1, d1, h.bel.trans s1.below, h.tab, h.hB, hc, hf⟩, s1⟩
theorem jw_turn (h : JW B q j room pre now cur want d W w) (hn : now + 1 < 100) :
    Calls Tryz.prog 14 #[.pointer (some ⟨j, 0, none⟩)] w fun e w' => e = .returned (.int .i64 ((now : Int) + 1)) ∧ JW B q j room (pre ++ curS now cur) (now + 1) [] want d W w' ∧ (∀ C v ts, OwnStrs w C v ts → OwnStrs w' C v ts) := by
  refine (jTurn_any B j q now w h.ja h.js.few).mono ?_
  rintro e w' ⟨rfl, rfl⟩
  exact ⟨rfl, ⟨h.js.turn hn, h.ja.set (now + 1) _ rfl, disk_set_aside h.da h.ja, h.bel.setCell (p := ⟨j, 1, none⟩) h.ja.low _, h.tab, h.hB, h.cap, h.few⟩, fun C v ts ho => own_set_aside ho h.ja jr_ne_str⟩
/-- What an opening finds. -/
theorem JS.opens (h : JS room pre now cur want d) : d.dead = false ∧ dNames d.files = ((pre ++ curS now cur).map (·.n)).map nm ∧ (∀ n ∈ (pre ++ curS now cur).map (·.n), n < 100) ∧ ((pre ++ curS now cur).map (·.n)).length ≤ 100 ∧
    (∀ n ∈ (pre ++ curS now cur).map (·.n), (rdB d (nm n)).length ≤ dUsed d.files) ∧ textsOf d ((pre ++ curS now cur).map (·.n)) = want ∧ (cur ≠ [] → nowOf ((pre ++ curS now cur).map (·.n)) = now + 1) := by
  have hr := h.rise
  have hfl := h.few_files
  have hfi : d.files = jFiles (pre ++ curS now cur) := by rw [h.dis]
  have hrd : ∀ s ∈ pre ++ curS now cur, rdB d (nm s.n) = s.bytes ∧ s.bytes.length ≤ dUsed d.files := by
    intro s hs
    have hf := find_mid hr hs
    rw [← hfi] at hf
    have hE : findE d (nm s.n) = 0 := by unfold findE; rw [if_neg (by rw [h.dis]; exact Bool.false_ne_true), hf]
    refine ⟨?_, dFind_len hf⟩
    unfold rdB
    rw [if_pos hE]
    unfold dBytes
    rw [hf]
    rfl
  refine ⟨by rw [h.dis], by rw [hfi]; exact jnames _, ?_, ?_, ?_, ?_, ?_⟩
  · intro n hn
    obtain ⟨s, hs, rfl⟩ := List.mem_map.1 hn
    exact Nat.lt_of_le_of_lt (hr.le s hs) hr.few
  · rw [hfi] at hfl
    unfold jFiles at hfl
    rw [List.length_map] at hfl ⊢
    exact hfl
  · intro n hn
    obtain ⟨s, hs, rfl⟩ := List.mem_map.1 hn
    rw [(hrd s hs).1]
    exact (hrd s hs).2
  · rw [← h.want]
    unfold textsOf segT
    rw [List.map_map]
    congr 1
    refine List.map_congr_left fun s hs => ?_
    show (allR (rdB d (nm s.n))).1 = _
    rw [(hrd s hs).1]
  · intro hc
    rcases curS_cases now cur with ⟨h1, _⟩ | ⟨_, h2⟩
    · exact absurd h1 hc
    · rw [h2, List.map_append]
      exact nowOf_put _ _
theorem jw_opens (js : JS room pre now cur want d) (hm : dUsed d.files ≤ 1000000) (da : DiskAt B q d w) (tabs : Tabs w) (hw : want.length ≤ 1000000) :
    Calls Tryz.prog 10 #[.pointer (some ⟨q, 0, none⟩), .int .i64 0] w fun e w' => ∃ k v m, e = .returned (.tuple #[.pointer (some ⟨k, 0, none⟩), v, .int .i64 0]) ∧ JAt w.heap.size k q m w' ∧ (cur ≠ [] → m = now + 1) ∧ (cur = [] → pre = [] → m = 0) ∧ OwnStrs w' w.heap.size v want ∧ Below w.heap.size w w' := by
  obtain ⟨o1, o2, o3, o4, o5, o6, o7⟩ := js.opens
  refine (jOpen_any B q d _ w da o1 o2 o3 o4 (fun n hn => Nat.le_trans (o5 n hn) hm) (by rw [o6]; exact hw) tabs).mono ?_
  rintro e w' ⟨k, v, rfl, ja, os, b⟩
  rw [o6] at os
  refine ⟨k, v, _, rfl, ja, o7, ?_, os, b⟩
  rintro rfl rfl
  rfl
theorem jw_open (h : JW B q j room pre now cur want d W w) (hm : dUsed d.files ≤ 1000000) (hw : want.length ≤ 1000000) :
    Calls Tryz.prog 10 #[.pointer (some ⟨q, 0, none⟩), .int .i64 0] w fun e w' => ∃ k v m, e = .returned (.tuple #[.pointer (some ⟨k, 0, none⟩), v, .int .i64 0]) ∧ (cur ≠ [] → m = now + 1) ∧ OwnStrs w' w.heap.size v want ∧ JAt B k q m w' ∧ JW B q j room pre now cur want d W w' ∧ Below w.heap.size w w' := by
  refine (jw_opens h.js hm h.da h.tabs hw).mono ?_
  rintro e w' ⟨k, v, m, rfl, ja, o7, _, os, b⟩
  exact ⟨k, v, m, rfl, o7, os, ⟨ja.row, Nat.le_trans h.low ja.low⟩, h.kept b, b⟩
/-- The one that an opening gave takes the other's place. -/
theorem JW.over (h : JW B q j room pre now cur want d W w) {k : Nat} (ja : JAt B k q (now + 1) w) (hn : now + 1 < 100) : JW B q k room (pre ++ curS now cur) (now + 1) [] want d W w :=
  ⟨h.js.turn hn, ja, h.da, h.bel, h.tab, h.hB, h.cap, h.few⟩
theorem jw_first (room : Int) (h0 : 0 ≤ room) (few : room ≤ 2000000) (da : DiskAt B q ⟨room, -1, false, []⟩ w) (bel : Below B W w) (tab : Tabs W) (hB : W.heap.size = B) :
    Calls Tryz.prog 10 #[.pointer (some ⟨q, 0, none⟩), .int .i64 0] w fun e w' => ∃ k v, e = .returned (.tuple #[.pointer (some ⟨k, 0, none⟩), v, .int .i64 0]) ∧ OwnStrs w' w.heap.size v [] ∧ JW B q k room [] 0 [] [] ⟨room, -1, false, []⟩ W w' := by
  have hlow : B ≤ w.heap.size := by have := bel.size; rw [hB] at this; exact this
  refine (jw_opens (JS.new room) (Nat.zero_le _) da (tab.below (by rw [hB]; exact bel)) (Nat.zero_le _)).mono ?_
  rintro e w' ⟨k, v, m, rfl, ja, _, o8, os, b⟩
  obtain rfl := o8 rfl rfl
  exact ⟨k, v, rfl, os, ⟨JS.new room, ⟨ja.row, Nat.le_trans hlow ja.low⟩, da.kept b, below_past bel b hlow, tab, hB, h0, few⟩⟩
end Go.Proofs.YtlhdnkfnhdkbkaaGreatDoor
namespace Go.Proofs.YtlhdnkfnhdkbkaaGreatDoor
open Go Go.RowKit
attribute [local go_sem] Oper.semAt_some

theorem max1000 : max (1000 : Int) 0 = 1000 := by decide
theorem nm_seven : stx (nm 7) = ⟨#[108, 111, 103, 45, 48, 48, 48, 48, 48, 48, 48, 48, 48, 55]⟩ := by decide +kernel
set_option maxRecDepth 100000 in
set_option maxHeartbeats 1000000 in
theorem awake7 (w : World) (ht : Tabs w) : Calls Tryz.prog 8 #[] w fun e w' => e = .returned (.bool true) ∧ Below w.heap.size w w' := by
  have H0 := Lib.hid (dNew_any 1000 w ⟨by decide, by decide⟩)
  rw [max1000] at H0
  have HNM := Lib.hid (fun w => jName_any 7 w (by decide))
  rw [nm_seven] at HNM
  have HT := Lib.hid ht
  obtain ⟨B, hB⟩ : ∃ B, w.heap.size = B := ⟨_, rfl⟩
  have HB := Lib.hid hB
  rw [hB] at H0 ⊢
  clear ht hB
  go_enter Tryz.func8, Tryz.ntmps8
  go_wp2_with fail
  refine H0.out.mono ?_
  rintro e w1 ⟨q, rfl, hq, d0, b0⟩
  have H1 := Lib.hid (jw_first 1000 (by decide) (by decide) d0 b0 HT.out HB.out)
  clear H0 d0 b0 hq
  go_wp2_with fail
  refine H1.out.mono ?_
  rintro e w2 ⟨j, v, rfl, ov, j0⟩
  obtain ⟨ao, cap, rfl⟩ := own_shape ov
  have H2 := Lib.hid (jw_add j0 [97] (by decide) (by decide))
  clear H1 ov j0
  go_wp2_with fail
  refine H2.out.mono ?_
  rintro e w3 ⟨rfl, j1, u1, s1⟩
  have H3 := Lib.hid (jw_turn j1 (by decide))
  clear H2 s1 j1
  go_wp2_with fail
  refine H3.out.mono ?_
  rintro e w4 ⟨rfl, j2, -⟩
  have H4 := Lib.hid (jw_add j2 [99] (by decide) (by rw [u1]; decide))
  clear H3 j2
  go_wp2_with fail
  refine H4.out.mono ?_
  rintro e w5 ⟨rfl, j3, u2, -⟩
  have H5 := Lib.hid (jw_open j3 (by rw [u2, u1]; decide) (by decide))
  clear H4 j3
  go_wp2_with fail
  refine H5.out.mono ?_
  rintro e w6 ⟨k, v, m, rfl, hm, os, jk, j4, -⟩
  obtain rfl := hm (by simp)
  have H6 := Lib.hid (fun w' (b : Below w6.heap.size w6 w') => jNow_any B k q _ w' (jk.kept b))
  have B6 := Lib.hid j4.bel
  have Z6 := Lib.hid j4.low
  have OS := Lib.hid os
  clear H5 j4 os hm jk
  go_wp2_with fail
  refine (H6.out _ (Below.refl _ _)).mono ?_
  rintro e w7 ⟨rfl, rfl⟩
  have a7 : Below w7.heap.size w7 (w7.alloc (.cells #[.string ⟨#[97]⟩, .string ⟨#[99]⟩] 9)) := (Below.refl _ _).alloc (Nat.le_refl _) _
  have SL : StrsAt (w7.alloc (.cells #[.string ⟨#[97]⟩, .string ⟨#[99]⟩] 9)) (.slice (some ⟨w7.heap.size, 0, none⟩) 2 2) [[97], [99]] := by
    refine ⟨_, _, rfl, fun i hi => ⟨_, rfl, ?_⟩⟩
    have hr := rowAt_alloc_at w7 #[.string ⟨#[97]⟩, .string ⟨#[99]⟩] 9 _ rfl
    match i, hi with
    | 0, _ => exact cell_of_rowAt hr 0
    | 1, _ => exact cell_of_rowAt hr 1
  have HS := Lib.hid (same_any _ _ _ _ ((OS.out.below a7).lie) SL (by decide))
  have B7 := Lib.hid (below_past B6.out a7 Z6.out)
  have Z7 := Lib.hid (Nat.le_trans Z6.out a7.size)
  clear H6 B6 Z6 OS a7 SL
  go_wp2_with fail
  generalize (w7.alloc (.cells #[.string ⟨#[97]⟩, .string ⟨#[99]⟩] 9)) = W7 at *
  refine HS.out.mono ?_
  rintro e w8 ⟨rfl, b8⟩
  have B8 := Lib.hid (below_past B7.out b8 Z7.out)
  have Z8 := Lib.hid (Nat.le_trans Z7.out b8.size)
  clear HS B7 Z7 b8
  go_wp2_with fail
  refine (HNM.out _).mono ?_
  rintro e w9 ⟨rfl, b9⟩
  have B9 := below_past B8.out b9 Z8.out
  clear HNM B8 Z8 b9
  go_wp2_with fail
  go_ret
  exact ⟨rfl, B9⟩
end Go.Proofs.YtlhdnkfnhdkbkaaGreatDoor
namespace Go.Proofs.YtlhdnkfnhdkbkaaGreatDoor
open Go Go.ChangeShapes Go.WideShapes Go.ChangeAt Go.ChangeMaps Go.RowKit

/-- A list of flags that came in. -/
def InFlags (w : World) (v : Value) (len : Nat) (Z : Nat → Bool) : Prop :=
  ∃ ao cap, v = .slice ao len cap ∧ ∀ i, i < len → ∃ a, ao = some a ∧ w.cell? (a.add i) = some (.bool (Z i))
theorem in_flags {P : Program} {H : Type} {enc : TypeId × Value → H} {W : World} {held : Bool} {base t e : TypeId} {v : Value} {d : DataW H} {p : List MemPlace} (ht : P.underlying t = some (.slice e)) (he : P.underlying e = some .bool) (ce : P.cellsOf e = 1) (hval : Value.okWide P W .any base t v) (hd : DataW.Trod enc P W 0 (fun _ => true) held t v d p) :
    ∃ (len : Nat) (Z : Nat → Bool), InFlags W v len Z := by
  obtain ⟨ao, len, cap, rfl⟩ := okWide_slice ht hval
  obtain ⟨fuel, hf⟩ := hd
  rcases Deep.open_bools ht he ce hf with ⟨h, _⟩ | ⟨a, len', cap', Z, hcs, _, hl, hm, _, hx⟩
  · have hc : ao = none ∧ len = 0 ∧ cap = 0 := by simpa [Value.cells] using h
    obtain ⟨rfl, rfl, rfl⟩ := hc
    exact ⟨0, fun _ => false, none, 0, rfl, fun i hi => absurd hi (Nat.not_lt_zero i)⟩
  · have hc : (ao = some a ∧ len = len' ∧ cap = cap') := by simpa [Value.cells] using hcs
    obtain ⟨rfl, rfl, rfl⟩ := hc
    exact ⟨len, Z, some a, cap, rfl, fun i hi => ⟨a, rfl, hx i (by omega)⟩⟩
theorem cellsOf_flag : Tryz.prog.cellsOf 4 = 1 := by kernel_rfl
/-- A disk beside a list of texts that grows. -/
theorem disk_aside {B C b n : Nat} {d : DDisk} {w w' : World} {v : Value} {xs : List Value} (h : DiskAt B b d w) (ho : w.ownsRow C 9 1 v n xs) (hg : w.grownBy w' v.ownBlock) : DiskAt B b d w' := by
  obtain ⟨m, left, D, G, V, h⟩ := h
  obtain ⟨es, c, hm⟩ := mapBlk h.map
  refine ⟨m, left, D, G, V, ⟨(hg.block b (dHeap_lt h.row) (fun e => ?_)).trans h.row, h.fuse, h.map.kept hg (fun e => ?_), h.is, h.sorted, fun f hf => (h.file f hf).kept hg (fun e => ?_) ?_, h.apart, h.low, h.room, h.left_⟩⟩
  · exact own_ne ho h.row (by decide) e.symm
  · obtain ⟨cs, hk, _⟩ := own_blk ho e.symm
    exact blk_ne_map hk hm rfl
  · exact own_ne ho (h.file f hf).row (by decide) e.symm
  · cases hv : v.ownBlock with
    | none => cases (V f.name).ownBlock <;> simp
    | some k =>
      obtain ⟨cs, hk, _⟩ := own_blk ho hv
      exact .inr (own_ne (h.file f hf).own hk (by decide))
variable {B q j : Nat} {room : Int} {pre : List Seg} {now : Nat} {cur want : List (List UInt8)} {d : DDisk} {W w : World}
theorem JW.aside {n : Nat} {w' : World} {v : Value} {xs : List Value} (h : JW B q j room pre now cur want d W w) (ho : w.ownsRow B 9 1 v n xs) (hg : w.grownBy w' v.ownBlock) : JW B q j room pre now cur want d W w' :=
  ⟨h.js, h.ja.aside ho jr_ne_str hg, disk_aside h.da ho hg, h.bel.grown hg h.low (fun k hk => (World.ownsRow.lt ho k hk).1), h.tab, h.hB, h.cap, h.few⟩
end Go.Proofs.YtlhdnkfnhdkbkaaGreatDoor
namespace Go.Proofs.YtlhdnkfnhdkbkaaGreatDoor
open Go Go.RowKit

attribute [go_sem] rowLoad rowStore rowCopy

@[go_sem ↓] theorem copy_bytes (ty : TypeId) (args : Array Value) : Builtin.copy_ #[51, 51] ty args = copyOf #[51, 51] ty args := rfl
@[go_sem] theorem run_copy_bytes (w : World) (ty : TypeId) (b1 o1 n1 c1 b2 o2 n2 c2 : Nat) :
    (copyOf #[51, 51] ty #[.slice (some ⟨b1, o1, none⟩) n1 c1, .slice (some ⟨b2, o2, none⟩) n2 c2]).run Tryz.prog w =
      rowCopy w b1 o1 n1 b2 o2 n2 (elseCopy Tryz.prog 51 ty (.slice (some ⟨b1, o1, none⟩) n1 c1) (.slice (some ⟨b2, o2, none⟩) n2 c2) w) :=
  run_copy_word w 51 5 ty b1 o1 n1 c1 b2 o2 n2 c2 Tryz.underlying51 (by kernel_rfl)
theorem zeroL_cells : cellsL zeroLab = (List.replicate 32 (Value.int .u8 0)).toArray := by
  simp [cellsL, zeroLab, Extern.Stop.cell]
theorem zeroP_cells : cellsP 0 zeroLab = (Value.int .i64 0 :: List.replicate 32 (Value.int .u8 0)).toArray := by
  simp [cellsP, zeroLab, Extern.Stop.cell]
theorem Lab.open (a : Lab) : ∃ b0 b1 b2 b3 b4 b5 b6 b7 b8 b9 b10 b11 b12 b13 b14 b15 b16 b17 b18 b19 b20 b21 b22 b23 b24 b25 b26 b27 b28 b29 b30 b31 : UInt8,
    a.l = [b0, b1, b2, b3, b4, b5, b6, b7, b8, b9, b10, b11, b12, b13, b14, b15, b16, b17, b18, b19, b20, b21, b22, b23, b24, b25, b26, b27, b28, b29, b30, b31] := by
  obtain ⟨l, h⟩ := a
  match l, h with
  | [b0, b1, b2, b3, b4, b5, b6, b7, b8, b9, b10, b11, b12, b13, b14, b15, b16, b17, b18, b19, b20, b21, b22, b23, b24, b25, b26, b27, b28, b29, b30, b31], _ =>
    exact ⟨b0, b1, b2, b3, b4, b5, b6, b7, b8, b9, b10, b11, b12, b13, b14, b15, b16, b17, b18, b19, b20, b21, b22, b23, b24, b25, b26, b27, b28, b29, b30, b31, rfl⟩

theorem part_len (w : World) (n : Int) (a : Lab) : (part 3 (cellsP n a) 0).run Tryz.prog w = .ok (.int .i64 n) w := by
  simp only [part, Sem.run_bind, show (isAgg 3).run Tryz.prog w = .ok false w from by kernel_rfl, Result.andThen_ok, Bool.false_eq_true, if_false, get_cellsP0, Sem.run_pure]
end Go.Proofs.YtlhdnkfnhdkbkaaGreatDoor
namespace Go.Proofs.YtlhdnkfnhdkbkaaGreatDoor
open Go

/-- Bit k of a byte, the highest one first. -/
def bitB (x : UInt8) (k : Nat) : Nat := x.toNat / 2 ^ (7 - k) % 2
/-- Bit i of a label. -/
def bit (a : Lab) (i : Nat) : Nat := bitB (a.get (i / 8)) (i % 8)

theorem bitB_lt (x : UInt8) (k : Nat) : bitB x k < 2 := Nat.mod_lt _ (by decide)
theorem bit_lt (a : Lab) (i : Nat) : bit a i < 2 := bitB_lt _ _

theorem u8_all {p : UInt8 → Prop} (h : ∀ n : Fin 256, p (UInt8.ofNat n.val)) (x : UInt8) : p x := by
  have := h ⟨x.toNat, x.toNat_lt⟩
  simpa using this

theorem byte_ext {x y : UInt8} (h : ∀ k, k < 8 → bitB x k = bitB y k) : x = y := by
  apply UInt8.toNat_inj.1
  have hx := x.toNat_lt
  have hy := y.toNat_lt
  apply Nat.eq_of_testBit_eq
  intro i
  by_cases hi : i < 8
  · have := h (7 - i) (by omega)
    simp only [bitB, show 7 - (7 - i) = i by omega] at this
    rw [Nat.testBit_eq_decide_div_mod_eq, Nat.testBit_eq_decide_div_mod_eq, this]
  · have e : 2 ^ 8 ≤ 2 ^ i := Nat.pow_le_pow_right (by decide) (by omega)
    rw [Nat.testBit_lt_two_pow (by omega), Nat.testBit_lt_two_pow (by omega)]

theorem lab_ext {a b : Lab} (h : ∀ i, i < 256 → bit a i = bit b i) : a = b := by
  apply Lab.ext'
  intro i hi
  apply byte_ext
  intro k hk
  have := h (8 * i + k) (by omega)
  simpa [bit, show (8 * i + k) / 8 = i by omega, show (8 * i + k) % 8 = k by omega] using this

/-- So many bits are the same, and no more. -/
structure IsCommon (a b : Lab) (n : Nat) : Prop where
  le : n ≤ 256
  same : ∀ i, i < n → bit a i = bit b i
  other : n < 256 → bit a n ≠ bit b n
theorem IsCommon.eq {a b : Lab} {n m : Nat} (h : IsCommon a b n) (k : IsCommon a b m) : n = m := by
  rcases Nat.lt_trichotomy n m with hl | hl | hl
  · exact absurd (k.same n hl) (h.other (Nat.lt_of_lt_of_le hl k.le))
  · exact hl
  · exact absurd (h.same m hl) (k.other (Nat.lt_of_lt_of_le hl h.le))
def comFrom (a b : Lab) : Nat → Nat → Nat
  | 0, n => n
  | f + 1, n => if bit a n = bit b n then comFrom a b f (n + 1) else n
/-- How many bits are the same. -/
def common (a b : Lab) : Nat := comFrom a b 256 0
theorem comFrom_is (a b : Lab) : ∀ f n, n + f = 256 → (∀ i, i < n → bit a i = bit b i) → IsCommon a b (comFrom a b f n)
  | 0, n, hf, h => ⟨by simp [comFrom]; omega, by simpa [comFrom] using h, by simp [comFrom]; omega⟩
  | f + 1, n, hf, h => by
    rw [comFrom]
    split
    · rename_i he
      refine comFrom_is a b f (n + 1) (by omega) fun i hi => ?_
      by_cases e : i = n
      · subst e; exact he
      · exact h i (by omega)
    · rename_i he
      exact ⟨by omega, h, fun _ => he⟩
theorem common_is (a b : Lab) : IsCommon a b (common a b) := comFrom_is a b 256 0 rfl (by omega)
theorem common_of {a b : Lab} {n : Nat} (h : IsCommon a b n) : common a b = n := (common_is a b).eq h
theorem common_le (a b : Lab) : common a b ≤ 256 := (common_is a b).le
theorem common_256 {a b : Lab} : common a b = 256 ↔ a = b := by
  constructor
  · intro h
    have := (common_is a b).same
    rw [h] at this
    exact lab_ext this
  · rintro rfl
    exact common_of ⟨Nat.le_refl _, fun _ _ => rfl, fun h => absurd h (Nat.lt_irrefl _)⟩

theorem xor_bitB (x y : UInt8) (k : Nat) : (x.toNat ^^^ y.toNat) / 2 ^ (7 - k) % 2 = (bitB x k + bitB y k) % 2 := by
  have h := Nat.testBit_xor (x := x.toNat) (y := y.toNat) (i := 7 - k)
  rw [Nat.testBit_eq_decide_div_mod_eq, Nat.testBit_eq_decide_div_mod_eq, Nat.testBit_eq_decide_div_mod_eq] at h
  have h1 := bitB_lt x k
  have h2 := bitB_lt y k
  unfold bitB at h1 h2 ⊢
  have h3 : (x.toNat ^^^ y.toNat) / 2 ^ (7 - k) % 2 < 2 := Nat.mod_lt _ (by decide)
  generalize (x.toNat ^^^ y.toNat) / 2 ^ (7 - k) % 2 = p at *
  generalize x.toNat / 2 ^ (7 - k) % 2 = q at *
  generalize y.toNat / 2 ^ (7 - k) % 2 = r at *
  have c : p = 0 ∨ p = 1 := by omega
  have c2 : q = 0 ∨ q = 1 := by omega
  have c3 : r = 0 ∨ r = 1 := by omega
  rcases c with rfl | rfl <;> rcases c2 with rfl | rfl <;> rcases c3 with rfl | rfl <;> simp_all

/-- The first bit that is 1 of a byte that isn't 0. -/
theorem lead (z : Nat) (h0 : z ≠ 0) (h1 : z < 256) : Lib.bitLen z ≤ 8 ∧ 1 ≤ Lib.bitLen z ∧ (∀ j, j < 8 - Lib.bitLen z → z / 2 ^ (7 - j) % 2 = 0) ∧ z / 2 ^ (7 - (8 - Lib.bitLen z)) % 2 = 1 := by
  have key : ∀ n : Fin 256, n.val ≠ 0 → Lib.bitLen n.val ≤ 8 ∧ 1 ≤ Lib.bitLen n.val ∧ (∀ j : Fin 8, j.val < 8 - Lib.bitLen n.val → n.val / 2 ^ (7 - j.val) % 2 = 0) ∧ n.val / 2 ^ (7 - (8 - Lib.bitLen n.val)) % 2 = 1 := by decide +kernel
  obtain ⟨k1, k2, k3, k4⟩ := key ⟨z, h1⟩ h0
  exact ⟨k1, k2, fun j hj => k3 ⟨j, by omega⟩ hj, k4⟩

/-- Behind i bytes that are the same, and one that isn't. -/
theorem common_at {a b : Lab} {i : Nat} (hi : i < 32) (hs : ∀ j, j < i → a.get j = b.get j) (hne : (a.get i).toNat ^^^ (b.get i).toNat ≠ 0) :
    common a b = 8 * i + (8 - Lib.bitLen ((a.get i).toNat ^^^ (b.get i).toNat)) := by
  have hz : (a.get i).toNat ^^^ (b.get i).toNat < 2 ^ 8 := Nat.xor_lt_two_pow (a.get i).toNat_lt (b.get i).toNat_lt
  obtain ⟨k1, k2, k3, k4⟩ := lead _ hne hz
  generalize Lib.bitLen ((a.get i).toNat ^^^ (b.get i).toNat) = n at *
  apply common_of
  refine ⟨by omega, fun j hj => ?_, fun _ => ?_⟩
  · by_cases hlt : j < 8 * i
    · simp only [bit]
      rw [hs (j / 8) (by omega)]
    · have e : j / 8 = i := by omega
      have h := k3 (j % 8) (by omega)
      rw [xor_bitB] at h
      simp only [bit, e]
      have h1 := bitB_lt (a.get i) (j % 8)
      have h2 := bitB_lt (b.get i) (j % 8)
      omega
  · have e : (8 * i + (8 - n)) / 8 = i := by omega
    have e2 : (8 * i + (8 - n)) % 8 = 8 - n := by omega
    rw [xor_bitB] at k4
    simp only [bit, e, e2]
    have h1 := bitB_lt (a.get i) (8 - n)
    have h2 := bitB_lt (b.get i) (8 - n)
    omega
theorem xor_ne {x y : UInt8} : x.toNat ^^^ y.toNat = 0 ↔ x = y := by
  constructor
  · intro h
    have h2 : (x.toNat ^^^ y.toNat) ^^^ y.toNat = 0 ^^^ y.toNat := by rw [h]
    rw [Nat.xor_assoc, Nat.xor_self, Nat.xor_zero, Nat.zero_xor] at h2
    exact UInt8.toNat_inj.1 h2
  · rintro rfl
    exact Nat.xor_self _

/-- The order of two labels. -/
def order (a b : Lab) : Int := if common a b = 256 then 0 else 2 * (bit a (common a b) : Int) - 1

/-- The order of two bytes is that of their first bits that are unlike. -/
theorem byte_lt (x y : UInt8) (k : Nat) (hk : k < 8) (hs : ∀ j, j < k → bitB x j = bitB y j) (hx : bitB x k = 0) (hy : bitB y k = 1) : x < y := by
  rw [UInt8.lt_iff_toNat_lt]
  have hx8 := x.toNat_lt
  have hy8 := y.toNat_lt
  have top : x.toNat / 2 ^ (8 - k) = y.toNat / 2 ^ (8 - k) := by
    apply Nat.eq_of_testBit_eq
    intro i
    rw [Nat.testBit_div_two_pow, Nat.testBit_div_two_pow]
    by_cases hi : i + (8 - k) < 8
    · have := hs (7 - (i + (8 - k))) (by omega)
      simp only [bitB, show 7 - (7 - (i + (8 - k))) = i + (8 - k) by omega] at this
      rw [Nat.testBit_eq_decide_div_mod_eq, Nat.testBit_eq_decide_div_mod_eq, this]
    · have e : 2 ^ 8 ≤ 2 ^ (i + (8 - k)) := Nat.pow_le_pow_right (by decide) (by omega)
      rw [Nat.testBit_lt_two_pow (by omega), Nat.testBit_lt_two_pow (by omega)]
  simp only [bitB] at hx hy
  have e : 2 ^ (8 - k) = 2 * 2 ^ (7 - k) := by rw [show 8 - k = (7 - k) + 1 by omega, Nat.pow_succ, Nat.mul_comm]
  rw [e] at top
  have p : 0 < 2 ^ (7 - k) := Nat.pow_pos (by decide)
  generalize 2 ^ (7 - k) = m at *
  rw [Nat.mul_comm, ← Nat.div_div_eq_div_mul, ← Nat.div_div_eq_div_mul] at top
  have : x.toNat / m < y.toNat / m := by omega
  rcases Nat.lt_or_ge x.toNat y.toNat with h | h
  · exact h
  · have := Nat.div_le_div_right (c := m) h
    omega

theorem compare_at : ∀ (n : Nat) (l m : List UInt8), l.length = m.length → n < l.length → (∀ j, j < n → l.getD j 0 = m.getD j 0) → Lib.compareBytes l m = Lib.compareBytes (l.drop n) (m.drop n)
  | 0, l, m, _, _, _ => by simp
  | n + 1, [], _, _, h, _ => by simp at h
  | n + 1, x :: l, [], h, _, _ => by simp at h
  | n + 1, x :: l, y :: m, h, hn, hs => by
    have e : x = y := by simpa using hs 0 (by omega)
    subst e
    simp only [Lib.compareBytes, UInt8.lt_irrefl, if_false, List.drop_succ_cons]
    exact compare_at n l m (by simpa using h) (by simpa using hn) fun j hj => by simpa using hs (j + 1) (by omega)
theorem compare_self : ∀ l : List UInt8, Lib.compareBytes l l = 0
  | [] => rfl
  | x :: l => by simp [Lib.compareBytes, UInt8.lt_irrefl, compare_self l]

theorem compare_order (a b : Lab) : Lib.compareBytes a.l b.l = order a b := by
  by_cases he : a = b
  · subst he
    rw [compare_self, order, if_pos (common_256.2 rfl)]
  · have hc : common a b ≠ 256 := fun h => he (common_256.1 h)
    have is := common_is a b
    have hlt : common a b < 256 := Nat.lt_of_le_of_ne is.le hc
    rw [order, if_neg hc]
    generalize common a b = n at *
    have ha := a.h
    have hb := b.h
    have hs : ∀ j, j < n / 8 → a.l.getD j 0 = b.l.getD j 0 := by
      intro j hj
      show a.get j = b.get j
      apply byte_ext
      intro k hk
      have := is.same (8 * j + k) (by omega)
      simpa [bit, show (8 * j + k) / 8 = j by omega, show (8 * j + k) % 8 = k by omega] using this
    rw [compare_at (n / 8) a.l b.l (by omega) (by omega) hs]
    have da : a.l.drop (n / 8) = a.get (n / 8) :: a.l.drop (n / 8 + 1) := by
      rw [List.drop_eq_getElem_cons (by omega)]
      simp [Lab.get, List.getD, show n / 8 < a.l.length by omega]
    have db : b.l.drop (n / 8) = b.get (n / 8) :: b.l.drop (n / 8 + 1) := by
      rw [List.drop_eq_getElem_cons (by omega)]
      simp [Lab.get, List.getD, show n / 8 < b.l.length by omega]
    rw [da, db, Lib.compareBytes]
    have hbits : ∀ j, j < n % 8 → bitB (a.get (n / 8)) j = bitB (b.get (n / 8)) j := by
      intro j hj
      have := is.same (8 * (n / 8) + j) (by omega)
      simpa [bit, show (8 * (n / 8) + j) / 8 = n / 8 by omega, show (8 * (n / 8) + j) % 8 = j by omega] using this
    have ho := is.other hlt
    have b1 := bit_lt a n
    have b2 := bit_lt b n
    have c : bit a n = 0 ∧ bit b n = 1 ∨ bit a n = 1 ∧ bit b n = 0 := by omega
    rcases c with ⟨c1, c2⟩ | ⟨c1, c2⟩
    · rw [if_pos (byte_lt _ _ (n % 8) (by omega) hbits c1 c2), c1]
      rfl
    · have hlt' := byte_lt _ _ (n % 8) (by omega) (fun j hj => (hbits j hj).symm) c2 c1
      rw [if_neg (fun h => absurd (UInt8.lt_trans h hlt') (UInt8.lt_irrefl _)), if_pos hlt', c1]
      rfl
/-! ### The walk's words -/
theorem i64_and (a b : Nat) (ha : a < 9223372036854775808) (hb : b < 9223372036854775808) : bits .and .i64 (a : Int) (b : Int) = ((a &&& b : Nat) : Int) := by
  have hx : a &&& b < 2 ^ 63 := Nat.and_lt_two_pow _ (by omega)
  show IntKind.i64.wrap ((BitVec.ofInt 64 (a : Int) &&& BitVec.ofInt 64 (b : Int)).toNat : Int) = _
  rw [BitVec.toNat_and, ofInt_u64 a (by omega), ofInt_u64 b (by omega)]
  exact IntWalk.i64_in _ (by omega)
theorem i64_or (a b : Nat) (ha : a < 9223372036854775808) (hb : b < 9223372036854775808) : bits .or .i64 (a : Int) (b : Int) = ((a ||| b : Nat) : Int) := by
  have hx : a ||| b < 2 ^ 63 := Nat.or_lt_two_pow (by omega) (by omega)
  show IntKind.i64.wrap ((BitVec.ofInt 64 (a : Int) ||| BitVec.ofInt 64 (b : Int)).toNat : Int) = _
  rw [BitVec.toNat_or, ofInt_u64 a (by omega), ofInt_u64 b (by omega)]
  exact IntWalk.i64_in _ (by omega)
theorem div_pow_cast (x k : Nat) : (x : Int) / 2 ^ k = ((x / 2 ^ k : Nat) : Int) := by
  rw [Int.natCast_ediv, Int.natCast_pow]
  rfl
theorem bit_walk (a : Lab) (i : Int) (h0 : 0 ≤ i) (h1 : i < 256) :
    bits .and .i64 (Go.RowKit.wrap64 (((a.get (i / 8).toNat).toNat : Int) / 2 ^ (7 - i % 8).toNat)) 1 = (bit a i.toNat : Int) := by
  have hx := (a.get (i / 8).toNat).toNat_lt
  have hle : (a.get (i / 8).toNat).toNat / 2 ^ (7 - i % 8).toNat ≤ (a.get (i / 8).toNat).toNat := Nat.div_le_self _ _
  rw [div_pow_cast]
  have e : bit a i.toNat = (a.get (i / 8).toNat).toNat / 2 ^ (7 - i % 8).toNat % 2 := by
    rw [bit, bitB, show (i / 8).toNat = i.toNat / 8 by omega, show (7 - i % 8).toNat = 7 - i.toNat % 8 by omega]
  rw [e]
  generalize (a.get (i / 8).toNat).toNat / 2 ^ (7 - i % 8).toNat = q at *
  rw [IntWalk.wrap64_in _ ⟨by omega, by omega⟩, show (1 : Int) = ((1 : Nat) : Int) from rfl, i64_and _ _ (by omega) (by omega), nat_mask1]
end Go.Proofs.YtlhdnkfnhdkbkaaGreatDoor
namespace Go.Proofs.YtlhdnkfnhdkbkaaGreatDoor
open Go Go.RowKit

theorem below_drewN {B : Nat} {a w : World} (h : Below B a w) (n : Nat) : Below B a (w.drewN n) := ⟨h.os, h.tape, h.output, h.size, h.block⟩
theorem ret_int {k : IntKind} {a b : Int} (h : a = b) : Ending.returned (.int k a) = .returned (.int k b) := by rw [h]

def bitI (a : Lab) (i : Int) : Int := if 0 ≤ i ∧ i < 256 then (bit a i.toNat : Int) else 0

theorem half_walk (x k : Nat) : ((x : Int) / 2 ^ k) / 2 = (x : Int) / 2 ^ (k + 1) := by
  rw [div_pow_cast, div_pow_cast, Nat.pow_succ, ← Nat.div_div_eq_div_mul]
  rfl

theorem run_bytes_row (w : World) (b1 : Nat) (x : Lab) (h1 : rowAt w b1 = some (cellsL x)) (c : Nat) : (Extern.Bytes.bytesOf (.slice (some ⟨b1, 0, none⟩) 32 c)).run Tryz.prog w = .ok ⟨x.l.toArray⟩ w := by
  have hl := Lib.run_loadBytesX (P := Tryz.prog) w (x.l.map fun b => (b.toNat : Int)) ⟨b1, 0, none⟩ .empty (fun j v hj => by
    have hjl : j < x.l.length := by simpa using (List.getElem?_eq_some_iff.1 hj).1
    have e : (⟨b1, 0, none⟩ : Addr).add j = ⟨b1, j, none⟩ := by unfold Addr.add; split <;> simp_all
    have := x.h
    rw [e, cell_of_rowAt h1, get_cellsL x j (by omega)]
    simp only [List.getElem?_map, Option.map_eq_some_iff] at hj
    obtain ⟨u, hu, rfl⟩ := hj
    simp [Lab.get, List.getD, hu])
  have e : Lib.bytesOf (x.l.map fun b => (b.toNat : Int)) = x.l := by
    have hid : ((fun n : Int => UInt8.ofNat n.toNat) ∘ fun b : UInt8 => (b.toNat : Int)) = id := by
      funext b
      simp
    simp [Lib.bytesOf, hid]
  rw [e] at hl
  simp only [List.length_map, x.h] at hl
  simp only [Extern.Bytes.bytesOf]
  rw [hl]
  simp
theorem run_compare_rows (w : World) (b1 b2 : Nat) (x y : Lab) (h1 : rowAt w b1 = some (cellsL x)) (h2 : rowAt w b2 = some (cellsL y)) (c d : Nat) :
    (Extern.BytealgCompare.compare #[.slice (some ⟨b1, 0, none⟩) 32 c, .slice (some ⟨b2, 0, none⟩) 32 d]).run Tryz.prog w = .ok (.int .i64 (order x y)) w := by
  have l1 := run_bytes_row w b1 x h1 c
  have l2 := run_bytes_row w b2 y h2 d
  change Sem.run Tryz.prog (do pure (goInt (Extern.BytealgCompare.cmp (← Extern.Bytes.bytesOf (.slice (some ⟨b1, 0, none⟩) 32 c)) (← Extern.Bytes.bytesOf (.slice (some ⟨b2, 0, none⟩) 32 d))))) w = _
  simp only [Sem.run_bind, l1, l2, Result.andThen_ok, Sem.run_pure, Lib.cmp_eq, compare_order]
  rfl
end Go.Proofs.YtlhdnkfnhdkbkaaGreatDoor
namespace Go.Proofs.YtlhdnkfnhdkbkaaGreatDoor
open Go Go.RowKit

def hexDigits : List UInt8 := [48, 49, 50, 51, 52, 53, 54, 55, 56, 57, 97, 98, 99, 100, 101, 102]
def dig (c : UInt8) : Int := Lib.indexByte hexDigits c
theorem dig_range : ∀ n : Fin 256, -1 ≤ dig (UInt8.ofNat n.val) ∧ dig (UInt8.ofNat n.val) ≤ 15 := by decide +kernel
theorem dig_lo (c : UInt8) : -1 ≤ dig c := u8_all (p := fun c => -1 ≤ dig c) (fun n => (dig_range n).1) c
theorem dig_hi (c : UInt8) : dig c ≤ 15 := u8_all (p := fun c => dig c ≤ 15) (fun n => (dig_range n).2) c

theorem dig_first (c : UInt8) (k : Nat) (hk : k ≤ 16) (h : ∀ j : Nat, j < k → hexDigits[j]? ≠ some c) : (k = 16 → dig c = -1) ∧ (hexDigits[k]? = some c → dig c = k) := by
  by_cases hd : dig c = -1
  · exact ⟨fun _ => hd, fun e => absurd e (Lib.indexByte_none hd k)⟩
  · have := dig_lo c
    obtain ⟨o, ho⟩ : ∃ o : Nat, dig c = o := ⟨(dig c).toNat, by omega⟩
    obtain ⟨h1, h2⟩ := Lib.indexByte_some ho
    have ho16 : o < 16 := (List.getElem?_eq_some_iff.1 h1).1
    rcases Nat.lt_trichotomy o k with hl | hl | hl
    · exact absurd h1 (h o hl)
    · subst hl
      exact ⟨fun e => absurd e (by omega), fun _ => ho⟩
    · exact ⟨fun e => absurd e (by omega), fun e => absurd e (h2 k hl)⟩

theorem hex_at (i : Nat) (h : i < 16) (h' : i < (⟨#[48, 49, 50, 51, 52, 53, 54, 55, 56, 57, 97, 98, 99, 100, 101, 102]⟩ : ByteArray).size) :
    hexDigits[i]? = some ((⟨#[48, 49, 50, 51, 52, 53, 54, 55, 56, 57, 97, 98, 99, 100, 101, 102]⟩ : ByteArray)[i]'h') := by
  rw [List.getElem?_eq_getElem (show i < hexDigits.length from h)]
  rfl
theorem eq_of_beq_nat {x c : UInt8} (h : ((x.toNat : Int) == (c.toNat : Int)) = true) : c = x := by
  have h1 : (x.toNat : Int) = c.toNat := by simpa using h
  have h2 : x.toNat = c.toNat := by omega
  exact (UInt8.toNat_inj.1 h2).symm

/-- The byte of two digits; how far a text has digits. -/
def at_ (s : ByteArray) (i : Nat) : UInt8 := s.data.toList.getD i 0
def val (s : ByteArray) (j : Nat) : Nat := (16 * dig (at_ s (2 * j)) + dig (at_ s (2 * j + 1))).toNat
def okTo (s : ByteArray) (k : Nat) : Prop := ∀ j, j < k → 0 ≤ dig (at_ s (2 * j)) ∧ 0 ≤ dig (at_ s (2 * j + 1))
def readTo (s : ByteArray) (k : Nat) : Lab := ⟨(List.range 32).map fun j => if j < k then UInt8.ofNat (val s j) else 0, by simp⟩
theorem readTo_zero (s : ByteArray) : readTo s 0 = zeroLab := Lab.ext' fun j hj => by rw [zeroLab_get]; simp [readTo, Lab.get, hj]
theorem readTo_succ (s : ByteArray) (k : Nat) : (readTo s k).set k (UInt8.ofNat (val s k)) = readTo s (k + 1) := Lab.ext' fun j hj => by
  rw [Lab.get_set _ _ _ _ hj]
  have h1 : ∀ q, (readTo s q).get j = if j < q then UInt8.ofNat (val s j) else 0 := fun q => by simp [readTo, Lab.get, hj]
  rw [h1, h1]
  by_cases e : k = j
  · subst e; simp
  · have : (j < k + 1) ↔ (j < k) := by omega
    simp [e, this]
instance (s : ByteArray) (k : Nat) : Decidable (okTo s k) := by unfold okTo; infer_instance
theorem get_at (s : ByteArray) (i : Nat) (h : i < s.size) : s[i] = at_ s i := by
  have h2 : i < s.data.toList.length := by simpa using h
  unfold at_
  rw [List.getD_eq_getElem?_getD, List.getElem?_eq_getElem h2]
  rfl

theorem or_digits (P Q : Nat) (hP : P ≤ 15) (hQ : Q ≤ 15) : P * 16 ||| Q = 16 * P + Q := by
  have : ∀ (p q : Fin 16), p.val * 16 ||| q.val = 16 * p.val + q.val := by decide +kernel
  exact this ⟨P, by omega⟩ ⟨Q, by omega⟩
end Go.Proofs.YtlhdnkfnhdkbkaaGreatDoor
