/- Lists of things to be written or read: as they come in, and a copy of the first forty. Conditions: none. -/
import Derived.Test.YthcaolinajfjpaaRow
import Derived.Test.YthcaolinajfjpaaLabRun
import Derived.Test.YthcaolinajfjpaaQuiet
import Derived.ChangeMaps5
import Derived.Deep.Slices
import Derived.Laws.AppendOwn
import Derived.Laws.AppendOwnNone
import Derived.Lib.Hide
namespace Go.Proofs.Ythcaolinajfjpaa
open Go Go.RowKit Go.ChangeShapes Go.WideShapes Go.Deep

/-- A thing. -/
structure Thing where
  k : Int
  n : Int
  s : ByteArray
  l : Lab
def cellsT (t : Thing) : Array Value := (Value.int .i64 t.k :: .int .i64 t.n :: .string t.s :: t.l.l.map Extern.Stop.cell).toArray
def zeroThing : Thing := ⟨0, 0, ⟨#[]⟩, zeroLab⟩
@[go_sem, simp] theorem size_cellsT (t : Thing) : (cellsT t).size = 35 := by simp [cellsT, t.l.h]
theorem get_cellsT0 (t : Thing) : (cellsT t)[0]? = some (.int .i64 t.k) := by simp [cellsT]
theorem get_cellsT1 (t : Thing) : (cellsT t)[1]? = some (.int .i64 t.n) := by simp [cellsT]
theorem get_cellsT2 (t : Thing) : (cellsT t)[2]? = some (.string t.s) := by simp [cellsT]
@[go_sem, simp] theorem one_cellsT (t : Thing) : oneCells (cellsT t) = true := by
  simp [oneCells, cellsT, Extern.Stop.cell, Value.oneCell']
@[go_sem, simp] theorem extract_cellsT (t : Thing) : (cellsT t).extract 0 35 = cellsT t := by
  have h := size_cellsT t
  conv => rhs; rw [← Array.extract_size (xs := cellsT t), h]
@[go_sem, simp] theorem extract_cellsT3 (t : Thing) : (cellsT t).extract 3 35 = cellsL t.l := by
  simp only [cellsT, cellsL, List.extract_toArray]
  congr 1
  simp [List.extract, List.take_of_length_le, t.l.h]
@[go_sem, simp] theorem splice_cellsT (a b : Thing) : splice (cellsT a) 0 (cellsT b).toList = cellsT b := splice_whole _ _ (by simp)

@[go_sem ↓] theorem load_thing (v : Value) : Instr.loadAt 47 v = loadOf 47 v := rfl
@[go_sem ↓] theorem store_thing (v x : Value) : Instr.storeAt 47 v x = storeOf 47 v x := rfl
@[go_sem ↓] theorem zeroOf_thing : zeroValue 47 = zeroOf 47 := rfl
@[go_sem] theorem run_load_thing (w : World) (b o : Nat) : (loadOf 47 (.pointer (some ⟨b, o, none⟩))).run Try.prog w = rowLoad w b o 35 (elseLoad Try.prog 47 b o w) :=
  run_loadAt_rowAt w b o 35 47 _ Try.underlying47 rfl (by kernel_rfl)
@[go_sem] theorem run_store_thing (w : World) (b o : Nat) (v : Array Value) : (storeOf 47 (.pointer (some ⟨b, o, none⟩)) (.agg v)).run Try.prog w = rowStore w b o 35 v (elseStore Try.prog 47 b o v w) :=
  run_storeAt_rowAt w b o 35 47 v (by kernel_rfl)
theorem zeroT_cells : cellsT zeroThing = (Value.int .i64 0 :: .int .i64 0 :: .string ⟨#[]⟩ :: List.replicate 32 (Value.int .u8 0)).toArray := by
  simp [cellsT, zeroThing, zeroLab, Extern.Stop.cell]
@[go_sem] theorem zero_thing (w : World) : (zeroOf 47).run Try.prog w = .ok (.agg (cellsT zeroThing)) w := by
  rw [zeroT_cells]
  kernel_rfl

/-- Things that lie in memory, one behind the other. -/
def ThingsAt (w : World) (a : Addr) (n : Nat) (T : Nat → Thing) : Prop := ∀ i, i < n → ∀ j, j < 35 → w.cell? (a.add (i * 35 + j)) = (cellsT (T i))[j]?
def Thing.wf (t : Thing) : Prop := (Lit.int .i64 t.k).wf = true ∧ (Lit.int .i64 t.n).wf = true ∧ t.s.size ≤ maxLen

section
variable {H : Type} {enc : TypeId × Value → H} {W : World} {sp : Nat → Bool} {held : Bool} {base : Nat}
theorem cellsOf_thing : Try.prog.cellsOf 47 = 35 := by kernel_rfl
theorem cellsOf_str : Try.prog.cellsOf 9 = 1 := by kernel_rfl
theorem cells_thing {cs : List Value} (hl : cs.length = 35) {k m : Int} {s : ByteArray} {a : Lab} (e0 : List.take 1 (List.drop 0 cs) = [Value.int .i64 k]) (e1 : List.take 1 (List.drop 1 cs) = [Value.int .i64 m]) (e2 : List.take 1 (List.drop 2 cs) = [Value.string s]) (e3 : List.take 32 (List.drop 3 cs) = List.map Extern.Stop.cell a.l) : cs = (cellsT ⟨k, m, s, a⟩).toList := by
  match cs, hl with
  | c0 :: c1 :: c2 :: r, hr =>
    simp only [List.drop_zero, List.take_succ_cons, List.take_zero, List.drop_succ_cons, List.cons.injEq, and_true] at e0 e1 e2 e3
    rw [List.take_of_length_le (by simp at hr; omega)] at e3
    rw [e0, e1, e2, e3]
    rfl
theorem thing_of_cells {fuel : Nat} {cs : List Value} {x : DataW H × List MemPlace} (hf : DataW.trod enc Try.prog W 0 sp held fuel 47 cs = some x) : ∃ t : Thing, cs = (cellsT t).toList ∧ t.wf := by
  obtain ⟨xs, n, _, _, hl, hxl, hg⟩ := DataW.trod_struct Try.underlying47 hf
  rw [cellsOf_thing] at hl
  have f0 : DataW.trod enc Try.prog W 0 sp held n 3 ((cs.drop 0).take (Try.prog.cellsOf 3)) = xs[0]? := hg 0 _ rfl
  have f1 : DataW.trod enc Try.prog W 0 sp held n 3 ((cs.drop 1).take (Try.prog.cellsOf 3)) = xs[1]? := hg 1 _ rfl
  have f2 : DataW.trod enc Try.prog W 0 sp held n 9 ((cs.drop 2).take (Try.prog.cellsOf 9)) = xs[2]? := hg 2 _ rfl
  have f3 : DataW.trod enc Try.prog W 0 sp held n 23 ((cs.drop 3).take (Try.prog.cellsOf 23)) = xs[3]? := hg 3 _ rfl
  rw [cellsOf_int] at f0 f1
  rw [cellsOf_str] at f2
  rw [cellsOf_lab] at f3
  have hx : xs.length = 4 := hxl
  rw [List.getElem?_eq_getElem (by omega)] at f0 f1 f2 f3
  obtain ⟨k, e0, _, w0⟩ := DataW.trod_int Try.underlying3 f0
  obtain ⟨m, e1, _, w1⟩ := DataW.trod_int Try.underlying3 f1
  obtain ⟨s, e2, _, w2⟩ := DataW.trod_string Try.underlying9 f2
  obtain ⟨a, e3⟩ := lab_of_cells Try.underlying23 Try.underlying5 cellsOf_u8 cellsOf_lab f3
  refine ⟨⟨k, m, s, a⟩, ?_, w0, w1, w2⟩
  exact cells_thing hl e0 e1 e2 e3
/-- A list of things that came in. -/
theorem open_things {P : Program} {tt te : TypeId} (hu : P.underlying tt = some (.slice te)) (hce : P.cellsOf te = 35) (hth : ∀ (fuel : Nat) (cs : List Value) (x : DataW H × List MemPlace), DataW.trod enc P W 0 sp held fuel te cs = some x → ∃ t : Thing, cs = (cellsT t).toList ∧ t.wf) {v : Value} {d : DataW H} {p : List MemPlace} (hval : Value.okWide P W .any base tt v) (hd : DataW.Trod enc P W 0 sp held tt v d p) :
    v = .slice none 0 0 ∨ ∃ (a : Addr) (len cap : Nat) (T : Nat → Thing), v = .slice (some a) len cap ∧ len ≤ cap ∧ cap ≤ maxLen ∧ ThingsAt W a len T ∧ ∀ i, i < len → (T i).wf := by
  obtain ⟨ao, len, cap, rfl⟩ := okWide_slice hu hval
  obtain ⟨fuel, hf⟩ := hd
  rcases open_slice hu hf with ⟨h, _⟩ | ⟨a, len', cap', m, n, D, Pl, hcs, _, hl, hm, hmm, _, hx⟩
  · left
    simpa [Value.cells] using h
  · right
    have hc : (ao = some a ∧ len = len' ∧ cap = cap') := by simpa [Value.cells] using hcs
    obtain ⟨rfl, rfl, rfl⟩ := hc
    have hlm : len ≤ m := by rw [hmm]; split <;> omega
    have : ∀ i, ∃ t : Thing, i < len → (∀ j, j < 35 → W.cell? (a.add (i * 35 + j)) = (cellsT t)[j]?) ∧ t.wf := fun i => by
      by_cases hi : i < len
      · obtain ⟨cs, h1, h2⟩ := hx i (by omega)
        rw [hce] at h1
        obtain ⟨t, ht, hw⟩ := hth _ _ _ h2
        obtain ⟨_, hcl, hat⟩ := World.cells?_some h1
        refine ⟨t, fun _ => ⟨fun j hj => ?_, hw⟩⟩
        have := hat j hj
        rw [ht, Array.getElem?_toList, Deep.add_add] at this
        exact this
      · exact ⟨zeroThing, fun h => absurd h hi⟩
    obtain ⟨T, hT⟩ := Classical.axiomOfChoice this
    exact ⟨a, len, cap, T, rfl, hl, hm, fun i hi j hj => (hT i hi).1 j hj, fun i hi => (hT i hi).2⟩
end

/-- A copy of things in a block of its own. -/
def OwnThings (w : World) (g n : Nat) (T : Nat → Thing) : Prop := ∃ cur : Array Value, rowAt w g = some cur ∧ n * 35 ≤ cur.size ∧ ∀ i, i < n → cur.extract (i * 35) (i * 35 + 35) = cellsT (T i)
theorem OwnThings.row {w w' : World} {g n : Nat} {T : Nat → Thing} (h : OwnThings w g n T) (k : rowAt w' g = rowAt w g) : OwnThings w' g n T := by
  obtain ⟨cur, h1, h2⟩ := h
  exact ⟨cur, k.trans h1, h2⟩
def cellsTs (n : Nat) (T : Nat → Thing) : List Value := (List.range n).flatMap fun i => (cellsT (T i)).toList
theorem cellsTs_length (n : Nat) (T : Nat → Thing) : (cellsTs n T).length = n * 35 := by
  induction n with
  | zero => rfl
  | succ n ih =>
    rw [cellsTs, List.range_succ, List.flatMap_append, List.length_append]
    rw [cellsTs] at ih
    rw [ih]
    simp
    omega
theorem cellsTs_get (n : Nat) (T : Nat → Thing) (i j : Nat) (hi : i < n) (hj : j < 35) : (cellsTs n T)[i * 35 + j]? = (cellsT (T i))[j]? := by
  induction n with
  | zero => omega
  | succ n ih =>
    have e : cellsTs (n + 1) T = cellsTs n T ++ (cellsT (T n)).toList := by
      rw [cellsTs, List.range_succ, List.flatMap_append]
      simp [cellsTs]
    rw [e]
    by_cases h : i < n
    · rw [List.getElem?_append_left (by rw [cellsTs_length]; omega), ih h]
    · obtain rfl : i = n := by omega
      rw [List.getElem?_append_right (by rw [cellsTs_length]; omega), cellsTs_length, show i * 35 + j - i * 35 = j by omega, Array.getElem?_toList]
theorem ThingsAt.list {w : World} {a : Addr} {n : Nat} {T : Nat → Thing} (h : ThingsAt w a n T) : ∀ j u, (cellsTs n T)[j]? = some u → w.cell? (a.add j) = some u := by
  intro j u hu
  have hj : j < n * 35 := by
    rw [← cellsTs_length n T]
    exact (List.getElem?_eq_some_iff.1 hu).1
  have e : j / 35 * 35 + j % 35 = j := by omega
  have h1 := h (j / 35) (by omega) (j % 35) (by omega)
  have h2 := cellsTs_get n T (j / 35) (j % 35) (by omega) (by omega)
  rw [e] at h1 h2
  rw [h1, ← h2, hu]
theorem one_cellsTs (n : Nat) (T : Nat → Thing) : ∀ u ∈ cellsTs n T, u.oneCell' = true := by
  intro u hu
  rw [cellsTs, List.mem_flatMap] at hu
  obtain ⟨i, _, hi⟩ := hu
  have := one_cellsT (T i)
  rw [oneCells, Array.all_eq_true_iff_forall_mem] at this
  exact this u (by simpa using hi)
theorem own_things {w : World} {B : Nat} {v : Value} {n : Nat} {T : Nat → Thing} (h : w.ownsRow B 47 35 v n (cellsTs n T)) (hv : v ≠ .slice none 0 0) :
    ∃ g cap, v = .slice (some ⟨g, 0, none⟩) n cap ∧ B ≤ g ∧ n ≤ cap ∧ cap ≤ maxLen ∧ OwnThings w g n T := by
  rcases h.2 with ⟨h1, _⟩ | ⟨g, cap, cur, h1, h2, h3, h4, h5, h6, h7⟩
  · exact absurd h1 hv
  · have hz : n * 35 ≤ cur.size := by rw [h6]; exact Nat.mul_le_mul_right 35 h4
    refine ⟨g, cap, h1, h2, h4, h5, cur, rowAt_of_heap h3, hz, fun i hi => ?_⟩
    apply Array.ext_getElem?
    intro j
    rw [Array.getElem?_extract]
    by_cases hj : j < 35
    · rw [if_pos (by omega), ← cellsTs_get n T i j hi hj, ← h7, List.getElem?_take, if_pos (by omega), Array.getElem?_toList]
    · rw [if_neg (by omega), Array.getElem?_eq_none (by rw [size_cellsT]; omega)]

theorem info_thing : ∃ i : TypeInfo, Try.prog.info? 47 = some i ∧ i.zero = some (.agg (cellsT zeroThing)) ∧ i.size = 35 ∧ i.bytes = 64 := by
  have h : (Try.prog.info? 47).map (fun i => (i.zero, i.size, i.bytes)) = some (some (.agg (cellsT zeroThing)), 35, 64) := by
    rw [zeroT_cells]
    kernel_rfl
  cases hq : Try.prog.info? 47 with
  | none => rw [hq] at h; cases h
  | some i =>
    rw [hq] at h
    simp only [Option.map_some, Option.some.injEq, Prod.mk.injEq] at h
    exact ⟨i, rfl, h.1, h.2.1, h.2.2⟩

/-- What few answers: the first things, in a block of its own. -/
def Few (w : World) (m : Nat) (T : Nat → Thing) (e : Ending) (w' : World) : Prop :=
  ∃ g cap, e = .returned (.slice (some ⟨g, 0, none⟩) m cap) ∧ w.heap.size ≤ g ∧ m ≤ cap ∧ cap ≤ maxLen ∧ OwnThings w' g m T ∧ Below w.heap.size w w'

theorem own_empty (w : World) : (w.alloc (.cells #[] 47)).ownsRow w.heap.size 47 35 (.slice (some ⟨w.heap.size, 0, none⟩) 0 0) 0 [] :=
  ⟨rfl, .inr ⟨w.heap.size, 0, #[], rfl, Nat.le_refl _, heap_alloc_new w _, Nat.le_refl _, Nat.zero_le _, rfl, rfl⟩⟩
theorem cell_lt {w : World} {a : Addr} {v : Value} (h : w.cell? a = some v) : a.block < w.heap.size := by
  unfold World.cell? at h
  rcases Nat.lt_or_ge a.block w.heap.size with k | k
  · exact k
  · rw [Array.getElem?_eq_none k] at h
    cases h

set_option maxRecDepth 100000 in
theorem few_small (a : Addr) (len cap : Nat) (T : Nat → Thing) (w : World) (h : ThingsAt w a len T) (hl : len ≤ 40) :
    Calls Try.prog 25 #[.slice (some a) len cap, .int .i64 40] w (Few w len T) := by
  have hl' : decide (40 < (len : Int)) = false := decide_eq_false (by omega)
  have a0 : Below w.heap.size w (w.alloc (.cells #[] 47)) := (Below.refl _ _).alloc (Nat.le_refl _) _
  obtain ⟨i0, hi, hz0, hz1, hz2⟩ := info_thing
  have hnews : ∀ j u, (cellsTs len T)[j]? = some u → (w.alloc (.cells #[] 47)).cell? (a.add j) = some u := fun j u hu => by
    have h1 := ThingsAt.list (fun i hi => h i (by omega)) j u hu
    exact (a0.cell (p := a.add j) (cell_lt h1)).trans h1
  have HN := Lib.hid hnews
  clear hnews h
  skip
  go_enter Try.func25, Try.ntmps25
  go_wp2_with (at_builtin; refine wpList_append_own _ rfl _ _ 41 rfl w.heap.size 47 i0 (.agg (cellsT zeroThing)) 35 64 Try.underlying41 hi hz0 hz1 hz2 (by simp [Value.cells]) (by decide) _ 0 [] rfl (own_empty w) a len cap (cellsTs len T) rfl (cellsTs_length _ _) HN.out (one_cellsTs _ _) ?len ?bytes ?base ?_)
  case len => unfold maxLen; omega
  case bytes => omega
  case base => exact a0.size
  intro v' w' hown hgrow hnil
  obtain ⟨g, cap', rfl, h1, h2, h3, h4⟩ := own_things hown hnil
  have b1 : Below w.heap.size w w' := a0.grown hgrow a0.size (fun k hk => by simp [Value.ownBlock] at hk; omega)
  clear hown hgrow hnil
  go_wp2_with fail
  go_ret
  exact ⟨g, cap', rfl, h1, h2, h3, h4, b1⟩
set_option maxRecDepth 100000 in
theorem few_big (a : Addr) (len cap : Nat) (T : Nat → Thing) (w : World) (h : ThingsAt w a len T) (hl : 40 < len) (hc : len ≤ cap) :
    Calls Try.prog 25 #[.slice (some a) len cap, .int .i64 40] w (Few w 40 T) := by
  have hl' : decide (40 < (len : Int)) = true := decide_eq_true (by omega)
  have hc2 : (40 : Int) ≤ cap := by omega
  have a0 : Below w.heap.size w (w.alloc (.cells #[] 47)) := (Below.refl _ _).alloc (Nat.le_refl _) _
  obtain ⟨i0, hi, hz0, hz1, hz2⟩ := info_thing
  have hnews : ∀ j u, (cellsTs 40 T)[j]? = some u → (w.alloc (.cells #[] 47)).cell? (a.add j) = some u := fun j u hu => by
    have h1 := ThingsAt.list (fun i hi => h i (by omega)) j u hu
    exact (a0.cell (p := a.add j) (cell_lt h1)).trans h1
  have HN := Lib.hid hnews
  clear hnews h
  skip
  go_enter Try.func25, Try.ntmps25
  go_wp2_with (at_builtin; refine wpList_append_own _ rfl _ _ 41 rfl w.heap.size 47 i0 (.agg (cellsT zeroThing)) 35 64 Try.underlying41 hi hz0 hz1 hz2 (by simp [Value.cells]) (by decide) _ 0 [] rfl (own_empty w) a 40 cap (cellsTs 40 T) rfl (cellsTs_length _ _) HN.out (one_cellsTs _ _) ?len ?bytes ?base ?_)
  case len => unfold maxLen; omega
  case bytes => omega
  case base => exact a0.size
  intro v' w' hown hgrow hnil
  obtain ⟨g, cap', rfl, h1, h2, h3, h4⟩ := own_things hown hnil
  have b1 : Below w.heap.size w w' := a0.grown hgrow a0.size (fun k hk => by simp [Value.ownBlock] at hk; omega)
  clear hown hgrow hnil
  go_wp2_with fail
  go_ret
  exact ⟨g, cap', rfl, h1, h2, h3, h4, b1⟩
set_option maxRecDepth 100000 in
theorem few_nil (T : Nat → Thing) (w : World) : Calls Try.prog 25 #[.slice none 0 0, .int .i64 40] w (Few w 0 T) := by
  have a0 : Below w.heap.size w (w.alloc (.cells #[] 47)) := (Below.refl _ _).alloc (Nat.le_refl _) _
  obtain ⟨i0, hi, hz0, hz1, hz2⟩ := info_thing
  go_enter Try.func25, Try.ntmps25
  go_wp2_with (at_builtin; refine wpList_append_own_none rfl _ _ 41 rfl w.heap.size 47 i0 35 Try.underlying41 hi _ 0 [] rfl (own_empty w) rfl ?_)
  go_wp2_with fail
  go_ret
  exact ⟨w.heap.size, 0, rfl, Nat.le_refl _, Nat.le_refl _, Nat.zero_le _, ⟨#[], rowAt_alloc_at _ _ _ _ rfl, Nat.le_refl _, fun i hi => absurd hi (Nat.not_lt_zero i)⟩, a0⟩
/-- A list of things as it comes in. -/
def InThings (w : World) (v : Value) (len : Nat) (T : Nat → Thing) : Prop :=
  (v = .slice none 0 0 ∧ len = 0) ∨ ∃ a cap, v = .slice (some a) len cap ∧ len ≤ cap ∧ ThingsAt w a len T
theorem few_any {v : Value} {len : Nat} {T : Nat → Thing} {w : World} (h : InThings w v len T) :
    Calls Try.prog 25 #[v, .int .i64 40] w (Few w (min len 40) T) := by
  rcases h with ⟨rfl, rfl⟩ | ⟨a, cap, rfl, hc, h⟩
  · exact few_nil T w
  · by_cases hl : len ≤ 40
    · rw [Nat.min_eq_left hl]
      exact few_small a len cap T w h hl
    · rw [Nat.min_eq_right (by omega)]
      exact few_big a len cap T w h (by omega) hc
theorem InThings.below {w w' : World} {v : Value} {len : Nat} {T : Nat → Thing} (h : InThings w v len T) (k : Below w.heap.size w w') : InThings w' v len T := by
  rcases h with h | ⟨a, cap, e, hc, h⟩
  · exact .inl h
  · refine .inr ⟨a, cap, e, hc, fun i hi j hj => ?_⟩
    have h1 := h i hi j hj
    have h2 : ∃ u, (cellsT (T i))[j]? = some u := ⟨_, Array.getElem?_eq_getElem (by rw [size_cellsT]; exact hj)⟩
    obtain ⟨u, hu⟩ := h2
    rw [hu] at h1
    have hlt : (a.add (i * 35 + j)).block < w.heap.size := cell_lt h1
    rw [k.cell hlt, h1, hu]
/-- .. opened. -/
theorem in_things {H : Type} {enc : TypeId × Value → H} {W : World} {sp : Nat → Bool} {held : Bool} {base : Nat} {P : Program} {tt te : TypeId} (hu : P.underlying tt = some (.slice te)) (hce : P.cellsOf te = 35) (hth : ∀ (fuel : Nat) (cs : List Value) (x : DataW H × List MemPlace), DataW.trod enc P W 0 sp held fuel te cs = some x → ∃ t : Thing, cs = (cellsT t).toList ∧ t.wf) {v : Value} {d : DataW H} {p : List MemPlace} (hval : Value.okWide P W .any base tt v) (hd : DataW.Trod enc P W 0 sp held tt v d p) :
    ∃ (len : Nat) (T : Nat → Thing), InThings W v len T ∧ ∀ i, i < len → (T i).wf := by
  rcases open_things hu hce hth hval hd with rfl | ⟨a, len, cap, T, rfl, h1, _, h2, h3⟩
  · exact ⟨0, fun _ => zeroThing, .inl ⟨rfl, rfl⟩, fun i hi => absurd hi (Nat.not_lt_zero i)⟩
  · exact ⟨len, T, .inr ⟨a, cap, rfl, h1, h2⟩, h3⟩
attribute [go_sem] get_cellsT0 get_cellsT1 get_cellsT2
@[go_sem] theorem getElem_cellsT0 (t : Thing) (h : 0 < (cellsT t).size) : (cellsT t)[0] = .int .i64 t.k := by simp [cellsT]
@[go_sem] theorem getElem_cellsT1 (t : Thing) (h : 1 < (cellsT t).size) : (cellsT t)[1] = .int .i64 t.n := by simp [cellsT]
@[go_sem] theorem getElem_cellsT2 (t : Thing) (h : 2 < (cellsT t).size) : (cellsT t)[2] = .string t.s := by simp [cellsT]
end Go.Proofs.Ythcaolinajfjpaa
