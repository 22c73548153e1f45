/- The writer's own calls. Conditions: none. -/
import Derived.Test.YtnffmgpnhlcakaaDoorBuilder
import Derived.Laws.IdiomStrings
import Derived.Laws.BytesArg
import Derived.Lib.BitFns
namespace Go.Proofs.YtnffmgpnhlcakaaDoor
open Go Go.RowKit

/-- A writer in a block of its own, holding these bytes and this error. -/
def WriterAt (B b : Nat) (bs : List UInt8) (err : Int) (w : World) : Prop :=
  ∃ ao cap, w.heap[b]? = some (.cells #[.slice ao bs.length cap, .int .i64 err] 80 (0, 0)) ∧ w.ownsRow B 5 1 (.slice ao bs.length cap) bs.length (Lib.byteCells bs) ∧ (Value.slice ao bs.length cap).ownBlock ≠ some b

/-- Block k holds no bytes. -/
def NoBytes (w : World) (k : Nat) : Prop := ∀ cs fr, w.heap[k]? ≠ some (.cells cs 5 fr)
/-- Below block B the world is as it was, but for block b; and so are all blocks that hold no bytes. -/
structure Near (B b : Nat) (w w' : World) : Prop where
  os : w'.os = w.os
  tape : w'.tape = w.tape
  output : w'.output = w.output
  size : w.heap.size ≤ w'.heap.size
  block : ∀ k, k < B → k ≠ b → w'.heap[k]? = w.heap[k]?
  far : ∀ k, k < w.heap.size → k ≠ b → NoBytes w k → w'.heap[k]? = w.heap[k]?
theorem Near.refl (B b : Nat) (w : World) : Near B b w w := ⟨rfl, rfl, rfl, Nat.le_refl _, fun _ _ _ => rfl, fun _ _ _ _ => rfl⟩
theorem Near.trans {B b : Nat} {a w w' : World} (h : Near B b a w) (k : Near B b w w') : Near B b a w' :=
  ⟨k.os.trans h.os, k.tape.trans h.tape, k.output.trans h.output, Nat.le_trans h.size k.size, fun i hi hn => (k.block i hi hn).trans (h.block i hi hn), fun i hi hn hb => by
    have e := h.far i hi hn hb
    refine (k.far i (Nat.lt_of_lt_of_le hi h.size) hn fun cs fr => ?_).trans e
    rw [e]
    exact hb cs fr⟩
theorem Near.mono {B C b : Nat} {w w' : World} (h : Near B b w w') (hC : C ≤ B) : Near C b w w' := ⟨h.os, h.tape, h.output, h.size, fun k hk => h.block k (Nat.lt_of_lt_of_le hk hC), h.far⟩
theorem _root_.Go.RowKit.Below.near {B b : Nat} {w w' : World} (h : Below w.heap.size w w') (hB : B ≤ w.heap.size) : Near B b w w' := ⟨h.os, h.tape, h.output, h.size, fun k hk _ => h.block k (Nat.lt_of_lt_of_le hk hB), fun k hk _ _ => h.block k hk⟩
theorem Near.setCell {B b : Nat} {a w : World} (h : Near B b a w) {p : Addr} (hp : p.block = b) (u : Value) : Near B b a (w.setCell p u) :=
  h.trans ⟨rfl, rfl, rfl, by simp [World.setCell], fun k _ hn => Below.heap_setCell _ _ _ _ (by omega), fun k _ hn _ => Below.heap_setCell _ _ _ _ (by omega)⟩
theorem Near.setRow {B b : Nat} {a w : World} (h : Near B b a w) {g : Nat} (hg : B ≤ g) (ha : a.heap.size ≤ g) (c : Array Value) : Near B b a (w.setRow g c) :=
  ⟨h.os, h.tape, h.output, by simpa using h.size, fun k hk hn => (setRow_other w g k c (by omega)).trans (h.block k hk hn), fun k hk hn hb => (setRow_other w g k c (by omega)).trans (h.far k hk hn hb)⟩
/-- Below both it is as it was. -/
theorem Near.below {B b C : Nat} {w w' : World} (h : Near B b w w') (hB : C ≤ B) (hb : C ≤ b) : Below C w w' :=
  ⟨h.os, h.tape, h.output, h.size, fun k hk => h.block k (by omega) (by omega)⟩
theorem Near.row {B b k : Nat} {w w' : World} (h : Near B b w w') (hk : k < B) (hn : k ≠ b) : rowAt w' k = rowAt w k := by
  unfold rowAt
  rw [h.block k hk hn]
theorem Near.grown {B b : Nat} {w w' : World} {v : Value} {n : Nat} {xs : List Value} (ho : w.ownsRow B 5 1 v n xs) (hg : w.grownBy w' v.ownBlock) (hB : B ≤ w.heap.size) : Near B b w w' :=
  ⟨hg.os, hg.tape, hg.output, hg.size, fun k hk _ => hg.block k (by omega) (fun e => by have := (ho.lt k e.symm).1; omega), fun k hk _ hb => hg.block k hk (fun e => by
    rcases ho.2 with ⟨h1, _⟩ | ⟨g, cap, cur, h1, _, h3, _⟩
    · rw [h1] at e; cases e
    · rw [h1] at e
      have : k = g := by simpa [Value.ownBlock] using e
      subst this
      exact hb _ _ h3)⟩

theorem heap_put {w : World} {b j : Nat} {cs : Array Value} {T : TypeId} {fr : Nat × Nat} (h : w.heap[b]? = some (.cells cs T fr)) (x : Value) : (w.setCell ⟨b, j, none⟩ x).heap[b]? = some (.cells (cs.setIfInBounds j x) T fr) := by
  simp [World.setCell, Array.getElem?_modify, h]
theorem heap_lt {w : World} {b : Nat} {o : Obj} (h : w.heap[b]? = some o) : b < w.heap.size := (Array.getElem?_eq_some_iff.1 h).1

theorem Wfail_any (B b : Nat) (bs : List UInt8) (e err : Int) (w : World) (h : WriterAt B b bs err w) :
    Calls Tryd.prog 69 #[.pointer (some ⟨b, 0, none⟩), .int .i64 e] w fun r w' => r = .returned (.tuple #[]) ∧ WriterAt B b [] (if err = 0 then e else err) w' ∧ Near B b w w' := by
  obtain ⟨ao, cap, hrow, hown, hne⟩ := h
  have h0 := (Lib.cell_of_heap hrow 0).trans (rfl : _ = some (Value.slice ao bs.length cap))
  have h1 := (Lib.cell_of_heap hrow 1).trans (rfl : _ = some (Value.int .i64 err))
  have f0 := Lib.frozen_of_heap hrow 0
  have f1 := Lib.frozen_of_heap hrow 1
  by_cases h : err = 0
  · subst h
    have k1 : WriterAt B b [] (if (0 : Int) = 0 then e else 0) ((w.setCell ⟨b, 1, none⟩ (.int .i64 e)).setCell ⟨b, 0, none⟩ (.slice none 0 0)) :=
      ⟨none, 0, heap_put (heap_put hrow _) _, World.ownsRow_nil _ _ _ _, by simp [Value.ownBlock]⟩
    have b1 : Near B b w ((w.setCell ⟨b, 1, none⟩ (.int .i64 e)).setCell ⟨b, 0, none⟩ (.slice none 0 0)) := ((Near.refl B b w).setCell (p := ⟨b, 1, none⟩) rfl _).setCell (p := ⟨b, 0, none⟩) rfl _
    go_enter Tryd.func69, Tryd.ntmps69
    go_wp2_with fail
    go_end0
    exact ⟨rfl, k1, b1⟩
  · have hq : (err == 0) = false := by rw [beq_eq_false_iff_ne]; exact h
    have k1 : WriterAt B b [] err (w.setCell ⟨b, 0, none⟩ (.slice none 0 0)) := by
      exact ⟨none, 0, heap_put hrow _, World.ownsRow_nil _ _ _ _, by simp [Value.ownBlock]⟩
    have b1 : Near B b w (w.setCell ⟨b, 0, none⟩ (.slice none 0 0)) := (Near.refl B b w).setCell (p := ⟨b, 0, none⟩) rfl _
    go_enter Tryd.func69, Tryd.ntmps69
    go_wp2_with fail
    go_end0
    exact ⟨rfl, k1, b1⟩

theorem cells_str (s : ByteArray) : Lib.strCells s = Lib.byteCells s.data.toList := by
  simp [Lib.strCells, Lib.byteCells]
theorem cells_append (l m : List UInt8) : Lib.byteCells (l ++ m) = Lib.byteCells l ++ Lib.byteCells m := by
  simp [Lib.byteCells]

/-- What add makes of the bytes. -/
def added (bs : List UInt8) (err : Int) (s : List UInt8) : List UInt8 := if err = 0 ∧ bs.length ≤ 65536 then bs ++ s else bs
set_option maxRecDepth 100000 in
set_option maxHeartbeats 1000000 in
theorem Wadd_any (B b : Nat) (bs : List UInt8) (err : Int) (s : ByteArray) (w : World) (h : WriterAt B b bs err w) (hs : s.size ≤ 100000) (hBw : B ≤ w.heap.size) :
    Calls Tryd.prog 68 #[.pointer (some ⟨b, 0, none⟩), .string s] w fun r w' => r = .returned (.tuple #[]) ∧ WriterAt B b (added bs err s.data.toList) err w' ∧ Near B b w w' := by
  have hall := h
  obtain ⟨ao, cap, hrow, hown, hne⟩ := h
  have h0 := (Lib.cell_of_heap hrow 0).trans (rfl : _ = some (Value.slice ao bs.length cap))
  have h1 := (Lib.cell_of_heap hrow 1).trans (rfl : _ = some (Value.int .i64 err))
  have f0 := Lib.frozen_of_heap hrow 0
  have f1 := Lib.frozen_of_heap hrow 1
  by_cases he : err = 0
  · subst he
    by_cases hl : bs.length ≤ 65536
    · have hl' : decide ((bs.length : Int) ≤ 65536) = true := decide_eq_true (by omega)
      have HA : Hid (added bs 0 s.data.toList = bs ++ s.data.toList) := Lib.hid (if_pos ⟨rfl, hl⟩)
      obtain ⟨i0, hi, hz0, hz1, hz2⟩ := info_parts info_byte
      go_enter Tryd.func68, Tryd.ntmps68
      go_wp2_with (at_builtin; refine Lib.wpList_append_own_string _ rfl _ _ 78 9 rfl B 5 i0 Tryd.underlying78 Tryd.underlying9 hi hz0 hz1 hz2 _ _ _ rfl hown s rfl ?len ?bytes ?base ?_)
      case len => unfold maxLen; omega
      case bytes => omega
      case base => exact hBw
      intro v2 w2 hown2 hgrow _
      have hlt := heap_lt hrow
      have hrow2 : w2.heap[b]? = some (.cells #[.slice ao bs.length cap, .int .i64 0] 80 (0, 0)) := by
        rw [hgrow.block b hlt (fun e => hne e.symm)]
        exact hrow
      have d0 := (Lib.cell_of_heap hrow2 0).trans (rfl : _ = some (Value.slice ao bs.length cap))
      have d1 := (Lib.cell_of_heap hrow2 1).trans (rfl : _ = some (Value.int .i64 0))
      have g0 := Lib.frozen_of_heap hrow2 0
      have hlen : (bs ++ s.data.toList).length = bs.length + s.size := by rw [List.length_append]; rfl
      have hslice : ∃ ao2 cap2, v2 = .slice ao2 (bs.length + s.size) cap2 := by
        rcases hown2.2 with ⟨hv, h0⟩ | ⟨g, cap, cur, hv, _⟩
        · exact ⟨none, 0, by rw [hv, h0]⟩
        · exact ⟨_, _, hv⟩
      obtain ⟨ao2, cap2, rfl⟩ := hslice
      rw [← hlen, cells_str, ← cells_append] at hown2
      rw [← hlen]
      clear hlen
      generalize bs ++ s.data.toList = l at *
      have hput : w2.heap[b]? = some (.cells #[.slice ao bs.length cap, .int .i64 0] 80 (0, 0)) := hrow2
      have hne2 : (Value.slice ao2 l.length cap2).ownBlock ≠ some b := Lib.ownBlock_ne hown2 hrow2 (by decide)
      have k1 : WriterAt B b l 0 (w2.setCell ⟨b, 0, none⟩ (.slice ao2 l.length cap2)) :=
        ⟨ao2, cap2, heap_put hrow2 _, hown2.kept (row := some b) ⟨rfl, rfl, rfl, by simp [World.setCell], fun k _ hk => Below.heap_setCell _ _ _ _ (fun e => hk (by simp [e]))⟩ (Or.inr hne2), hne2⟩
      have b1 : Near B b w (w2.setCell ⟨b, 0, none⟩ (.slice ao2 l.length cap2)) := (Near.grown hown hgrow hBw).setCell (p := ⟨b, 0, none⟩) rfl _
      go_wp2_with fail
      go_end0
      exact ⟨rfl, by rw [HA.out]; exact k1, b1⟩
    · have hl' : decide ((bs.length : Int) ≤ 65536) = false := decide_eq_false (by omega)
      have HA : Hid (added bs 0 s.data.toList = bs) := Lib.hid (if_neg (by omega))
      have HK := Lib.hid hall
      clear hall
      go_enter Tryd.func68, Tryd.ntmps68
      go_wp2_with fail
      go_end0
      exact ⟨rfl, by rw [HA.out]; exact HK.out, Near.refl _ _ _⟩
  · have hq : (err == 0) = false := by rw [beq_eq_false_iff_ne]; exact he
    have HA : Hid (added bs err s.data.toList = bs) := Lib.hid (if_neg (fun e => he e.1))
    have HK := Lib.hid hall
    clear hall
    go_enter Tryd.func68, Tryd.ntmps68
    go_wp2_with fail
    go_end0
    exact ⟨rfl, by rw [HA.out]; exact HK.out, Near.refl _ _ _⟩

set_option maxRecDepth 100000 in
theorem run_own_string (w : World) (B : Nat) (ao : Option Addr) (cap : Nat) (l : List UInt8) (h : w.ownsRow B 5 1 (.slice ao l.length cap) l.length (Lib.byteCells l)) :
    (convert 78 9 (.slice ao l.length cap)).run Tryd.prog w = .ok (.string ⟨l.toArray⟩) w := by
  rcases h.2 with ⟨hv, h0⟩ | ⟨g, cap', cur, hv, _⟩
  · have : l = [] := List.eq_nil_of_length_eq_zero h0
    subst this
    injection hv with e1 _ e2
    subst e1 e2
    exact run_convert_bytes_nil w _ _ Tryd.underlying78 Tryd.underlying5 _ _ _ Tryd.underlying9
  · injection hv with e1 _ e2
    subst e1 e2
    refine run_convert_bytes_back w _ _ _ ⟨g, 0, none⟩ _ l Tryd.underlying78 Tryd.underlying5 Tryd.underlying9 fun j hj => ?_
    exact h.cells (g := g) rfl j _ (by simp [Lib.byteCells, hj])

set_option maxRecDepth 100000 in
theorem Done_any (B b : Nat) (bs : List UInt8) (err : Int) (w : World) (h : WriterAt B b bs err w) :
    Calls Tryd.prog 44 #[.pointer (some ⟨b, 0, none⟩)] w fun r w' => r = .returned (if err ≠ 0 then .tuple #[.string ⟨#[]⟩, .int .i64 err] else if bs.length > 65536 then .tuple #[.string ⟨#[]⟩, .int .i64 2] else .tuple #[.string ⟨bs.toArray⟩, .int .i64 0]) ∧ Below w.heap.size w w' := by
  obtain ⟨ao, cap, hrow, hown, hne⟩ := h
  have h0 := (Lib.cell_of_heap hrow 0).trans (rfl : _ = some (Value.slice ao bs.length cap))
  have h1 := (Lib.cell_of_heap hrow 1).trans (rfl : _ = some (Value.int .i64 err))
  generalize hR : (if err ≠ 0 then Value.tuple #[.string ⟨#[]⟩, .int .i64 err] else if bs.length > 65536 then .tuple #[.string ⟨#[]⟩, .int .i64 2] else .tuple #[.string ⟨bs.toArray⟩, .int .i64 0]) = R
  by_cases he : err = 0
  · by_cases hl : bs.length ≤ 65536
    · have hl' : decide (65536 < (bs.length : Int)) = false := decide_eq_false (by omega)
      rw [if_neg (by omega), if_neg (by omega)] at hR
      have HR := Lib.hid hR
      clear hR
      subst he
      have hconv := run_own_string w B ao cap bs hown
      go_enter Tryd.func44, Tryd.ntmps44
      go_wp2_with fail
      try rw [hconv]
      try simp only [Result.andThen]
      try rw [Oper.upon_value]
      go_wp2_with fail
      go_ret2
      exact ⟨by rw [← HR.out]; rfl, Below.refl _ _⟩
    · have hl' : decide (65536 < (bs.length : Int)) = true := decide_eq_true (by omega)
      rw [if_neg (by omega), if_pos (by omega)] at hR
      have HR := Lib.hid hR
      clear hR
      subst he
      go_enter Tryd.func44, Tryd.ntmps44
      go_wp2_with fail
      go_ret2
      exact ⟨by rw [← HR.out]; rfl, Below.refl _ _⟩
  · have hq : (err != 0) = true := by simpa using he
    rw [if_pos he] at hR
    have HR := Lib.hid hR
    clear hR
    go_enter Tryd.func44, Tryd.ntmps44
    go_upto_region 2 with fail
    have fa := fun x : Past w => (x.cell (p := ⟨b, 1, none⟩) (heap_lt hrow)).trans h1
    refine wp_region_past (by kernel_rfl) (by kernel_rfl) ?_
    repeat (go_big_quiet_step (fail))
    refine wpQuiet_nil ?_
    intro w2 hw2
    obtain ⟨⟨wn, hn⟩, rfl⟩ := hw2
    try dsimp only
    go_wp2_with fail
    go_ret2
    exact ⟨by rw [← HR.out]; rfl, hn⟩

theorem WriterAt.below {B b : Nat} {bs : List UInt8} {err : Int} {w w' : World} (h : WriterAt B b bs err w) (k : Below w.heap.size w w') : WriterAt B b bs err w' := by
  obtain ⟨ao, cap, hrow, hown, hne⟩ := h
  exact ⟨ao, cap, (k.block b (heap_lt hrow)).trans hrow, hown.kept (row := none) ⟨k.os, k.tape, k.output, k.size, fun j hj _ => k.block j hj⟩ (by cases hv : (Value.slice ao bs.length cap).ownBlock <;> simp), hne⟩

/-- The cells of a number's bytes, as many laid as i. -/
def numCell (n k i j : Nat) : Nat := if j < k ∧ k - 1 - j < i then n / 256 ^ (k - 1 - j) % 256 else 0
def numRow (n k i : Nat) : Array Value := (Value.int .u8 k :: (List.range 8).map fun j => Value.int .u8 (numCell n k i j)).toArray
theorem numRow_zero (n k : Nat) : numRow n k 0 = #[.int .u8 k, .int .u8 0, .int .u8 0, .int .u8 0, .int .u8 0, .int .u8 0, .int .u8 0, .int .u8 0, .int .u8 0] := by
  simp [numRow, numCell, List.range_succ]
theorem numRow_put (n k i : Nat) (hk : k ≤ 8) (hi : i < k) : (numRow n k i).setIfInBounds (k - i) (.int .u8 ((n / 256 ^ i % 256 : Nat) : Int)) = numRow n k (i + 1) := by
  apply Array.ext_getElem?
  intro j
  rw [Array.getElem?_setIfInBounds]
  unfold numRow
  by_cases e : k - i = j
  · subst e
    obtain ⟨q, hq⟩ : ∃ q, k - i = q + 1 := ⟨k - i - 1, by omega⟩
    have h1 : q < 8 := by omega
    have h2 : numCell n k (i + 1) q = n / 256 ^ i % 256 := by
      rw [numCell, if_pos (by omega), show k - 1 - q = i by omega]
    simp [hq, h1, h2]
  · rw [if_neg e]
    cases j with
    | zero => simp
    | succ j =>
      by_cases h1 : j < 8
      · have h2 : numCell n k (i + 1) j = numCell n k i j := by
          have h3 : (j < k ∧ k - 1 - j < i + 1) ↔ (j < k ∧ k - 1 - j < i) := by omega
          simp only [numCell, h3]
        simp [h1, h2]
      · simp [h1]
theorem numRow_get (n k i d : Nat) (h0 : 0 < d) (h1 : d < 9) : (numRow n k i)[d]? = some (.int .u8 (numCell n k i (d - 1))) := by
  obtain ⟨q, rfl⟩ : ∃ q, d = q + 1 := ⟨d - 1, by omega⟩
  have : q < 8 := by omega
  simp [numRow, this]
def numLen (n : Nat) : Nat := (Lib.bitLen n + 7) / 8
def numBytes (n : Nat) : List UInt8 := UInt8.ofNat (numLen n) :: (List.range (numLen n)).map fun j => UInt8.ofNat (n / 256 ^ (numLen n - 1 - j))
theorem numLen_le (n : Nat) (h : n < 9223372036854775808) : numLen n ≤ 8 := by
  have := Lib.bitLen_le n 64 (by omega) (by omega)
  unfold numLen
  omega
theorem numBytes_length (n : Nat) : (numBytes n).length = numLen n + 1 := by simp [numBytes]

theorem numRow_bytes (n k : Nat) (hk : numLen n = k) (hk8 : k ≤ 8) (j : Nat) (hj : j < (numBytes n).length) : (numRow n k k)[j]? = some (.int .u8 ((numBytes n)[j].toNat : Int)) := by
  subst hk
  rw [numBytes_length] at hj
  cases j with
  | zero =>
    have : numLen n % 256 = numLen n := by omega
    simp [numRow, numBytes, this]
  | succ j =>
    have h1 : j < 8 := by omega
    have h2 : numCell n (numLen n) (numLen n) j = n / 256 ^ (numLen n - 1 - j) % 256 := by rw [numCell, if_pos (by omega)]
    simp [numRow, numBytes, h1, h2]

set_option maxRecDepth 100000 in
theorem Number_neg (B b : Nat) (bs : List UInt8) (err n : Int) (w : World) (h : WriterAt B b bs err w) (h0 : n < 0) :
    Calls Tryd.prog 43 #[.pointer (some ⟨b, 0, none⟩), .int .i64 n] w fun r w' => r = .returned (.tuple #[]) ∧ WriterAt B b [] (if err = 0 then 1 else err) w' ∧ Near B b w w' := by
  generalize hE : (if err = 0 then 1 else err) = E
  have HF : ∀ w, WriterAt B b bs err w → Calls Tryd.prog 69 #[.pointer (some ⟨b, 0, none⟩), .int .i64 1] w fun r w' => r = .returned (.tuple #[]) ∧ WriterAt B b [] E w' ∧ Near B b w w' := fun w h => by
    have := Wfail_any B b bs 1 err w h
    rwa [hE] at this
  clear hE
  go_enter Tryd.func43, Tryd.ntmps43
  go_wp2_with fail
  refine (HF _ h).mono ?_
  rintro e w1 ⟨rfl, k1, b1⟩
  go_wp2_with fail
  exact bodyPost_ret (results_none rfl _ _ _) rfl ⟨rfl, k1, b1⟩

set_option maxRecDepth 100000 in
theorem Number_any (B b : Nat) (bs : List UInt8) (err : Int) (n : Nat) (w : World) (h : WriterAt B b bs err w) (hn : n < 9223372036854775808) (hBw : B ≤ w.heap.size) :
    Calls Tryd.prog 43 #[.pointer (some ⟨b, 0, none⟩), .int .i64 n] w fun r w' => r = .returned (.tuple #[]) ∧ WriterAt B b (added bs err (numBytes n)) err w' ∧ Near B b w w' := by
  obtain ⟨m, hm⟩ : ∃ m : Int, m = (n : Int) := ⟨_, rfl⟩
  rw [← hm]
  have h0 : 0 ≤ m := by omega
  have h1 : m < 9223372036854775808 := by omega
  have hw : IntKind.u64.wrap m = m := by
    have : (2 : Int) ^ IntKind.u64.bits = 18446744073709551616 := rfl
    show m % 2 ^ IntKind.u64.bits = m
    rw [this]
    omega
  have hk8 := numLen_le n hn
  obtain ⟨k, hk⟩ : ∃ k, numLen n = k := ⟨_, rfl⟩
  rw [hk] at hk8
  have hmn : m.toNat = n := by omega
  have hk2 : ((Lib.bitLen m.toNat : Int) + 7) / 8 = k := by rw [hmn, ← hk, numLen]; omega
  have HK := Lib.hid hk
  have HM := Lib.hid hm
  have HZ := Lib.hid (numRow_zero n k)
  have HW := Lib.hid h
  clear hk hn h hm hmn
  go_enter Tryd.func43, Tryd.ntmps43
  go_wp2_with fail
  refine (Tryd.bits_Len64 m _ h0 (by omega)).mono ?_
  rintro e w1 ⟨rfl, hw1⟩
  subst hw1
  go_wp2_with fail
  rw [← HZ.out, hk2]
  have r0 : rowAt (w1.alloc (.cells (numRow n k 0) 118)) w1.heap.size = some (numRow n k 0) := rowAt_alloc_at _ _ _ _ rfl
  have b0 : Below w1.heap.size w1 (w1.alloc (.cells (numRow n k 0) 118)) := (Below.refl _ _).alloc (Nat.le_refl _) _
  generalize hg : w1.heap.size = g at *
  generalize w1.alloc (.cells (numRow n k 0) 118) = W at *
  go_loopw [20] (fun t wr => ∃ i : Nat, i ≤ k ∧ t = .int .i64 i ∧ rowAt wr g = some (numRow n k i) ∧ Below g w1 wr) (fun t _ => (k - intOf t).toNat)
  case atStart => exact ⟨0, Nat.zero_le _, rfl, r0, b0⟩
  case round =>
    obtain ⟨i, hi, rfl, k0, b5⟩ := hrel
    clear r0 b0
    by_cases hlt : i < k
    · have hlt' : (i : Int) < k := by omega
      obtain ⟨d, hd⟩ : ∃ d, k - i = d := ⟨_, rfl⟩
      have hsub : (k : Int) - (i : Int) = (d : Int) := by omega
      have hd9 : (d : Int) < 9 := by omega
      have c1 := (cell_of_rowAt k0 d).trans (numRow_get n k i d (by omega) (by omega))
      have f1 := frozen_of_rowAt k0 d
      have hi8 : (i : Int) < 8 := by omega
      go_wp2_with fail
      have hval : m / 2 ^ (8 * i) % 256 = ((n / 256 ^ i % 256 : Nat) : Int) := by
        rw [HM.out, div_pow_cast, Nat.pow_mul]
        rfl
      rw [hval]
      have hput := numRow_put n k i hk8 hlt
      rw [hd] at hput
      refine ⟨⟨i + 1, hlt, by go_num, ?_, Below.setCell b5 (Nat.le_refl g) _⟩, by simp [intOf]; omega⟩
      rw [← hput]
      exact rowAt_setCell_same k0 d _
    · obtain rfl : i = k := by omega
      have hi9 : (i : Int) < 9 := by omega
      have hi10 : 1 + (i : Int) ≤ 9 := by omega
      have hi0 : 0 ≤ 1 + (i : Int) := by omega
      have hlen : (numBytes n).length = 1 + i := by rw [numBytes_length, HK.out]; omega
      have hconv : (convert 78 9 (.slice (some ⟨g, 0, none⟩) (1 + i) 9)).run Tryd.prog wr = .ok (.string ⟨(numBytes n).toArray⟩) wr := by
        rw [← hlen]
        refine run_convert_bytes_back wr _ _ _ ⟨g, 0, none⟩ _ _ Tryd.underlying78 Tryd.underlying5 Tryd.underlying9 fun j hj => ?_
        rw [show (⟨g, 0, none⟩ : Addr).add j = ⟨g, j, none⟩ by simp [Addr.add]; exact fun e => e.symm, cell_of_rowAt k0]
        exact numRow_bytes n i HK.out hk8 j hj
      have hsz : (ByteArray.mk (numBytes n).toArray).size ≤ 100000 := by
        show (numBytes n).toArray.size ≤ 100000
        rw [List.size_toArray, hlen]
        have : i ≤ 8 := hk8
        omega
      have HA := Lib.hid (Wadd_any B b bs err ⟨(numBytes n).toArray⟩ wr (HW.out.below (by rw [hg]; exact b5)) hsz (Nat.le_trans hBw (by rw [← hg]; exact b5.size)))
      clear hlen hsz
      go_wp2_with fail
      refine HA.out.mono ?_
      rintro e w2 ⟨rfl, k1, b1⟩
      have b2 : Near B b w1 w2 := (Below.near (by rw [hg]; exact b5) (by rw [hg]; exact hBw)).trans b1
      go_wp2_with fail
      go_end0
      exact ⟨rfl, by simpa using k1, b2⟩
end Go.Proofs.YtnffmgpnhlcakaaDoor
