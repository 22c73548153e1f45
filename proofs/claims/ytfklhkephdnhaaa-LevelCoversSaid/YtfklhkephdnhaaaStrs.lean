/- Texts as lists of bytes; lists of texts, of a call's own or anywhere in memory. Conditions: none. -/
import Derived.Test.YtfklhkephdnhaaaKit
import Derived.Test.YtfklhkephdnhaaaQuiet
import Derived.Test.YtfklhkephdnhaaaShelf
import Derived.Lib.Hide
import Derived.Laws.BytesArg
import Derived.Laws.IdiomStrings
import Derived.Laws.AppendOwn
import Derived.IntWalk
namespace Go.Proofs.Ytfklhkephdnhaaa
open Go Go.RowKit

/-- Bytes as a text. -/
abbrev stx (l : List UInt8) : ByteArray := ⟨l.toArray⟩
theorem stx_size (l : List UInt8) : (stx l).size = l.length := by show l.toArray.size = _; rw [List.size_toArray]
theorem stx_list (s : ByteArray) : stx s.data.toList = s := rfl

theorem stx_append (l m : List UInt8) : stx l ++ stx m = stx (l ++ m) := by
  apply ByteArray.ext
  rw [ByteArray.data_append]
  apply Array.toList_inj.1
  simp
theorem stx_extract (l : List UInt8) (i j : Nat) : (stx l).extract i j = stx ((l.take j).drop i) := by
  apply ByteArray.ext
  rw [ByteArray.data_extract]
  apply Array.toList_inj.1
  simp [List.extract_eq_take_drop, List.drop_take]

theorem cellLt {w : World} {a : Addr} {v : Value} (h : w.cell? a = some v) : a.block < w.heap.size := by
  unfold World.cell? at h
  rcases Nat.lt_or_ge a.block w.heap.size with k | k
  · exact k
  · rw [Array.getElem?_eq_none k] at h
    cases h
def atB (s : ByteArray) (i : Nat) : UInt8 := s.data.toList.getD i 0
theorem atB_get (s : ByteArray) (i : Nat) (h : i < s.size) : s[i] = atB s i := by
  have h2 : i < s.data.toList.length := h
  unfold atB
  rw [List.getD_eq_getElem?_getD, List.getElem?_eq_getElem h2]
  rfl

theorem sClone_any (s : ByteArray) (w : World) (hs : s.size ≤ 281474976710656) :
    Calls Try.prog 40 #[.string s] w fun r w' => r = .returned (.string s) ∧ Below w.heap.size w w' := by
  have HC := Lib.hid (Try.stringslite_Clone s w hs)
  clear hs
  go_enter Try.func40, Try.ntmps40
  go_wp2_with fail
  refine HC.out.mono ?_
  rintro e w1 ⟨rfl, b1⟩
  go_wp2_with fail
  go_ret
  exact ⟨rfl, b1⟩

def strCells (ts : List (List UInt8)) : List Value := ts.map fun t => .string (stx t)
theorem strCells_length (ts : List (List UInt8)) : (strCells ts).length = ts.length := by simp [strCells]
theorem strCells_put (ts : List (List UInt8)) (t : List UInt8) : strCells ts ++ [.string (stx t)] = strCells (ts ++ [t]) := by simp [strCells]
/-- A list of texts of the call's own. -/
def OwnStrs (w : World) (B : Nat) (v : Value) (ts : List (List UInt8)) : Prop := w.ownsRow B 9 1 v ts.length (strCells ts)
theorem OwnStrs.below {w w' : World} {B : Nat} {v : Value} {ts : List (List UInt8)} (h : OwnStrs w B v ts) (k : Below w.heap.size w w') : OwnStrs w' B v ts :=
  World.ownsRow.kept h (row := none) ⟨k.os, k.tape, k.output, k.size, fun j hj _ => k.block j hj⟩ (by cases hv : v.ownBlock <;> simp)
theorem info_str : ∃ i : TypeInfo, Try.prog.info? 9 = some i ∧ i.zero = some (.string ⟨#[]⟩) ∧ i.size = 1 ∧ i.bytes = 16 := by
  have h : (Try.prog.info? 9).map (fun i => (i.zero, i.size, i.bytes)) = some (some (.string ⟨#[]⟩), 1, 16) := by kernel_rfl
  cases hq : Try.prog.info? 9 with
  | none => rw [hq] at h; cases h
  | some i =>
    rw [hq] at h
    simp only [Option.map_some, Option.some.injEq, Prod.mk.injEq] at h
    exact ⟨i, rfl, h.1, h.2.1, h.2.2⟩
theorem ownStrs_empty (w : World) : OwnStrs (w.alloc (.cells #[] 9)) w.heap.size (.slice (some ⟨w.heap.size, 0, none⟩) 0 0) [] :=
  ⟨rfl, .inr ⟨w.heap.size, 0, #[], rfl, Nat.le_refl _, heap_alloc_new w _, Nat.le_refl _, Nat.zero_le _, rfl, rfl⟩⟩
/-- A list of texts that lie in memory. -/
def StrsAt (w : World) (v : Value) (ts : List (List UInt8)) : Prop :=
  ∃ ao cap, v = .slice ao ts.length cap ∧ ∀ i, i < ts.length → ∃ g, ao = some ⟨g, 0, none⟩ ∧ w.cell? ⟨g, i, none⟩ = some (.string (stx (ts.getD i [])))
theorem OwnStrs.lie {w : World} {B : Nat} {v : Value} {ts : List (List UInt8)} (h : OwnStrs w B v ts) : StrsAt w v ts := by
  have h' := h
  rcases h.2 with ⟨h1, h2⟩ | ⟨g, cap, cur, h1, _⟩
  · exact ⟨none, 0, by rw [h1, h2], fun i hi => absurd hi (by omega)⟩
  · refine ⟨_, _, h1, fun i hi => ⟨g, rfl, ?_⟩⟩
    have hb : v.ownBlock = some g := by rw [h1]; rfl
    have := World.ownsRow.cells h' hb i (.string (stx (ts.getD i []))) (by
      rw [strCells, List.getElem?_map, List.getElem?_eq_getElem hi, List.getD_eq_getElem?_getD, List.getElem?_eq_getElem hi]
      rfl)
    rw [← this]
    congr 1
    exact (show (⟨g, 0, none⟩ : Addr).add i = ⟨g, i, none⟩ by simp [Addr.add]; exact fun e => e.symm).symm
theorem StrsAt.below {w w' : World} {v : Value} {ts : List (List UInt8)} (h : StrsAt w v ts) (k : Below w.heap.size w w') : StrsAt w' v ts := by
  obtain ⟨ao, cap, h1, h2⟩ := h
  refine ⟨ao, cap, h1, fun i hi => ?_⟩
  obtain ⟨g, h3, h4⟩ := h2 i hi
  exact ⟨g, h3, (k.cell (p := ⟨g, i, none⟩) (cellLt h4)).trans h4⟩
theorem StrsAt.take {w : World} {v : Value} {ts : List (List UInt8)} (h : StrsAt w v ts) (k : Nat) (hk : k ≤ ts.length) : ∃ ao cap, v = .slice ao ts.length cap ∧ StrsAt w (.slice ao k cap) (ts.take k) := by
  obtain ⟨ao, cap, h1, h2⟩ := h
  refine ⟨ao, cap, h1, ao, cap, by rw [List.length_take, Nat.min_eq_left hk], fun i hi => ?_⟩
  rw [List.length_take, Nat.min_eq_left hk] at hi
  obtain ⟨g, h3, h4⟩ := h2 i (by omega)
  refine ⟨g, h3, ?_⟩
  rw [h4]
  congr 3
  rw [List.getD_eq_getElem?_getD, List.getD_eq_getElem?_getD, List.getElem?_take, if_pos hi]
theorem OwnStrs.shape {w : World} {B : Nat} {v : Value} {ts : List (List UInt8)} (h : OwnStrs w B v ts) : ∃ ao cap, v = .slice ao ts.length cap := by
  rcases h.2 with ⟨h1, h2⟩ | ⟨g, cap, cur, h1, _⟩
  · exact ⟨none, 0, by rw [h1, h2]⟩
  · exact ⟨_, _, h1⟩

/-- At most so many bytes. -/
def cutS (l : List UInt8) (n : Nat) : List UInt8 := l.take n
set_option maxRecDepth 100000 in
theorem l3Cut_any (s : ByteArray) (n : Nat) (w : World) (hn : n ≤ 100000) : Calls Try.prog 30 #[.string s, .int .i64 n] w fun e w' => e = .returned (.string (stx (s.data.toList.take n))) ∧ w' = w := by
  have hn0 : (0 : Int) ≤ n := by omega
  by_cases h : n < s.size
  · have h1 : decide (n < s.size) = true := decide_eq_true h
    have h2 : (n : Int) ≤ s.size := by omega
    have HX : Hid (s.extract 0 n = stx (s.data.toList.take n)) := Lib.hid (stx_extract s.data.toList 0 n)
    clear h
    go_enter Try.func30, Try.ntmps30
    go_wp2_with fail
    go_ret
    exact ⟨by rw [← HX.out]; rfl, rfl⟩
  · have h1 : decide (n < s.size) = false := decide_eq_false h
    have HX : Hid (stx (s.data.toList.take n) = s) := Lib.hid (by rw [List.take_of_length_le (show s.data.toList.length ≤ n from by show s.size ≤ n; omega)])
    clear h
    go_enter Try.func30, Try.ntmps30
    go_wp2_with fail
    go_ret
    exact ⟨by rw [HX.out]; rfl, rfl⟩
theorem stx_inj {a b : List UInt8} (h : stx a = stx b) : a = b := congrArg (fun x : ByteArray => x.data.toList) h

theorem str_ne {a b : ByteArray} (h : a ≠ b) : (a.toList == b.toList) = false := by
  rw [beq_eq_false_iff_ne, ByteArray.toList_eq, ByteArray.toList_eq]
  exact fun e => h (ByteArray.ext (Array.toList_inj.1 e))
theorem toList_none (s : ByteArray) : s.toList.isEmpty = true ↔ s.size = 0 := by
  rw [ByteArray.toList_eq, List.isEmpty_iff, ← List.length_eq_zero_iff, Array.length_toList]
  rfl
/-- A row of another type stays as it is. -/
theorem own_other {w w' : World} {B C e1 e2 s1 s2 n m : Nat} {v u : Value} {xs ys : List Value} (h1 : w.ownsRow B e1 s1 v n xs) (h2 : w.ownsRow C e2 s2 u m ys) (he : e1 ≠ e2) (hg : w.grownBy w' u.ownBlock) : w'.ownsRow B e1 s1 v n xs := by
  refine h1.kept hg ?_
  rcases h1.2 with ⟨a1, _⟩ | ⟨g, cap, cur, a1, _, a3, _⟩
  · left; rw [a1]; rfl
  · right
    rcases h2.2 with ⟨c1, _⟩ | ⟨g2, cap2, cur2, c1, _, c3, _⟩
    · rw [a1, c1]; simp [Value.ownBlock]
    · rw [a1, c1]
      intro e
      have : g = g2 := by simpa [Value.ownBlock] using e
      subst this
      rw [a3] at c3
      injection c3 with c3
      injection c3 with _ c4
      exact he c4
end Go.Proofs.Ytfklhkephdnhaaa
