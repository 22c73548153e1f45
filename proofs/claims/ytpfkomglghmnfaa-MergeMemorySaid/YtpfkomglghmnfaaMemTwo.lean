/- Entries in memory beside lists of one entry each: what a loop keeps. Conditions: none. -/
import Derived.Test.YtpfkomglghmnfaaMemInv
import Derived.Test.YtpfkomglghmnfaaMemLs
namespace Go.Proofs.Ytpfkomglghmnfaa
open Go Go.RowKit

def bigE (x : Ent) : Prop := x.key.length ≤ 140737488355328 ∧ x.val.length ≤ 140737488355328
theorem bigE.small {x : Ent} (h : bigE x) : smallE x := ⟨Nat.le_trans h.1 (by decide), Nat.le_trans h.2 (by decide)⟩
theorem bigE.cost {x : Ent} (h : bigE x) : costE x ≤ 1125899906842624 := by
  obtain ⟨h1, h2⟩ := h
  unfold costE
  omega
theorem bigE.keep {x : Ent} (h : bigE x) : bigE (keepE x) := by
  unfold keepE
  split
  · exact ⟨h.1, Nat.zero_le _⟩
  · exact h
/-- Entries in memory, and lists of one entry each that come to the same. -/
structure MemTwo (w1 wr : World) (B m : Nat) (bs : List Nat) (v4 : Value) (ls : List (List Ent)) (cs : List Nat) (j : Nat) : Prop where
  mem : MemAt wr B m bs (mergeE ls)
  own : ∀ k ∈ bs, k = m ∨ w1.heap.size ≤ k
  lists : KeptLists wr v4 ls cs
  apart : ∀ k ∈ cs, k ∉ bs
  grown : w1.grownBy wr (some m)
  len : ls.length = j
  one : ∀ l ∈ ls, ∃ y, l = [y] ∧ bigE y
theorem MemTwo.below {w1 wr w' : World} {B m j : Nat} {bs cs : List Nat} {v4 : Value} {ls : List (List Ent)} (h : MemTwo w1 wr B m bs v4 ls cs j) (k : Below wr.heap.size wr w') : MemTwo w1 w' B m bs v4 ls cs j :=
  ⟨h.mem.below k, h.own, h.lists.below k, h.apart, grown_below h.grown k, h.len, h.one⟩
theorem MemTwo.rises {w1 wr : World} {B m j : Nat} {bs cs : List Nat} {v4 : Value} {ls : List (List Ent)} (h : MemTwo w1 wr B m bs v4 ls cs j) : ∀ l ∈ ls, rising l := fun l hl => by
  obtain ⟨y, rfl, _⟩ := h.one l hl
  exact List.pairwise_singleton _ _
theorem one_sum : ∀ {ls : List (List Ent)}, (∀ l ∈ ls, ∃ y, l = [y] ∧ bigE y) → sumE ls = ls.length
  | [], _ => rfl
  | l :: ls, h => by
    obtain ⟨y, rfl, _⟩ := h l (by simp)
    have := one_sum (ls := ls) fun x hx => h x (by simp [hx])
    have e : sumE ([y] :: ls) = 1 + sumE ls := by simp [sumE]
    rw [e, this, List.length_cons]
    omega
theorem MemTwo.sum {w1 wr : World} {B m j : Nat} {bs cs : List Nat} {v4 : Value} {ls : List (List Ent)} (h : MemTwo w1 wr B m bs v4 ls cs j) : sumE ls = j := by rw [one_sum h.one, h.len]
theorem MemTwo.all {w1 wr : World} {B m j : Nat} {bs cs : List Nat} {v4 : Value} {ls : List (List Ent)} (h : MemTwo w1 wr B m bs v4 ls cs j) : ∀ x ∈ mergeE ls, bigE x := fun x hx => by
  obtain ⟨l, hl, hxl⟩ := mergeE_mem hx
  obtain ⟨y, rfl, hy⟩ := h.one l hl
  obtain rfl : x = y := by simpa using hxl
  exact hy
theorem MemTwo.count {w1 wr : World} {B m j : Nat} {bs cs : List Nat} {v4 : Value} {ls : List (List Ent)} (h : MemTwo w1 wr B m bs v4 ls cs j) : (mergeE ls).length ≤ j := Nat.le_trans (mergeE_length ls) (Nat.le_of_eq h.sum)
/-- What is left of it behind Put, a store into another block, and one more list in front. -/
theorem MemTwo.step {w1 wr w6 w7 w8 w9 : World} {B m j b1 c1 g' : Nat} {bs bs' cs : List Nat} {v4 v' : Value} {ls : List (List Ent)} {row : Nat} (x : Ent) (h : MemTwo w1 wr B m bs v4 ls cs j) (hx : bigE x)
    (hm : MemAt w6 B m bs' (putE x (mergeE ls))) (k : Kept wr.heap.size bs wr w6) (hb : ∀ i ∈ bs', i ∈ bs ∨ wr.heap.size ≤ i)
    (s : ∀ i, i ≠ b1 → w7.heap[i]? = w6.heap[i]?) (sz : w6.heap.size ≤ w7.heap.size) (so : w7.os = w6.os ∧ w7.tape = w6.tape ∧ w7.output = w6.output) (hb1 : w1.heap.size ≤ b1) (hb2 : b1 ∉ bs')
    (b : Below w7.heap.size w7 w8) (g : w8.grownBy w9 (some row)) (hr : w7.heap.size ≤ row) (hl : KeptLists w9 v' ([x] :: ls) (g' :: c1 :: cs)) (hg : w7.heap.size ≤ g') (hc2 : w7.heap.size ≤ c1) :
    MemTwo w1 w9 B m bs' v' ([x] :: ls) (g' :: c1 :: cs) (j + 1) := by
  have hz1 : w1.heap.size ≤ wr.heap.size := h.grown.size
  have hz6 := k.size
  have hlt6 : ∀ i ∈ bs', i < w6.heap.size := fun i hi => (hm.lt i hi).2
  have h9 : ∀ i, i < w7.heap.size → w9.heap[i]? = w7.heap[i]? := fun i hi => (g.block i (Nat.lt_of_lt_of_le hi b.size) (fun e => by
    have : i = row := by simpa using e
    omega)).trans (b.block i hi)
  refine ⟨hm.kept fun i hi => (h9 i (Nat.lt_of_lt_of_le (hlt6 i hi) sz)).trans (s i fun e => hb2 (e ▸ hi)), fun i hi => ?_, hl, fun i hi q => ?_, ⟨?_, ?_, ?_, ?_, fun i hi hr' => ?_⟩, by rw [List.length_cons, h.len], fun l hl => ?_⟩
  · rcases hb i hi with q | q
    · exact h.own i q
    · exact .inr (Nat.le_trans hz1 q)
  · have hq := hlt6 i q
    simp only [List.mem_cons] at hi
    rcases hi with rfl | rfl | hi
    · omega
    · omega
    · rcases hb i q with r | r
      · exact h.apart i hi r
      · have := h.lists.1 i hi
        omega
  · exact g.os.trans (b.os.trans (so.1.trans (k.os.trans h.grown.os)))
  · exact g.tape.trans (b.tape.trans (so.2.1.trans (k.tape.trans h.grown.tape)))
  · exact g.output.trans (b.output.trans (so.2.2.trans (k.output.trans h.grown.output)))
  · exact Nat.le_trans hz1 (Nat.le_trans hz6 (Nat.le_trans sz (Nat.le_trans b.size g.size)))
  · have hiw : i < wr.heap.size := Nat.lt_of_lt_of_le hi hz1
    refine (h9 i (by omega)).trans ((s i (by omega)).trans ((k.block i hiw fun q => ?_).trans (h.grown.block i hi hr')))
    rcases h.own i q with rfl | q
    · exact hr' rfl
    · omega
  · rcases List.mem_cons.1 hl with rfl | hl
    · exact ⟨x, rfl, hx⟩
    · exact h.one l hl
end Go.Proofs.Ytpfkomglghmnfaa
