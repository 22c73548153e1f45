/- Entries in memory beside a list of one's own: what a loop keeps. Conditions: none. -/
import Derived.Test.YtpfkomglghmnfaaMemPut
namespace Go.Proofs.Ytpfkomglghmnfaa
open Go Go.RowKit

/-- Entries in memory, and the same entries as a list of one's own, behind a world in which nothing but the memory's own variable has changed since. -/
structure MemInv (w1 wr : World) (B m : Nat) (bs : List Nat) (wv : Value) (L L2 : List Ent) (j : Nat) : Prop where
  mem : MemAt wr B m bs L
  own : ∀ k ∈ bs, k = m ∨ w1.heap.size ≤ k
  list : OwnEnts wr B wv L2
  apart : ∀ k ∈ bs, wv.ownBlock ≠ some k
  grown : w1.grownBy wr (some m)
  rise : rising L
  len : L.length ≤ j
  small : ∀ x ∈ L, x.key.length ≤ 110 ∧ x.val.length ≤ 4010
theorem grown_below {a b c : World} {row : Option Nat} (h : a.grownBy b row) (k : Below b.heap.size b c) : a.grownBy c row :=
  ⟨k.os.trans h.os, k.tape.trans h.tape, k.output.trans h.output, Nat.le_trans h.size k.size, fun i hi hr => (k.block i (Nat.lt_of_lt_of_le hi h.size)).trans (h.block i hi hr)⟩
theorem MemInv.below {w1 wr w' : World} {B m j : Nat} {bs : List Nat} {wv : Value} {L L2 : List Ent} (h : MemInv w1 wr B m bs wv L L2 j) (k : Below wr.heap.size wr w') : MemInv w1 w' B m bs wv L L2 j :=
  ⟨h.mem.below k, h.own, h.list.below k, h.apart, grown_below h.grown k, h.rise, h.len, h.small⟩
theorem MemInv.mono {w1 wr : World} {B m j j' : Nat} {bs : List Nat} {wv : Value} {L L2 : List Ent} (h : MemInv w1 wr B m bs wv L L2 j) (k : j ≤ j') : MemInv w1 wr B m bs wv L L2 j' :=
  ⟨h.mem, h.own, h.list, h.apart, h.grown, h.rise, Nat.le_trans h.len k, h.small⟩
/-- A new list. -/
theorem MemInv.relist {w1 wr w' : World} {B m j : Nat} {bs : List Nat} {wv v' : Value} {L L2 L3 : List Ent} (h : MemInv w1 wr B m bs wv L L2 j) (k : Below wr.heap.size wr w') (hB : B ≤ wr.heap.size) (ho : OwnEnts w' wr.heap.size v' L3) : MemInv w1 w' B m bs v' L L3 j :=
  ⟨h.mem.below k, h.own, ho.low hB, fun b hb e => by
    have h1 := (h.mem.lt b hb).2
    have h2 := (World.ownsRow.lt ho b e).1
    omega, grown_below h.grown k, h.rise, h.len, h.small⟩
/-- What Clear does, with a new list. -/
theorem MemInv.clear {w1 wr w' w2 : World} {B m j : Nat} {bs : List Nat} {wv v' : Value} {L L2 : List Ent} (h : MemInv w1 wr B m bs wv L L2 j) (hm : MemAt w' B m [m] []) (g : wr.grownBy w' (some m)) (k : Below w'.heap.size w' w2) (hB : B ≤ w'.heap.size) (ho : OwnEnts w2 w'.heap.size v' []) : MemInv w1 w2 B m [m] v' [] [] j := by
  have g2 : w1.grownBy w' (some m) := ⟨g.os.trans h.grown.os, g.tape.trans h.grown.tape, g.output.trans h.grown.output, Nat.le_trans h.grown.size g.size, fun i hi hr => (g.block i (Nat.lt_of_lt_of_le hi h.grown.size) hr).trans (h.grown.block i hi hr)⟩
  exact ⟨hm.below k, fun i hi => .inl (by simpa using hi), ho.low hB, fun i hi e => by
    have h1 := (hm.lt i hi).2
    have h2 := (World.ownsRow.lt ho i e).1
    omega, grown_below g2 k, List.Pairwise.nil, Nat.zero_le _, fun x hx => by simp at hx⟩
/-- A cell of another block. -/
theorem MemInv.setCell {w1 wr : World} {B m j : Nat} {bs : List Nat} {wv : Value} {L L2 : List Ent} (h : MemInv w1 wr B m bs wv L L2 j) (b i : Nat) (u : Value) (hb : b ∉ bs) (hv : wv.ownBlock ≠ some b) (h1 : w1.heap.size ≤ b) : MemInv w1 (wr.setCell ⟨b, i, none⟩ u) B m bs wv L L2 j := by
  refine ⟨h.mem.kept fun k hk => heap_setCell_other wr b i k u (fun e => hb (e ▸ hk)), h.own, ?_, h.apart, ⟨h.grown.os, h.grown.tape, h.grown.output, by simpa [World.setCell] using h.grown.size, fun k hk hr => (heap_setCell_other wr b i k u (by omega)).trans (h.grown.block k hk hr)⟩, h.rise, h.len, h.small⟩
  rcases h.list.2 with ⟨rfl, h0⟩ | ⟨g, cap, cur, rfl, q1, q2, q3⟩
  · exact ⟨h.list.1, .inl ⟨rfl, h0⟩⟩
  · exact ⟨h.list.1, .inr ⟨g, cap, cur, rfl, q1, (heap_setCell_other wr b i g u (fun e => hv (by rw [← e]; rfl))).trans q2, q3⟩⟩
theorem keep_small {x : Ent} (h : x.key.length ≤ 110 ∧ x.val.length ≤ 4010) : (keepE x).key.length ≤ 110 ∧ (keepE x).val.length ≤ 4010 := by
  unfold keepE
  split
  · exact ⟨h.1, Nat.zero_le _⟩
  · exact h
theorem putE_mem {x y : Ent} {l : List Ent} (hr : rising l) (h : y ∈ putE x l) : y = x ∨ y ∈ l := by
  rw [put_at hr] at h
  split at h
  · exact (List.mem_or_eq_of_mem_set h).symm
  · simp only [insE, List.mem_append, List.mem_cons] at h
    rcases h with h | h | h
    · exact .inr (List.mem_of_mem_take h)
    · exact .inl h
    · exact .inr (List.mem_of_mem_drop h)
/-- What Put does: the memory alone has one entry more. -/
theorem MemInv.put {w1 wr w' : World} {B m j : Nat} {bs bs' : List Nat} {wv : Value} {L L2 : List Ent} (x : Ent) (h : MemInv w1 wr B m bs wv L L2 j) (hx : x.key.length ≤ 110 ∧ x.val.length ≤ 4010) (hm : MemAt w' B m bs' (putE x L)) (k : Kept wr.heap.size bs wr w') (hb : ∀ i ∈ bs', i ∈ bs ∨ wr.heap.size ≤ i) :
    MemInv w1 w' B m bs' wv (putE x L) L2 (j + 1) := by
  have hlt : ∀ i, wv.ownBlock = some i → i < wr.heap.size := fun i e => (World.ownsRow.lt h.list i e).2
  refine ⟨hm, fun i hi => ?_, ?_, fun i hi e => ?_, ⟨k.os.trans h.grown.os, k.tape.trans h.grown.tape, k.output.trans h.grown.output, Nat.le_trans h.grown.size k.size, fun i hi hr => (k.block i (Nat.lt_of_lt_of_le hi h.grown.size) (fun q => by
    rcases h.own i q with rfl | q
    · exact hr rfl
    · omega)).trans (h.grown.block i hi hr)⟩, putE_rising h.rise, Nat.le_trans (putE_length x L) (Nat.succ_le_succ h.len), fun y hy => ?_⟩
  · rcases hb i hi with q | q
    · exact h.own i q
    · exact .inr (Nat.le_trans h.grown.size q)
  · rcases h.list.2 with ⟨rfl, h0⟩ | ⟨g, cap, cur, rfl, q1, q2, q3⟩
    · exact ⟨h.list.1, .inl ⟨rfl, h0⟩⟩
    · exact ⟨h.list.1, .inr ⟨g, cap, cur, rfl, q1, (k.block g (hlt g rfl) (fun q => h.apart g q rfl)).trans q2, q3⟩⟩
  · rcases hb i hi with q | q
    · exact h.apart i q e
    · have := hlt i e
      omega
  · rcases putE_mem h.rise hy with rfl | q
    · exact hx
    · exact h.small y q
/-- A list of one's own that the memory's variable is no part of. -/
theorem own_grown {w w' : World} {B m : Nat} {v : Value} {l : List Ent} (h : OwnEnts w B v l) (g : w.grownBy w' (some m)) (hm : m < B) : OwnEnts w' B v l := by
  rcases h.2 with ⟨rfl, h0⟩ | ⟨g', cap, cur, rfl, q1, q2, q3⟩
  · exact ⟨h.1, .inl ⟨rfl, h0⟩⟩
  · exact ⟨h.1, .inr ⟨g', cap, cur, rfl, q1, (g.block g' (World.ownsRow.lt h g' rfl).2 (fun e => by
      have : g' = m := by simpa using e
      omega)).trans q2, q3⟩⟩
theorem grown_all {a b c : World} {m n : Nat} (h : Below n a b) (g : b.grownBy c (some m)) (hm : n ≤ m) (hn : n ≤ b.heap.size) : Below n a c :=
  ⟨g.os.trans h.os, g.tape.trans h.tape, g.output.trans h.output, Nat.le_trans h.size g.size, fun k hk => (g.block k (Nat.lt_of_lt_of_le hk hn) (fun e => by
    have : k = m := by simpa using e
    omega)).trans (h.block k hk)⟩
end Go.Proofs.Ytpfkomglghmnfaa
