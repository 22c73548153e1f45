/- Two readers side by side: the program's and the document's. Conditions: none. -/
import Derived.Test.YthcaolinajfjpaaRef2g
import Derived.Test.YthcaolinajfjpaaThingsMath
import Derived.Test.YthcaolinajfjpaaLaw2
namespace Go.Proofs.Ythcaolinajfjpaa
open Go Go.RowKit

/-- Reader r stands before R1, with error e1; cursor c stands at A2 of s, with error e2; the things are g's. -/
structure St (w0 : World) (r c g m : Nat) (T : Nat → Thing) (s R : ByteArray) (e1 : Int) (A2 : Nat) (e2 : Int) (W : World) : Prop where
  below : Below w0.heap.size w0 W
  rd : W.heap[r]? = some (.cells #[.string R, .int .i64 e1] 119 (0, 0))
  cur : rowAt W c = some #[.string s, .int .i64 A2, .int .i64 e2]
  th : OwnThings W g m T
  o1 : w0.heap.size ≤ r
  o2 : r < c
  o3 : c < g
  o4 : g < W.heap.size

section
variable {w0 W W' : World} {r c g m : Nat} {T : Nat → Thing} {s R : ByteArray} {e1 : Int} {A2 : Nat} {e2 : Int}
theorem St.past (h : St w0 r c g m T s R e1 A2 e2 W) (k : Below W.heap.size W W') : St w0 r c g m T s R e1 A2 e2 W' :=
  have h1 := h.o1
  have h2 := h.o2
  have h3 := h.o3
  have h4 := h.o4
  ⟨below_past h.below k (by omega), (k.block r (by omega)).trans h.rd, rowAt_past k h.cur, h.th.row (rowAt_below k h4), h1, h2, h3, Nat.lt_of_lt_of_le h4 k.size⟩
theorem St.reader (h : St w0 r c g m T s R e1 A2 e2 W) (B : Nat) : ReaderAt B r R e1 W := ⟨rfl, h.rd⟩
theorem St.near (h : St w0 r c g m T s R e1 A2 e2 W) {R' : ByteArray} {e1' : Int} {B : Nat} (hr : ReaderAt B r R' e1' W') (k : Near W.heap.size r W W') : St w0 r c g m T s R' e1' A2 e2 W' :=
  have h1 := h.o1
  have h2 := h.o2
  have h3 := h.o3
  have h4 := h.o4
  ⟨h.below.trans (k.below (by omega) h1), hr.2, (k.row (by omega) (by omega)).trans h.cur, h.th.row (k.row h4 (by omega)), h1, h2, h3, Nat.lt_of_lt_of_le h4 k.size⟩
theorem St.put (h : St w0 r c g m T s R e1 A2 e2 W) (A3 : Nat) (e3 : Int) : St w0 r c g m T s R e1 A3 e3 (((W.setCell ⟨c, 0, none⟩ (.string s)).setCell ⟨c, 1, none⟩ (.int .i64 A3)).setCell ⟨c, 2, none⟩ (.int .i64 e3)) :=
  have h1 := h.o1
  have h2 := h.o2
  have h3 := h.o3
  have h4 := h.o4
  have k : Near W.heap.size c W (((W.setCell ⟨c, 0, none⟩ (.string s)).setCell ⟨c, 1, none⟩ (.int .i64 A3)).setCell ⟨c, 2, none⟩ (.int .i64 e3)) := (((Near.refl W.heap.size c W).setCell (p := ⟨c, 0, none⟩) rfl _).setCell (p := ⟨c, 1, none⟩) rfl _).setCell (p := ⟨c, 2, none⟩) rfl _
  ⟨h.below.trans (k.below (by omega) (by omega)), (k.block r (by omega) (by omega)).trans h.rd, rowAt_setCell_same (rowAt_setCell_same (rowAt_setCell_same h.cur 0 (.string s)) 1 (.int .i64 A3)) 2 (.int .i64 e3), h.th.row (k.row h4 (by omega)), h1, h2, h3, Nat.lt_of_lt_of_le h4 k.size⟩
theorem St.side (h : St w0 r c g m T s R e1 A2 e2 W) {k : Nat} (hk : g < k) (n : Near W.heap.size k W W') : St w0 r c g m T s R e1 A2 e2 W' :=
  have h1 := h.o1
  have h2 := h.o2
  have h3 := h.o3
  have h4 := h.o4
  ⟨h.below.trans (n.below (by omega) (by omega)), (n.block r (by omega) (by omega)).trans h.rd, (n.row (by omega) (by omega)).trans h.cur, h.th.row (n.row h4 (by omega)), h1, h2, h3, Nat.lt_of_lt_of_le h4 n.size⟩
theorem rowAt_put3 {W : World} {c h : Nat} {x : Array Value} (a b d : Value) (hr : rowAt W h = some x) (hc : h ≠ c) : rowAt (((W.setCell ⟨c, 0, none⟩ a).setCell ⟨c, 1, none⟩ b).setCell ⟨c, 2, none⟩ d) h = some x :=
  (rowAt_setCell_other _ _ _ _ hc).trans ((rowAt_setCell_other _ _ _ _ hc).trans ((rowAt_setCell_other _ _ _ _ hc).trans hr))
end
theorem textE_zero {R : ByteArray} {err : Int} (h : textE R err = 0) : err = 0 := belE_zero (takeE_zero h)
theorem numV_err (R : ByteArray) (err : Int) (h : numE R err ≠ 0) : numV R err = 0 := by
  unfold numE at h
  unfold numV numOk
  split
  · rfl
  · rename_i hz
    split
    · rfl
    · rename_i hb
      exfalso
      rw [if_neg (fun e => hb e.2)] at h
      refine hz ?_
      unfold numE0 takeE at h
      unfold numT takeS
      split at h
      · rename_i e
        rw [if_neg (fun e2 => by omega)]
        rfl
      · rw [if_neg (fun e2 => h e2.1)]
        rfl
end Go.Proofs.Ythcaolinajfjpaa
