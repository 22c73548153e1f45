/- The document's disk: a file is put, walked. Conditions: none. -/
import Derived.Test.YtlnijckgnchpbaaPlays4
namespace Go.Proofs.Ytlnijckgnchpbaa
open Go Go.RowKit Go.Maps
attribute [local go_sem] Oper.semAt_some

theorem less_iff : ∀ a b : List UInt8, Go.Op.bytesLess a b = decide (a < b)
  | _, [] => by simp [Go.Op.bytesLess]
  | [], _ :: _ => by simp [Go.Op.bytesLess]
  | a :: x, b :: y => by
    rw [Go.Op.bytesLess, less_iff x y]
    by_cases h : a < b
    · simp [h, List.cons_lt_cons_iff]
    · by_cases e : a = b
      · subst e
        simp
      · simp [h, e, List.cons_lt_cons_iff]
structure PutAt (C : Nat) (c0 cF c1 : Array Value) (w0 wr : World) (u : Value) (L : List DFile) : Prop where
  own : OwnFiles wr (C + 3) u L
  r0 : rowAt wr C = some c0
  rF : rowAt wr (C + 1) = some cF
  r1 : rowAt wr (C + 2) = some c1
  b : Below C w0 wr
section
variable {C : Nat} {c0 cF c1 : Array Value} {w0 wr : World} {u : Value} {L : List DFile}
theorem PutAt.alloc (h : PutAt C c0 cF c1 w0 wr u L) (o : Obj) : PutAt C c0 cF c1 w0 (wr.alloc o) u L :=
  ⟨World.ownsRow.alloc h.own _, (rowAt_alloc_past _ _ _ (lt_of_rowAt h.r0)).trans h.r0, (rowAt_alloc_past _ _ _ (lt_of_rowAt h.rF)).trans h.rF, (rowAt_alloc_past _ _ _ (lt_of_rowAt h.r1)).trans h.r1,
    h.b.alloc (by have := lt_of_rowAt h.r0; omega) o⟩
theorem PutAt.app (h : PutAt C c0 cF c1 w0 wr u L) {f : DFile} {w3 : World} {v' : Value} (h1 : w3.ownsRow (C + 3) 37 3 v' (L.length + 1) (fileCells L ++ fileC f)) (hg : wr.grownBy w3 u.ownBlock) : PutAt C c0 cF c1 w0 w3 v' (L ++ [f]) := by
  have hrow : ∀ k c, k < C + 3 → rowAt wr k = some c → rowAt w3 k = some c := fun k c hk hr => by
    have hkl := lt_of_rowAt hr
    unfold rowAt at hr ⊢
    rw [hg.block k hkl (fun e => by have := (World.ownsRow.lt h.own k e.symm).1; omega)]
    exact hr
  refine ⟨?_, hrow _ _ (by omega) h.r0, hrow _ _ (by omega) h.rF, hrow _ _ (by omega) h.r1, h.b.grown hg (by have := lt_of_rowAt h.r0; omega) (fun k hk => by have := (World.ownsRow.lt h.own k hk).1; omega)⟩
  unfold OwnFiles
  rw [fileCells_append, fileCells_one, List.length_append]
  exact h1
end
theorem news_of (f : DFile) (wr : World) (n : Nat) (hn : wr.heap.size = n) : ∀ (j : Nat) (u : Value), (fileC f)[j]? = some u → (wr.alloc (.cells #[.string (stx f.name), .string (stx f.bytes), .int .i64 f.sure] 37)).cell? ((⟨n, 0, none⟩ : Addr).add j) = some u := by
  subst hn
  exact World.news_of_block (heap_alloc_new wr (.cells #[.string (stx f.name), .string (stx f.bytes), .int .i64 f.sure] 37))
theorem one_of (f : DFile) : ∀ u ∈ fileC f, u.oneCell' = true := by
  intro u hu
  simp only [fileC, List.mem_cons, List.mem_nil_iff, or_false] at hu
  rcases hu with rfl | rfl | rfl <;> rfl
end Go.Proofs.Ytlnijckgnchpbaa
