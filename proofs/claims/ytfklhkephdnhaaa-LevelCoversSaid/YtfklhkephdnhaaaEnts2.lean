/- Entries: what is put behind a list in a region that draws its order; order of keys; a cut. Conditions: none. -/
import Derived.Test.YtfklhkephdnhaaaEnts
import Derived.Test.YtfklhkephdnhaaaWild
import Derived.Deep.RegionLaw
import Derived.Lib.Bytealg
namespace Go.Proofs.Ytfklhkephdnhaaa
open Go Go.RowKit

theorem cmp_lt : ∀ {a b : List UInt8}, a < b → Lib.compareBytes a b = -1
  | [], [], h => absurd h (klt_irrefl _)
  | [], _ :: _, _ => rfl
  | x :: a, [], h => by simp at h
  | x :: a, y :: b, h => by
    unfold Lib.compareBytes
    rcases List.cons_lt_cons_iff.1 h with h1 | ⟨h1, h2⟩
    · rw [if_pos h1]
    · subst h1
      rw [if_neg (UInt8.lt_irrefl _), if_neg (UInt8.lt_irrefl _)]
      exact cmp_lt h2
theorem cmp_gt : ∀ {a b : List UInt8}, b < a → Lib.compareBytes a b = 1
  | [], [], h => absurd h (klt_irrefl _)
  | [], _ :: _, h => by simp at h
  | x :: a, [], _ => rfl
  | x :: a, y :: b, h => by
    unfold Lib.compareBytes
    rcases List.cons_lt_cons_iff.1 h with h1 | ⟨h1, h2⟩
    · rw [if_neg (fun h => UInt8.lt_irrefl _ (UInt8.lt_trans h h1)), if_pos h1]
    · subst h1
      rw [if_neg (UInt8.lt_irrefl _), if_neg (UInt8.lt_irrefl _)]
      exact cmp_gt h2
theorem cmp_eq : ∀ (a : List UInt8), Lib.compareBytes a a = 0
  | [] => rfl
  | x :: a => by
    unfold Lib.compareBytes
    rw [if_neg (UInt8.lt_irrefl _), if_neg (UInt8.lt_irrefl _)]
    exact cmp_eq a
theorem lessE : ∀ a b : List UInt8, Go.Op.bytesLess a b = decide (a < b)
  | _, [] => by simp [Go.Op.bytesLess]
  | [], _ :: _ => by simp [Go.Op.bytesLess]
  | a :: x, b :: y => by
    rw [Go.Op.bytesLess, lessE x y]
    by_cases h : a < b
    · simp [h, List.cons_lt_cons_iff]
    · by_cases e : a = b
      · subst e
        simp
      · simp [h, e, List.cons_lt_cons_iff]
def lenV : Value → Nat
  | .slice _ n _ => n
  | _ => 0

/-- One entry is put behind a list of the call's own, as a step of a region that draws its order. -/
theorem step_put_ent {ops : Array Oper} {o : Oper} {a : Act} {w : World} {K : Act → World → Prop} {Q : Exit → Act → World → Prop} {E : Prop} (hgd : o.guard = none) (s x : Operand)
    (ho : o.op = .call { callee := .builtin .append, args := #[s, x], argTypes := #[63, 63] }) (B : Nat) (v : Value) (es : List Ent) (hs : a.eval s = v) (hown : OwnEnts w B v es)
    (t : Ent) (g c : Nat) (hx : a.eval x = .slice (some ⟨g, 0, none⟩) 1 c) (hcell : EntAt w g 0 t) (hB : B ≤ w.heap.size) (hl : es.length ≤ 1000000)
    (h : ∀ g' c' w', OwnEnts w' B (.slice (some ⟨g', 0, none⟩) (es.length + 1) c') (es ++ [t]) → w.grownBy w' v.ownBlock → K (a.put o.dst (.slice (some ⟨g', 0, none⟩) (es.length + 1) c')) w') :
    if Region.wanted o (yielded ops a.tmps) = true then Oper.wp Try.prog o a w K Q else E := by
  obtain ⟨i0, hi, hz0, hz1, hz2⟩ := info_ent
  refine step_append_lies (P := Try.prog) w hgd s x 63 ho B 66 i0 _ 3 40 Try.underlying63 hi hz0 hz1 hz2 rfl (by decide) v es.length (entCells es) hs hown ⟨g, 0, none⟩ 1 c (entC t) hx rfl ?_ (oneE t) (by decide) (by unfold maxLen; omega) (by omega) hB w.heap.size rfl ?_
  · intro j u hu
    rw [add_lit, Nat.zero_add]
    obtain ⟨k0, k1, k2⟩ := hcell
    match j, hu with
    | 0, hu => rw [k0]; exact hu
    | 1, hu => rw [k1]; exact hu
    | 2, hu => rw [k2]; exact hu
  · intro g' c' w' h1 h2 _ _
    refine h g' c' w' ?_ h2
    unfold OwnEnts
    rw [entCells_append, entCells_one, List.length_append]
    exact h1
theorem entAt_new (w : World) (x : Ent) (n : Nat) (hn : n = w.heap.size) : EntAt (w.alloc (.cells #[.string (stx x.key), .string (stx x.val), .bool x.gone] 66)) n 0 x := by
  subst hn
  have r := rowAt_alloc_at w #[.string (stx x.key), .string (stx x.val), .bool x.gone] 66 _ rfl
  exact ⟨cell_of_rowAt r 0, cell_of_rowAt r 1, cell_of_rowAt r 2⟩
theorem OwnEnts.grown' {w w' : World} {B : Nat} {v : Value} {es : List Ent} {a : World} (h : w.ownsRow B 66 3 v es.length (entCells es)) (hg : w.grownBy w' v.ownBlock) (b : Below B a w) (hB : B ≤ w.heap.size) : Below B a w' :=
  b.grown hg hB (fun k hk => (World.ownsRow.lt h k hk).1)
/-- What s[1:] is. -/
theorem EntsAt.tail {w : World} {g p n k : Nat} {x : Ent} {xs : List Ent} (h : EntsAt w (.slice (some ⟨g, p, none⟩) n k) (x :: xs)) : EntsAt w (.slice (if k = 1 then some ⟨g, p, none⟩ else some ⟨g, p + 3, none⟩) xs.length (k - 1)) xs := by
  have hn : n = xs.length + 1 := by
    obtain ⟨A, c, h1, _⟩ := h
    have : n = (x :: xs).length := by injection h1
    rw [this, List.length_cons]
  have := EntsAt.drop (k := 1) h (by simp)
  rw [List.drop_one, List.tail_cons] at this
  unfold cutV at this
  rw [hn, Nat.add_sub_cancel, Option.map_some, add_lit, Nat.one_mul] at this
  exact this
/-- What s[k:] is, run. -/
theorem run_cut (A : Option Addr) (n cap k : Nat) (hk : k ≤ n) (w : World) : (Instr.slice 63 (.slice A n cap) (some (.int .i64 k)) none none).run Try.prog w = .ok (cutV A n cap k) w := by
  have hu : Try.prog.underlying 63 = some (.slice 66) := Try.underlying63
  obtain ⟨i0, hi, hz0, hz1, hz2⟩ := info_ent
  have h1 : (Instr.sliceBounds true n cap (some (.int .i64 k)) none none).run Try.prog w = .ok (k, n, cap) w := by
    simp [Instr.sliceBounds, Instr.sliceBound, asIntOf, hk]
  unfold Instr.slice
  simp [run_underlying hu, sizeOf, typeInfo, hi, hz1, h1, Result.andThen, cutV]
end Go.Proofs.Ytfklhkephdnhaaa
