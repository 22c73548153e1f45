/- Levels: the error of a state, as the program tells it. Conditions: none. -/
import Derived.Test.YtfklhkephdnhaaaLevel3
namespace Go.Proofs.Ytfklhkephdnhaaa
open Go Go.RowKit Go.Maps

/-- What a table's parts may be at all. -/
structure FlOk (f : Fl) : Prop where
  num : in64 f.num
  lev : in64 f.lev
  size : in64 f.size
  first : f.first.length ≤ maxLen
  last : f.last.length ≤ maxLen
theorem nsAt_one {w : World} {g : Nat} {k : Int} (h : w.cell? ⟨g, 0, none⟩ = some (.int .i64 k)) (hk : in64 k) : NsAt w (.slice (some ⟨g, 0, none⟩) 1 1) [k] := by
  refine ⟨_, _, rfl, Nat.le_refl _, by decide, fun x hx => by rw [List.mem_singleton.1 hx]; exact hk, fun i x hi => ⟨_, rfl, ?_⟩⟩
  have hi2 : i = 0 := by
    have := (List.getElem?_eq_some_iff.1 hi).1
    simpa using this
  subst hi2
  have : k = x := by simpa using hi
  rw [← this]
  exact h
theorem upTo_one (most : Int) (w : World) (g : Nat) (k : Int) (hk : in64 k) (h : w.cell? ⟨g, 0, none⟩ = some (.int .i64 k)) :
    Calls Try.prog 33 #[.int .i64 most, .slice (some ⟨g, 0, none⟩) 1 1] w fun e w' => e = .returned (.bool (inB most k)) ∧ Below w.heap.size w w' := by
  have := lUpTo_any most _ [k] w (nsAt_one h hk)
  simpa using this
theorem upTo_two (most : Int) (w : World) (g : Nat) (k l : Int) (hk : in64 k) (hl : in64 l) (h : w.cell? ⟨g, 0, none⟩ = some (.int .i64 k)) (h2 : w.cell? ⟨g, 1, none⟩ = some (.int .i64 l)) :
    Calls Try.prog 33 #[.int .i64 most, .slice (some ⟨g, 0, none⟩) 2 2] w fun e w' => e = .returned (.bool (inB most k && inB most l)) ∧ Below w.heap.size w w' := by
  have hN : NsAt w (.slice (some ⟨g, 0, none⟩) 2 2) [k, l] := by
    refine ⟨_, _, rfl, Nat.le_refl _, by decide, fun x hx => ?_, fun i x hi => ⟨_, rfl, ?_⟩⟩
    · rcases List.mem_cons.1 hx with e | e
      · rw [e]; exact hk
      · rw [List.mem_singleton.1 e]; exact hl
    · have := (List.getElem?_eq_some_iff.1 hi).1
      rcases (by simp at this; omega : i = 0 ∨ i = 1) with e | e
      · subst e
        have : k = x := by simpa using hi
        rw [← this]
        exact h
      · subst e
        have : l = x := by simpa using hi
        rw [← this]
        exact h2
  have := lUpTo_any most _ [k, l] w hN
  simpa using this
/-- What Check keeps in its own variables. -/
def ChkW (B : Nat) (w : World) (bs : Nat) (next log : Int) (v : Value) (bm : Nat) (S : List Int) (wr : World) : Prop :=
  Below B w wr ∧ B ≤ wr.heap.size ∧ bs < bm ∧ B ≤ bs ∧ wr.cell? ⟨bs, 0, none⟩ = some (.int .i64 next) ∧ wr.cell? ⟨bs, 1, none⟩ = some (.int .i64 log) ∧ wr.cell? ⟨bs, 2, none⟩ = some v ∧ SetAt wr bm S
theorem ChkW.below {B : Nat} {w : World} {bs : Nat} {next log : Int} {v : Value} {bm : Nat} {S : List Int} {wr w' : World} (h : ChkW B w bs next log v bm S wr) (k : Below wr.heap.size wr w') : ChkW B w bs next log v bm S w' := by
  obtain ⟨h1, h2, h3, h3b, h4, h5, h6, h7⟩ := h
  exact ⟨h1.trans (k.mono h2), Nat.le_trans h2 k.size, h3, h3b, (k.cell (p := ⟨bs, 0, none⟩) (cellLt h4)).trans h4, (k.cell (p := ⟨bs, 1, none⟩) (cellLt h5)).trans h5, (k.cell (p := ⟨bs, 2, none⟩) (cellLt h6)).trans h6, h7.below k⟩
theorem cell_kept {w w' : World} {b : Nat} {r : Option Nat} {j : Nat} {u : Value} (hg : w.grownBy w' r) (hne : r ≠ some b) (h : w.cell? ⟨b, j, none⟩ = some u) : w'.cell? ⟨b, j, none⟩ = some u :=
  (World.cell?_of_block (hg.block b (cellLt h) (fun e => hne e.symm))).trans h
theorem ChkW.put {B : Nat} {w : World} {bs : Nat} {next log : Int} {v : Value} {bm : Nat} {S T : List Int} {wr w' : World} (h : ChkW B w bs next log v bm S wr) (hs : SetAt w' bm T) (k : wr.grownBy w' (some bm)) : ChkW B w bs next log v bm T w' := by
  obtain ⟨h1, h2, h3, h3b, h4, h5, h6, h7⟩ := h
  have hne : some bm ≠ some bs := fun e => by
    have := Option.some.inj e
    omega
  exact ⟨h1.grown k h2 (fun j e => by cases e; omega), Nat.le_trans h2 k.size, h3, h3b, cell_kept k hne h4, cell_kept k hne h5, cell_kept k hne h6, hs⟩
theorem inB_two (a b : Int) : (inB 1073741824 a && inB 1073741824 b) = (numB a && numB b) := rfl
theorem cell_new (w : World) (c : Array Value) (t : TypeId) (j : Nat) : (w.alloc (.cells c t)).cell? ⟨w.heap.size, j, none⟩ = c[j]? := Lib.cell_of_heap (heap_alloc_new w _) j
theorem cell_old {w : World} {p : Addr} {u : Value} (h : w.cell? p = some u) (o : Obj) : (w.alloc o).cell? p = some u :=
  (((Below.refl w.heap.size w).alloc (Nat.le_refl _) o).cell (cellLt h)).trans h
theorem drop_at {L : List Fl} {i : Nat} {f : Fl} (h : L[i]? = some f) : L.drop i = f :: L.drop (i + 1) := by
  obtain ⟨hi, rfl⟩ := List.getElem?_eq_some_iff.1 h
  exact List.drop_eq_getElem_cons hi
theorem seen_rev (L : List Fl) (i : Nat) (n : Int) : decide (n ∈ ((L.take i).map Fl.num).reverse) = seenB (L.take i) n := by
  unfold seenB
  exact decide_eq_decide.2 List.mem_reverse
theorem bound_split (next : Int) (f : Fl) : boundB next f = (inB (next - 1) f.num && inB 3 f.lev && inB 1073741824 f.size) := by
  unfold boundB inB numB
  have e : decide (f.num < next) = decide (f.num ≤ next - 1) := decide_eq_decide.2 (by omega)
  rw [e, Bool.and_assoc (decide (0 ≤ f.num) && _)]
end Go.Proofs.Ytfklhkephdnhaaa
