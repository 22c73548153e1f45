/- Texts, their frames, sums and sums by a key: lists side by side. Conditions: none. -/
import Derived.Test.YthmhjojabalddaaDoorLabs
import Derived.Test.YthmhjojabalddaaDoorCutsMath
import Derived.Test.YthmhjojabalddaaDoorCode8
import Derived.Test.YthmhjojabalddaaDoorCode7
import Derived.Test.YthmhjojabalddaaDoorShaMac
import Derived.Test.YthmhjojabalddaaDoorShaTabs
import Derived.Test.YthmhjojabalddaaDoorTabs
import Derived.Test.YthmhjojabalddaaDoorSealLaw
import Derived.Test.YthmhjojabalddaaDoorWild
namespace Go.Proofs.YthmhjojabalddaaDoor
open Go Go.RowKit

def encL (t : List UInt8) : List UInt8 := numBytes t.length ++ t
theorem encL_len (t : List UInt8) (h : t.length ≤ 200) : (encL t).length ≤ 209 := by
  have := numLen_le t.length (by omega)
  rw [encL, List.length_append, numBytes_length]
  omega
theorem textW_enc (t : List UInt8) (h : t.length ≤ 200) : textW [] 0 (stx t) = encL t ∧ textWE 0 (stx t) = 0 := by
  have hz : (stx t).size = t.length := stx_size t
  have hn := numLen_le t.length (by omega)
  have hb : (numBytes t.length).length ≤ 65536 := by rw [numBytes_length]; omega
  unfold textW textWE
  rw [if_neg (by omega), if_neg (by omega), hz, encL, added, if_pos ⟨rfl, by rw [added, if_pos ⟨rfl, by decide⟩]; exact hb⟩, added, if_pos ⟨rfl, by decide⟩]
  exact ⟨rfl, rfl⟩
theorem done_enc (t : List UInt8) (h : t.length ≤ 200) : doneS (encL t) 0 = encL t ∧ doneE (encL t) 0 = 0 := by
  have := encL_len t h
  unfold doneS doneE
  rw [if_neg (by omega), if_neg (by decide), if_neg (by omega)]
  exact ⟨rfl, rfl⟩
theorem cat_len (l : List (List UInt8)) (h : ∀ t ∈ l, t.length ≤ 200) : (cat (l.map encL)).length ≤ l.length * 217 := by
  induction l with
  | nil => exact Nat.zero_le _
  | cons t l ih =>
    have h1 := encL_len t (h t (by simp))
    have h2 := ih fun u hu => h u (by simp [hu])
    have e : cat ((t :: l).map encL) = frame (encL t) ++ cat (l.map encL) := rfl
    rw [e, List.length_append, frame_length, List.length_cons]
    omega
theorem all_whole (ts : List (List UInt8)) (h : ∀ t ∈ ts, t.length ≤ 65536) : allR (cat ts) = (ts, (cat ts).length) := by
  have h1 := all_of_cut ts (cat ts).length h (Nat.le_refl _)
  rw [List.take_of_length_le (Nat.le_refl _)] at h1
  have h2 : whole ts (cat ts).length = ts.length := by
    have a := (whole_iff ts (cat ts).length ts.length (Nat.le_refl _)).1 (by rw [endAt, List.take_of_length_le (Nat.le_refl _)]; exact Nat.le_refl _)
    have b := whole_le ts (cat ts).length
    omega
  rw [h2, endAt, List.take_of_length_le (Nat.le_refl _)] at h1
  exact h1
theorem read_enc (t : List UInt8) (h : t.length ≤ 200) : textV (txt (encL t)) 0 = stx t ∧ textR (txt (encL t)) 0 = txt [] ∧ textE (txt (encL t)) 0 = 0 := by
  have := text_read t [] (by omega)
  rw [List.append_nil] at this
  exact this

structure Lists3 (w0 : World) (v6 v7 v8 : Value) (a b : List Lab) (c : List (List UInt8)) (w : World) : Prop where
  l6 : OwnLabs w w0.heap.size v6 a
  l7 : OwnLabs w w0.heap.size v7 b
  l8 : OwnStrs w w0.heap.size v8 c
  ap : Apart v6 v7
  below : Below w0.heap.size w0 w
section
variable {w0 w w' : World} {v6 v7 v8 v' : Value} {a b : List Lab} {c d : List (List UInt8)} {x : Lab}
theorem Lists3.past (h : Lists3 w0 v6 v7 v8 a b c w) (k : Below w.heap.size w w') : Lists3 w0 v6 v7 v8 a b c w' :=
  ⟨h.l6.below k, h.l7.below k, h.l8.below k, h.ap, below_past h.below k h.below.size⟩
theorem Lists3.text (h : Lists3 w0 v6 v7 v8 a b c w) (ho : OwnStrs w' w0.heap.size v' d) (hg : w.grownBy w' v8.ownBlock) : Lists3 w0 v6 v7 v' a b d w' :=
  ⟨h.l6.strs h.l8 hg, h.l7.strs h.l8 hg, ho, h.ap, h.l8.grown hg h.below h.below.size⟩
theorem Lists3.sum (h : Lists3 w0 v6 v7 v8 a b c w) {a' : List Lab} (ho : OwnLabs w' w0.heap.size v' a') (hg : w.grownBy w' v6.ownBlock) (hat : v'.ownBlock = v6.ownBlock ∨ v'.ownBlock = some w.heap.size) : Lists3 w0 v' v7 v8 a' b c w' :=
  ⟨ho, h.l7.apart h.ap hg, OwnStrs.labs h.l6 h.l8 hg, h.ap.growL h.l7 hat (Nat.le_refl _), h.below.grown hg h.below.size (fun k hk => (World.ownsRow.lt h.l6 k hk).1)⟩
theorem Lists3.mac (h : Lists3 w0 v6 v7 v8 a b c w) {b' : List Lab} (ho : OwnLabs w' w0.heap.size v' b') (hg : w.grownBy w' v7.ownBlock) (hat : v'.ownBlock = v7.ownBlock ∨ v'.ownBlock = some w.heap.size) : Lists3 w0 v6 v' v8 a b' c w' :=
  ⟨h.l6.apart h.ap.symm hg, ho, OwnStrs.labs h.l7 h.l8 hg, (h.ap.symm.growL h.l6 hat (Nat.le_refl _)).symm, h.below.grown hg h.below.size (fun k hk => (World.ownsRow.lt h.l7 k hk).1)⟩
end
def laidAll {H : Type} : List (String × DataW H) := [("chirograph/sha.cubes", Rows.laid_chirograph_sha_cubes), ("chirograph/seal.low", Rows.laid_chirograph_seal_low), ("chirograph/seal.high", Rows.laid_chirograph_seal_high)]
/-- What the condition gives: the three tables lie there. -/
theorem all_of_laid {W : World} (h : laidMetH Tryd.prog laidAll W) : Cubes W ∧ Tabs W := by
  rw [MakeChecks.laidMetH_plain _ _ _ (by kernel_rfl)] at h
  obtain ⟨ps, ⟨g0, t0, cs0, f0, p0, q0, hg0, ht0, hv0, hd0, ⟨g1, t1, cs1, f1, p1, q1, hg1, ht1, hv1, hd1, ⟨g2, t2, cs2, f2, p2, q2, hg2, ht2, hv2, hd2, _, _⟩, _⟩, _⟩, _, _⟩ := h
  obtain rfl := Option.some.inj (gCubes.symm.trans hg0)
  obtain rfl := Option.some.inj (tCubes.symm.trans ht0)
  obtain rfl := Option.some.inj (gLow.symm.trans hg1)
  obtain rfl := Option.some.inj (gHigh.symm.trans hg2)
  obtain rfl := Option.some.inj (tLow.symm.trans ht1)
  obtain rfl := Option.some.inj (tHigh.symm.trans ht2)
  exact ⟨cubes_of_cells (words_of (L := cubesL) (World.var?_cell gCubes hv0) Tryd.underlying41 Tryd.underlying38 cellsOf_w32 rfl hd0),
    table_of (L := lowL) (World.var?_cell gLow hv1) Tryd.underlying104 Tryd.underlying38 cellsOf_u32 rfl hd1, table_of (L := highL) (World.var?_cell gHigh hv2) Tryd.underlying104 Tryd.underlying38 cellsOf_u32 rfl hd2⟩
theorem door_all (os : Os) (args : Array Value) : laidMetH Tryd.prog laidAll ((World.doorLaid Tryd.prog 2000 os).forCall (fun _ _ => 0) ⟨#[], args, []⟩).memory :=
  laidMetH_of_parts3 (fuel := 8) (laidMet_of_run' 8 (by kernel_rfl) (by kernel_rfl)) (by kernel_rfl) (by kernel_rfl)
end Go.Proofs.YthmhjojabalddaaDoor
