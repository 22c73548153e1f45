/- The names of all files; one file's crash; a byte that is another one. Conditions: none. -/
import Derived.Test.YtlhdnkfnhdkbkaaGreatDoorDisk7
import Derived.Test.YtlhdnkfnhdkbkaaGreatDoorIter
import Derived.Sort.OwnSorted
import Derived.OwnWalkIn
import Derived.TacticsInMore
namespace Go.Proofs.YtlhdnkfnhdkbkaaGreatDoor
open Go Go.RowKit Go.Maps
attribute [local go_sem] Oper.semAt_some

theorem own_base {w : World} {B C e s n : Nat} {v : Value} {xs : List Value} (h : w.ownsRow B e s v n xs) (hC : C ≤ B) : w.ownsRow C e s v n xs := by
  refine ⟨h.1, ?_⟩
  rcases h.2 with hn | ⟨g, cap, cur, rfl, hb, rest⟩
  · exact .inl hn
  · exact .inr ⟨g, cap, cur, rfl, by omega, rest⟩
theorem enc_cells (l : List (List UInt8)) : l.map Go.Proofs.encStr = strCells l := rfl
set_option maxRecDepth 100000 in
set_option maxHeartbeats 1000000 in
theorem dnames_is (b m : Nat) (D : DW) (G : List UInt8 → Nat) (d : DDisk) (w : World) (c0 : w.cell? ⟨b, 0, none⟩ = some (.map (some m))) (hm : w.ownsMap Tryz.prog 9 ptrElem m d.files.length D) (hi : MapIs D G d.files) (hs : dSorted d.files) (hl : d.files.length ≤ 1000000000000) :
    Calls Tryz.prog 34 #[.pointer (some ⟨b, 0, none⟩)] w fun e w' => ∃ v, e = .returned v ∧ OwnStrs w' w.heap.size v (dNames d.files) ∧ Below w.heap.size w w' := by
  have hz := hi.size_
  have hmax : Maps.size D ≤ maxLen := by rw [hz]; unfold maxLen; omega
  have hbytes : Maps.size D * 16 ≤ 140737488355328 := by rw [hz]; omega
  have HK := Lib.hid (Tryz.slices_Sorted_keys_52_53 m d.files.length D ptrElem w hm hmax hbytes)
  have HI : Hid (∀ ss : List (List UInt8), ss.Perm (strKeys D) → ss.mergeSort leB = dNames d.files ∧ ss.length = (dNames d.files).length) := Lib.hid fun ss hp => by
    have h1 := hi.keys hs hp
    refine ⟨h1, ?_⟩
    rw [← h1, List.length_mergeSort]
  clear hm hi hs hz hmax hbytes
  refine (callsIn_wide (n := 6)).1 ?_
  have hfK : Fence.wide.fn 53 := trivial
  have hfS : Fence.wide.fn 52 := trivial
  refine callsIn_of_wp Tryz.func34 rfl trivial ?_ rfl
  simp only [Tryz.ntmps34, List.size_toArray, List.length_cons, List.length_nil, Nat.reduceAdd, Nat.reduceSub, Array.replicate_succ, Array.replicate_zero, List.push_toArray, List.append_toArray, List.nil_append, List.cons_append]
  gi_wp2_with (first
    | (gi_at_call 53; refine (Tryz.maps_Keys_53 _ _).mono ?_; rintro e w' ⟨rfl, rfl⟩)
    | (gi_at_call 52; refine HK.out.mono ?_; rintro e w' ⟨v, ss, rfl, hS, hrow, hnil, hb⟩))
  go_ret
  obtain ⟨h1, h2⟩ := HI.out ss hS
  refine ⟨v, rfl, ?_, ((Below.refl _ w).alloc (Nat.le_refl _) _).trans (hb.mono (by simp))⟩
  unfold OwnStrs
  rw [← h2, ← enc_cells, ← h1]
  exact own_base hrow (by simp)
/-- A cell of an own row is another one. -/
theorem own_set {w : World} {B e n : Nat} {v : Value} {xs : List Value} (h : w.ownsRow B e 1 v n xs) {g : Nat} (hg : v.ownBlock = some g) (j : Nat) (u : Value) : (w.setCell ⟨g, j, none⟩ u).ownsRow B e 1 v n (xs.set j u) := by
  refine ⟨by rw [List.length_set]; exact h.1, ?_⟩
  rcases h.2 with ⟨rfl, _⟩ | ⟨g', cap, cur, rfl, hb, hh, h1, h2, h3, h4⟩
  · cases hg
  · obtain rfl : g' = g := by simpa [Value.ownBlock] using hg
    refine .inr ⟨g', cap, cur.setIfInBounds j u, rfl, hb, dHeap_put hh u, h1, h2, by simpa using h3, ?_⟩
    rw [Array.toList_setIfInBounds, ← h4, List.take_set]
theorem own_cell {w : World} {B e n cap : Nat} {ao : Option Addr} {xs : List Value} (h : w.ownsRow B e 1 (.slice ao n cap) n xs) (j : Nat) (hj : j < n) : ∃ g, ao = some ⟨g, 0, none⟩ ∧ w.cell? ⟨g, j, none⟩ = xs[j]? ∧ w.frozen? ⟨g, j, none⟩ = false := by
  rcases h.2 with ⟨hv, h0⟩ | ⟨g, cap', cur, hv, hb, hh, h1, h2, h3, h4⟩
  · omega
  · injection hv with e1 _ e2
    subst e1 e2
    refine ⟨g, rfl, ?_, Lib.frozen_of_heap hh j⟩
    rw [Lib.cell_of_heap hh j, ← h4, Nat.mul_one, List.getElem?_take, if_pos hj]
    simp

theorem set_self {α : Type} {l : List α} {i : Nat} {x : α} (h : l[i]? = some x) : l.set i x = l := by
  obtain ⟨hi, rfl⟩ := List.getElem?_eq_some_iff.1 h
  exact List.set_getElem_self hi
def listL (d : DDisk) : List (List UInt8) := if d.dead then [] else dNames d.files
theorem dNames_len {l : List DFile} (n : Nat) (h : ∀ f ∈ l, f.name.length ≤ n) : ∀ t ∈ dNames l, t.length ≤ n := by
  intro t ht
  obtain ⟨f, hf, rfl⟩ := List.mem_map.1 ht
  exact h f hf
set_option maxRecDepth 100000 in
set_option maxHeartbeats 1000000 in
theorem dList_any (B b : Nat) (d : DDisk) (w : World) (h0 : DiskAt B b d w) (hl : d.files.length ≤ 1000000000000) (hnl : ∀ f ∈ d.files, f.name.length ≤ 281474976710656) :
    Calls Tryz.prog 42 #[.pointer (some ⟨b, 0, none⟩)] w fun e w' => ∃ v, e = .returned v ∧ OwnStrs w' w.heap.size v (listL d) ∧ Below w.heap.size w w' := by
  obtain ⟨m, left, D, G, V, h⟩ := h0
  have c0 : w.cell? ⟨b, 0, none⟩ = some (.map (some m)) := (Lib.cell_of_heap h.row 0).trans rfl
  have c4 : w.cell? ⟨b, 4, none⟩ = some (.bool d.dead) := (Lib.cell_of_heap h.row 4).trans rfl
  unfold listL
  cases hd : d.dead with
  | true =>
    rw [hd] at c4
    clear h c0
    go_enter Tryz.func42, Tryz.ntmps42
    go_wp2_with fail
    go_ret
    exact ⟨_, rfl, World.ownsRow_nil _ _ _ _, Below.refl _ _⟩
  | false =>
    rw [hd] at c4
    have HN := Lib.hid (dnames_is b m D G d w c0 h.map h.is h.sorted hl)
    have HNL := Lib.hid (dNames_len 281474976710656 hnl)
    obtain ⟨N, hN⟩ : ∃ N, dNames d.files = N := ⟨_, rfl⟩
    have hNl : N.length ≤ 1000000000000 := by rw [← hN]; simpa [dNames] using hl
    rw [hN] at HN HNL
    rw [if_neg (by decide), hN]
    obtain ⟨n, hn⟩ : ∃ n, N.length = n := ⟨_, rfl⟩
    have HNN := Lib.hid hn
    have hni : (n : Int) ≤ 1000000000000 := by omega
    obtain ⟨C, hC⟩ : ∃ C, w.heap.size = C := ⟨_, rfl⟩
    have HC := Lib.hid hC
    rw [hC] at HN ⊢
    clear h c0 hd hN hNl hn hC hl hnl
    go_enter Tryz.func42, Tryz.ntmps42
    go_wp2_with fail
    refine HN.out.mono ?_
    rintro e w1 ⟨v, rfl, ow, b1⟩
    obtain ⟨ao, cap, hv⟩ := own_shape ow
    rw [HNN.out] at hv
    subst hv
    clear HN c4
    go_wp2_with fail
    go_loopw [4, 14] (fun _ x wr => ∃ i : Nat, i ≤ n ∧ x = .int .i64 i ∧ OwnStrs wr C (.slice ao n cap) N ∧ Below C w wr) (fun _ x _ => (n - intOf x).toNat)
    case atStart => exact ⟨0, Nat.zero_le _, rfl, ow, b1⟩
    case round =>
      obtain ⟨i, hi, rfl, o1, b2⟩ := hrel
      clear ow b1
      by_cases hlt : i < n
      · have hlt' : (i : Int) < n := by omega
        have o2 := o1
        unfold OwnStrs at o2
        rw [HNN.out] at o2
        obtain ⟨g, rfl, k1, k2⟩ := own_cell o2 i hlt
        have hget : (strCells N)[i]? = some (.string (stx (N.getD i []))) := by
          rw [strCells, List.getElem?_map, List.getElem?_eq_getElem (by rw [HNN.out]; exact hlt)]
          simp [HNN.out, hlt]
        rw [hget] at k1
        have HL : Hid ((N.getD i []).length ≤ 281474976710656) := Lib.hid (by
          rw [List.getD_eq_getElem?_getD, List.getElem?_eq_getElem (by rw [HNN.out]; exact hlt)]
          exact HNL.out _ (List.getElem_mem _))
        have HG := Lib.hid hget
        have HCL := Lib.hid (sClone_any (stx (N.getD i [])) wr (by rw [stx_size]; exact HL.out))
        generalize stx (N.getD i []) = s at *
        have O2 := Lib.hid o2
        clear hget o1 o2
        go_wp2_with fail
        refine HCL.out.mono ?_
        rintro e w3 ⟨rfl, b3⟩
        have hgb : g < wr.heap.size := cellLt k1
        have d1 := (b3.cell (p := ⟨g, i, none⟩) hgb).trans k1
        have d2 : w3.frozen? ⟨g, i, none⟩ = false := by
          rw [World.frozen?_of_block (b3.block g hgb)]
          exact k2
        have O3 := Lib.hid (O2.out.kept (below_grown b3) (.inr (by simp [Value.ownBlock])))
        have hCw : C ≤ wr.heap.size := by
          have := b2.size
          rw [HC.out] at this
          exact this
        have b4 := below_past b2 b3 hCw
        clear k1 k2 HCL b2 b3
        go_wp2_with fail
        refine ⟨⟨i + 1, hlt, by go_num, ?_, b4.setCell (p := ⟨g, i, none⟩) ?_ _⟩, by simp [intOf]; omega⟩
        · have := own_set O3.out (g := g) rfl i (.string s)
          rw [set_self HG.out] at this
          unfold OwnStrs
          rw [HNN.out]
          exact this
        · exact (World.ownsRow.lt O3.out g rfl).1
      · obtain rfl : i = n := by omega
        go_wp2_with fail
        go_ret
        exact ⟨_, rfl, o1, b2⟩
end Go.Proofs.YtlhdnkfnhdkbkaaGreatDoor
