/- The document's tables, out of the primes. Conditions: none. -/
import Derived.Test.YthmhjojabalddaaDoorRoot4
namespace Go.Proofs.YthmhjojabalddaaDoor
open Go Go.RowKit

def rcell (n : Nat) : Value := .int .u32 (n : Int)
def begL (L : List Nat) (i : Nat) : List Nat := ((L.take i).take 8).map (rootL · 2)
def stepL (L : List Nat) (i : Nat) : List Nat := (L.take i).map (rootL · 3)
theorem take_getD (L : List Nat) (i : Nat) (h : i < L.length) : L.take (i + 1) = L.take i ++ [L.getD i 0] := by
  have e : L.getD i 0 = L[i] := by rw [List.getD_eq_getElem?_getD, List.getElem?_eq_getElem h]; rfl
  rw [e, List.take_succ_eq_append_getElem h]
theorem stepL_succ (L : List Nat) (i : Nat) (h : i < L.length) : (stepL L i).map rcell ++ [.int .u32 (rootL (L.getD i 0) 3 : Int)] = (stepL L (i + 1)).map rcell := by
  rw [stepL, stepL, take_getD L i h, List.map_append, List.map_append]
  rfl
theorem begL_succ (L : List Nat) (i : Nat) (h : i < L.length) (h8 : i < 8) : (begL L i).map rcell ++ [.int .u32 (rootL (L.getD i 0) 2 : Int)] = (begL L (i + 1)).map rcell := by
  have e1 : (L.take i).take 8 = L.take i := List.take_of_length_le (by rw [List.length_take]; omega)
  have e2 : (L.take (i + 1)).take 8 = L.take (i + 1) := List.take_of_length_le (by rw [List.length_take]; omega)
  rw [begL, begL, e1, e2, take_getD L i h, List.map_append, List.map_append]
  rfl
theorem begL_same (L : List Nat) (i : Nat) (h8 : ¬ i < 8) : begL L (i + 1) = begL L i := by
  rw [begL, begL, List.take_take, List.take_take, show min 8 (i + 1) = 8 by omega, show min 8 i = 8 by omega]
theorem begL_len (L : List Nat) (i : Nat) : (begL L i).length ≤ 8 := by
  rw [begL, List.length_map, List.length_take]
  omega
theorem stepL_len (L : List Nat) (i : Nat) : (stepL L i).length ≤ i := by
  rw [stepL, List.length_map, List.length_take]
  omega
theorem OwnF.lower {w : World} {B B' : Nat} {e : TypeId} {v : Value} {xs : List Value} (h : OwnF w B e v xs) (hB : B' ≤ B) : OwnF w B' e v xs := by
  rcases h with h | ⟨g, cap, cur, fr, h1, h2, h3⟩
  · exact .inl h
  · exact .inr ⟨g, cap, cur, fr, h1, by omega, h3⟩
theorem info_u32 : ∃ i : TypeInfo, Tryd.prog.info? 38 = some i ∧ i.zero = some (.int .u32 0) ∧ i.size = 1 ∧ i.bytes = 4 := by
  have h : (Tryd.prog.info? 38).map (fun i => (i.zero, i.size, i.bytes)) = some (some (.int .u32 0), 1, 4) := by kernel_rfl
  exact info_parts h
/-- The two lists. -/
def TabsRet (w : World) (L : List Nat) (e : Ending) (w' : World) : Prop := ∃ h k, e = .returned (.tuple #[h, k]) ∧ OwnF w' w.heap.size 38 h ((begL L 64).map rcell) ∧ OwnF w' w.heap.size 38 k ((stepL L 64).map rcell) ∧ Below w.heap.size w w'
theorem primes_64 : (primesL 310).length = 64 := primesL_310
theorem primes_400 : ∀ p ∈ primesL 310, p < 400 := by decide +kernel
theorem Root2_any (p : Nat) (w : World) (hp : p < 400) : Calls Tryd.prog 45 #[.int .u64 (p : Int), .int .i64 2] w fun e w' => e = .returned (.int .u32 (rootL p 2 : Int)) ∧ Below w.heap.size w w' := Root_any p 2 w hp (by decide) (by decide)
theorem Root3_any (p : Nat) (w : World) (hp : p < 400) : Calls Tryd.prog 45 #[.int .u64 (p : Int), .int .i64 3] w fun e w' => e = .returned (.int .u32 (rootL p 3 : Int)) ∧ Below w.heap.size w w' := Root_any p 3 w hp (by decide) (by decide)
attribute [local irreducible] rootL
set_option maxRecDepth 100000 in
set_option maxHeartbeats 2000000 in
theorem Tables_any (w : World) : Calls Tryd.prog 19 #[] w (TabsRet w (primesL 310)) := by
  obtain ⟨i0, hi, hz0, hz1, hz2⟩ := info_u32
  have HP := Lib.hid (fun w => Primes_any w)
  have HL64 := Lib.hid primes_64
  have HL400 := Lib.hid primes_400
  generalize primesL 310 = L at *
  have b0 : Below w.heap.size w ((w.alloc (.cells #[] 38)).alloc (.cells #[] 38)) := ((Below.refl _ _).alloc (Nat.le_refl _) _).alloc (by simp) _
  have oh0 : OwnF ((w.alloc (.cells #[] 38)).alloc (.cells #[] 38)) w.heap.size 38 (.slice (some ⟨w.heap.size, 0, none⟩) 0 0) ((begL L 0).map rcell) := (ownF_new w w.heap.size _ 38 rfl (Nat.le_refl _)).below ((Below.refl _ _).alloc (Nat.le_refl _) _)
  have ok0 : OwnF ((w.alloc (.cells #[] 38)).alloc (.cells #[] 38)) w.heap.size 38 (.slice (some ⟨w.heap.size + 1, 0, none⟩) 0 0) ((stepL L 0).map rcell) := ownF_new _ w.heap.size _ 38 (by simp) (by simp)
  have ap0 : Hid (Apart (.slice (some ⟨w.heap.size, 0, none⟩) 0 0) (.slice (some ⟨w.heap.size + 1, 0, none⟩) 0 0)) := Lib.hid (by
    intro g e1 e2
    simp only [Value.ownBlock, Option.some.injEq] at e1 e2
    omega)
  have hsz : ((w.alloc (.cells #[] 38)).alloc (.cells #[] 38)).heap.size = w.heap.size + 2 := by simp
  have HSZ := Lib.hid hsz
  clear hsz
  go_enter Tryd.func19, Tryd.ntmps19
  go_wp2_with fail
  refine (HP.out _).mono ?_
  rintro e w1 ⟨vp, rfl, op, b1⟩
  have b2 := below_past b0 b1 b0.size
  have oh1 := oh0.below b1
  have ok1 := ok0.below b1
  have op1 := op.lower (by rw [HSZ.out]; omega : w.heap.size ≤ _)
  have ap1 : Hid (Apart (.slice (some ⟨w.heap.size, 0, none⟩) 0 0) vp) := Lib.hid (by
    intro g e1 e2
    simp only [Value.ownBlock, Option.some.injEq] at e1
    have := (op.lt g e2).1
    rw [HSZ.out] at this
    omega)
  have ap2 : Hid (Apart (.slice (some ⟨w.heap.size + 1, 0, none⟩) 0 0) vp) := Lib.hid (by
    intro g e1 e2
    simp only [Value.ownBlock, Option.some.injEq] at e1
    have := (op.lt g e2).1
    rw [HSZ.out] at this
    omega)
  obtain ⟨g, cap, rfl, hcap, _, _⟩ := op.cell (i := 0) (by rw [List.length_map, HL64.out]; decide)
  rw [List.length_map, HL64.out] at hcap op1 ap1 ap2 ⊢
  clear b0 b1 oh0 ok0 op
  go_wp2_with fail
  generalize Value.slice (some ⟨w.heap.size, 0, none⟩) 0 0 = h0 at *
  generalize Value.slice (some ⟨w.heap.size + 1, 0, none⟩) 0 0 = k0 at *
  go_loopw [2, 3, 10] (fun h k x wr => ∃ i : Nat, i ≤ 64 ∧ x = .int .i64 i ∧ OwnF wr w.heap.size 38 h ((begL L i).map rcell) ∧ OwnF wr w.heap.size 38 k ((stepL L i).map rcell) ∧ OwnF wr w.heap.size 79 (.slice (some ⟨g, 0, none⟩) 64 cap) (L.map ucell) ∧ Hid (Apart h k) ∧ Hid (Apart h (.slice (some ⟨g, 0, none⟩) 64 cap)) ∧ Hid (Apart k (.slice (some ⟨g, 0, none⟩) 64 cap)) ∧ Below w.heap.size w wr) (fun _ _ x _ => (64 - intOf x).toNat)
  case atStart => exact ⟨0, by omega, rfl, oh1, ok1, op1, ap0, ap1, ap2, b2⟩
  case round =>
    obtain ⟨i, hi6, rfl, oh, ok, op, AP0, AP1, AP2, b3⟩ := hrel
    clear oh1 ok1 op1 ap0 ap1 ap2 b2
    by_cases hlt : i < 64
    · have hlt' : (i : Int) < 64 := by omega
      have hiL : i < L.length := by rw [HL64.out]; exact hlt
      obtain ⟨p, hp⟩ : ∃ p, L.getD i 0 = p := ⟨_, rfl⟩
      have hp4 : p < 400 := by
        rw [← hp, List.getD_eq_getElem?_getD, List.getElem?_eq_getElem hiL]
        exact HL400.out _ (List.getElem_mem hiL)
      have hc : wr.cell? ⟨g, i, none⟩ = some (.int .u64 (p : Int)) := by
        obtain ⟨g2, cap2, e, _, _, hcc⟩ := op.cell (i := i) (by rw [List.length_map]; exact hiL)
        injection e with e1 _ _
        injection e1 with e1
        injection e1 with e1
        subst e1
        rw [hcc i (by rw [List.length_map]; exact hiL), List.getElem?_map, ← hp, List.getD_eq_getElem?_getD, List.getElem?_eq_getElem hiL]
        rfl
      have HSS := Lib.hid (stepL_succ L i hiL)
      have HLS : Hid (((stepL L i).map rcell).length = i) := Lib.hid (by rw [List.length_map, stepL, List.length_map, List.length_take, HL64.out]; omega)
      obtain ⟨r3, hr3⟩ : ∃ r, rootL p 3 = r := ⟨_, rfl⟩
      have HR3 := Lib.hid (fun w => Root3_any p w hp4)
      rw [hr3] at HR3
      rw [hp, hr3] at HSS
      clear hr3
      by_cases h8 : i < 8
      · have h8' : (i : Int) < 8 := by omega
        obtain ⟨r, hr⟩ : ∃ r, rootL p 2 = r := ⟨_, rfl⟩
        have HR := Lib.hid (Root2_any p wr hp4)
        have HBS := Lib.hid (begL_succ L i hiL h8)
        have HLB : Hid (((begL L i).map rcell).length = i) := Lib.hid (by rw [List.length_map, begL, List.length_map, List.length_take, List.length_take, HL64.out]; omega)
        rw [hr] at HR
        rw [hp, hr] at HBS
        clear hr
        go_wp2_with fail
        refine HR.out.mono ?_
        rintro e w2 ⟨rfl, b4⟩
        have oh2 := oh.below b4
        have ok2 := ok.below b4
        have op2 := op.below b4
        have b5 := below_past b3 b4 b3.size
        clear oh ok op b3 b4 HR hc
        have hcell : (w2.alloc (.cells #[.int .u32 (r : Int)] 38)).cell? ⟨w2.heap.size, 0, none⟩ = some (.int .u32 (r : Int)) := cell_of_rowAt (rowAt_alloc_at w2 #[.int .u32 (r : Int)] 38 _ rfl) 0
        have st : Below w2.heap.size w2 (w2.alloc (.cells #[.int .u32 (r : Int)] 38)) := (Below.refl _ _).alloc (Nat.le_refl _) _
        have q1 := oh2.below st
        have q2 := ok2.below st
        have q3 := op2.below st
        have q4 := below_past b5 st b5.size
        clear st oh2 ok2 op2 b5
        go_wp2_with (at_builtin; refine wpList_put_one rfl _ _ 35 rfl 38 i0 _ 4 Tryd.underlying35 hi hz0 hz1 hz2 rfl w.heap.size _ _ rfl q1 (.int .u32 (r : Int)) ⟨w2.heap.size, 0, none⟩ 1 rfl hcell rfl q4.size (by rw [HLB.out]; unfold maxLen; omega) (by rw [HLB.out]; omega) ?_)
        clear hcell
        intro v5 w5 o5 hg5 hat5
        have c5 := q1.grown hg5 q4 q4.size
        have ok3 := q2.apart AP0.out hg5
        have op3 := q3.apart AP1.out hg5
        have AP3 := Lib.hid (AP0.out.growF q2 hat5 (by simp))
        have AP4 := Lib.hid (AP1.out.growF q3 hat5 (by simp))
        rw [HBS.out] at o5
        clear q1 q2 q3 q4 hg5 hat5 AP0 AP1 HBS HLB
        go_wp2_with fail
        refine (HR3.out _).mono ?_
        rintro e w6 ⟨rfl, b6⟩
        have oh6 := o5.below b6
        have ok6 := ok3.below b6
        have op6 := op3.below b6
        have b7 := below_past c5 b6 c5.size
        clear o5 ok3 op3 c5 b6 HR3
        have hcell : (w6.alloc (.cells #[.int .u32 (r3 : Int)] 38)).cell? ⟨w6.heap.size, 0, none⟩ = some (.int .u32 (r3 : Int)) := cell_of_rowAt (rowAt_alloc_at w6 #[.int .u32 (r3 : Int)] 38 _ rfl) 0
        have st : Below w6.heap.size w6 (w6.alloc (.cells #[.int .u32 (r3 : Int)] 38)) := (Below.refl _ _).alloc (Nat.le_refl _) _
        have q1 := ok6.below st
        have q2 := oh6.below st
        have q3 := op6.below st
        have q4 := below_past b7 st b7.size
        clear st ok6 oh6 op6 b7
        go_wp2_with (at_builtin; refine wpList_put_one rfl _ _ 35 rfl 38 i0 _ 4 Tryd.underlying35 hi hz0 hz1 hz2 rfl w.heap.size _ _ rfl q1 (.int .u32 (r3 : Int)) ⟨w6.heap.size, 0, none⟩ 1 rfl hcell rfl q4.size (by rw [HLS.out]; unfold maxLen; omega) (by rw [HLS.out]; omega) ?_)
        clear hcell
        intro v7 w7 o7 hg7 hat7
        have c7 := q1.grown hg7 q4 q4.size
        have oh8 := q2.apart AP3.out.symm hg7
        have op8 := q3.apart AP2.out hg7
        have AP5 := Lib.hid (AP3.out.symm.growF q2 hat7 (by simp)).symm
        have AP6 := Lib.hid (AP2.out.growF q3 hat7 (by simp))
        rw [HSS.out] at o7
        clear q1 q2 q3 q4 hg7 hat7 AP3 AP2 HSS HLS
        go_wp2_with fail
        exact ⟨⟨i + 1, hlt, by go_num, oh8, o7, op8, AP5, AP4, AP6, c7⟩, by simp [intOf]; omega⟩
      · have h8' : decide ((i : Int) < 8) = false := decide_eq_false (by omega)
        have h8n : decide (i < 8) = false := decide_eq_false h8
        rw [← begL_same L i h8] at oh
        go_wp2_with fail
        refine (HR3.out _).mono ?_
        rintro e w6 ⟨rfl, b6⟩
        have oh6 := oh.below b6
        have ok6 := ok.below b6
        have op6 := op.below b6
        have b7 := below_past b3 b6 b3.size
        clear oh ok op b3 b6 HR3
        have hcell : (w6.alloc (.cells #[.int .u32 (r3 : Int)] 38)).cell? ⟨w6.heap.size, 0, none⟩ = some (.int .u32 (r3 : Int)) := cell_of_rowAt (rowAt_alloc_at w6 #[.int .u32 (r3 : Int)] 38 _ rfl) 0
        have st : Below w6.heap.size w6 (w6.alloc (.cells #[.int .u32 (r3 : Int)] 38)) := (Below.refl _ _).alloc (Nat.le_refl _) _
        have q1 := ok6.below st
        have q2 := oh6.below st
        have q3 := op6.below st
        have q4 := below_past b7 st b7.size
        clear st ok6 oh6 op6 b7
        go_wp2_with (at_builtin; refine wpList_put_one rfl _ _ 35 rfl 38 i0 _ 4 Tryd.underlying35 hi hz0 hz1 hz2 rfl w.heap.size _ _ rfl q1 (.int .u32 (r3 : Int)) ⟨w6.heap.size, 0, none⟩ 1 rfl hcell rfl q4.size (by rw [HLS.out]; unfold maxLen; omega) (by rw [HLS.out]; omega) ?_)
        clear hcell
        intro v7 w7 o7 hg7 hat7
        have c7 := q1.grown hg7 q4 q4.size
        have oh8 := q2.apart AP0.out.symm hg7
        have op8 := q3.apart AP2.out hg7
        have AP5 := Lib.hid (AP0.out.symm.growF q2 hat7 (by simp)).symm
        have AP6 := Lib.hid (AP2.out.growF q3 hat7 (by simp))
        rw [HSS.out] at o7
        clear q1 q2 q3 q4 hg7 hat7 AP0 AP2 HSS HLS
        go_wp2_with fail
        exact ⟨⟨i + 1, hlt, by go_num, oh8, o7, op8, AP5, AP1, AP6, c7⟩, by simp [intOf]; omega⟩
    · obtain rfl : i = 64 := by omega
      rw [show ((64 : Nat) : Int) = 64 from rfl]
      go_wp2_with fail
      go_ret2
      exact ⟨_, _, rfl, oh, ok, b3⟩
end Go.Proofs.YthmhjojabalddaaDoor
