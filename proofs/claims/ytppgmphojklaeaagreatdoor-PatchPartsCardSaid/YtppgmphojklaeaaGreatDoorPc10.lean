/- Texts that the next ones stand on: NodeB, Patch3, Patch4, ForkMath, Patch5, Patch7, LaysL, SortedL, BinL, Patch8, CoverMath. -/
import Derived.Test.YtppgmphojklaeaaGreatDoorPc9
import Derived.Laws.Build
import Derived.Test.YtppgmphojklaeaaGreatDoorProg
import Derived.Shelf.SlSortCmp.WholeK
namespace Go.Proofs.YtppgmphojklaeaaGreatDoor
open Go Go.RowKit

/-- An operation that enters nothing and has one value, whatever the world (a builtin). -/
theorem tokL_sure {P : Program} {ops : Array Oper} {W : World} {tok : List Nat} {R : Nat → Value → World → Prop} {Qh : Act → World → Prop} {τ : Nat → Value × World} {i : Nat} {rest : List Oper} {a : Act} {o : Oper} (v : Value)
    (hn : i ∉ tok) (hw : Region.wanted o (yielded ops a.tmps) = true) (h : ∀ x : Past W, (execOp a.eval o).run P x.w = .ok (.value v) x.w)
    (hA : wpTokL P ops W tok R Qh τ (i + 1) rest (a.put o.dst v)) : wpTokL P ops W tok R Qh τ i (o :: rest) a := by
  refine .inl ⟨hn, v, .inl ⟨hw, fun w hg => ⟨?_, ?_⟩⟩, hA⟩
  · unfold Oper.quietAt
    have e : (execOp a.eval o).run P w = .ok (.value v) w := h ⟨w, hg.1⟩
    rw [e]
    exact ⟨rfl, rfl⟩
  · intro f args w' he
    rw [h ⟨w, hg.1⟩] at he
    cases he
/-- The item of a leaf, of two items. -/
def leafI (x : Lf) : Itm := ⟨256, cut x.a 256, shaLab (leafB x), x.e⟩
def innerI (x y : Itm) : Itm := ⟨common x.b y.b, cut x.b (common x.b y.b), shaLab (innerB x y), max x.e y.e⟩
theorem strs_at0 (w : World) : StrsAt w (.slice none 0 0) [] := ⟨none, 0, rfl, fun i hi => absurd hi (Nat.not_lt_zero i)⟩

set_option maxRecDepth 100000 in
set_option maxHeartbeats 1000000 in
theorem nEmpty_any (w : World) (ht : Cubes w) : Calls Tryz.prog 51 #[] w fun e w' => e = .returned (.agg (cellsL (shaLab [18]))) ∧ Below w.heap.size w w' := by
  have b0 : Below w.heap.size w (w.alloc (.cells (cellsL zeroLab) 27)) := (Below.refl _ _).alloc (Nat.le_refl _) _
  have r0 : rowAt (w.alloc (.cells (cellsL zeroLab) 27)) w.heap.size = some (cellsL zeroLab) := rowAt_alloc_at _ _ _ _ rfl
  have HJ := Lib.hid (fun w (h : Cubes w) => Joined_any 18 (.slice none 0 0) [] w (strs_at0 w) h (by simp) (by intro t h; cases h))
  rw [show (((18 : UInt8).toNat : Nat) : Int) = 18 from rfl, show joinL 18 [] = [18] from rfl] at HJ
  have T0 := Lib.hid (ht.below b0)
  clear ht
  generalize shaLab [18] = L at *
  go_enter Tryz.func51, Tryz.ntmps51
  go_wp2_with fail
  generalize w.alloc (.cells (cellsL zeroLab) 27) = W at *
  refine (HJ.out _ T0.out).mono ?_
  rintro e w1 ⟨rfl, b1⟩
  have r1 := rowAt_past b1 r0
  have b2 := below_past b0 b1 b0.size
  clear HJ T0 b0 b1 r0
  go_wp2_with fail
  exact row_ret_labS rfl rfl rfl (rowAt_setRow_same r1 _) ⟨rfl, Below.setRow b2 (Nat.le_refl _) _⟩

set_option maxRecDepth 100000 in
set_option maxHeartbeats 1000000 in
theorem nLeafItem_any (x : Lf) (w : World) (ht : Cubes w) : Calls Tryz.prog 67 #[.agg (cellsF x)] w fun e w' => e = .returned (.agg (cellsI (leafI x))) ∧ Below w.heap.size w w' := by
  have b0 : Below w.heap.size w ((w.alloc (.cells (cellsF x) 46)).alloc (.cells (cellsI zeroItm) 55)) := ((Below.refl _ _).alloc (Nat.le_refl _) _).alloc (by simp only [World.size_alloc]; omega) _
  have r0 : rowAt ((w.alloc (.cells (cellsF x) 46)).alloc (.cells (cellsI zeroItm) 55)) w.heap.size = some (cellsF x) := (rowAt_alloc_past _ _ _ (by simp only [World.size_alloc]; omega)).trans (rowAt_alloc_at _ _ _ _ rfl)
  have r1 : rowAt ((w.alloc (.cells (cellsF x) 46)).alloc (.cells (cellsI zeroItm) 55)) (w.heap.size + 1) = some (cellsI zeroItm) := rowAt_alloc_at _ _ _ _ (by simp only [World.size_alloc])
  have T0 := Lib.hid (ht.below b0)
  have HC := Lib.hid (fun w => Cut_any x.a 256 w)
  rw [show (256 : Int).toNat = 256 from rfl, show min (max (256 : Int) 0) 256 = 256 from rfl] at HC
  have HL := Lib.hid (fun w => nleafTexts_any x w)
  have hS := leafT_short x
  have HJ := Lib.hid (fun v w hv (h : Cubes w) => Joined_any 16 v (leafT x) w hv h (by simp [leafT]) hS)
  rw [show (((16 : UInt8).toNat : Nat) : Int) = 16 from rfl] at HJ
  have fa := fun y : Past ((w.alloc (.cells (cellsF x) 46)).alloc (.cells (cellsI zeroItm) 55)) => rowAt_past y.h r0
  have c1 := fun y : Past ((w.alloc (.cells (cellsF x) 46)).alloc (.cells (cellsI zeroItm) 55)) => (cell_of_rowAt (rowAt_past y.h r0) 64).trans (get_F64 x)
  unfold leafI leafB
  generalize shaLab (joinL 16 (leafT x)) = J at *
  generalize hT : leafT x = T at *
  obtain ⟨m, hm⟩ : ∃ m, x.e = m := ⟨_, rfl⟩
  rw [hm] at c1 ⊢
  have HLX : Hid (∀ w : World, ∃ v W', Below w.heap.size w W' ∧ ∃ g, v = .slice (some ⟨g, 0, none⟩) 3 3 ∧ StrsAt W' v T) := Lib.hid fun w => ⟨_, _, (Below.refl _ _).alloc (Nat.le_refl _) _, _, rfl, by rw [← hT]; exact strs_at3 w x.a.l x.v.l (eightL x.e) _ rfl⟩
  clear ht hS hT hm
  go_enter Tryz.func67, Tryz.ntmps67
  go_wp2_with fail
  generalize (w.alloc (.cells (cellsF x) 46)).alloc (.cells (cellsI zeroItm) 55) = W at *
  obtain ⟨R, hR⟩ : ∃ R : Nat → Value → World → Prop, R 4 = (fun v W' => ∃ g, v = .slice (some ⟨g, 0, none⟩) 3 3 ∧ StrsAt W' v T) := ⟨fun _ => _, rfl⟩
  have HS : Hid (∀ i ∈ [4], ∃ v W', Below W.heap.size W W' ∧ R i v W') := Lib.hid (by
    intro i hi
    obtain rfl := List.mem_singleton.1 hi
    rw [hR]
    exact HLX.out W)
  refine wp_region_tok [4] 8 R (by kernel_rfl) (by kernel_rfl) HS.out ?_
  intro τ hτ
  rcases e1 : τ 4 with ⟨v1, W1⟩
  have t1 := hτ 4 (by simp)
  rw [e1, hR] at t1
  dsimp only at t1
  obtain ⟨hb1, g1, rfl, hc1⟩ := t1
  clear HS hτ HLX
  simp only [List.take_succ_cons, List.take_zero]
  iterate 2 (refine tokL_val (by decide) (by kernel_rfl) rfl ?_; intro K hK; go_big_quiet_op; go_big_quiet_on)
  refine tokL_call (by decide) (by kernel_rfl) (by kernel_rfl) ?_
  apply Exists.intro
  refine And.intro ?_ ?_
  focus
    intro x hg
    unfold Oper.quietAt
    go_simp
    (exact call_yields (HC.out _))
  simp only [Act.put, List.setIfInBounds_toArray, List.set_cons_succ, List.set_cons_zero]
  iterate 1 (refine tokL_val (by decide) (by kernel_rfl) rfl ?_; intro K hK; go_big_quiet_op; go_big_quiet_on)
  refine tokL_tok e1 (by decide) (by kernel_rfl) ?_ ?_
  focus
    intro x hg
    unfold wildAt
    go_simp
    (exact (HL.out _).mono (fun e w' ⟨g, he, hs, hb⟩ => ⟨_, he, hb, ⟨g, rfl⟩, hs⟩))
  simp only [Act.put, List.setIfInBounds_toArray, List.set_cons_succ, List.set_cons_zero]
  refine tokL_call (by decide) (by kernel_rfl) (by kernel_rfl) ?_
  apply Exists.intro
  refine And.intro ?_ ?_
  focus
    intro x hg
    unfold Oper.quietAt
    go_simp
    (exact call_yields (HJ.out _ _ (hc1.below (by have := hg.2 4 (by simp) (by kernel_rfl); rw [e1] at this; exact this)) (T0.out.below x.h)))
  simp only [Act.put, List.setIfInBounds_toArray, List.set_cons_succ, List.set_cons_zero]
  iterate 2 (refine tokL_val (by decide) (by kernel_rfl) rfl ?_; intro K hK; go_big_quiet_op; go_big_quiet_on)
  refine tokL_nil ?_
  simp only [List.drop_succ_cons, List.drop_zero]
  intro z hz
  have b3 := below_past b0 hz.1 b0.size
  have r3 := rowAt_past hz.1 r1
  clear hz hc1 hb1 b0 r0 r1 fa c1 T0 HC HL HJ e1 hR
  go_wp2_with fail
  exact row_ret_item rfl rfl rfl (rowAt_setRow_same r3 _) ⟨rfl, Below.setRow b3 (Nat.le_succ _) _⟩

set_option maxRecDepth 100000 in
set_option maxHeartbeats 2000000 in
theorem nInnerItem_any (x y : Itm) (w : World) (ht : Cubes w) : Calls Tryz.prog 85 #[.agg (cellsN x y)] w fun e w' => e = .returned (.agg (cellsI (innerI x y))) ∧ Below w.heap.size w w' := by
  have hle := common_le x.b y.b
  have b0 : Below w.heap.size w ((w.alloc (.cells (cellsN x y) 57)).alloc (.cells (cellsI zeroItm) 55)) := ((Below.refl _ _).alloc (Nat.le_refl _) _).alloc (by simp only [World.size_alloc]; omega) _
  have r0 : rowAt ((w.alloc (.cells (cellsN x y) 57)).alloc (.cells (cellsI zeroItm) 55)) w.heap.size = some (cellsN x y) := (rowAt_alloc_past _ _ _ (by simp only [World.size_alloc]; omega)).trans (rowAt_alloc_at _ _ _ _ rfl)
  have r1 : rowAt ((w.alloc (.cells (cellsN x y) 57)).alloc (.cells (cellsI zeroItm) 55)) (w.heap.size + 1) = some (cellsI zeroItm) := rowAt_alloc_at _ _ _ _ (by simp only [World.size_alloc])
  have T0 := Lib.hid (ht.below b0)
  have HCO := Lib.hid (fun w => Common_any x.b y.b w)
  have HC := Lib.hid (fun w => Cut_any x.b (common x.b y.b) w)
  rw [Int.toNat_natCast, show min (max ((common x.b y.b : Nat) : Int) 0) 256 = (common x.b y.b : Nat) by omega] at HC
  have HL := Lib.hid (fun w => ninnerTexts_any x y w)
  have hS := innerT_short x y
  have HJ := Lib.hid (fun v w hv (h : Cubes w) => Joined_any 17 v (innerT x y) w hv h (by simp [innerT]) hS)
  rw [show (((17 : UInt8).toNat : Nat) : Int) = 17 from rfl] at HJ
  have g65 := get_N65 x y
  have g131 := get_N131 x y
  unfold innerI innerB
  have HLX : Hid (∀ w : World, ∃ v W', Below w.heap.size w W' ∧ ∃ g, v = .slice (some ⟨g, 0, none⟩) 2 2 ∧ StrsAt W' v (innerT x y)) := Lib.hid fun w => ⟨_, _, (Below.refl _ _).alloc (Nat.le_refl _) _, _, rfl, strs_at2 w (itemT x) (itemT y) _ rfl⟩
  generalize shaLab (joinL 17 (innerT x y)) = J at *
  generalize innerT x y = T at *
  generalize cut x.b (common x.b y.b) = CU at *
  generalize common x.b y.b = cn at *
  obtain ⟨m, hm⟩ : ∃ m, x.e = m := ⟨_, rfl⟩
  obtain ⟨k, hk⟩ : ∃ k, y.e = k := ⟨_, rfl⟩
  rw [hm] at g65 ⊢
  rw [hk] at g131 ⊢
  clear ht hS hm hk hle
  go_enter Tryz.func85, Tryz.ntmps85
  go_wp2_with fail
  generalize (w.alloc (.cells (cellsN x y) 57)).alloc (.cells (cellsI zeroItm) 55) = W at *
  have hl0 := lt_of_rowAt r0
  have hl1 := lt_of_rowAt r1
  have ra := rowAt_past ((Below.refl W.heap.size W).alloc (Nat.le_refl _) (.cells (cellsL zeroLab) 27)) r0
  have rb := rowAt_past (((Below.refl W.heap.size W).alloc (Nat.le_refl _) (.cells (cellsL zeroLab) 27)).alloc (by simp) (.cells (cellsL zeroLab) 27)) r0
  go_region
  · go_wp2_with fail
    have bW : Below W.heap.size W (((W.alloc (.cells (cellsL x.b) 27)).alloc (.cells (cellsL y.b) 27)).drew) := (((Below.refl W.heap.size W).alloc (Nat.le_refl _) _).alloc (by simp) _).drew
    have q1 : rowAt (((W.alloc (.cells (cellsL x.b) 27)).alloc (.cells (cellsL y.b) 27)).drew) W.heap.size = some (cellsL x.b) := by rw [rowAt_drew, rowAt_alloc_past _ _ _ (by simp), rowAt_alloc_at _ _ _ _ rfl]
    have q2 : rowAt (((W.alloc (.cells (cellsL x.b) 27)).alloc (.cells (cellsL y.b) 27)).drew) (W.heap.size + 1) = some (cellsL y.b) := by rw [rowAt_drew]; exact rowAt_alloc_at _ _ _ _ (by simp)
    have r2 := rowAt_past bW r0
    have r3 := rowAt_past bW r1
    have T1 := Lib.hid (T0.out.below bW)
    have b1 := below_past b0 bW b0.size
    clear bW r0 r1 ra rb hl0 hl1 T0 b0
    generalize ((W.alloc (.cells (cellsL x.b) 27)).alloc (.cells (cellsL y.b) 27)).drew = W2 at *
    have fa := fun z : Past W2 => rowAt_past z.h q1
    have fb := fun z : Past W2 => rowAt_past z.h q2
    have fc := fun z : Past W2 => rowAt_past z.h r2
    have c1 := fun z : Past W2 => (cell_of_rowAt (rowAt_past z.h r2) 65).trans g65
    have c2 := fun z : Past W2 => (cell_of_rowAt (rowAt_past z.h r2) 131).trans g131
    obtain ⟨R, hR⟩ : ∃ R : Nat → Value → World → Prop, R 6 = (fun v W' => ∃ g, v = .slice (some ⟨g, 0, none⟩) 2 2 ∧ StrsAt W' v T) := ⟨fun _ => _, rfl⟩
    have HS : Hid (∀ i ∈ [6], ∃ v W', Below W2.heap.size W2 W' ∧ R i v W') := Lib.hid (by
      intro i hi
      obtain rfl := List.mem_singleton.1 hi
      rw [hR]
      exact HLX.out W2)
    refine wp_region_tok [6] 15 R (by kernel_rfl) (by kernel_rfl) HS.out ?_
    intro τ hτ
    rcases e1 : τ 6 with ⟨v1, W1⟩
    have t1 := hτ 6 (by simp)
    rw [e1, hR] at t1
    dsimp only at t1
    obtain ⟨hb1, g1, rfl, hc1⟩ := t1
    clear HS hτ HLX
    simp only [List.take_succ_cons, List.take_zero]
    iterate 3 (refine tokL_val (by decide) (by kernel_rfl) rfl ?_; intro K hK; go_big_quiet_op; go_big_quiet_on)
    refine tokL_call (by decide) (by kernel_rfl) (by kernel_rfl) ?_
    apply Exists.intro
    refine And.intro ?_ ?_
    focus
      intro x hg
      unfold Oper.quietAt
      go_simp
      (exact call_yields (HCO.out _))
    simp only [Act.put, List.setIfInBounds_toArray, List.set_cons_succ, List.set_cons_zero]
    refine tokL_call (by decide) (by kernel_rfl) (by kernel_rfl) ?_
    apply Exists.intro
    refine And.intro ?_ ?_
    focus
      intro x hg
      unfold Oper.quietAt
      go_simp
      (exact call_yields (HC.out _))
    simp only [Act.put, List.setIfInBounds_toArray, List.set_cons_succ, List.set_cons_zero]
    iterate 1 (refine tokL_val (by decide) (by kernel_rfl) rfl ?_; intro K hK; go_big_quiet_op; go_big_quiet_on)
    refine tokL_tok e1 (by decide) (by kernel_rfl) ?_ ?_
    focus
      intro x hg
      unfold wildAt
      go_simp
      (exact (HL.out _).mono (fun e w' ⟨g, he, hs, hb⟩ => ⟨_, he, hb, ⟨g, rfl⟩, hs⟩))
    simp only [Act.put, List.setIfInBounds_toArray, List.set_cons_succ, List.set_cons_zero]
    refine tokL_call (by decide) (by kernel_rfl) (by kernel_rfl) ?_
    apply Exists.intro
    refine And.intro ?_ ?_
    focus
      intro x hg
      unfold Oper.quietAt
      go_simp
      (exact call_yields (HJ.out _ _ (hc1.below (by have := hg.2 6 (by simp) (by kernel_rfl); rw [e1] at this; exact this)) (T1.out.below x.h)))
    simp only [Act.put, List.setIfInBounds_toArray, List.set_cons_succ, List.set_cons_zero]
    iterate 6 (refine tokL_val (by decide) (by kernel_rfl) rfl ?_; intro K hK; go_big_quiet_op; go_big_quiet_on)
    refine tokL_sure (.int .i64 (max m k)) (by decide) (by kernel_rfl) (fun x => by go_simp) ?_
    simp only [Act.put, List.setIfInBounds_toArray, List.set_cons_succ, List.set_cons_zero]
    refine tokL_nil ?_
    simp only [List.drop_succ_cons, List.drop_zero]
    intro z hz
    have b3 := below_past b1 hz.1 b1.size
    have r4 := rowAt_past hz.1 r3
    clear hz hc1 hb1 b1 q1 q2 r2 r3 fa fb fc c1 c2 T1 HC HCO HL HJ e1 hR
    go_wp2_with fail
    exact row_ret_item rfl rfl rfl (rowAt_setRow_same r4 _) ⟨rfl, Below.setRow b3 (Nat.le_succ _) _⟩
  · go_wp2_with fail
    have bW : Below W.heap.size W (((W.alloc (.cells (cellsL y.b) 27)).alloc (.cells (cellsL x.b) 27)).drew) := (((Below.refl W.heap.size W).alloc (Nat.le_refl _) _).alloc (by simp) _).drew
    have q1 : rowAt (((W.alloc (.cells (cellsL y.b) 27)).alloc (.cells (cellsL x.b) 27)).drew) W.heap.size = some (cellsL y.b) := by rw [rowAt_drew, rowAt_alloc_past _ _ _ (by simp), rowAt_alloc_at _ _ _ _ rfl]
    have q2 : rowAt (((W.alloc (.cells (cellsL y.b) 27)).alloc (.cells (cellsL x.b) 27)).drew) (W.heap.size + 1) = some (cellsL x.b) := by rw [rowAt_drew]; exact rowAt_alloc_at _ _ _ _ (by simp)
    have r2 := rowAt_past bW r0
    have r3 := rowAt_past bW r1
    have T1 := Lib.hid (T0.out.below bW)
    have b1 := below_past b0 bW b0.size
    clear bW r0 r1 ra rb hl0 hl1 T0 b0
    generalize ((W.alloc (.cells (cellsL y.b) 27)).alloc (.cells (cellsL x.b) 27)).drew = W2 at *
    have fa := fun z : Past W2 => rowAt_past z.h q1
    have fb := fun z : Past W2 => rowAt_past z.h q2
    have fc := fun z : Past W2 => rowAt_past z.h r2
    have c1 := fun z : Past W2 => (cell_of_rowAt (rowAt_past z.h r2) 65).trans g65
    have c2 := fun z : Past W2 => (cell_of_rowAt (rowAt_past z.h r2) 131).trans g131
    obtain ⟨R, hR⟩ : ∃ R : Nat → Value → World → Prop, R 6 = (fun v W' => ∃ g, v = .slice (some ⟨g, 0, none⟩) 2 2 ∧ StrsAt W' v T) := ⟨fun _ => _, rfl⟩
    have HS : Hid (∀ i ∈ [6], ∃ v W', Below W2.heap.size W2 W' ∧ R i v W') := Lib.hid (by
      intro i hi
      obtain rfl := List.mem_singleton.1 hi
      rw [hR]
      exact HLX.out W2)
    refine wp_region_tok [6] 15 R (by kernel_rfl) (by kernel_rfl) HS.out ?_
    intro τ hτ
    rcases e1 : τ 6 with ⟨v1, W1⟩
    have t1 := hτ 6 (by simp)
    rw [e1, hR] at t1
    dsimp only at t1
    obtain ⟨hb1, g1, rfl, hc1⟩ := t1
    clear HS hτ HLX
    simp only [List.take_succ_cons, List.take_zero]
    iterate 3 (refine tokL_val (by decide) (by kernel_rfl) rfl ?_; intro K hK; go_big_quiet_op; go_big_quiet_on)
    refine tokL_call (by decide) (by kernel_rfl) (by kernel_rfl) ?_
    apply Exists.intro
    refine And.intro ?_ ?_
    focus
      intro x hg
      unfold Oper.quietAt
      go_simp
      (exact call_yields (HCO.out _))
    simp only [Act.put, List.setIfInBounds_toArray, List.set_cons_succ, List.set_cons_zero]
    refine tokL_call (by decide) (by kernel_rfl) (by kernel_rfl) ?_
    apply Exists.intro
    refine And.intro ?_ ?_
    focus
      intro x hg
      unfold Oper.quietAt
      go_simp
      (exact call_yields (HC.out _))
    simp only [Act.put, List.setIfInBounds_toArray, List.set_cons_succ, List.set_cons_zero]
    iterate 1 (refine tokL_val (by decide) (by kernel_rfl) rfl ?_; intro K hK; go_big_quiet_op; go_big_quiet_on)
    refine tokL_tok e1 (by decide) (by kernel_rfl) ?_ ?_
    focus
      intro x hg
      unfold wildAt
      go_simp
      (exact (HL.out _).mono (fun e w' ⟨g, he, hs, hb⟩ => ⟨_, he, hb, ⟨g, rfl⟩, hs⟩))
    simp only [Act.put, List.setIfInBounds_toArray, List.set_cons_succ, List.set_cons_zero]
    refine tokL_call (by decide) (by kernel_rfl) (by kernel_rfl) ?_
    apply Exists.intro
    refine And.intro ?_ ?_
    focus
      intro x hg
      unfold Oper.quietAt
      go_simp
      (exact call_yields (HJ.out _ _ (hc1.below (by have := hg.2 6 (by simp) (by kernel_rfl); rw [e1] at this; exact this)) (T1.out.below x.h)))
    simp only [Act.put, List.setIfInBounds_toArray, List.set_cons_succ, List.set_cons_zero]
    iterate 6 (refine tokL_val (by decide) (by kernel_rfl) rfl ?_; intro K hK; go_big_quiet_op; go_big_quiet_on)
    refine tokL_sure (.int .i64 (max m k)) (by decide) (by kernel_rfl) (fun x => by go_simp) ?_
    simp only [Act.put, List.setIfInBounds_toArray, List.set_cons_succ, List.set_cons_zero]
    refine tokL_nil ?_
    simp only [List.drop_succ_cons, List.drop_zero]
    intro z hz
    have b3 := below_past b1 hz.1 b1.size
    have r4 := rowAt_past hz.1 r3
    clear hz hc1 hb1 b1 q1 q2 r2 r3 fa fb fc c1 c2 T1 HC HCO HL HJ e1 hR
    go_wp2_with fail
    exact row_ret_item rfl rfl rfl (rowAt_setRow_same r4 _) ⟨rfl, Below.setRow b3 (Nat.le_succ _) _⟩
end Go.Proofs.YtppgmphojklaeaaGreatDoor
namespace Go.Proofs.YtppgmphojklaeaaGreatDoor
open Go Go.RowKit

@[go_sem] theorem mk_leaf (x : Value) (w : World) : (Instr.makeInterface 46 x).run Tryz.prog w = .ok (.iface 46 x) w := run_makeInterface w 46 x (by kernel_rfl)
@[go_sem] theorem mk_inner (x : Value) (w : World) : (Instr.makeInterface 57 x).run Tryz.prog w = .ok (.iface 57 x) w := run_makeInterface w 57 x (by kernel_rfl)
@[go_sem] theorem as_leaf (v : Value) (xT : TypeId) (w : World) : (Instr.typeAssert (.iface 46 v) xT 46 true).run Tryz.prog w = .ok (.tuple #[v, .bool true]) w := by
  simp [Instr.typeAssert, run_underlying Tryz.underlying46]
@[go_sem] theorem as_inner (v : Value) (xT : TypeId) (w : World) : (Instr.typeAssert (.iface 57 v) xT 57 true).run Tryz.prog w = .ok (.tuple #[v, .bool true]) w := by
  simp [Instr.typeAssert, run_underlying Tryz.underlying57]
@[go_sem] theorem as_leaf_inner (v : Value) (xT : TypeId) (w : World) : (Instr.typeAssert (.iface 57 v) xT 46 true).run Tryz.prog w = .ok (.tuple #[.agg (cellsF zeroLf), .bool false]) w := by
  simp [Instr.typeAssert, run_underlying Tryz.underlying46, zeroOf_leaf, zero_leaf]
@[go_sem] theorem as_inner_leaf (v : Value) (xT : TypeId) (w : World) : (Instr.typeAssert (.iface 46 v) xT 57 true).run Tryz.prog w = .ok (.tuple #[.agg (cellsN zeroItm zeroItm), .bool false]) w := by
  simp [Instr.typeAssert, run_underlying Tryz.underlying57, zeroOf_inner, zero_inner]
@[go_sem] theorem as_leaf_nil (xT : TypeId) (w : World) : (Instr.typeAssert .nilIface xT 46 true).run Tryz.prog w = .ok (.tuple #[.agg (cellsF zeroLf), .bool false]) w := by
  simp [Instr.typeAssert, run_underlying Tryz.underlying46, zeroOf_leaf, zero_leaf]
@[go_sem] theorem as_inner_nil (xT : TypeId) (w : World) : (Instr.typeAssert .nilIface xT 57 true).run Tryz.prog w = .ok (.tuple #[.agg (cellsN zeroItm zeroItm), .bool false]) w := by
  simp [Instr.typeAssert, run_underlying Tryz.underlying57, zeroOf_inner, zero_inner]

/-- May it be an epoch? -/
def epB (n : Int) : Bool := decide (0 ≤ n) && decide (n ≤ 1073741824)
def goodI (x : Itm) : Bool := good x.n x.b && epB x.e
/-- The error of two items. -/
def chkI (x y : Itm) : Int := if (goodI x && goodI y) = true then (if x.n ≤ common x.b y.b ∨ y.n ≤ common x.b y.b ∨ order x.b y.b ≠ -1 then 3 else 0) else 1
def chkF (x : Lf) : Int := if epB x.e = true then 0 else 1

set_option maxRecDepth 100000 in
theorem nisEpoch_any (n : Int) (w : World) : Calls Tryz.prog 120 #[.int .i64 n] w fun e w' => e = .returned (.bool (epB n)) ∧ w' = w := by
  unfold epB
  by_cases h0 : 0 ≤ n
  · have h0' : decide (0 ≤ n) = true := decide_eq_true h0
    by_cases h1 : n ≤ 1073741824
    · have h1' : decide (n ≤ 1073741824) = true := decide_eq_true h1
      go_enter Tryz.func120, Tryz.ntmps120
      go_wp2_with fail
      go_ret
      exact ⟨by first | rfl | (rw [h0', h1']; rfl), rfl⟩
    · have h1' : decide (n ≤ 1073741824) = false := decide_eq_false h1
      go_enter Tryz.func120, Tryz.ntmps120
      go_wp2_with fail
      go_ret
      exact ⟨by first | rfl | (rw [h0', h1']; rfl), rfl⟩
  · have h0' : decide (0 ≤ n) = false := decide_eq_false h0
    go_enter Tryz.func120, Tryz.ntmps120
    go_wp2_with fail
    go_ret
    exact ⟨by first | rfl | (rw [h0']; rfl), rfl⟩

set_option maxRecDepth 100000 in
theorem nGood_any (x : Itm) (w : World) : Calls Tryz.prog 54 #[.agg (cellsI x)] w fun e w' => e = .returned (.bool (goodI x)) ∧ Below w.heap.size w w' := by
  have b0 : Below w.heap.size w (w.alloc (.cells (cellsI x) 55)) := (Below.refl _ _).alloc (Nat.le_refl _) _
  have r0 : rowAt (w.alloc (.cells (cellsI x) 55)) w.heap.size = some (cellsI x) := rowAt_alloc_at _ _ _ _ rfl
  have HG := Lib.hid (fun w => Good_any x.n x.b w)
  have HE := Lib.hid (fun w => nisEpoch_any x.e w)
  have g65 := get_I65 x
  unfold goodI
  generalize good x.n x.b = g at *
  generalize epB x.e = p at *
  obtain ⟨m, hm⟩ : ∃ m, x.e = m := ⟨_, rfl⟩
  rw [hm] at g65 HE
  clear hm
  go_enter Tryz.func54, Tryz.ntmps54
  go_wp2_with fail
  generalize w.alloc (.cells (cellsI x) 55) = W at *
  refine (HG.out _).mono ?_
  rintro e w1 ⟨rfl, b1⟩
  have c1 := (cell_of_rowAt (rowAt_past b1 r0) 65).trans g65
  have b2 := below_past b0 b1 b0.size
  clear b0 b1 HG r0 g65
  cases g
  · go_wp2_with fail
    go_ret
    exact ⟨rfl, b2⟩
  · go_wp2_with fail
    refine (HE.out _).mono ?_
    rintro e w2 ⟨rfl, rfl⟩
    go_wp2_with fail
    go_ret
    exact ⟨rfl, b2⟩

set_option maxRecDepth 100000 in
theorem r15Good_any (x : Itm) (w : World) : Calls Tryz.prog 48 #[.agg (cellsI x)] w fun e w' => e = .returned (.bool (goodI x)) ∧ Below w.heap.size w w' := by
  have b0 : Below w.heap.size w (w.alloc (.cells (cellsI x) 66)) := (Below.refl _ _).alloc (Nat.le_refl _) _
  have r0 : rowAt (w.alloc (.cells (cellsI x) 66)) w.heap.size = some (cellsI x) := rowAt_alloc_at _ _ _ _ rfl
  have HG := Lib.hid (fun w => rGood_any x.n x.b w)
  have g0 := get_I0 x
  have g65 := get_I65 x
  unfold goodI epB
  obtain ⟨n, hn⟩ : ∃ n, x.n = n := ⟨_, rfl⟩
  obtain ⟨m, hm⟩ : ∃ m, x.e = m := ⟨_, rfl⟩
  rw [hn] at g0 HG ⊢
  rw [hm] at g65 ⊢
  have c0 := (cell_of_rowAt r0 0).trans g0
  generalize good n x.b = g at *
  clear hm hn
  go_enter Tryz.func48, Tryz.ntmps48
  go_wp2_with fail
  generalize w.alloc (.cells (cellsI x) 66) = W at *
  refine (HG.out _).mono ?_
  rintro e w1 ⟨rfl, b1⟩
  have c1 := (cell_of_rowAt (rowAt_past b1 r0) 65).trans g65
  have b2 := below_past b0 b1 b0.size
  clear b0 b1 HG r0 g65 g0 c0
  cases g
  · go_wp2_with fail
    go_ret
    exact ⟨rfl, b2⟩
  · by_cases h0 : 0 ≤ m
    · have h0' : decide (0 ≤ m) = true := decide_eq_true h0
      by_cases h1 : m ≤ 1073741824
      · have h1' : decide (m ≤ 1073741824) = true := decide_eq_true h1
        go_wp2_with fail
        go_ret
        exact ⟨by first | rfl | (rw [h0', h1']; rfl), b2⟩
      · have h1' : decide (m ≤ 1073741824) = false := decide_eq_false h1
        go_wp2_with fail
        go_ret
        exact ⟨by first | rfl | (rw [h0', h1']; rfl), b2⟩
    · have h0' : decide (0 ≤ m) = false := decide_eq_false h0
      go_wp2_with fail
      go_ret
      exact ⟨by first | rfl | (rw [h0']; rfl), b2⟩

set_option maxRecDepth 100000 in
theorem nleafFault_any (x : Lf) (w : World) : Calls Tryz.prog 178 #[.agg (cellsF x)] w fun e w' => e = .returned (.int .i64 (chkF x)) ∧ Below w.heap.size w w' := by
  have b0 : Below w.heap.size w (w.alloc (.cells (cellsF x) 46)) := (Below.refl _ _).alloc (Nat.le_refl _) _
  have r0 : rowAt (w.alloc (.cells (cellsF x) 46)) w.heap.size = some (cellsF x) := rowAt_alloc_at _ _ _ _ rfl
  have HE := Lib.hid (fun w => nisEpoch_any x.e w)
  have c1 := (cell_of_rowAt r0 64).trans (get_F64 x)
  unfold chkF
  generalize epB x.e = p at *
  obtain ⟨m, hm⟩ : ∃ m, x.e = m := ⟨_, rfl⟩
  rw [hm] at c1 HE
  clear hm
  go_enter Tryz.func178, Tryz.ntmps178
  go_wp2_with fail
  refine (HE.out _).mono ?_
  rintro e w1 ⟨rfl, rfl⟩
  cases p
  · go_wp2_with fail
    go_ret
    exact ⟨rfl, b0⟩
  · go_wp2_with fail
    go_ret
    exact ⟨rfl, b0⟩
end Go.Proofs.YtppgmphojklaeaaGreatDoor
namespace Go.Proofs.YtppgmphojklaeaaGreatDoor
open Go Go.RowKit

theorem common_sym (a b : Lab) : common a b = common b a := by
  refine common_of ?_
  have h := common_is b a
  exact ⟨h.le, fun i hi => (h.same i hi).symm, fun hlt => fun e => h.other hlt e.symm⟩
theorem order_one (a b : Lab) (h : common a b < 256) : order a b = 1 ∨ order a b = -1 := by
  unfold order
  rw [if_neg (by omega)]
  have := bit_lt a (common a b)
  omega
/-- The errors of two items, step by step. -/
theorem chkI_steps (x y : Itm) : chkI x y = if goodI x = false then 1 else if goodI y = false then 1 else if over x.n x.b y.n y.b = true then 3 else if over y.n y.b x.n x.b = true then 3 else if decide (0 < order x.b y.b) = true then 3 else 0 := by
  unfold chkI
  cases hx : goodI x
  · simp
  cases hy : goodI y
  · simp
  simp only [Bool.and_self, if_true, Bool.true_eq_false, if_false]
  have gx : good x.n x.b = true := by unfold goodI at hx; revert hx; cases good x.n x.b <;> simp
  have gy : good y.n y.b = true := by unfold goodI at hy; revert hy; cases good y.n y.b <;> simp
  obtain ⟨n, hn, hn2, _⟩ := good_nat gx
  obtain ⟨m, hm, hm2, _⟩ := good_nat gy
  have hs := common_sym y.b x.b
  unfold over has
  rw [gx, gy, hn, hm, hs]
  simp only [Bool.true_and]
  have ho := order_one x.b y.b
  generalize common x.b y.b = c at *
  generalize order x.b y.b = o at *
  by_cases h1 : (n : Int) ≤ c
  · rw [if_pos (.inl h1)]
    by_cases h2 : (n : Int) ≤ m
    · simp [h1, h2]
    · have h3 : (m : Int) ≤ n := by omega
      have h4 : (m : Int) ≤ c := by omega
      simp [h2, h3, h4]
  · by_cases h4 : (m : Int) ≤ c
    · rw [if_pos (.inr (.inl h4))]
      have h3 : (m : Int) ≤ n := by omega
      simp [h1, h3, h4]
    · have hc : c < 256 := by omega
      rcases ho hc with rfl | rfl
      · simp [h1, h4]
      · simp [h1, h4]

set_option maxRecDepth 100000 in
set_option maxHeartbeats 2000000 in
theorem r15Check_any (x y : Itm) (w : World) : Calls Tryz.prog 88 #[.agg (cellsI x), .agg (cellsI y)] w fun e w' => e = .returned (.int .i64 (chkI x y)) ∧ Below w.heap.size w w' := by
  have b0 : Below w.heap.size w ((w.alloc (.cells (cellsI x) 66)).alloc (.cells (cellsI y) 66)) := ((Below.refl _ _).alloc (Nat.le_refl _) _).alloc (by simp only [World.size_alloc]; omega) _
  have r0 : rowAt ((w.alloc (.cells (cellsI x) 66)).alloc (.cells (cellsI y) 66)) w.heap.size = some (cellsI x) := (rowAt_alloc_past _ _ _ (by simp only [World.size_alloc]; omega)).trans (rowAt_alloc_at _ _ _ _ rfl)
  have r1 : rowAt ((w.alloc (.cells (cellsI x) 66)).alloc (.cells (cellsI y) 66)) (w.heap.size + 1) = some (cellsI y) := rowAt_alloc_at _ _ _ _ (by simp only [World.size_alloc])
  have HG1 := Lib.hid (fun w => r15Good_any x w)
  have HG2 := Lib.hid (fun w => r15Good_any y w)
  have HCO := Lib.hid (fun w => rCommon_any x.b y.b w)
  have HOR := Lib.hid (fun w => rOrder_any x.b y.b w)
  have gx := get_I0 x
  have gy := get_I0 y
  unfold chkI
  obtain ⟨n, hn⟩ : ∃ n, x.n = n := ⟨_, rfl⟩
  obtain ⟨m, hm⟩ : ∃ m, y.n = m := ⟨_, rfl⟩
  rw [hn] at gx ⊢
  rw [hm] at gy ⊢
  clear hn hm
  generalize goodI x = g1 at *
  generalize goodI y = g2 at *
  generalize common x.b y.b = c at *
  generalize order x.b y.b = o at *
  obtain ⟨E, hE⟩ : ∃ E : Int, (if (g1 && g2) = true then (if n ≤ (c : Int) ∨ m ≤ (c : Int) ∨ o ≠ -1 then 3 else 0) else 1) = E := ⟨_, rfl⟩
  rw [hE]
  have HE := Lib.hid hE
  clear hE
  go_enter Tryz.func88, Tryz.ntmps88
  go_wp2_with fail
  generalize (w.alloc (.cells (cellsI x) 66)).alloc (.cells (cellsI y) 66) = W at *
  refine (HG1.out _).mono ?_
  rintro e w1 ⟨rfl, b1⟩
  have r2 := rowAt_past b1 r0
  have r3 := rowAt_past b1 r1
  have b2 := below_past b0 b1 b0.size
  clear b0 b1 HG1 r0 r1
  cases g1
  · obtain rfl : E = 1 := by rw [← HE.out]; rfl
    go_wp2_with fail
    go_ret
    exact ⟨rfl, b2⟩
  go_wp2_with fail
  refine (HG2.out _).mono ?_
  rintro e w2 ⟨rfl, b1⟩
  have r0 := rowAt_past b1 r2
  have r1 := rowAt_past b1 r3
  have b3 := below_past b2 b1 b2.size
  clear b2 b1 HG2 r2 r3
  cases g2
  · obtain rfl : E = 1 := by rw [← HE.out]; rfl
    go_wp2_with fail
    go_ret
    exact ⟨rfl, b3⟩
  go_wp2_with fail
  refine (HCO.out _).mono ?_
  rintro e w3 ⟨rfl, b1⟩
  have r2 := rowAt_past b1 r0
  have r3 := rowAt_past b1 r1
  have c0 := (cell_of_rowAt r2 0).trans gx
  have c1 := (cell_of_rowAt r3 0).trans gy
  have b2 := below_past b3 b1 b3.size
  clear b3 b1 HCO r0 r1
  by_cases h1 : n ≤ (c : Int)
  · have h1' : decide (n ≤ (c : Int)) = true := decide_eq_true h1
    obtain rfl : E = 3 := by rw [← HE.out]; simp [h1]
    go_wp2_with fail
    go_ret
    exact ⟨rfl, b2⟩
  · have h1' : decide (n ≤ (c : Int)) = false := decide_eq_false h1
    by_cases h2 : m ≤ (c : Int)
    · have h2' : decide (m ≤ (c : Int)) = true := decide_eq_true h2
      obtain rfl : E = 3 := by rw [← HE.out]; simp [h2]
      go_wp2_with fail
      go_ret
      exact ⟨rfl, b2⟩
    · have h2' : decide (m ≤ (c : Int)) = false := decide_eq_false h2
      go_wp2_with fail
      refine (HOR.out _).mono ?_
      rintro e w4 ⟨rfl, b1⟩
      have b3 := below_past b2 b1 b2.size
      clear HOR b2 b1 c0 c1 r2 r3
      by_cases h3 : o = -1
      · obtain rfl : E = 0 := by rw [← HE.out]; simp [h1, h2, h3]
        subst h3
        go_wp2_with fail
        go_ret
        exact ⟨rfl, b3⟩
      · have h3' : (o != -1) = true := by rw [bne_iff_ne]; exact h3
        obtain rfl : E = 3 := by rw [← HE.out]; simp [h3]
        go_wp2_with fail
        go_ret
        exact ⟨rfl, b3⟩
end Go.Proofs.YtppgmphojklaeaaGreatDoor
namespace Go.Proofs.YtppgmphojklaeaaGreatDoor
open Go Go.RowKit

set_option maxRecDepth 100000 in
set_option maxHeartbeats 2000000 in
theorem ninnerFault_any (x y : Itm) (w : World) : Calls Tryz.prog 179 #[.agg (cellsN x y)] w fun e w' => e = .returned (.int .i64 (chkI x y)) ∧ Below w.heap.size w w' := by
  have b0 : Below w.heap.size w (w.alloc (.cells (cellsN x y) 57)) := (Below.refl _ _).alloc (Nat.le_refl _) _
  have r0 : rowAt (w.alloc (.cells (cellsN x y) 57)) w.heap.size = some (cellsN x y) := rowAt_alloc_at _ _ _ _ rfl
  have HG1 := Lib.hid (fun w => nGood_any x w)
  have HG2 := Lib.hid (fun w => nGood_any y w)
  have HO1 := Lib.hid (fun w => Over_any x.n x.b y.n y.b w)
  have HO2 := Lib.hid (fun w => Over_any y.n y.b x.n x.b w)
  have HOR := Lib.hid (fun w => Order_any x.b y.b w)
  rw [chkI_steps]
  generalize goodI x = g1 at *
  generalize goodI y = g2 at *
  generalize over x.n x.b y.n y.b = o1 at *
  generalize over y.n y.b x.n x.b = o2 at *
  generalize order x.b y.b = o at *
  obtain ⟨E, hE⟩ : ∃ E : Int, (if g1 = false then 1 else if g2 = false then 1 else if o1 = true then 3 else if o2 = true then 3 else if decide (0 < o) = true then 3 else 0) = E := ⟨_, rfl⟩
  rw [hE]
  have HE := Lib.hid hE
  clear hE
  go_enter Tryz.func179, Tryz.ntmps179
  go_wp2_with fail
  generalize w.alloc (.cells (cellsN x y) 57) = W at *
  refine (HG1.out _).mono ?_
  rintro e w1 ⟨rfl, b1⟩
  have r2 := rowAt_past b1 r0
  have b2 := below_past b0 b1 b0.size
  clear b0 b1 HG1 r0
  cases g1
  · obtain rfl : E = 1 := by rw [← HE.out]; rfl
    go_wp2_with fail
    go_ret
    exact ⟨rfl, b2⟩
  go_wp2_with fail
  refine (HG2.out _).mono ?_
  rintro e W ⟨rfl, b1⟩
  have r0 := rowAt_past b1 r2
  have b3 := below_past b2 b1 b2.size
  clear b2 b1 HG2 r2
  cases g2
  · obtain rfl : E = 1 := by rw [← HE.out]; rfl
    go_wp2_with fail
    go_ret
    exact ⟨rfl, b3⟩
  go_wp2_with fail
  have hl0 := lt_of_rowAt r0
  have ra := rowAt_past ((Below.refl W.heap.size W).alloc (Nat.le_refl _) (.cells (cellsP 0 zeroLab) 53)) r0
  have rb := rowAt_past (((Below.refl W.heap.size W).alloc (Nat.le_refl _) (.cells (cellsP 0 zeroLab) 53)).alloc (by simp) (.cells (cellsP 0 zeroLab) 53)) r0
  go_region
  · have bW : Below W.heap.size W (((W.alloc (.cells (cellsP x.n x.b) 53)).alloc (.cells (cellsP y.n y.b) 53)).drew) := (((Below.refl W.heap.size W).alloc (Nat.le_refl _) _).alloc (by simp) _).drew
    have q1 : rowAt (((W.alloc (.cells (cellsP x.n x.b) 53)).alloc (.cells (cellsP y.n y.b) 53)).drew) W.heap.size = some (cellsP x.n x.b) := by rw [rowAt_drew, rowAt_alloc_past _ _ _ (by simp), rowAt_alloc_at _ _ _ _ rfl]
    have q2 : rowAt (((W.alloc (.cells (cellsP x.n x.b) 53)).alloc (.cells (cellsP y.n y.b) 53)).drew) (W.heap.size + 1) = some (cellsP y.n y.b) := by rw [rowAt_drew]; exact rowAt_alloc_at _ _ _ _ (by simp)
    have b4 := below_past b3 bW b3.size
    clear bW b3 r0 ra rb hl0
    generalize ((W.alloc (.cells (cellsP x.n x.b) 53)).alloc (.cells (cellsP y.n y.b) 53)).drew = W2 at *
    generalize W.heap.size = N at *
    go_wp2_with fail
    refine (HO1.out _).mono ?_
    rintro e w3 ⟨rfl, b1⟩
    have q3 := rowAt_past b1 q1
    have q4 := rowAt_past b1 q2
    have b5 := below_past b4 b1 b4.size
    clear q1 q2 b1 b4 HO1
    cases o1
    · go_wp2_with fail
      refine (HO2.out _).mono ?_
      rintro e w4 ⟨rfl, b1⟩
      have q1 := rowAt_past b1 q3
      have q2 := rowAt_past b1 q4
      have b4 := below_past b5 b1 b5.size
      clear q3 q4 b1 b5 HO2
      cases o2
      · go_wp2_with fail
        refine (HOR.out _).mono ?_
        rintro e w5 ⟨rfl, b1⟩
        have b5 := below_past b4 b1 b4.size
        clear q1 q2 b1 b4 HOR
        by_cases h3 : 0 < o
        · have h3' : decide (0 < o) = true := decide_eq_true h3
          obtain rfl : E = 3 := by rw [← HE.out]; simp [h3]
          go_wp2_with fail
          go_ret
          exact ⟨rfl, b5⟩
        · have h3' : decide (0 < o) = false := decide_eq_false h3
          obtain rfl : E = 0 := by rw [← HE.out]; simp [h3]
          go_wp2_with fail
          go_ret
          exact ⟨rfl, b5⟩
      · obtain rfl : E = 3 := by rw [← HE.out]; rfl
        go_wp2_with fail
        go_ret
        exact ⟨rfl, b4⟩
    · obtain rfl : E = 3 := by rw [← HE.out]; rfl
      go_wp2_with fail
      go_ret
      exact ⟨rfl, b5⟩
  · have bW : Below W.heap.size W (((W.alloc (.cells (cellsP y.n y.b) 53)).alloc (.cells (cellsP x.n x.b) 53)).drew) := (((Below.refl W.heap.size W).alloc (Nat.le_refl _) _).alloc (by simp) _).drew
    have q1 : rowAt (((W.alloc (.cells (cellsP y.n y.b) 53)).alloc (.cells (cellsP x.n x.b) 53)).drew) W.heap.size = some (cellsP y.n y.b) := by rw [rowAt_drew, rowAt_alloc_past _ _ _ (by simp), rowAt_alloc_at _ _ _ _ rfl]
    have q2 : rowAt (((W.alloc (.cells (cellsP y.n y.b) 53)).alloc (.cells (cellsP x.n x.b) 53)).drew) (W.heap.size + 1) = some (cellsP x.n x.b) := by rw [rowAt_drew]; exact rowAt_alloc_at _ _ _ _ (by simp)
    have b4 := below_past b3 bW b3.size
    clear bW b3 r0 ra rb hl0
    generalize ((W.alloc (.cells (cellsP y.n y.b) 53)).alloc (.cells (cellsP x.n x.b) 53)).drew = W2 at *
    generalize W.heap.size = N at *
    go_wp2_with fail
    refine (HO1.out _).mono ?_
    rintro e w3 ⟨rfl, b1⟩
    have q3 := rowAt_past b1 q1
    have q4 := rowAt_past b1 q2
    have b5 := below_past b4 b1 b4.size
    clear q1 q2 b1 b4 HO1
    cases o1
    · go_wp2_with fail
      refine (HO2.out _).mono ?_
      rintro e w4 ⟨rfl, b1⟩
      have q1 := rowAt_past b1 q3
      have q2 := rowAt_past b1 q4
      have b4 := below_past b5 b1 b5.size
      clear q3 q4 b1 b5 HO2
      cases o2
      · go_wp2_with fail
        refine (HOR.out _).mono ?_
        rintro e w5 ⟨rfl, b1⟩
        have b5 := below_past b4 b1 b4.size
        clear q1 q2 b1 b4 HOR
        by_cases h3 : 0 < o
        · have h3' : decide (0 < o) = true := decide_eq_true h3
          obtain rfl : E = 3 := by rw [← HE.out]; simp [h3]
          go_wp2_with fail
          go_ret
          exact ⟨rfl, b5⟩
        · have h3' : decide (0 < o) = false := decide_eq_false h3
          obtain rfl : E = 0 := by rw [← HE.out]; simp [h3]
          go_wp2_with fail
          go_ret
          exact ⟨rfl, b5⟩
      · obtain rfl : E = 3 := by rw [← HE.out]; rfl
        go_wp2_with fail
        go_ret
        exact ⟨rfl, b4⟩
    · obtain rfl : E = 3 := by rw [← HE.out]; rfl
      go_wp2_with fail
      go_ret
      exact ⟨rfl, b5⟩

/-- What a node is. -/
inductive Nd where
  | leaf (x : Lf)
  | inner (x y : Itm)
  | none
def Nd.val : Nd → Value
  | .leaf x => .iface 46 (.agg (cellsF x))
  | .inner x y => .iface 57 (.agg (cellsN x y))
  | .none => .nilIface
def chkN : Nd → Int
  | .leaf x => chkF x
  | .inner x y => chkI x y
  | .none => 3

set_option maxRecDepth 100000 in
set_option maxHeartbeats 2000000 in
theorem nfault_any (d : Nd) (w : World) : Calls Tryz.prog 121 #[d.val] w fun e w' => e = .returned (.int .i64 (chkN d)) ∧ Below w.heap.size w w' := by
  cases d with
  | leaf x =>
    have HF := Lib.hid (fun w => nleafFault_any x w)
    have b0 : Below w.heap.size w (w.alloc (.cells (cellsF x) 46)) := (Below.refl _ _).alloc (Nat.le_refl _) _
    have r0 : rowAt (w.alloc (.cells (cellsF x) 46)) w.heap.size = some (cellsF x) := rowAt_alloc_at _ _ _ _ rfl
    show Calls Tryz.prog 121 #[.iface 46 (.agg (cellsF x))] w fun e w' => e = .returned (.int .i64 (chkF x)) ∧ Below w.heap.size w w'
    generalize chkF x = E at *
    go_enter Tryz.func121, Tryz.ntmps121
    go_wp2_with fail
    generalize w.alloc (.cells (cellsF x) 46) = W at *
    refine (HF.out _).mono ?_
    rintro e w1 ⟨rfl, b1⟩
    have b2 := below_past b0 b1 b0.size
    clear b0 b1 HF r0
    go_wp2_with fail
    go_ret
    exact ⟨rfl, b2⟩
  | inner x y =>
    have HF := Lib.hid (fun w => ninnerFault_any x y w)
    have b0 : Below w.heap.size w (w.alloc (.cells (cellsN x y) 57)) := (Below.refl _ _).alloc (Nat.le_refl _) _
    have r0 : rowAt (w.alloc (.cells (cellsN x y) 57)) w.heap.size = some (cellsN x y) := rowAt_alloc_at _ _ _ _ rfl
    show Calls Tryz.prog 121 #[.iface 57 (.agg (cellsN x y))] w fun e w' => e = .returned (.int .i64 (chkI x y)) ∧ Below w.heap.size w w'
    generalize chkI x y = E at *
    go_enter Tryz.func121, Tryz.ntmps121
    go_wp2_with fail
    generalize w.alloc (.cells (cellsN x y) 57) = W at *
    refine (HF.out _).mono ?_
    rintro e w1 ⟨rfl, b1⟩
    have b2 := below_past b0 b1 b0.size
    clear b0 b1 HF r0
    go_wp2_with fail
    go_ret
    exact ⟨rfl, b2⟩
  | none =>
    show Calls Tryz.prog 121 #[.nilIface] w fun e w' => e = .returned (.int .i64 3) ∧ Below w.heap.size w w'
    go_enter Tryz.func121, Tryz.ntmps121
    go_wp2_with fail
    go_ret
    exact ⟨rfl, Below.refl _ _⟩
set_option maxRecDepth 100000 in
theorem ndCheck_any (d : Nd) (w : World) : Calls Tryz.prog 55 #[d.val] w fun e w' => e = .returned (.int .i64 (chkN d)) ∧ Below w.heap.size w w' := by
  have HF := Lib.hid (fun w => nfault_any d w)
  generalize d.val = v at *
  generalize chkN d = E at *
  go_enter Tryz.func55, Tryz.ntmps55
  go_wp2_with fail
  refine (HF.out _).mono ?_
  rintro e w1 ⟨rfl, b1⟩
  go_wp2_with fail
  go_ret
  exact ⟨rfl, b1⟩
end Go.Proofs.YtppgmphojklaeaaGreatDoor
namespace Go.Proofs.YtppgmphojklaeaaGreatDoor
open Go Go.RowKit Go.Sort Go.Lib

/-- The first error of neighbours. -/
def chkR : List Itm → Int
  | x :: y :: r => if chkI x y = 0 then chkR (y :: r) else chkI x y
  | _ => 0
def chkL (L : List Itm) : Int := if 2000 < L.length then 2 else match L with
  | [] => 0
  | x :: r => if goodI x = false then 1 else chkR (x :: r)
theorem chkL_cons (x : Itm) (r : List Itm) (h : ¬ 2000 < (x :: r).length) : chkL (x :: r) = if goodI x = false then 1 else chkR (x :: r) := by
  unfold chkL
  rw [if_neg h]
theorem chkR_step (L : List Itm) (i : Nat) (h : i + 1 < L.length) : chkR (L.drop i) = if chkI (L.getD i zeroItm) (L.getD (i + 1) zeroItm) = 0 then chkR (L.drop (i + 1)) else chkI (L.getD i zeroItm) (L.getD (i + 1) zeroItm) := by
  have e1 : L.drop i = L.getD i zeroItm :: L.drop (i + 1) := by
    rw [List.drop_eq_getElem_cons (by omega), List.getD_eq_getElem?_getD, List.getElem?_eq_getElem (by omega)]
    rfl
  have e2 : L.drop (i + 1) = L.getD (i + 1) zeroItm :: L.drop (i + 2) := by
    rw [List.drop_eq_getElem_cons (by omega), List.getD_eq_getElem?_getD, List.getElem?_eq_getElem (by omega)]
    rfl
  rw [e1, e2, chkR, ← e2]
theorem chkR_last (L : List Itm) (i : Nat) (h : L.length ≤ i + 1) : chkR (L.drop i) = 0 := by
  have : (L.drop i).length ≤ 1 := by rw [List.length_drop]; omega
  match hq : L.drop i, this with
  | [], _ => rfl
  | [x], _ => rfl
  | x :: y :: r, h => simp at h

set_option maxRecDepth 100000 in
set_option maxHeartbeats 2000000 in
theorem paCheck_any (v : Value) (L : List Itm) (hL : L.length ≤ 1000000) (w : World) (hA : AtI w.heap.size w v L) :
    Calls Tryz.prog 15 #[v] w fun e w' => e = .returned (.int .i64 (chkL L)) ∧ Below w.heap.size w w' := by
  obtain ⟨ao, cap, rfl, hA2⟩ := hA
  obtain ⟨B, hB⟩ : ∃ B, w.heap.size = B := ⟨_, rfl⟩
  obtain ⟨m, hm⟩ : ∃ m, L.length = m := ⟨_, rfl⟩
  have HM : Hid (L.length = m) := hm
  have HB : Hid (w.heap.size = B) := hB
  have hm1 : (m : Int) ≤ 1000000 := by omega
  have HA := Lib.hid hA2
  have b0 : Below B w w := Below.refl _ _
  rw [hm, hB] at HA
  rw [hm, hB]
  clear hA2 hm hL hB
  by_cases hbig : 2000 < m
  · have hb2 : (2000 : Int) < m := by omega
    have hv : chkL L = 2 := by
      unfold chkL
      rw [if_pos (by rw [HM.out]; exact hbig)]
    rw [hv]
    go_enter Tryz.func15, Tryz.ntmps15
    go_wp2
    go_ret
    exact ⟨rfl, b0⟩
  · have hb2 : ¬ (2000 : Int) < m := by omega
    by_cases h0 : m = 0
    · have hm0 : ¬ (0 : Int) < m := by omega
      have hm2 : ¬ (1 : Int) < m := by omega
      have hv : chkL L = 0 := by
        have : L = [] := List.eq_nil_of_length_eq_zero (HM.out.trans h0)
        rw [this]
        rfl
      rw [hv]
      go_enter Tryz.func15, Tryz.ntmps15
      go_wp2
      go_loopw [3] (fun s3 wr => s3 = .int .i64 1 ∧ wr = w) (fun _ _ => 0)
      case atStart => exact ⟨rfl, rfl⟩
      case round =>
        obtain ⟨rfl, rfl⟩ := hrel
        go_wp2
        go_ret
        exact ⟨rfl, b0⟩
    · have hm0 : (0 : Int) < m := by omega
      obtain ⟨g, o, cur, rfl, hg, hr0, hsz, hex⟩ := HA.out 0 (by omega)
      rw [Nat.zero_mul, Nat.add_zero] at hex
      have hsz1 : o + 66 ≤ cur.size := by omega
      obtain ⟨x, hx⟩ : ∃ x, L.getD 0 zeroItm = x := ⟨_, rfl⟩
      rw [hx] at hex
      have HG := Lib.hid (nGood_any x w)
      have hcons : L = x :: L.drop 1 := by
        cases L with
        | nil => exact absurd HM.out.symm h0
        | cons a r => rw [← hx]; rfl
      have hch : chkL L = if goodI x = false then 1 else chkR L := by
        have := chkL_cons x (L.drop 1) (by rw [← hcons, HM.out]; exact hbig)
        rw [← hcons] at this
        exact this
      rw [hch]
      have HR : Hid (chkR L = chkR (L.drop 0)) := rfl
      clear hcons hch
      cases hgood : goodI x with
      | false =>
        rw [hgood] at HG
        rw [if_pos rfl]
        go_enter Tryz.func15, Tryz.ntmps15
        go_wp2_with fail
        refine HG.out.mono ?_
        rintro e w2 ⟨rfl, b2⟩
        have b3 : Below B w w2 := by rw [HB.out] at b2; exact b2
        clear HG hr0 hex hsz hsz1 b2
        go_wp2
        go_ret
        exact ⟨rfl, b3⟩
      | true =>
        rw [hgood] at HG
        rw [if_neg (by decide)]
        go_enter Tryz.func15, Tryz.ntmps15
        go_wp2_with fail
        refine HG.out.mono ?_
        rintro e w2 ⟨rfl, b2⟩
        have b3 : Below B w w2 := by rw [HB.out] at b2; exact b2
        clear HG hr0 hex hsz hsz1 b2 b0 hg
        go_wp2
        go_loopw [3] (fun s3 wr => ∃ j : Nat, s3 = .int .i64 j ∧ 1 ≤ j ∧ j ≤ m ∧ Hid (chkR L = chkR (L.drop (j - 1))) ∧ Below B w wr) (fun s3 _ => (m - intOf s3).toNat)
        case atStart => exact ⟨1, rfl, Nat.le_refl _, by omega, HR, b3⟩
        case round =>
          clear b3 HR
          obtain ⟨j, rfl, hj1, hj, HR, B1⟩ := hrel
          by_cases hlt : j < m
          · have hlt' : (j : Int) < m := by omega
            obtain ⟨i, hi⟩ : ∃ i, i + 1 = j := ⟨j - 1, by omega⟩
            have wi : IntKind.i64.wrap ((j : Int) - 1) = (i : Int) := by rw [IntKind.wrap_i64]; omega
            have him : i < m := by omega
            obtain ⟨g1, o1, c1, e1, hg1, hr1, hs1, hx1⟩ := HA.out i him
            cases e1
            obtain ⟨g2, o2, c2, e2, hg2, hr2, hs2, hx2⟩ := HA.out j hlt
            cases e2
            obtain rfl : c1 = c2 := Option.some.inj (hr1.symm.trans hr2)
            have q1 : rowOr (rowAt wr g) (rowF wr g) = some c1 := (rowG_below B1 hg1).trans hr1
            have p1 := fun x : Past wr => Past.rowG q1 x
            have hs3 : o + i * 66 + 66 ≤ c1.size := by omega
            have hs4 : o + j * 66 + 66 ≤ c1.size := by omega
            obtain ⟨X, hX⟩ : ∃ X, L.getD i zeroItm = X := ⟨_, rfl⟩
            obtain ⟨Y, hY⟩ : ∃ Y, L.getD j zeroItm = Y := ⟨_, rfl⟩
            rw [hX] at hx1
            rw [hY] at hx2
            have HC : Hid (∀ w, Calls Tryz.prog 55 #[.iface 57 (.agg (cellsN X Y))] w fun e w' => e = .returned (.int .i64 (chkI X Y)) ∧ Below w.heap.size w w') := fun w => ndCheck_any (.inner X Y) w
            have HE : Hid (chkR L = if chkI X Y = 0 then chkR (L.drop j) else chkI X Y) := by
              show _ = _
              rw [HR.out, show j - 1 = i by omega, chkR_step L i (by rw [HM.out]; omega), hi, hX, hY]
            have hBw : B ≤ wr.heap.size := by have := B1.size; have := HB.out; omega
            clear hr1 hr2 hs1 hs2 hg1 hg2 HR q1 hX hY hi
            generalize chkI X Y = E at HC HE
            go_wp2_with fail
            refine wp_region_past (by kernel_rfl) (by kernel_rfl) ?_
            repeat (go_big_quiet_step (first | (go_at_call 55; exact Past.call (HC.out _))))
            refine wpQuiet_nil ?_
            intro w2 hw2
            obtain ⟨⟨wn, hn⟩, rfl⟩ := hw2
            try dsimp only
            have B2 := B1.trans (hn.mono hBw)
            clear hn p1 hs3 hs4 hx1 hx2 HC B1 hBw
            by_cases hE : E = 0
            · subst hE
              have HR2 : Hid (chkR L = chkR (L.drop j)) := HE.out
              clear HE
              go_wp2
              go_roundw
              case rel => exact ⟨j + 1, by go_num, by omega, by omega, HR2, B2⟩
              case measure => simp [intOf]; omega
            · have qe : (E != 0) = true := by rw [bne_iff_ne]; exact hE
              have HR2 : Hid (chkR L = E) := by
                show _ = _
                rw [HE.out, if_neg hE]
              clear HE
              go_wp2
              go_ret
              rw [HR2.out]
              exact ⟨rfl, B2⟩
          · have hlt' : ¬ (j : Int) < m := by omega
            have h0 : chkR L = 0 := by rw [HR.out]; exact chkR_last L (j - 1) (by rw [HM.out]; omega)
            rw [h0]
            go_wp2
            go_ret
            exact ⟨rfl, B1⟩
end Go.Proofs.YtppgmphojklaeaaGreatDoor
namespace Go.Proofs.YtppgmphojklaeaaGreatDoor
open Go Go.RowKit Go.Sort Go.Lib

theorem ext_ext (c : Array Value) (s i j n : Nat) (hj : j ≤ n) : (c.extract s (s + n)).extract i j = c.extract (s + i) (s + j) := by
  rw [Array.extract_extract]
  congr 1
  omega
theorem ext_b {c : Array Value} {s : Nat} {x : Itm} (hx : c.extract s (s + 66) = cellsI x) : c.extract (s + 1) (s + 1 + 32) = cellsL x.b := by
  rw [show s + 1 + 32 = s + 33 by omega, ← ext_ext c s 1 33 66 (by decide), hx, extract_I1]
def commonL (L : List Itm) : Nat := common (L.getD 0 zeroItm).b (L.getD (L.length - 1) zeroItm).b

set_option maxRecDepth 100000 in
set_option maxHeartbeats 2000000 in
theorem paCommon_any (v : Value) (L : List Itm) (h0 : 0 < L.length) (hL : L.length ≤ 1000000) (w : World) (hA : AtI w.heap.size w v L) :
    Calls Tryz.prog 139 #[v] w fun e w' => e = .returned (.int .i64 (commonL L)) ∧ Below w.heap.size w w' := by
  obtain ⟨ao, cap, rfl, hA2⟩ := hA
  obtain ⟨m, hm⟩ : ∃ m, L.length = m := ⟨_, rfl⟩
  rw [hm] at h0 hL hA2 ⊢
  obtain ⟨k, hk⟩ : ∃ k, k + 1 = m := ⟨m - 1, by omega⟩
  have hm1 : (m : Int) ≤ 1000000 := by omega
  have hm0 : (0 : Int) < m := by omega
  have wk : IntKind.i64.wrap ((m : Int) - 1) = (k : Int) := by rw [IntKind.wrap_i64]; omega
  have hkm : k < m := by omega
  obtain ⟨g, o, c, rfl, hg, hr, hs, hx⟩ := hA2 0 h0
  obtain ⟨g2, o2, c2, e2, hg2, hr2, hs2, hx2⟩ := hA2 k hkm
  cases e2
  obtain rfl : c = c2 := Option.some.inj (hr.symm.trans hr2)
  rw [Nat.zero_mul, Nat.add_zero] at hx
  have f1 := ext_b hx
  have f2 := ext_b hx2
  have s1 : o + 1 + 32 ≤ c.size := by omega
  have s2 : o + k * 66 + 1 + 32 ≤ c.size := by omega
  have p1 := fun x : Past w => Past.rowG hr x
  have hv : commonL L = common (L.getD 0 zeroItm).b (L.getD k zeroItm).b := by rw [commonL, hm, ← hk, Nat.add_sub_cancel]
  rw [hv]
  generalize L.getD 0 zeroItm = X at f1 ⊢
  generalize L.getD k zeroItm = Y at f2 ⊢
  have HC := Lib.hid (fun w => Common_any X.b Y.b w)
  generalize common X.b Y.b = n at HC ⊢
  have b0 : Below w.heap.size w w := Below.refl _ _
  clear hA2 hx hx2 hs hs2 hr2 hg2 hv hm hk
  go_enter Tryz.func139, Tryz.ntmps139
  go_wp2_with fail
  refine wp_region_past (by kernel_rfl) (by kernel_rfl) ?_
  repeat (go_big_quiet_step (first | (go_at_call 71; exact Past.call (HC.out _))))
  refine wpQuiet_nil ?_
  intro w2 hw2
  obtain ⟨⟨wn, hn⟩, rfl⟩ := hw2
  try dsimp only
  have B2 := b0.trans hn
  go_wp2
  go_ret
  exact ⟨rfl, B2⟩
/-- Is the bit behind what all have in common set? -/
def forkP (L : List Itm) (n : Int) (i : Nat) : Bool := bitI (L.getD i zeroItm).b n == 1
set_option maxRecDepth 100000 in
set_option maxHeartbeats 2000000 in
theorem paFork1_any (b1 b2 : Nat) (ao : Option Addr) (cap : Nat) (n : Int) (L : List Itm) (n0 : Nat) (w : World) (hA : AtI n0 w (.slice ao L.length cap) L) (i : Nat) (hi : i < L.length)
    (h1 : w.cell? ⟨b1, 0, none⟩ = some (.slice ao L.length cap)) (h2 : w.cell? ⟨b2, 0, none⟩ = some (.int .i64 n)) :
    Calls Tryz.prog 141 #[.int .i64 i, .pointer (some ⟨b1, 0, none⟩), .pointer (some ⟨b2, 0, none⟩)] w fun e w' => e = .returned (.bool (forkP L n i)) ∧ Below w.heap.size w w' := by
  obtain ⟨ao', cap', e0, hA2⟩ := hA
  injection e0 with e1 e2 e3
  subst e1
  obtain ⟨g, o, c, rfl, hg, hr, hs, hx⟩ := hA2 i hi
  have f1 := ext_b hx
  have s1 : o + i * 66 + 1 + 32 ≤ c.size := by omega
  have p1 := fun x : Past w => Past.rowG hr x
  have k1 := fun x : Past w => (Past.cell (cellLt h1) x).trans h1
  have k2 := fun x : Past w => (Past.cell (cellLt h2) x).trans h2
  obtain ⟨m, hm⟩ : ∃ m, L.length = m := ⟨_, rfl⟩
  rw [hm] at h1 hi k1
  have hi' : (i : Int) < m := by omega
  unfold forkP
  generalize L.getD i zeroItm = X at f1 ⊢
  have HC := Lib.hid (fun w => Bit_any X.b n w)
  generalize bitI X.b n = z at HC ⊢
  have b0 : Below w.heap.size w w := Below.refl _ _
  clear hA2 hx hs hg hm e2 e3 h1 h2 hr
  go_enter Tryz.func141, Tryz.ntmps141
  go_wp2_with fail
  refine wp_region_past (by kernel_rfl) (by kernel_rfl) ?_
  repeat (go_big_quiet_step (first | (go_at_call 86; exact Past.call (HC.out _))))
  refine wpQuiet_nil ?_
  intro w2 hw2
  obtain ⟨⟨wn, hn⟩, rfl⟩ := hw2
  try dsimp only
  have B2 := b0.trans hn
  go_wp2
  go_ret
  exact ⟨rfl, B2⟩
set_option maxRecDepth 100000 in
set_option maxHeartbeats 2000000 in
theorem paSearch_any (n : Nat) (p : Nat → Bool) (A B : Value) (w : World) (hn : n ≤ 1000000)
    (hf : ∀ W, Below w.heap.size w W → ∀ i, i < n → Calls Tryz.prog 141 #[.int .i64 i, A, B] W fun e w' => e = .returned (.bool (p i)) ∧ Below W.heap.size W w')
    (hm : ∀ a b, a ≤ b → b < n → p a = true → p b = true) :
    Calls Tryz.prog 140 #[.int .i64 n, .func (.func 141) #[] #[A, B]] w fun e w' => (∃ c : Nat, e = .returned (.int .i64 c) ∧ c ≤ n ∧ (∀ t, t < c → p t = false) ∧ (∀ t, c ≤ t → t < n → p t = true)) ∧ Below w.heap.size w w' := by
  have HF := Lib.hid hf
  have HM := Lib.hid hm
  have hn1 : (n : Int) ≤ 1000000 := by omega
  clear hf hm
  go_enter Tryz.func140, Tryz.ntmps140
  go_wp2_with fail
  go_loopw [5, 6] (fun x y wr => ∃ i j : Nat, x = .int .i64 i ∧ y = .int .i64 j ∧ i ≤ j ∧ j ≤ n ∧ Hid ((∀ t, t < i → p t = false) ∧ (∀ t, j ≤ t → t < n → p t = true)) ∧ Below w.heap.size w wr) (fun x y _ => (intOf y - intOf x).toNat)
  case atStart => exact ⟨0, n, rfl, rfl, Nat.zero_le _, Nat.le_refl _, Lib.hid ⟨fun t h => absurd h (Nat.not_lt_zero _), fun t h1 h2 => by omega⟩, Below.refl _ _⟩
  case round =>
    obtain ⟨i, j, rfl, rfl, hij, hj, HI, b1⟩ := hrel
    by_cases hlt : i < j
    · have h1 : (i : Int) < j := by omega
      have h2 : (i : Int) + j ≤ 2000000 := by omega
      have h0 : (0 : Int) ≤ (i : Int) + j := by omega
      obtain ⟨m, hm⟩ : ∃ m, (i + j) / 2 = m := ⟨_, rfl⟩
      have hm1 : ((i : Int) + j) / 2 = m := by omega
      have hmi : i ≤ m := by omega
      have hmj : m < j := by omega
      have hm2 : (m : Int) ≤ 1000000 := by omega
      have HFM := Lib.hid (HF.out wr b1 m (by omega))
      clear hm
      go_wp2_with fail
      refine HFM.out.mono ?_
      rintro e w1 ⟨rfl, b2⟩
      have b3 := below_past b1 b2 b1.size
      clear HFM b1 b2
      cases hp : p m with
      | false =>
        have HI2 : Hid ((∀ t, t < m + 1 → p t = false) ∧ (∀ t, j ≤ t → t < n → p t = true)) := Lib.hid ⟨(fun t ht => by
          cases h : p t with
          | false => rfl
          | true =>
            have := HM.out t m (by omega) (by omega) h
            rw [hp] at this
            cases this), HI.out.2⟩
        clear hp
        go_wp2_with fail
        exact ⟨⟨m + 1, j, by go_num, rfl, by omega, hj, HI2, b3⟩, by simp [intOf]; omega⟩
      | true =>
        have HI2 : Hid ((∀ t, t < i → p t = false) ∧ (∀ t, m ≤ t → t < n → p t = true)) := Lib.hid ⟨HI.out.1, fun t h1 h2 => HM.out m t h1 h2 hp⟩
        clear hp
        go_wp2_with fail
        exact ⟨⟨i, m, rfl, rfl, hmi, by omega, HI2, b3⟩, by simp [intOf]; omega⟩
    · obtain rfl : i = j := by omega
      go_wp2_with fail
      go_ret
      exact ⟨⟨i, rfl, hj, HI.out.1, HI.out.2⟩, b1⟩
/-- Where a list of items parts. -/
def ForkAt (L : List Itm) (c : Nat) : Prop := c ≤ L.length ∧ (∀ t, t < c → forkP L (commonL L) t = false) ∧ (∀ t, c ≤ t → t < L.length → forkP L (commonL L) t = true)
set_option maxRecDepth 100000 in
set_option maxHeartbeats 2000000 in
theorem paFork_any (v : Value) (L : List Itm) (h0 : 0 < L.length) (hL : L.length ≤ 1000000) (hm : ∀ a b, a ≤ b → b < L.length → forkP L (commonL L) a = true → forkP L (commonL L) b = true) (w : World) (hA : AtI w.heap.size w v L) :
    Calls Tryz.prog 66 #[v] w fun e w' => (∃ c : Nat, e = .returned (.int .i64 c) ∧ ForkAt L c) ∧ Below w.heap.size w w' := by
  obtain ⟨ao, cap, rfl, hA2⟩ := hA
  have hA : AtI w.heap.size w (.slice ao L.length cap) L := ⟨ao, cap, rfl, hA2⟩
  have b1 : Below w.heap.size w (w.alloc (.cells #[.slice ao L.length cap] 22)) := (Below.refl _ _).alloc (Nat.le_refl _) _
  have x1 : (w.alloc (.cells #[.slice ao L.length cap] 22)).heap[w.heap.size]? = some (.cells #[.slice ao L.length cap] 22 (0, 0)) := World.alloc_heap_new w _
  have A1 : AtI (w.alloc (.cells #[.slice ao L.length cap] 22)).heap.size (w.alloc (.cells #[.slice ao L.length cap] 22)) (.slice ao L.length cap) L := by
    have := hA.below (Nat.le_refl _) b1
    exact AtI.below this (by rw [World.size_alloc]; omega) (Below.refl _ _)
  have HC := Lib.hid (paCommon_any (.slice ao L.length cap) L h0 hL _ A1)
  have HM := Lib.hid hm
  have HL := Lib.hid hL
  obtain ⟨m, hmm⟩ : ∃ m, L.length = m := ⟨_, rfl⟩
  have HMM : Hid (L.length = m) := hmm
  clear hm hL h0 hA hA2
  rw [hmm] at b1 x1 A1 HC ⊢
  clear hmm
  go_enter Tryz.func66, Tryz.ntmps66
  go_wp2_with fail
  refine HC.out.mono ?_
  rintro e w2 ⟨rfl, b2⟩
  have hs1 : w.heap.size < (w.alloc (.cells #[.slice ao m cap] 22)).heap.size := by rw [World.size_alloc]; omega
  have B2 : Below w.heap.size w w2 := b1.trans (b2.mono (Nat.le_of_lt hs1))
  have hs2 : w.heap.size < w2.heap.size := Nat.lt_of_lt_of_le hs1 b2.size
  have A2 : AtI w2.heap.size w2 (.slice ao m cap) L := AtI.below (AtI.below A1 (Nat.le_refl _) b2) b2.size (Below.refl _ _)
  have x2 : w2.heap[w.heap.size]? = some (.cells #[.slice ao m cap] 22 (0, 0)) := (b2.block _ hs1).trans x1
  clear b1 b2 A1 x1 hs1 HC
  generalize hN : (commonL L : Int) = N at HM ⊢
  have b3 : Below w2.heap.size w2 (w2.alloc (.cells #[.int .i64 N] 3)) := (Below.refl _ _).alloc (Nat.le_refl _) _
  have x3 : (w2.alloc (.cells #[.int .i64 N] 3)).cell? ⟨w2.heap.size, 0, none⟩ = some (.int .i64 N) := (Lib.cell_of_heap (World.alloc_heap_new _ _) 0).trans rfl
  have y3 : (w2.alloc (.cells #[.int .i64 N] 3)).cell? ⟨w.heap.size, 0, none⟩ = some (.slice ao m cap) := (b3.cell (p := ⟨w.heap.size, 0, none⟩) hs2).trans ((Lib.cell_of_heap x2 0).trans rfl)
  have A3 : AtI w2.heap.size (w2.alloc (.cells #[.int .i64 N] 3)) (.slice ao m cap) L := A2.below (Nat.le_refl _) b3
  have c2 : w2.cell? ⟨w.heap.size, 0, none⟩ = some (.slice ao m cap) := (Lib.cell_of_heap x2 0).trans rfl
  have HS := Lib.hid (paSearch_any m (forkP L N) (.pointer (some ⟨w.heap.size, 0, none⟩)) (.pointer (some ⟨w2.heap.size, 0, none⟩)) (w2.alloc (.cells #[.int .i64 N] 3)) (by rw [← HMM.out]; exact HL.out) (fun W hW i hi => by
    have hz : w2.heap.size ≤ (w2.alloc (.cells #[.int .i64 N] 3)).heap.size := by rw [World.size_alloc]; omega
    have q := AtI.below A3 (n1 := (w2.alloc (.cells #[.int .i64 N] 3)).heap.size) hz hW
    rw [← HMM.out] at q
    refine paFork1_any _ _ ao cap N L _ W q i (by rw [HMM.out]; exact hi) ?_ ?_
    · rw [HMM.out]
      exact (hW.cell (p := ⟨w.heap.size, 0, none⟩) (cellLt y3)).trans y3
    · exact (hW.cell (p := ⟨w2.heap.size, 0, none⟩) (cellLt x3)).trans x3) (fun a b hab hb => HM.out a b hab (by rw [HMM.out]; exact hb)))
  have B3 := B2.trans (b3.mono (Nat.le_of_lt hs2))
  clear HM HL b3 x3 y3 A3 A2 x2
  go_wp2_with fail
  refine HS.out.mono ?_
  rintro e w4 ⟨⟨c, rfl, z1, z2, z3⟩, b4⟩
  have B4 := Lib.hid (B3.trans (b4.mono (by rw [World.size_alloc]; omega)))
  have Z : Hid (ForkAt L c) := by
    show ForkAt L c
    rw [ForkAt, hN, HMM.out]
    exact ⟨z1, z2, z3⟩
  clear z1 z2 z3 b4 HS B3
  go_wp2
  go_ret
  exact ⟨⟨c, rfl, Z.out⟩, B4.out⟩
end Go.Proofs.YtppgmphojklaeaaGreatDoor
namespace Go.Proofs.YtppgmphojklaeaaGreatDoor
open Go Go.RowKit

def RiseI (L : List Itm) : Prop := L.Pairwise fun x y => order x.b y.b < 0
theorem bitI_if (a : Lab) (n : Nat) : bitI a n = if n < 256 then (bit a n : Int) else 0 := by
  unfold bitI
  by_cases h : n < 256
  · rw [if_pos ⟨by omega, by omega⟩, if_pos h, Int.toNat_natCast]
  · rw [if_neg (by omega), if_neg h]
theorem forkP_nat (L : List Itm) (n i : Nat) : forkP L n i = true ↔ n < 256 ∧ bit (L.getD i zeroItm).b n = 1 := by
  unfold forkP
  rw [beq_iff_eq, bitI_if]
  by_cases h : n < 256
  · rw [if_pos h]
    omega
  · rw [if_neg h]
    omega
theorem RiseI.lt {L : List Itm} (h : RiseI L) {i j : Nat} (hij : i < j) (hj : j < L.length) : order (L.getD i zeroItm).b (L.getD j zeroItm).b < 0 := by
  have hi : i < L.length := by omega
  rw [List.getD_eq_getElem?_getD, List.getD_eq_getElem?_getD, List.getElem?_eq_getElem hi, List.getElem?_eq_getElem hj]
  exact List.pairwise_iff_getElem.1 h i j hi hj hij
theorem RiseI.le {L : List Itm} (h : RiseI L) {i j : Nat} (hij : i ≤ j) (hj : j < L.length) : order (L.getD i zeroItm).b (L.getD j zeroItm).b ≤ 0 := by
  by_cases e : i = j
  · subst e
    rw [order_zero.2 rfl]
    exact Int.le_refl _
  · exact Int.le_of_lt (h.lt (by omega) hj)
/-- All of them begin alike. -/
theorem RiseI.same {L : List Itm} (h : RiseI L) {i : Nat} (hi : i < L.length) : commonL L ≤ common (L.getD 0 zeroItm).b (L.getD i zeroItm).b := by
  have := (between_math (h.le (Nat.zero_le i) hi) (h.le (i := i) (j := L.length - 1) (by omega) (by omega))).2
  unfold commonL
  omega
theorem RiseI.bits {L : List Itm} (h : RiseI L) {i j : Nat} (hi : i < L.length) (hj : j < L.length) : commonL L ≤ common (L.getD i zeroItm).b (L.getD j zeroItm).b := by
  have h1 := h.same hi
  have h2 := h.same hj
  have s1 := common_is (L.getD 0 zeroItm).b (L.getD i zeroItm).b
  have s2 := common_is (L.getD 0 zeroItm).b (L.getD j zeroItm).b
  have s3 := common_is (L.getD i zeroItm).b (L.getD j zeroItm).b
  by_cases hc : commonL L ≤ common (L.getD i zeroItm).b (L.getD j zeroItm).b
  · exact hc
  · exfalso
    have hlt : common (L.getD i zeroItm).b (L.getD j zeroItm).b < 256 := by have := s1.le; omega
    have e1 := s1.same (common (L.getD i zeroItm).b (L.getD j zeroItm).b) (by omega)
    have e2 := s2.same (common (L.getD i zeroItm).b (L.getD j zeroItm).b) (by omega)
    exact s3.other hlt (e1.symm.trans e2)
theorem fork_mono {L : List Itm} (h : RiseI L) : ∀ a b, a ≤ b → b < L.length → forkP L (commonL L) a = true → forkP L (commonL L) b = true := by
  intro a b hab hb ha
  by_cases e : a = b
  · subst e
    exact ha
  · obtain ⟨hn, h1⟩ := (forkP_nat _ _ _).1 ha
    refine (forkP_nat _ _ _).2 ⟨hn, ?_⟩
    have hs := h.bits (i := a) (j := b) (by omega) hb
    have s3 := common_is (L.getD a zeroItm).b (L.getD b zeroItm).b
    rcases order_le.1 (h.le hab hb) with q | ⟨k, hk, e1, k1, k2⟩
    · rw [← q]
      exact h1
    · by_cases hkn : k = commonL L
      · rw [hkn] at k1
        omega
      · rw [← s3.same (commonL L) (by omega)]
        exact h1
theorem fork_ends {L : List Itm} (h : RiseI L) (h2 : 2 ≤ L.length) : commonL L < 256 ∧ forkP L (commonL L) 0 = false ∧ forkP L (commonL L) (L.length - 1) = true := by
  have hlt := h.lt (i := 0) (j := L.length - 1) (by omega) (by omega)
  rcases order_le.1 (Int.le_of_lt hlt) with q | ⟨k, hk, e1, k1, k2⟩
  · rw [order_zero.2 q] at hlt
    omega
  · have e : commonL L = k := e1
    refine ⟨by omega, ?_, (forkP_nat _ _ _).2 ⟨by omega, by rw [e]; exact k2⟩⟩
    cases hf : forkP L (commonL L) 0 with
    | false => rfl
    | true =>
      have := ((forkP_nat _ _ _).1 hf).2
      rw [e, k1] at this
      cases this
theorem ForkAt.inside {L : List Itm} {c : Nat} (hc : ForkAt L c) (h : RiseI L) (h2 : 2 ≤ L.length) : 0 < c ∧ c < L.length := by
  obtain ⟨h3, h4, h5⟩ := fork_ends h h2
  constructor
  · refine Nat.pos_of_ne_zero fun e => ?_
    have := hc.2.2 0 (by omega) (by omega)
    rw [h4] at this
    cases this
  · by_cases hl : c < L.length
    · exact hl
    · have := hc.2.1 (L.length - 1) (by omega)
      rw [h5] at this
      cases this
/-- Whose neighbours are right rises. -/
def forkC (L : List Itm) : Nat := (L.takeWhile fun x => !(bitI x.b (commonL L) == 1)).length
theorem ForkAt.eq {L : List Itm} {c : Nat} (hc : ForkAt L c) : c = forkC L := by
  unfold forkC
  have hg : ∀ t x, L[t]? = some x → L.getD t zeroItm = x := fun t x ht => by rw [List.getD_eq_getElem?_getD, ht]; rfl
  have := (takeWhile_at (p := fun x : Itm => !(bitI x.b (commonL L) == 1)) hc.1 (fun t x ht hx => by
    have := hc.2.1 t ht
    unfold forkP at this
    rw [hg t x hx] at this
    simp [this]) (fun x hx => by
    have hl : c < L.length := by
      by_cases hl : c < L.length
      · exact hl
      · rw [List.getElem?_eq_none (by omega)] at hx
        cases hx
    have := hc.2.2 c (Nat.le_refl _) hl
    unfold forkP at this
    rw [hg c x hx] at this
    simp [this])).1
  rw [this, List.length_take]
  have := hc.1
  omega
/-- The item of the top of a tree. -/
def wholeF : Nat → List Itm → Itm
  | 0, L => L.getD 0 zeroItm
  | f + 1, L => if L.length = 1 then L.getD 0 zeroItm else innerI (wholeF f (L.take (forkC L))) (wholeF f (L.drop (forkC L)))
def wholeL (L : List Itm) : Itm := wholeF L.length L
end Go.Proofs.YtppgmphojklaeaaGreatDoor
namespace Go.Proofs.YtppgmphojklaeaaGreatDoor
open Go Go.RowKit Go.Sort Go.Lib

theorem AtI.take {n0 : Nat} {w : World} {ao : Option Addr} {cap c : Nat} {L : List Itm} (h : AtI n0 w (.slice ao L.length cap) L) (hc : c ≤ L.length) : AtI n0 w (.slice ao c cap) (L.take c) := by
  obtain ⟨ao', cap', e, h2⟩ := h
  injection e with e1 e2 e3
  subst e1
  have hl : (L.take c).length = c := by rw [List.length_take]; omega
  refine ⟨ao, cap, by rw [hl], fun i hi => ?_⟩
  rw [hl] at hi
  obtain ⟨g, o, cur, x1, x2, x3, x4, x5⟩ := h2 i (by omega)
  refine ⟨g, o, cur, x1, x2, x3, x4, ?_⟩
  rw [x5, List.getD_eq_getElem?_getD, List.getD_eq_getElem?_getD, List.getElem?_take, if_pos hi]
theorem AtI.drop {n0 : Nat} {w : World} {g o cap c : Nat} {L : List Itm} (h : AtI n0 w (.slice (some ⟨g, o, none⟩) L.length cap) L) (hc : c ≤ L.length) : AtI n0 w (.slice (some ⟨g, o + c * 66, none⟩) (L.length - c) (cap - c)) (L.drop c) := by
  obtain ⟨ao', cap', e, h2⟩ := h
  injection e with e1 e2 e3
  subst e1
  have hl : (L.drop c).length = L.length - c := List.length_drop
  refine ⟨_, _, by rw [hl], fun i hi => ?_⟩
  rw [hl] at hi
  obtain ⟨g', o', cur, x1, x2, x3, x4, x5⟩ := h2 (c + i) (by omega)
  cases x1
  refine ⟨_, _, cur, rfl, x2, x3, by omega, ?_⟩
  rw [show o + c * 66 + i * 66 = o + (c + i) * 66 by omega, x5, List.getD_eq_getElem?_getD, List.getD_eq_getElem?_getD, List.getElem?_drop]

set_option maxRecDepth 100000 in
set_option maxHeartbeats 4000000 in
theorem paWhole_any : ∀ (f : Nat) (L : List Itm) (ao : Option Addr) (cap : Nat) (w : World), L.length ≤ f → 0 < L.length → RiseI L → L.length ≤ 1000000 → L.length ≤ cap → cap ≤ maxLen → Cubes w → AtI w.heap.size w (.slice ao L.length cap) L →
    Calls Tryz.prog 52 #[.slice ao L.length cap] w fun e w' => e = .returned (.agg (cellsI (wholeF f L))) ∧ Below w.heap.size w w' := by
  intro f
  induction f with
  | zero => intro L ao cap w h1 h2; omega
  | succ f ih =>
    intro L ao cap w hf h0 hr hL hcap hmax ht hA
    obtain ⟨m, hm⟩ : ∃ m, L.length = m := ⟨_, rfl⟩
    have HM : Hid (L.length = m) := hm
    have b0 : Below w.heap.size w (w.alloc (.cells (cellsI zeroItm) 55)) := (Below.refl _ _).alloc (Nat.le_refl _) _
    have r0 : rowAt (w.alloc (.cells (cellsI zeroItm) 55)) w.heap.size = some (cellsI zeroItm) := rowAt_alloc_at _ _ _ _ rfl
    have hA1 : AtI w.heap.size (w.alloc (.cells (cellsI zeroItm) 55)) (.slice ao L.length cap) L := hA.below (Nat.le_refl _) b0
    have t1 := ht.below b0
    have hsz : w.heap.size < (w.alloc (.cells (cellsI zeroItm) 55)).heap.size := by rw [World.size_alloc]; omega
    obtain ⟨_, _, e0, hA2⟩ := hA1
    injection e0 with e1 e2 e3
    subst e1
    obtain ⟨g, o, c0, rfl, hg, hr0, hs0, hx0⟩ := hA2 0 h0
    have hr00 := (rowG_below b0 hg).symm.trans hr0
    have hA1 : AtI w.heap.size (w.alloc (.cells (cellsI zeroItm) 55)) (.slice (some ⟨g, o, none⟩) L.length cap) L := hA.below (Nat.le_refl _) b0
    rw [Nat.zero_mul, Nat.add_zero] at hx0
    have s0 : o + 66 ≤ c0.size := by omega
    by_cases h1 : L.length = 1
    · have hv : wholeF (f + 1) L = L.getD 0 zeroItm := by rw [wholeF, if_pos h1]
      rw [hv, h1]
      generalize L.getD 0 zeroItm = X at *
      clear hA2 hA1 hA ih hr hf hL hm HM hv e2 e3 t1 ht hs0
      go_enter Tryz.func52, Tryz.ntmps52
      go_wp2_with fail
      exact row_ret_item rfl rfl rfl (rowAt_alloc_at _ _ _ _ rfl) ⟨rfl, (Below.refl _ _).alloc (Nat.le_refl _) _⟩
    · have h2 : 2 ≤ L.length := by omega
      have AW : AtI (w.alloc (.cells (cellsI zeroItm) 55)).heap.size (w.alloc (.cells (cellsI zeroItm) 55)) (.slice (some ⟨g, o, none⟩) L.length cap) L := hA1.below (Nat.le_of_lt hsz) (Below.refl _ _)
      have HF := Lib.hid (paFork_any (.slice (some ⟨g, o, none⟩) L.length cap) L h0 hL (fork_mono hr) (w.alloc (.cells (cellsI zeroItm) 55)) AW)
      have HR := Lib.hid hr
      have HIH := Lib.hid ih
      have H1 := Lib.hid h1
      have HT := Lib.hid t1
      have HA := Lib.hid AW
      have hm1 : (m : Int) ≤ 1000000 := by omega
      have hmn : ¬ m = 1 := by omega
      have hmi : ¬ (m : Int) = 1 := by omega
      have hcm : m ≤ cap := by omega
      rw [hm] at HF hf h2
      rw [hm]
      clear hA2 hA1 hA ih hr hL HM e2 e3 t1 ht hs0 hx0 s0 hr0 hr00 AW h1 h0 hcap
      generalize hV : wholeF (f + 1) L = V
      go_enter Tryz.func52, Tryz.ntmps52
      go_wp2_with fail
      generalize w.alloc (.cells (cellsI zeroItm) 55) = W at *
      refine HF.out.mono ?_
      rintro e w2 ⟨⟨c, rfl, hc⟩, b2⟩
      obtain ⟨hc0, hcl⟩ := hc.inside HR.out (by rw [hm]; exact h2)
      have hcC := hc.eq
      have b3 := below_past b0 b2 b0.size
      have A2 := AtI.below (HA.out.below (Nat.le_refl _) b2) b2.size (Below.refl _ _)
      have T2 := Lib.hid (HT.out.below b2)
      have r2 := rowAt_past b2 r0
      have AL := A2.take (Nat.le_of_lt hcl)
      have AR := A2.drop (Nat.le_of_lt hcl)
      have hlT : (L.take c).length = c := by rw [List.length_take]; omega
      have hlD : (L.drop c).length = m - c := by rw [List.length_drop, hm]
      rw [hm] at hcl AR
      have hv : wholeF (f + 1) L = innerI (wholeF f (L.take c)) (wholeF f (L.drop c)) := by rw [wholeF, if_neg H1.out, ← hcC]
      have HL : Hid (∀ x : Past w2, Calls Tryz.prog 52 #[.slice (some ⟨g, o, none⟩) c cap] x.w fun e w' => e = .returned (.agg (cellsI (wholeF f (L.take c)))) ∧ Below x.w.heap.size x.w w') := fun x => by
        have := HIH.out (L.take c) (some ⟨g, o, none⟩) cap x.w (by omega) (by omega) (List.Pairwise.sublist (List.take_sublist c L) HR.out) (by omega) (by omega) hmax (T2.out.below x.h) (by rw [hlT]; exact AtI.below (AL.below (Nat.le_refl _) x.h) x.h.size (Below.refl _ _))
        rw [hlT] at this
        exact this
      have HD : Hid (∀ x : Past w2, Calls Tryz.prog 52 #[.slice (some ⟨g, o + c * 66, none⟩) (m - c) (cap - c)] x.w fun e w' => e = .returned (.agg (cellsI (wholeF f (L.drop c)))) ∧ Below x.w.heap.size x.w w') := fun x => by
        have := HIH.out (L.drop c) (some ⟨g, o + c * 66, none⟩) (cap - c) x.w (by omega) (by omega) (List.Pairwise.sublist (List.drop_sublist c L) HR.out) (by omega) (by omega) (by omega) (T2.out.below x.h) (by rw [hlD]; exact AtI.below (AR.below (Nat.le_refl _) x.h) x.h.size (Below.refl _ _))
        rw [hlD] at this
        exact this
      have hV2 : innerI (wholeF f (L.take c)) (wholeF f (L.drop c)) = V := hv.symm.trans hV
      clear hv hV
      generalize wholeF f (L.take c) = X1 at HL hV2
      generalize wholeF f (L.drop c) = X2 at HD hV2
      have HI : Hid (∀ x : Past w2, Calls Tryz.prog 85 #[.agg (cellsN X1 X2)] x.w fun e w' => e = .returned (.agg (cellsI V)) ∧ Below x.w.heap.size x.w w') := fun x => by
        rw [← hV2]
        exact nInnerItem_any X1 X2 x.w (T2.out.below x.h)
      clear hV2
      have hci : (c : Int) ≤ m := by omega
      have hcc : (c : Int) ≤ cap := by omega
      have hcp : c ≤ cap := by omega
      have hcm2 : c ≤ m := by omega
      clear hc hcC b0 b2 A2 AL AR hlT hlD HIH H1 HT HA HR HF r0 T2 hf
      go_wp2_with fail
      refine wp_region_tok [] 10 (fun _ _ _ => True) (by kernel_rfl) (by kernel_rfl) (by intro i hi; cases hi) ?_
      intro τ hτ
      clear hτ
      simp only [List.take_succ_cons, List.take_zero]
      iterate 3 (refine tokL_val (by decide) (by kernel_rfl) rfl ?_; intro K hK; go_big_quiet_op; go_big_quiet_on)
      refine tokL_call (by decide) (by kernel_rfl) (by kernel_rfl) ?_
      apply Exists.intro
      refine And.intro ?_ ?_
      focus
        intro x hg
        unfold Oper.quietAt
        go_simp
        (exact call_yields (HL.out x))
      simp only [Act.put, List.setIfInBounds_toArray, List.set_cons_succ, List.set_cons_zero]
      iterate 3 (refine tokL_val (by decide) (by kernel_rfl) rfl ?_; intro K hK; go_big_quiet_op; go_big_quiet_on)
      refine tokL_call (by decide) (by kernel_rfl) (by kernel_rfl) ?_
      apply Exists.intro
      refine And.intro ?_ ?_
      focus
        intro x hg
        unfold Oper.quietAt
        go_simp
        (exact call_yields (HD.out x))
      simp only [Act.put, List.setIfInBounds_toArray, List.set_cons_succ, List.set_cons_zero]
      iterate 1 (refine tokL_val (by decide) (by kernel_rfl) rfl ?_; intro K hK; go_big_quiet_op; go_big_quiet_on)
      refine tokL_call (by decide) (by kernel_rfl) (by kernel_rfl) ?_
      apply Exists.intro
      refine And.intro ?_ ?_
      focus
        intro x hg
        unfold Oper.quietAt
        go_simp
        (exact call_yields (HI.out x))
      simp only [Act.put, List.setIfInBounds_toArray, List.set_cons_succ, List.set_cons_zero]
      refine tokL_nil ?_
      simp only [List.drop_succ_cons, List.drop_zero]
      intro z hz
      have b4 := below_past b3 hz.1 b3.size
      have r4 := rowAt_past hz.1 r2
      clear hz b3 r2 HL HD HI
      go_wp2_with fail
      exact row_ret_item rfl rfl rfl (rowAt_setRow_same r4 _) ⟨rfl, Below.setRow b4 (Nat.le_refl _) _⟩
end Go.Proofs.YtppgmphojklaeaaGreatDoor
namespace Go.Proofs.YtppgmphojklaeaaGreatDoor
open Go Go.RowKit Go.Sort Go.Lib

theorem ext_pre {c : Array Value} {s : Nat} {x : Itm} (hx : c.extract s (s + 66) = cellsI x) : c.extract s (s + 33) = cellsP x.n x.b := by
  have := ext_ext c s 0 33 66 (by decide)
  rw [hx, extract_I0, Nat.add_zero] at this
  exact this.symm
def overL (L : List Itm) : Int × Lab := if L.length = 1 then ((L.getD 0 zeroItm).n, (L.getD 0 zeroItm).b) else (min (max (commonL L : Int) 0) 256, cut (L.getD 0 zeroItm).b (commonL L))
set_option maxRecDepth 100000 in
set_option maxHeartbeats 2000000 in
theorem paOver_any (L : List Itm) (ao : Option Addr) (cap : Nat) (w : World) (h0 : 0 < L.length) (hL : L.length ≤ 1000000) (hA : AtI w.heap.size w (.slice ao L.length cap) L) :
    Calls Tryz.prog 65 #[.slice ao L.length cap] w fun e w' => e = .returned (.agg (cellsP (overL L).1 (overL L).2)) ∧ Below w.heap.size w w' := by
  have b0 : Below w.heap.size w (w.alloc (.cells (cellsP 0 zeroLab) 53)) := (Below.refl _ _).alloc (Nat.le_refl _) _
  have r0 : rowAt (w.alloc (.cells (cellsP 0 zeroLab) 53)) w.heap.size = some (cellsP 0 zeroLab) := rowAt_alloc_at _ _ _ _ rfl
  have hA1 : AtI w.heap.size (w.alloc (.cells (cellsP 0 zeroLab) 53)) (.slice ao L.length cap) L := hA.below (Nat.le_refl _) b0
  have hsz : w.heap.size < (w.alloc (.cells (cellsP 0 zeroLab) 53)).heap.size := by rw [World.size_alloc]; omega
  obtain ⟨_, _, e0, hA2⟩ := hA1
  injection e0 with e1 e2 e3
  subst e1
  obtain ⟨g, o, c, rfl, hg, hr, hs, hx⟩ := hA2 0 h0
  have hr00 := (rowG_below b0 hg).symm.trans hr
  have AW : AtI (w.alloc (.cells (cellsP 0 zeroLab) 53)).heap.size (w.alloc (.cells (cellsP 0 zeroLab) 53)) (.slice (some ⟨g, o, none⟩) L.length cap) L := AtI.below (hA.below (Nat.le_refl _) b0) (Nat.le_of_lt hsz) (Below.refl _ _)
  rw [Nat.zero_mul, Nat.add_zero] at hx
  have f0 := ext_pre hx
  have f1 := ext_b hx
  have s0 : o + 33 ≤ c.size := by omega
  have s1 : o + 1 + 32 ≤ c.size := by omega
  obtain ⟨m, hm⟩ : ∃ m, L.length = m := ⟨_, rfl⟩
  obtain ⟨T, hT⟩ : ∃ T, overL L = T := ⟨_, rfl⟩
  have hm1 : (m : Int) ≤ 1000000 := by omega
  by_cases h1 : L.length = 1
  · have hv : T = ((L.getD 0 zeroItm).n, (L.getD 0 zeroItm).b) := by rw [← hT, overL, if_pos h1]
    rw [hT, hv, h1]
    generalize L.getD 0 zeroItm = X at *
    clear hA2 hA AW hs hx f1 s1 e2 e3 hT hv hm hm1
    go_enter Tryz.func65, Tryz.ntmps65
    go_wp2_with fail
    exact row_ret_pre rfl rfl rfl (rowAt_alloc_at _ _ _ _ rfl) ⟨rfl, (Below.refl _ _).alloc (Nat.le_refl _) _⟩
  · have hv : T = (min (max (commonL L : Int) 0) 256, cut (L.getD 0 zeroItm).b (commonL L)) := by rw [← hT, overL, if_neg h1]
    have hmi : ¬ (m : Int) = 1 := by omega
    have hmn : ¬ m = 1 := by omega
    have h0' : (0 : Int) < m := by omega
    have HC : Hid (∀ x : Past (w.alloc (.cells (cellsP 0 zeroLab) 53)), Calls Tryz.prog 139 #[.slice (some ⟨g, o, none⟩) L.length cap] x.w fun e w' => e = .returned (.int .i64 (commonL L)) ∧ Below x.w.heap.size x.w w') := fun x => paCommon_any _ L h0 hL x.w (AtI.below (AW.below (Nat.le_refl _) x.h) x.h.size (Below.refl _ _))
    have HU : Hid (∀ w, Calls Tryz.prog 138 #[.agg (cellsL (L.getD 0 zeroItm).b), .int .i64 (commonL L)] w fun e w' => e = .returned (.agg (cellsP T.1 T.2)) ∧ Below w.heap.size w w') := fun w => by
      rw [hv]
      exact Cut_any (L.getD 0 zeroItm).b (commonL L) w
    have fa := fun x : Past (w.alloc (.cells (cellsP 0 zeroLab) 53)) => rowG_past x.h hr
    rw [hT]
    rw [hm] at HC ⊢
    generalize L.getD 0 zeroItm = X at *
    generalize hN : (commonL L : Int) = N at HC HU
    clear hA2 hA AW hs hx f0 s0 e2 e3 hT hv hm hr h0 hN
    go_enter Tryz.func65, Tryz.ntmps65
    go_wp2_with fail
    generalize w.alloc (.cells (cellsP 0 zeroLab) 53) = W at *
    refine wp_region_tok [] 8 (fun _ _ _ => True) (by kernel_rfl) (by kernel_rfl) (by intro i hi; cases hi) ?_
    intro τ hτ
    clear hτ
    simp only [List.take_succ_cons, List.take_zero]
    iterate 6 (refine tokL_val (by decide) (by kernel_rfl) rfl ?_; intro K hK; go_big_quiet_op; go_big_quiet_on)
    refine tokL_call (by decide) (by kernel_rfl) (by kernel_rfl) ?_
    apply Exists.intro
    refine And.intro ?_ ?_
    focus
      intro x hg
      unfold Oper.quietAt
      go_simp
      (exact call_yields (HC.out x))
    simp only [Act.put, List.setIfInBounds_toArray, List.set_cons_succ, List.set_cons_zero]
    refine tokL_call (by decide) (by kernel_rfl) (by kernel_rfl) ?_
    apply Exists.intro
    refine And.intro ?_ ?_
    focus
      intro x hg
      unfold Oper.quietAt
      go_simp
      (exact call_yields (HU.out _))
    simp only [Act.put, List.setIfInBounds_toArray, List.set_cons_succ, List.set_cons_zero]
    refine tokL_nil ?_
    simp only [List.drop_succ_cons, List.drop_zero]
    intro z hz
    have b4 := below_past b0 hz.1 b0.size
    have r4 := rowAt_past hz.1 r0
    clear hz b0 r0 HC HU fa
    go_wp2_with fail
    exact row_ret_pre rfl rfl rfl (rowAt_setRow_same r4 _) ⟨rfl, Below.setRow b4 (Nat.le_refl _) _⟩
end Go.Proofs.YtppgmphojklaeaaGreatDoor
namespace Go.Proofs.YtppgmphojklaeaaGreatDoor
open Go Go.Shelf Go.RowKit Go.Lib Go.Sort

def renL : Ren := ⟨fun f => match f with | 6 => 187 | 14 => 219 | 15 => 144 | 20 => 233 | 21 => 234 | 22 => 235 | 23 => 236 | 24 => 237 | 25 => 238 | 26 => 239 | 27 => 240 | 28 => 198 | 29 => 169 | 46 => 245 | 47 => 221 | 48 => 222 | 49 => 246 | 50 => 247 | 57 => 250 | _ => 0, fun t => match t with | 0 => 0 | 3 => 3 | 4 => 4 | 5 => 5 | 9 => 9 | 22 => 39 | 25 => 106 | 39 => 210 | 45 => 260 | 46 => 261 | 50 => 203 | 53 => 177 | 55 => 241 | 66 => 280 | 70 => 284 | 76 => 301 | 77 => 302 | 24 => 27 | _ => 0, fun x => x⟩
theorem laysL : SlLaysF0.n6 Tryz.prog renL where
  mixed := by kernel_rfl
  f6 := ⟨Tryz.f187.name, by kernel_rfl, Tryz.func187.trans (congrArg some (by kernel_rfl))⟩
  f14 := ⟨Tryz.f219.name, by kernel_rfl, Tryz.func219.trans (congrArg some (by kernel_rfl))⟩
  f15 := Tryz.func144.trans (congrArg some (by kernel_rfl))
  f20 := ⟨Tryz.f233.name, by kernel_rfl, Tryz.func233.trans (congrArg some (by kernel_rfl))⟩
  f21 := ⟨Tryz.f234.name, by kernel_rfl, Tryz.func234.trans (congrArg some (by kernel_rfl))⟩
  f22 := ⟨Tryz.f235.name, by kernel_rfl, Tryz.func235.trans (congrArg some (by kernel_rfl))⟩
  f23 := ⟨Tryz.f236.name, by kernel_rfl, Tryz.func236.trans (congrArg some (by kernel_rfl))⟩
  f24 := ⟨Tryz.f237.name, by kernel_rfl, Tryz.func237.trans (congrArg some (by kernel_rfl))⟩
  f25 := ⟨Tryz.f238.name, by kernel_rfl, Tryz.func238.trans (congrArg some (by kernel_rfl))⟩
  f26 := ⟨Tryz.f239.name, by kernel_rfl, Tryz.func239.trans (congrArg some (by kernel_rfl))⟩
  f27 := ⟨Tryz.f240.name, by kernel_rfl, Tryz.func240.trans (congrArg some (by kernel_rfl))⟩
  f28 := Tryz.func198.trans (congrArg some (by kernel_rfl))
  f29 := Tryz.func169.trans (congrArg some (by kernel_rfl))
  f46 := ⟨Tryz.f245.name, by kernel_rfl, Tryz.func245.trans (congrArg some (by kernel_rfl))⟩
  f47 := Tryz.func221.trans (congrArg some (by kernel_rfl))
  f48 := Tryz.func222.trans (congrArg some (by kernel_rfl))
  f49 := ⟨Tryz.f246.name, by kernel_rfl, Tryz.func246.trans (congrArg some (by kernel_rfl))⟩
  f50 := ⟨Tryz.f247.name, by kernel_rfl, Tryz.func247.trans (congrArg some (by kernel_rfl))⟩
  f57 := ⟨Tryz.f250.name, by kernel_rfl, Tryz.func250.trans (congrArg some (by kernel_rfl))⟩
  t0 := Tryz.underlying0
  a0 := fun w => by kernel_rfl
  z0 := fun w => by kernel_rfl
  v0 := fun w => by kernel_rfl
  t3 := Tryz.underlying3
  a3 := fun w => by kernel_rfl
  z3 := fun w => by kernel_rfl
  v3 := fun w => by kernel_rfl
  t4 := Tryz.underlying4
  a4 := fun w => by kernel_rfl
  z4 := fun w => by kernel_rfl
  v4 := fun w => by kernel_rfl
  t5 := Tryz.underlying5
  a5 := fun w => by kernel_rfl
  z5 := fun w => by kernel_rfl
  v5 := fun w => by kernel_rfl
  t9 := Tryz.underlying9
  a9 := fun w => by kernel_rfl
  z9 := fun w => by kernel_rfl
  v9 := fun w => by kernel_rfl
  t22 := Tryz.underlying39
  a22 := fun w => by kernel_rfl
  z22 := fun w => by kernel_rfl
  v22 := fun w => by kernel_rfl
  t25 := Tryz.underlying106
  a25 := fun w => by kernel_rfl
  z25 := fun w => by kernel_rfl
  v25 := fun w => by kernel_rfl
  t39 := Tryz.underlying210
  a39 := fun w => by kernel_rfl
  z39 := fun w => by kernel_rfl
  v39 := fun w => by kernel_rfl
  t45 := Tryz.underlying260
  a45 := fun w => by kernel_rfl
  z45 := fun w => by kernel_rfl
  v45 := fun w => by kernel_rfl
  t46 := Tryz.underlying261
  a46 := fun w => by kernel_rfl
  z46 := fun w => by kernel_rfl
  v46 := fun w => by kernel_rfl
  t50 := Tryz.underlying203
  a50 := fun w => by kernel_rfl
  z50 := fun w => by kernel_rfl
  v50 := fun w => by kernel_rfl
  t53 := Tryz.underlying177
  a53 := fun w => by kernel_rfl
  z53 := fun w => by kernel_rfl
  v53 := fun w => by kernel_rfl
  t55 := Tryz.underlying241
  a55 := fun w => by kernel_rfl
  z55 := fun w => by kernel_rfl
  v55 := fun w => by kernel_rfl
  t66 := Tryz.underlying280
  a66 := fun w => by kernel_rfl
  z66 := fun w => by kernel_rfl
  v66 := fun w => by kernel_rfl
  t70 := Tryz.underlying284
  a70 := fun w => by kernel_rfl
  z70 := fun w => by kernel_rfl
  v70 := fun w => by kernel_rfl
  t76 := Tryz.underlying301
  a76 := fun w => by kernel_rfl
  z76 := fun w => by kernel_rfl
  v76 := fun w => by kernel_rfl
  t77 := Tryz.underlying302
  a77 := fun w => by kernel_rfl
  z77 := fun w => by kernel_rfl
  v77 := fun w => by kernel_rfl
end Go.Proofs.YtppgmphojklaeaaGreatDoor
namespace Go.Proofs.YtppgmphojklaeaaGreatDoor
open Go Go.Shelf Go.RowKit Go.Lib Go.Sort

theorem eg_order : ∀ args w, (callFunc 61 args).run Tryz.prog w = .ok (.enter 61 args) w := enters_of Tryz.func61 (by kernel_rfl) rfl
theorem cmp_labels : CmpL 61 #[] order := fun w x y => order_far x y w
theorem weakL : Weak (ltOf order) := weak_order fun x : Lab => x
set_option maxHeartbeats 1000000 in
/-- A list of labels of one's own is sorted in place. -/
theorem sortL_row (b cap : Nat) (d : Array Lab) (w : World) (hH : HoldsK encL 32 w b 0 d) (hblk : b < w.heap.size) (hz : d.size ≤ 1000000) :
    Calls Tryz.prog 187 #[.slice (some ⟨b, 0, none⟩) d.size cap, .func (.func 61) #[] #[]] w fun e w' => e = .returned (.tuple #[]) ∧ ∃ d' n os, PermIn 0 d.size d d' ∧ SortedIn (ltOf order) 0 d.size d' ∧ w' = sortWorldK encL 32 w b 0 n d' os :=
  AnyQ.slices_SortFunc laysL 32 (fun w => by kernel_rfl) (fun w => by kernel_rfl) encL encL_len (fun x => one_of_rowL x) order weakL.swo 61 #[] b 0 cap d w eg_order (fun m os dk _ x y => cmp_labels _ x y) hH hblk (by omega)
set_option maxHeartbeats 1000000 in
theorem insL_nil (f : Value) (w : World) : Calls Tryz.prog 233 #[.slice none 0 0, .int .i64 0, .int .i64 0, f] w fun e w' => e = .returned (.tuple #[]) ∧ w' = w := by
  go_enter Tryz.func233, Tryz.ntmps233
  go_wp2
  go_loopw [8] (fun s8 wr => s8 = .int .i64 1 ∧ wr = w) (fun _ _ => 0)
  case atStart => exact ⟨rfl, rfl⟩
  case round =>
    obtain ⟨rfl, rfl⟩ := hrel
    go_wp2
    go_end0
    exact ⟨rfl, rfl⟩
set_option maxHeartbeats 1000000 in
theorem pdqL_nil (k : Int) (f : Value) (w : World) : Calls Tryz.prog 219 #[.slice none 0 0, .int .i64 0, .int .i64 0, .int .i64 k, f] w fun e w' => e = .returned (.tuple #[]) ∧ w' = w := by
  have hc := insL_nil f
  go_enter Tryz.func219, Tryz.ntmps219
  go_wp2
  go_loopw [1, 2, 3, 10, 11] (fun s1 s2 _ _ _ wr => s1 = .int .i64 0 ∧ s2 = .int .i64 0 ∧ wr = w) (fun _ _ _ _ _ _ => 0)
  case atStart => exact ⟨rfl, rfl, rfl⟩
  case round =>
    obtain ⟨rfl, rfl, rfl⟩ := hrel
    go_wp2_with fail
    refine (hc _).mono ?_
    rintro e w2 ⟨rfl, rfl⟩
    go_wp2
    first | go_end0 | ((try simp only [Exit.inBlock, Exit.then]); refine bodyPost_ret (results_none rfl _ _ _) rfl ?_)
    exact ⟨rfl, rfl⟩
theorem permL {L : List Lab} {d' : Array Lab} (h : PermIn 0 L.toArray.size L.toArray d') : d'.size = L.length ∧ d'.toList.Perm L := by
  have e1 : d'.size = L.length := by simpa using h.1
  have e2 : d'.extract 0 L.length = d' := by rw [← e1, Array.extract_size]
  have e3 : L.toArray.extract 0 L.length = L.toArray := by simp
  have h3 := h.2.2
  rw [List.size_toArray, e2, e3] at h3
  exact ⟨e1, h3⟩
theorem sortedL {d : Array Lab} {n : Nat} (hn : n = d.size) (h : SortedIn (ltOf order) 0 n d) : NoInv (ltOf order) d.toList := by
  subst hn
  refine List.pairwise_iff_getElem.2 fun i j hi hj hij => ?_
  have := h i j (Nat.zero_le _) hij (by simpa using hj)
  rw [getElem!_pos d j (by simpa using hj), getElem!_pos d i (by simpa using hi)] at this
  simpa using this
theorem bitsLen_nil (w : World) : Calls Tryz.prog 144 #[.int .u64 0] w fun e w' => e = .returned (.int .i64 (Lib.bitLen 0 : Nat)) ∧ w' = w := by
  have h := Any.bits_Len (SlLaysF0.n15.bits (P := Tryz.prog) (ρ := renL) { laysL with }) 0 w (by omega) (by omega)
  exact h
set_option maxHeartbeats 1000000 in
theorem sortL_nil (f : Value) (w : World) : Calls Tryz.prog 187 #[.slice none 0 0, f] w fun e w' => e = .returned (.tuple #[]) ∧ w' = w := by
  have hb := bitsLen_nil
  have hc := fun k => pdqL_nil k f
  go_enter Tryz.func187, Tryz.ntmps187
  go_wp2_with fail
  refine (hb _).mono ?_
  rintro e w2 ⟨rfl, rfl⟩
  go_wp2_with fail
  refine (hc _ _).mono ?_
  rintro e w3 ⟨rfl, rfl⟩
  go_wp2
  go_end0
  exact ⟨rfl, rfl⟩
/-- A list of labels of one's own is sorted in place. -/
theorem sortL_any (B : Nat) (v : Value) (L : List Lab) (hL : L.length ≤ 1000000) (w : World) (hB : B ≤ w.heap.size) (h : OwnL w B v L) :
    Calls Tryz.prog 187 #[v, .func (.func 61) #[] #[]] w fun e w' => e = .returned (.tuple #[]) ∧ ∃ S, S.Perm L ∧ NoInv (ltOf order) S ∧ OwnL w' B v S ∧ Below B w w' := by
  rcases h.holds with ⟨rfl, rfl⟩ | ⟨b, cap, c, rfl, h2, h3, h4, h5, h6, h7⟩
  · refine (sortL_nil _ w).mono ?_
    rintro e w' ⟨rfl, rfl⟩
    exact ⟨rfl, [], List.Perm.refl _, List.Pairwise.nil, h, Below.refl _ _⟩
  · have hblk := (Array.getElem?_eq_some_iff.1 h3).1
    have := sortL_row b cap L.toArray w h7 hblk (by rw [List.size_toArray]; exact hL)
    rw [List.size_toArray] at this
    refine this.mono ?_
    rintro e w' ⟨rfl, d', n, os, z1, z2, rfl⟩
    rw [← List.size_toArray] at z1
    obtain ⟨y1, y2⟩ := permL z1
    refine ⟨rfl, d'.toList, y2, sortedL y1.symm z2, ?_, ?_⟩
    · exact ownL_put (L := L) rfl h2 h3 h4 h5 h6 d' y1 n os
    · exact (Below.refl B w).grown (srt_grown w b _ n os) hB (fun k e => by cases e; exact h2)
set_option maxHeartbeats 1000000 in
theorem collectL_any (Bs cap : Nat) (ao : Option Addr) (L : List Lab) (hL : L.length ≤ 1000000) (w : World) (hBs : w.cell? ⟨Bs, 0, none⟩ = some (.slice ao L.length cap)) (hb : Bs < w.heap.size) (hA : AtL w.heap.size w (.slice ao L.length cap) L) :
    Calls Tryz.prog 186 #[.func (.func 188) #[] #[.pointer (some ⟨Bs, 0, none⟩)]] w fun e w' => ∃ v, e = .returned v ∧ OwnL w' w.heap.size v L ∧ Below w.heap.size w w' := by
  have HC := Lib.hid (appendL_any Bs cap ao L hL w hBs hb hA)
  clear hBs hb hA
  go_enter Tryz.func186, Tryz.ntmps186
  go_wp2_with fail
  refine HC.out.mono ?_
  rintro e w2 ⟨v, rfl, h1, h2⟩
  have H1 := Lib.hid h1
  have H2 := Lib.hid h2
  obtain ⟨ao', cap', rfl⟩ := h1.shape
  clear h1 h2 HC
  go_wp2
  go_ret
  exact ⟨_, rfl, H1.out, H2.out⟩
set_option maxHeartbeats 1000000 in
/-- What an iterator over labels hands out, sorted. -/
theorem sortedL_any (Bs cap : Nat) (ao : Option Addr) (L : List Lab) (hL : L.length ≤ 1000000) (w : World) (hBs : w.cell? ⟨Bs, 0, none⟩ = some (.slice ao L.length cap)) (hb : Bs < w.heap.size) (hA : AtL w.heap.size w (.slice ao L.length cap) L) :
    Calls Tryz.prog 134 #[.func (.func 188) #[] #[.pointer (some ⟨Bs, 0, none⟩)], .func (.func 61) #[] #[]] w fun e w' => ∃ v S, e = .returned v ∧ S.Perm L ∧ NoInv (ltOf order) S ∧ OwnL w' w.heap.size v S ∧ Below w.heap.size w w' := by
  have HC := Lib.hid (collectL_any Bs cap ao L hL w hBs hb hA)
  have HS : Hid (∀ (v : Value) (w' : World), w.heap.size ≤ w'.heap.size → OwnL w' w.heap.size v L → Calls Tryz.prog 187 #[v, .func (.func 61) #[] #[]] w' fun e w2 => e = .returned (.tuple #[]) ∧ ∃ S, S.Perm L ∧ NoInv (ltOf order) S ∧ OwnL w2 w.heap.size v S ∧ Below w.heap.size w' w2) := fun v w' h1 h2 => sortL_any w.heap.size v L hL w' h1 h2
  clear hBs hb hA
  go_enter Tryz.func134, Tryz.ntmps134
  go_wp2_with fail
  refine HC.out.mono ?_
  rintro e w2 ⟨v, rfl, h1, h2⟩
  have H2 := Lib.hid h2
  have HS2 := Lib.hid (HS.out v w2 h2.size h1)
  obtain ⟨ao', cap', rfl⟩ := h1.shape
  clear h1 h2 HC HS
  go_wp2_with fail
  refine HS2.out.mono ?_
  rintro e w3 ⟨rfl, S, h3, h5, h6, h4⟩
  have H3 := Lib.hid h3
  have H5 := Lib.hid h5
  have H6 := Lib.hid h6
  have H4 := Lib.hid (H2.out.trans h4)
  clear h3 h4 h5 h6 H2 HS2
  go_wp2
  go_ret
  exact ⟨_, S, rfl, H3.out, H5.out, H6.out, H4.out⟩
end Go.Proofs.YtppgmphojklaeaaGreatDoor
namespace Go.Proofs.YtppgmphojklaeaaGreatDoor
open Go Go.RowKit Go.Sort Go.Lib

set_option maxRecDepth 100000 in
set_option maxHeartbeats 2000000 in
theorem binL_any (ao : Option Addr) (cap : Nat) (L : List Lab) (k : Lab) (w : World) (hL : L.length ≤ 1000000) (hA : AtL w.heap.size w (.slice ao L.length cap) L)
    (hm : ∀ a b, a ≤ b → b < L.length → order (L.getD b zeroLab) k < 0 → order (L.getD a zeroLab) k < 0) :
    Calls Tryz.prog 137 #[.slice ao L.length cap, .agg (cellsL k), .func (.func 61) #[] #[]] w fun e w' => (∃ (c : Nat) (q : Bool), e = .returned (.tuple #[.int .i64 c, .bool q]) ∧ c ≤ L.length ∧ (∀ t, t < c → order (L.getD t zeroLab) k < 0) ∧ (∀ t, c ≤ t → t < L.length → 0 ≤ order (L.getD t zeroLab) k)) ∧ Below w.heap.size w w' := by
  obtain ⟨B, hB⟩ : ∃ B, w.heap.size = B := ⟨_, rfl⟩
  obtain ⟨n, hn⟩ : ∃ n, L.length = n := ⟨_, rfl⟩
  have HB : Hid (w.heap.size = B) := hB
  have hn1 : (n : Int) ≤ 1000000 := by omega
  have b0 : Below B w (w.alloc (.cells (cellsL k) 27)) := by rw [← hB]; exact (Below.refl _ _).alloc (Nat.le_refl _) _
  have r0 : rowAt (w.alloc (.cells (cellsL k) 27)) B = some (cellsL k) := by rw [← hB]; exact rowAt_alloc_at _ _ _ _ rfl
  have hz0 : B < (w.alloc (.cells (cellsL k) 27)).heap.size := by rw [World.size_alloc, hB]; omega
  have HA : Hid (∀ i, i < n → ∃ g o cur, ao = some ⟨g, o, none⟩ ∧ g < B ∧ rowOr (rowAt w g) (rowF w g) = some cur ∧ o + (i * 32 + 32) ≤ cur.size ∧ cur.extract (o + i * 32) (o + i * 32 + 32) = cellsL (L.getD i zeroLab)) := by
    obtain ⟨ao', cap', h1, h2⟩ := hA
    injection h1 with e1 e2 e3
    rw [← hn, e1, ← hB]
    exact h2
  rw [hn] at hm ⊢
  have HM := Lib.hid hm
  have eg := eg_order
  have HO := Lib.hid (fun (a : Lab) w => Order_any a k w)
  clear hA hm hn hL
  rw [hB]
  go_enter Tryz.func137, Tryz.ntmps137
  go_wp2_with fail
  generalize w.alloc (.cells (cellsL k) 27) = W at *
  clear hB
  go_loopw [9, 10] (fun s9 s10 wr => ∃ i j : Nat, s9 = .int .i64 i ∧ s10 = .int .i64 j ∧ i ≤ j ∧ j ≤ n ∧ Hid ((∀ t, t < i → order (L.getD t zeroLab) k < 0) ∧ (∀ t, j ≤ t → t < n → 0 ≤ order (L.getD t zeroLab) k)) ∧ Below B w wr ∧ rowAt wr B = some (cellsL k) ∧ B < wr.heap.size) (fun s9 s10 _ => (intOf s10 - intOf s9).toNat)
  case atStart => exact ⟨0, n, rfl, rfl, Nat.zero_le _, Nat.le_refl _, ⟨fun t h => absurd h (Nat.not_lt_zero _), fun t h1 h2 => by omega⟩, b0, r0, hz0⟩
  case round =>
    clear b0 r0 hz0
    obtain ⟨i, j, rfl, rfl, hij, hj, HI, B1, R1, Z1⟩ := hrel
    by_cases hlt : i < j
    · have hltz : (i : Int) < (j : Int) := by omega
      obtain ⟨h, hh⟩ : ∃ h, (i + j) / 2 = h := ⟨_, rfl⟩
      have hh1 : ((i : Int) + j) / 2 = h := by omega
      have hh2 : (i : Int) + j ≤ 2000000000 := by omega
      have hh0 : (0 : Int) ≤ (i : Int) + j := by omega
      have hhw : IntKind.i64.wrap ((i : Int) + j) = (i : Int) + j := by rw [IntKind.wrap_i64]; omega
      have hhl : i ≤ h ∧ h < j := by omega
      clear hh
      have hhn : h < n := by omega
      obtain ⟨g, o, c, rfl, hg, hr, hs, hx⟩ := HA.out h hhn
      have p1 := fun x : Past wr => Past.rowG ((rowG_below B1 hg).trans hr) x
      have p2 := fun x : Past wr => Past.row R1 x
      have s1 : o + h * 32 + 32 ≤ c.size := by omega
      have hhi : (h : Int) < n := by omega
      have HC := Lib.hid (fun w => HO.out (L.getD h zeroLab) w)
      obtain ⟨X, hX⟩ : ∃ X, L.getD h zeroLab = X := ⟨_, rfl⟩
      rw [hX] at HC hx
      have HIH : Hid ((order X k < 0 → ∀ t, t < h + 1 → order (L.getD t zeroLab) k < 0) ∧ (¬ order X k < 0 → ∀ t, h ≤ t → t < n → 0 ≤ order (L.getD t zeroLab) k)) := by
        constructor
        · intro q t ht
          exact HM.out t h (by omega) hhn (by rw [hX]; exact q)
        · intro q t h1 h2
          exact Int.not_lt.1 fun q2 => q (by rw [← hX]; exact HM.out h t h1 h2 q2)
      generalize order X k = z at HC HIH
      clear hs hr hX
      by_cases hz : z < 0
      · have qz : decide (z < 0) = true := decide_eq_true hz
        have HI2 : Hid ((∀ t, t < h + 1 → order (L.getD t zeroLab) k < 0) ∧ (∀ t, j ≤ t → t < n → 0 ≤ order (L.getD t zeroLab) k)) := ⟨HIH.out.1 hz, HI.out.2⟩
        clear HIH HI
        go_wp2_with fail
        refine wp_region_past (by kernel_rfl) (by kernel_rfl) ?_
        repeat (go_big_quiet_step (first | (go_at_call 61; exact Past.call (HC.out _)) | (go_at_fn 61; exact Past.call (HC.out _))))
        refine wpQuiet_nil ?_
        intro w2 hw2
        obtain ⟨⟨wn, hn⟩, rfl⟩ := hw2
        try dsimp only
        have B2 := B1.trans (hn.mono (Nat.le_of_lt Z1))
        have R2 := rowAt_past hn R1
        have Z2 := Nat.lt_of_lt_of_le Z1 hn.size
        clear hn p1 p2 s1 hx HC B1 R1 Z1
        go_wp2
        go_roundw
        case rel => exact ⟨h + 1, j, by go_num, rfl, by omega, hj, HI2, B2, R2, Z2⟩
        case measure => simp [intOf]; omega
      · have qz : decide (z < 0) = false := decide_eq_false hz
        have HI2 : Hid ((∀ t, t < i → order (L.getD t zeroLab) k < 0) ∧ (∀ t, h ≤ t → t < n → 0 ≤ order (L.getD t zeroLab) k)) := ⟨HI.out.1, HIH.out.2 hz⟩
        clear HIH HI
        go_wp2_with fail
        refine wp_region_past (by kernel_rfl) (by kernel_rfl) ?_
        repeat (go_big_quiet_step (first | (go_at_call 61; exact Past.call (HC.out _)) | (go_at_fn 61; exact Past.call (HC.out _))))
        refine wpQuiet_nil ?_
        intro w2 hw2
        obtain ⟨⟨wn, hn⟩, rfl⟩ := hw2
        try dsimp only
        have B2 := B1.trans (hn.mono (Nat.le_of_lt Z1))
        have R2 := rowAt_past hn R1
        have Z2 := Nat.lt_of_lt_of_le Z1 hn.size
        clear hn p1 p2 s1 hx HC B1 R1 Z1
        go_wp2
        go_roundw
        case rel => exact ⟨i, h, rfl, rfl, by omega, by omega, HI2, B2, R2, Z2⟩
        case measure => simp [intOf]; omega
    · obtain rfl : i = j := by omega
      have hltz : ¬ (i : Int) < (i : Int) := by omega
      by_cases hin : i < n
      · have hini : (i : Int) < n := by omega
        obtain ⟨g, o, c, rfl, hg, hr, hs, hx⟩ := HA.out i hin
        have p1 := fun x : Past wr => Past.rowG ((rowG_below B1 hg).trans hr) x
        have p2 := fun x : Past wr => Past.row R1 x
        have s1 : o + i * 32 + 32 ≤ c.size := by omega
        have HC := Lib.hid (fun w => HO.out (L.getD i zeroLab) w)
        generalize L.getD i zeroLab = X at HC hx
        generalize order X k = z at HC
        clear hs hr
        go_wp2_with fail
        refine wp_region_past (by kernel_rfl) (by kernel_rfl) ?_
        repeat (go_big_quiet_step (first | (go_at_call 61; exact Past.call (HC.out _)) | (go_at_fn 61; exact Past.call (HC.out _))))
        refine wpQuiet_nil ?_
        intro w2 hw2
        obtain ⟨⟨wn, hn⟩, rfl⟩ := hw2
        try dsimp only
        have B2 := B1.trans (hn.mono (Nat.le_of_lt Z1))
        clear hn p1 p2 s1 hx HC B1 R1 Z1
        go_wp2
        go_ret2
        exact ⟨⟨i, _, rfl, hj, HI.out.1, HI.out.2⟩, B2⟩
      · have hini : ¬ (i : Int) < n := by omega
        go_wp2_with fail
        refine wp_region_past (by kernel_rfl) (by kernel_rfl) ?_
        repeat (go_big_quiet_step (fail))
        refine wpQuiet_nil ?_
        intro w2 hw2
        obtain ⟨⟨wn, hn⟩, rfl⟩ := hw2
        try dsimp only
        have B2 := B1.trans (hn.mono (Nat.le_of_lt Z1))
        clear hn B1 R1 Z1
        go_wp2
        go_ret2
        exact ⟨⟨i, _, rfl, hj, HI.out.1, HI.out.2⟩, B2⟩
end Go.Proofs.YtppgmphojklaeaaGreatDoor
namespace Go.Proofs.YtppgmphojklaeaaGreatDoor
open Go Go.RowKit Go.Sort Go.Lib

set_option maxRecDepth 100000 in
set_option maxHeartbeats 2000000 in
theorem paAmong_any (v : Value) (L : List Lab) (hL : L.length ≤ 1000000) (w : World) (hA : AtL w.heap.size w v L) :
    Calls Tryz.prog 63 #[v] w fun e w' => ∃ (p : Nat) (u : Value) (S : List Lab), e = .returned (.func (.func 136) #[] #[.pointer (some ⟨p, 0, none⟩)]) ∧ w'.heap[p]? = some (.cells #[u] 39 (0, 0)) ∧ w.heap.size ≤ p ∧ S.Perm L ∧ NoInv (ltOf order) S ∧ OwnL w' w.heap.size u S ∧ Below w.heap.size w w' := by
  obtain ⟨ao, cap, rfl, hA2⟩ := hA
  have b1 : Below w.heap.size w (w.alloc (.cells #[.slice ao L.length cap] 39)) := (Below.refl _ _).alloc (Nat.le_refl _) _
  have hA1 : AtL w.heap.size (w.alloc (.cells #[.slice ao L.length cap] 39)) (.slice ao L.length cap) L := AtL.below ⟨ao, cap, rfl, hA2⟩ (Nat.le_refl _) b1
  have hc : (w.alloc (.cells #[.slice ao L.length cap] 39)).cell? ⟨w.heap.size, 0, none⟩ = some (.slice ao L.length cap) := (Lib.cell_of_heap (World.alloc_heap_new w _) 0).trans rfl
  have hs : w.heap.size < (w.alloc (.cells #[.slice ao L.length cap] 39)).heap.size := by rw [World.size_alloc]; omega
  have HS := Lib.hid (sortedL_any w.heap.size cap ao L hL _ hc hs (hA1.below (Nat.le_of_lt hs) (Below.refl _ _)))
  have HV := Lib.hid (valsL_any ao L.length cap w)
  clear hA2 hA1 hc
  go_enter Tryz.func63, Tryz.ntmps63
  go_wp2_with fail
  refine HV.out.mono ?_
  rintro e w2 ⟨rfl, rfl⟩
  go_wp2_with fail
  refine HS.out.mono ?_
  rintro e w3 ⟨u, S, rfl, h1, h2, h3, h4⟩
  have O3 : OwnL w3 w.heap.size u S := h3.base (Nat.le_of_lt hs)
  have B3 : Below w.heap.size w w3 := b1.trans (h4.mono (Nat.le_of_lt hs))
  have hz := B3.size
  obtain ⟨ao', cap', rfl⟩ := O3.shape
  have O4 := Lib.hid (O3.below ((Below.refl w3.heap.size w3).alloc (Nat.le_refl _) (.cells #[.slice ao' S.length cap'] 39)))
  have B4 := Lib.hid (B3.alloc hz (.cells #[.slice ao' S.length cap'] 39))
  have x4 := Lib.hid (World.alloc_heap_new w3 (.cells #[.slice ao' S.length cap'] 39))
  have H1 := Lib.hid h1
  have H2 := Lib.hid h2
  clear h1 h2 h3 h4 HS HV b1 O3 B3
  go_wp2_with fail
  go_ret
  exact ⟨w3.heap.size, _, S, rfl, x4.out, hz, H1.out, H2.out, O4.out, B4.out⟩
/-- Does the first label that isn't below begin so? -/
def touchAt (S : List Lab) (n : Int) (b : Lab) (c : Nat) : Bool := if c < S.length then has n b (S.getD c zeroLab) else false
def firstAt (S : List Lab) (b : Lab) (c : Nat) : Prop := c ≤ S.length ∧ (∀ t, t < c → order (S.getD t zeroLab) b < 0) ∧ (∀ t, c ≤ t → t < S.length → 0 ≤ order (S.getD t zeroLab) b)
theorem rise_first {S : List Lab} (h : NoInv (ltOf order) S) (b : Lab) : ∀ i j, i ≤ j → j < S.length → order (S.getD j zeroLab) b < 0 → order (S.getD i zeroLab) b < 0 := by
  intro i j hij hj hlt
  have hw := weakL
  by_cases e : i = j
  · subst e
    exact hlt
  · have hi : i < S.length := by omega
    have hp := List.pairwise_iff_getElem.1 h i j hi hj (by omega)
    rw [List.getD_eq_getElem?_getD, List.getElem?_eq_getElem hj] at hlt
    rw [List.getD_eq_getElem?_getD, List.getElem?_eq_getElem hi]
    exact of_decide_eq_true (hw.lt_of' hp (decide_eq_true hlt))
set_option maxRecDepth 100000 in
set_option maxHeartbeats 2000000 in
theorem paAmong1_any (p : Nat) (ao : Option Addr) (cap : Nat) (S : List Lab) (n : Int) (b : Lab) (w : World) (hS : S.length ≤ 1000000) (hs : NoInv (ltOf order) S) (hp : w.cell? ⟨p, 0, none⟩ = some (.slice ao S.length cap)) (hA : AtL w.heap.size w (.slice ao S.length cap) S) :
    Calls Tryz.prog 136 #[.agg (cellsP n b), .pointer (some ⟨p, 0, none⟩)] w fun e w' => (∃ c, e = .returned (.bool (touchAt S n b c)) ∧ firstAt S b c) ∧ Below w.heap.size w w' := by
  have b0 : Below w.heap.size w (w.alloc (.cells (cellsP n b) 53)) := (Below.refl _ _).alloc (Nat.le_refl _) _
  have r0 : rowAt (w.alloc (.cells (cellsP n b) 53)) w.heap.size = some (cellsP n b) := rowAt_alloc_at _ _ _ _ rfl
  have hsz : w.heap.size < (w.alloc (.cells (cellsP n b) 53)).heap.size := by rw [World.size_alloc]; omega
  have A1 : AtL (w.alloc (.cells (cellsP n b) 53)).heap.size (w.alloc (.cells (cellsP n b) 53)) (.slice ao S.length cap) S := AtL.below (hA.below (Nat.le_refl _) b0) (Nat.le_of_lt hsz) (Below.refl _ _)
  have c1 : (w.alloc (.cells (cellsP n b) 53)).cell? ⟨p, 0, none⟩ = some (.slice ao S.length cap) := (b0.cell (p := ⟨p, 0, none⟩) (cellLt hp)).trans hp
  have HF := Lib.hid (binL_any ao cap S b (w.alloc (.cells (cellsP n b) 53)) hS A1 (rise_first hs b))
  have HA := Lib.hid A1
  obtain ⟨m, hm⟩ : ∃ m, S.length = m := ⟨_, rfl⟩
  have HM : Hid (S.length = m) := hm
  have hm1 : (m : Int) ≤ 1000000 := by omega
  rw [hm] at c1 HF
  clear hA A1 hp hs hS hm
  go_enter Tryz.func136, Tryz.ntmps136
  go_wp2_with fail
  generalize w.alloc (.cells (cellsP n b) 53) = W at *
  refine HF.out.mono ?_
  rintro e w2 ⟨⟨c, q, rfl, z1, z2, z3⟩, b2⟩
  have b3 := below_past b0 b2 b0.size
  have r2 := rowAt_past b2 r0
  have c2 : w2.cell? ⟨p, 0, none⟩ = some (.slice ao m cap) := (b2.cell (p := ⟨p, 0, none⟩) (cellLt c1)).trans c1
  have HZ : Hid (firstAt S b c) := by
    show firstAt S b c
    rw [firstAt, HM.out]
    exact ⟨z1, z2, z3⟩
  have A2 := AtL.below (HA.out.below (Nat.le_refl _) b2) b2.size (Below.refl _ _)
  clear HF HA b0 r0 c1 b2 z2 z3 hsz
  have k2 := fun x : Past w2 => (Past.cell (cellLt c2) x).trans c2
  have p2 := fun x : Past w2 => Past.row r2 x
  by_cases hc : c < m
  · have hci : (c : Int) < m := by omega
    obtain ⟨ao', cap', e0, hA2⟩ := A2
    injection e0 with e1 e2 e3
    subst e1
    obtain ⟨g, o, cur, rfl, hg, hr, hs, hx⟩ := hA2 c (by rw [HM.out]; exact hc)
    have p1 := fun x : Past w2 => Past.rowG hr x
    have s1 : o + c * 32 + 32 ≤ cur.size := by omega
    have HT : Hid (touchAt S n b c = has n b (S.getD c zeroLab)) := by
      show _ = _
      rw [touchAt, if_pos (by rw [HM.out]; exact hc)]
    have HC := Lib.hid (fun w => Has_any n b (S.getD c zeroLab) w)
    generalize S.getD c zeroLab = X at HC HT hx
    generalize has n b X = z at HC HT
    clear hA2 hs e2 e3 hr
    go_wp2_with fail
    refine wp_region_past (by kernel_rfl) (by kernel_rfl) ?_
    repeat (go_big_quiet_step (first | (go_at_call 83; exact Past.call (HC.out _))))
    refine wpQuiet_nil ?_
    intro w2 hw2
    obtain ⟨⟨wn, hn⟩, rfl⟩ := hw2
    try dsimp only
    have B4 := below_past b3 hn b3.size
    clear hn p1 p2 k2 hx HC b3 r2 c2
    go_wp2
    go_ret
    exact ⟨⟨c, by rw [HT.out]; rfl, HZ.out⟩, B4⟩
  · have hci : ¬ (c : Int) < m := by omega
    have HT : Hid (touchAt S n b c = false) := by
      show _ = _
      rw [touchAt, if_neg (by rw [HM.out]; exact hc)]
    go_wp2_with fail
    refine wp_region_past (by kernel_rfl) (by kernel_rfl) ?_
    repeat (go_big_quiet_step (fail))
    refine wpQuiet_nil ?_
    intro w2 hw2
    obtain ⟨⟨wn, hn⟩, rfl⟩ := hw2
    try dsimp only
    have B4 := below_past b3 hn b3.size
    clear hn p2 k2 b3 r2 c2 A2
    go_wp2
    go_ret
    exact ⟨⟨c, by rw [HT.out]; rfl, HZ.out⟩, B4⟩
end Go.Proofs.YtppgmphojklaeaaGreatDoor
namespace Go.Proofs.YtppgmphojklaeaaGreatDoor
open Go Go.RowKit Go.Sort Go.Lib

theorem noinv_le {S : List Lab} (h : NoInv (ltOf order) S) {i j : Nat} (hij : i ≤ j) (hj : j < S.length) : order (S.getD i zeroLab) (S.getD j zeroLab) ≤ 0 := by
  by_cases e : i = j
  · subst e
    rw [order_zero.2 rfl]
    exact Int.le_refl _
  · have hi : i < S.length := by omega
    have hp := List.pairwise_iff_getElem.1 h i j hi hj (by omega)
    have hp2 : ¬ order S[j] S[i] < 0 := of_decide_eq_false hp
    rw [List.getD_eq_getElem?_getD, List.getD_eq_getElem?_getD, List.getElem?_eq_getElem hi, List.getElem?_eq_getElem hj]
    show order S[i] S[j] ≤ 0
    by_cases h0 : 0 < order S[i] S[j]
    · exact absurd (order_swap.2 h0) hp2
    · omega
theorem cut_order (a : Lab) (n : Nat) : order (cut a n) a ≤ 0 := by
  have hc := common_is (cut a n) a
  refine order_le.2 ?_
  by_cases h : common (cut a n) a = 256
  · exact .inl (common_256.1 h)
  · have hl : common (cut a n) a < 256 := by have := hc.le; omega
    have ho := hc.other hl
    have hb := bit_cut a n (common (cut a n) a) hl
    refine .inr ⟨_, hl, rfl, ?_, ?_⟩
    · rw [hb] at ho ⊢
      split
      · rename_i h1
        rw [if_pos h1] at ho
        exact absurd rfl ho
      · rfl
    · have hlt := bit_lt a (common (cut a n) a)
      rw [hb] at ho
      split at ho
      · exact absurd rfl ho
      · omega
/-- What a search in the sorted labels finds is whether any label begins so. -/
theorem touch_any {S : List Lab} (hS : NoInv (ltOf order) S) {n : Int} {b : Lab} {c : Nat} (hf : firstAt S b c) : touchAt S n b c = S.any (has n b) := by
  cases hg : good n b with
  | false =>
    have hh : ∀ l, has n b l = false := fun l => by unfold has; rw [hg]; rfl
    unfold touchAt
    rw [hh, show S.any (has n b) = false from List.any_eq_false.2 fun l _ => by rw [hh]; decide]
    split <;> rfl
  | true =>
    obtain ⟨m, rfl, hm, hc⟩ := good_nat hg
    have hh : ∀ l, has (m : Int) b l = true ↔ m ≤ common b l := fun l => by
      unfold has
      rw [hg, Bool.true_and, decide_eq_true_iff]
      omega
    cases hs : S.any (has (m : Int) b) with
    | false =>
      unfold touchAt
      split
      · rename_i hl
        rw [List.getD_eq_getElem?_getD, List.getElem?_eq_getElem hl]
        have := List.any_eq_false.1 hs _ (List.getElem_mem hl)
        simpa using this
      · rfl
    | true =>
      obtain ⟨l, hl, hp⟩ := List.any_eq_true.1 hs
      obtain ⟨i, hi, rfl⟩ := List.getElem_of_mem hl
      have e : S[i] = S.getD i zeroLab := by rw [List.getD_eq_getElem?_getD, List.getElem?_eq_getElem hi]; rfl
      rw [e] at hp
      have h1 := (common_ge (l := S.getD i zeroLab) hm hc).1 ((hh _).1 hp)
      have h2 : order b (S.getD i zeroLab) ≤ 0 := by
        rw [← h1]
        exact cut_order _ _
      have hci : c ≤ i := by
        by_cases hlt : i < c
        · have := hf.2.1 i hlt
          have h3 : ¬ 0 < order b (S.getD i zeroLab) := by omega
          exact absurd (order_swap.1 this) h3
        · omega
      have hcl : c < S.length := by omega
      have h4 := hf.2.2 c (Nat.le_refl _) hcl
      have h5 : order b (S.getD c zeroLab) ≤ 0 := by
        by_cases h6 : 0 < order b (S.getD c zeroLab)
        · have := order_swap.2 h6
          omega
        · omega
      have h7 := (between_math h5 (noinv_le hS hci hi)).2
      have h8 := (hh _).1 hp
      unfold touchAt
      rw [if_pos hcl]
      exact (hh _).2 (by omega)
theorem touch_perm {S L : List Lab} (h : S.Perm L) (n : Int) (b : Lab) : S.any (has n b) = L.any (has n b) := h.any_eq
/-- The parts that no label touches, and the leaves that one does; of leaves by rising labels. -/
def covF : Nat → (Int → Lab → Bool) → List Lf → List Itm × List Lf
  | 0, _, _ => ([], [])
  | f + 1, t, P =>
    if t (overL (P.map leafI)).1 (overL (P.map leafI)).2 = false then ([wholeF P.length (P.map leafI)], [])
    else if P.length = 1 then ([], P)
    else ((covF f t (P.take (forkC (P.map leafI)))).1 ++ (covF f t (P.drop (forkC (P.map leafI)))).1, (covF f t (P.take (forkC (P.map leafI)))).2 ++ (covF f t (P.drop (forkC (P.map leafI)))).2)
theorem tw_at {α : Type} (p : α → Bool) : ∀ L : List α, (L.takeWhile p).length ≤ L.length ∧ (∀ t x, t < (L.takeWhile p).length → L[t]? = some x → p x = true) ∧ (∀ x, L[(L.takeWhile p).length]? = some x → p x = false)
  | [] => ⟨Nat.le_refl _, fun t x h => absurd h (Nat.not_lt_zero _), fun x h => by cases h⟩
  | y :: L => by
    obtain ⟨h1, h2, h3⟩ := tw_at p L
    cases hp : p y with
    | false =>
      rw [List.takeWhile_cons_of_neg (by rw [hp]; decide)]
      refine ⟨Nat.zero_le _, fun t x h => absurd h (Nat.not_lt_zero _), fun x h => ?_⟩
      cases h
      exact hp
    | true =>
      rw [List.takeWhile_cons_of_pos hp]
      refine ⟨Nat.succ_le_succ h1, fun t x h hx => ?_, fun x h => ?_⟩
      · cases t with
        | zero => cases hx; exact hp
        | succ t => exact h2 t x (Nat.lt_of_succ_lt_succ h) hx
      · exact h3 x h
theorem forkC_at {L : List Itm} (h : RiseI L) : ForkAt L (forkC L) := by
  obtain ⟨h1, h2, h3⟩ := tw_at (fun x : Itm => !(bitI x.b (commonL L) == 1)) L
  have hc : forkC L = (L.takeWhile fun x => !(bitI x.b (commonL L) == 1)).length := rfl
  have hg : ∀ t (ht : t < L.length), L.getD t zeroItm = L[t] := fun t ht => by rw [List.getD_eq_getElem?_getD, List.getElem?_eq_getElem ht]; rfl
  refine ⟨h1, fun t ht => ?_, fun t ht hl => ?_⟩
  · have hl : t < L.length := Nat.lt_of_lt_of_le ht h1
    have := h2 t L[t] ht (List.getElem?_eq_getElem hl)
    unfold forkP
    rw [hg t hl]
    simpa using this
  · have hcl : forkC L < L.length := Nat.lt_of_le_of_lt ht hl
    have := h3 L[forkC L] (List.getElem?_eq_getElem hcl)
    refine fork_mono h _ _ ht hl ?_
    unfold forkP
    rw [hg _ hcl]
    simpa using this
theorem RiseI.take {L : List Itm} (h : RiseI L) (c : Nat) : RiseI (L.take c) := List.Pairwise.sublist (List.take_sublist c L) h
theorem RiseI.drop {L : List Itm} (h : RiseI L) (c : Nat) : RiseI (L.drop c) := List.Pairwise.sublist (List.drop_sublist c L) h
theorem covF_len : ∀ (f : Nat) (t : Int → Lab → Bool) (P : List Lf), 0 < P.length → RiseI (P.map leafI) → (covF f t P).1.length ≤ P.length ∧ (covF f t P).2.length ≤ P.length := by
  intro f t
  induction f with
  | zero => intro P h0 h; exact ⟨Nat.zero_le _, Nat.zero_le _⟩
  | succ f ih =>
    intro P h0 h
    unfold covF
    split
    · exact ⟨h0, Nat.zero_le _⟩
    · split
      · exact ⟨Nat.zero_le _, Nat.le_refl _⟩
      · rename_i h1
        obtain ⟨hc0, hcl⟩ := (forkC_at h).inside h (by rw [List.length_map]; omega)
        rw [List.length_map] at hcl
        have l1 : (P.take (forkC (P.map leafI))).length = forkC (P.map leafI) := by rw [List.length_take]; omega
        have l2 : (P.drop (forkC (P.map leafI))).length = P.length - forkC (P.map leafI) := List.length_drop
        have r1 := ih (P.take (forkC (P.map leafI))) (by omega) (by rw [List.map_take]; exact h.take _)
        have r2 := ih (P.drop (forkC (P.map leafI))) (by omega) (by rw [List.map_drop]; exact h.drop _)
        rw [l1] at r1
        rw [l2] at r2
        simp only [List.length_append]
        omega
end Go.Proofs.YtppgmphojklaeaaGreatDoor
