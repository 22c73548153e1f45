/- The items of leaves and of inner nodes, the sum of no leaves, the errors of nodes. Conditions: the table of the rounds' constants lies where the program lays it. -/
import Derived.Test.YtnffmgpnhlcakaaDoorNodeA
import Derived.Test.YtnffmgpnhlcakaaDoorToks
import Derived.Laws.Build
namespace Go.Proofs.YtnffmgpnhlcakaaDoor
open Go Go.RowKit

/-- An operation that enters nothing and has one value, whatever the world (a builtin). -/
theorem tokL_sure {P : Program} {ops : Array Oper} {W : World} {tok : List Nat} {R : Nat → Value → World → Prop} {Qh : Act → World → Prop} {τ : Nat → Value × World} {i : Nat} {rest : List Oper} {a : Act} {o : Oper} (v : Value)
    (hn : i ∉ tok) (hw : Region.wanted o (yielded ops a.tmps) = true) (h : ∀ x : Past W, (execOp a.eval o).run P x.w = .ok (.value v) x.w)
    (hA : wpTokL P ops W tok R Qh τ (i + 1) rest (a.put o.dst v)) : wpTokL P ops W tok R Qh τ i (o :: rest) a := by
  refine .inl ⟨hn, v, .inl ⟨hw, fun w hg => ⟨?_, ?_⟩⟩, hA⟩
  · unfold Oper.quietAt
    have e : (execOp a.eval o).run P w = .ok (.value v) w := h ⟨w, hg.1⟩
    rw [e]
    exact ⟨rfl, rfl⟩
  · intro f args w' he
    rw [h ⟨w, hg.1⟩] at he
    cases he
/-- The item of a leaf, of two items. -/
def leafI (x : Lf) : Itm := ⟨256, cut x.a 256, shaLab (leafB x), x.e⟩
def innerI (x y : Itm) : Itm := ⟨common x.b y.b, cut x.b (common x.b y.b), shaLab (innerB x y), max x.e y.e⟩
theorem strs_at0 (w : World) : StrsAt w (.slice none 0 0) [] := ⟨none, 0, rfl, fun i hi => absurd hi (Nat.not_lt_zero i)⟩

set_option maxRecDepth 100000 in
set_option maxHeartbeats 1000000 in
theorem nEmpty_any (w : World) (ht : Cubes w) : Calls Tryd.prog 36 #[] w fun e w' => e = .returned (.agg (cellsL (shaLab [18]))) ∧ Below w.heap.size w w' := by
  have b0 : Below w.heap.size w (w.alloc (.cells (cellsL zeroLab) 29)) := (Below.refl _ _).alloc (Nat.le_refl _) _
  have r0 : rowAt (w.alloc (.cells (cellsL zeroLab) 29)) w.heap.size = some (cellsL zeroLab) := rowAt_alloc_at _ _ _ _ rfl
  have HJ := Lib.hid (fun w (h : Cubes w) => Joined_any 18 (.slice none 0 0) [] w (strs_at0 w) h (by simp) (by intro t h; cases h))
  rw [show (((18 : UInt8).toNat : Nat) : Int) = 18 from rfl, show joinL 18 [] = [18] from rfl] at HJ
  have T0 := Lib.hid (ht.below b0)
  clear ht
  generalize shaLab [18] = L at *
  go_enter Tryd.func36, Tryd.ntmps36
  go_wp2_with fail
  generalize w.alloc (.cells (cellsL zeroLab) 29) = W at *
  refine (HJ.out _ T0.out).mono ?_
  rintro e w1 ⟨rfl, b1⟩
  have r1 := rowAt_past b1 r0
  have b2 := below_past b0 b1 b0.size
  clear HJ T0 b0 b1 r0
  go_wp2_with fail
  exact row_ret_labS rfl rfl rfl (rowAt_setRow_same r1 _) ⟨rfl, Below.setRow b2 (Nat.le_refl _) _⟩

set_option maxRecDepth 100000 in
set_option maxHeartbeats 1000000 in
theorem nLeafItem_any (x : Lf) (w : World) (ht : Cubes w) : Calls Tryd.prog 22 #[.agg (cellsF x)] w fun e w' => e = .returned (.agg (cellsI (leafI x))) ∧ Below w.heap.size w w' := by
  have b0 : Below w.heap.size w ((w.alloc (.cells (cellsF x) 37)).alloc (.cells (cellsI zeroItm) 43)) := ((Below.refl _ _).alloc (Nat.le_refl _) _).alloc (by simp only [World.size_alloc]; omega) _
  have r0 : rowAt ((w.alloc (.cells (cellsF x) 37)).alloc (.cells (cellsI zeroItm) 43)) w.heap.size = some (cellsF x) := (rowAt_alloc_past _ _ _ (by simp only [World.size_alloc]; omega)).trans (rowAt_alloc_at _ _ _ _ rfl)
  have r1 : rowAt ((w.alloc (.cells (cellsF x) 37)).alloc (.cells (cellsI zeroItm) 43)) (w.heap.size + 1) = some (cellsI zeroItm) := rowAt_alloc_at _ _ _ _ (by simp only [World.size_alloc])
  have T0 := Lib.hid (ht.below b0)
  have HC := Lib.hid (fun w => Cut_any x.a 256 w)
  rw [show (256 : Int).toNat = 256 from rfl, show min (max (256 : Int) 0) 256 = 256 from rfl] at HC
  have HL := Lib.hid (fun w => nleafTexts_any x w)
  have hS := leafT_short x
  have HJ := Lib.hid (fun v w hv (h : Cubes w) => Joined_any 16 v (leafT x) w hv h (by simp [leafT]) hS)
  rw [show (((16 : UInt8).toNat : Nat) : Int) = 16 from rfl] at HJ
  have fa := fun y : Past ((w.alloc (.cells (cellsF x) 37)).alloc (.cells (cellsI zeroItm) 43)) => rowAt_past y.h r0
  have c1 := fun y : Past ((w.alloc (.cells (cellsF x) 37)).alloc (.cells (cellsI zeroItm) 43)) => (cell_of_rowAt (rowAt_past y.h r0) 64).trans (get_F64 x)
  unfold leafI leafB
  generalize shaLab (joinL 16 (leafT x)) = J at *
  generalize hT : leafT x = T at *
  obtain ⟨m, hm⟩ : ∃ m, x.e = m := ⟨_, rfl⟩
  rw [hm] at c1 ⊢
  have HLX : Hid (∀ w : World, ∃ v W', Below w.heap.size w W' ∧ ∃ g, v = .slice (some ⟨g, 0, none⟩) 3 3 ∧ StrsAt W' v T) := Lib.hid fun w => ⟨_, _, (Below.refl _ _).alloc (Nat.le_refl _) _, _, rfl, by rw [← hT]; exact strs_at3 w x.a.l x.v.l (eightL x.e) _ rfl⟩
  clear ht hS hT hm
  go_enter Tryd.func22, Tryd.ntmps22
  go_wp2_with fail
  generalize (w.alloc (.cells (cellsF x) 37)).alloc (.cells (cellsI zeroItm) 43) = W at *
  obtain ⟨R, hR⟩ : ∃ R : Nat → Value → World → Prop, R 4 = (fun v W' => ∃ g, v = .slice (some ⟨g, 0, none⟩) 3 3 ∧ StrsAt W' v T) := ⟨fun _ => _, rfl⟩
  have HS : Hid (∀ i ∈ [4], ∃ v W', Below W.heap.size W W' ∧ R i v W') := Lib.hid (by
    intro i hi
    obtain rfl := List.mem_singleton.1 hi
    rw [hR]
    exact HLX.out W)
  refine wp_region_tok [4] 8 R (by kernel_rfl) (by kernel_rfl) HS.out ?_
  intro τ hτ
  rcases e1 : τ 4 with ⟨v1, W1⟩
  have t1 := hτ 4 (by simp)
  rw [e1, hR] at t1
  dsimp only at t1
  obtain ⟨hb1, g1, rfl, hc1⟩ := t1
  clear HS hτ HLX
  simp only [List.take_succ_cons, List.take_zero]
  iterate 2 (refine tokL_val (by decide) (by kernel_rfl) rfl ?_; intro K hK; go_big_quiet_op; go_big_quiet_on)
  refine tokL_call (by decide) (by kernel_rfl) (by kernel_rfl) ?_
  apply Exists.intro
  refine And.intro ?_ ?_
  focus
    intro x hg
    unfold Oper.quietAt
    go_simp
    (exact call_yields (HC.out _))
  simp only [Act.put, List.setIfInBounds_toArray, List.set_cons_succ, List.set_cons_zero]
  iterate 1 (refine tokL_val (by decide) (by kernel_rfl) rfl ?_; intro K hK; go_big_quiet_op; go_big_quiet_on)
  refine tokL_tok e1 (by decide) (by kernel_rfl) ?_ ?_
  focus
    intro x hg
    unfold wildAt
    go_simp
    (exact (HL.out _).mono (fun e w' ⟨g, he, hs, hb⟩ => ⟨_, he, hb, ⟨g, rfl⟩, hs⟩))
  simp only [Act.put, List.setIfInBounds_toArray, List.set_cons_succ, List.set_cons_zero]
  refine tokL_call (by decide) (by kernel_rfl) (by kernel_rfl) ?_
  apply Exists.intro
  refine And.intro ?_ ?_
  focus
    intro x hg
    unfold Oper.quietAt
    go_simp
    (exact call_yields (HJ.out _ _ (hc1.below (by have := hg.2 4 (by simp) (by kernel_rfl); rw [e1] at this; exact this)) (T0.out.below x.h)))
  simp only [Act.put, List.setIfInBounds_toArray, List.set_cons_succ, List.set_cons_zero]
  iterate 2 (refine tokL_val (by decide) (by kernel_rfl) rfl ?_; intro K hK; go_big_quiet_op; go_big_quiet_on)
  refine tokL_nil ?_
  simp only [List.drop_succ_cons, List.drop_zero]
  intro z hz
  have b3 := below_past b0 hz.1 b0.size
  have r3 := rowAt_past hz.1 r1
  clear hz hc1 hb1 b0 r0 r1 fa c1 T0 HC HL HJ e1 hR
  go_wp2_with fail
  exact row_ret_item rfl rfl rfl (rowAt_setRow_same r3 _) ⟨rfl, Below.setRow b3 (Nat.le_succ _) _⟩

set_option maxRecDepth 100000 in
set_option maxHeartbeats 2000000 in
theorem nInnerItem_any (x y : Itm) (w : World) (ht : Cubes w) : Calls Tryd.prog 35 #[.agg (cellsN x y)] w fun e w' => e = .returned (.agg (cellsI (innerI x y))) ∧ Below w.heap.size w w' := by
  have hle := common_le x.b y.b
  have b0 : Below w.heap.size w ((w.alloc (.cells (cellsN x y) 45)).alloc (.cells (cellsI zeroItm) 43)) := ((Below.refl _ _).alloc (Nat.le_refl _) _).alloc (by simp only [World.size_alloc]; omega) _
  have r0 : rowAt ((w.alloc (.cells (cellsN x y) 45)).alloc (.cells (cellsI zeroItm) 43)) w.heap.size = some (cellsN x y) := (rowAt_alloc_past _ _ _ (by simp only [World.size_alloc]; omega)).trans (rowAt_alloc_at _ _ _ _ rfl)
  have r1 : rowAt ((w.alloc (.cells (cellsN x y) 45)).alloc (.cells (cellsI zeroItm) 43)) (w.heap.size + 1) = some (cellsI zeroItm) := rowAt_alloc_at _ _ _ _ (by simp only [World.size_alloc])
  have T0 := Lib.hid (ht.below b0)
  have HCO := Lib.hid (fun w => Common_any x.b y.b w)
  have HC := Lib.hid (fun w => Cut_any x.b (common x.b y.b) w)
  rw [Int.toNat_natCast, show min (max ((common x.b y.b : Nat) : Int) 0) 256 = (common x.b y.b : Nat) by omega] at HC
  have HL := Lib.hid (fun w => ninnerTexts_any x y w)
  have hS := innerT_short x y
  have HJ := Lib.hid (fun v w hv (h : Cubes w) => Joined_any 17 v (innerT x y) w hv h (by simp [innerT]) hS)
  rw [show (((17 : UInt8).toNat : Nat) : Int) = 17 from rfl] at HJ
  have g65 := get_N65 x y
  have g131 := get_N131 x y
  unfold innerI innerB
  have HLX : Hid (∀ w : World, ∃ v W', Below w.heap.size w W' ∧ ∃ g, v = .slice (some ⟨g, 0, none⟩) 2 2 ∧ StrsAt W' v (innerT x y)) := Lib.hid fun w => ⟨_, _, (Below.refl _ _).alloc (Nat.le_refl _) _, _, rfl, strs_at2 w (itemT x) (itemT y) _ rfl⟩
  generalize shaLab (joinL 17 (innerT x y)) = J at *
  generalize innerT x y = T at *
  generalize cut x.b (common x.b y.b) = CU at *
  generalize common x.b y.b = cn at *
  obtain ⟨m, hm⟩ : ∃ m, x.e = m := ⟨_, rfl⟩
  obtain ⟨k, hk⟩ : ∃ k, y.e = k := ⟨_, rfl⟩
  rw [hm] at g65 ⊢
  rw [hk] at g131 ⊢
  clear ht hS hm hk hle
  go_enter Tryd.func35, Tryd.ntmps35
  go_wp2_with fail
  generalize (w.alloc (.cells (cellsN x y) 45)).alloc (.cells (cellsI zeroItm) 43) = W at *
  have hl0 := lt_of_rowAt r0
  have hl1 := lt_of_rowAt r1
  have ra := rowAt_past ((Below.refl W.heap.size W).alloc (Nat.le_refl _) (.cells (cellsL zeroLab) 29)) r0
  have rb := rowAt_past (((Below.refl W.heap.size W).alloc (Nat.le_refl _) (.cells (cellsL zeroLab) 29)).alloc (by simp) (.cells (cellsL zeroLab) 29)) r0
  go_region
  · go_wp2_with fail
    have bW : Below W.heap.size W (((W.alloc (.cells (cellsL x.b) 29)).alloc (.cells (cellsL y.b) 29)).drew) := (((Below.refl W.heap.size W).alloc (Nat.le_refl _) _).alloc (by simp) _).drew
    have q1 : rowAt (((W.alloc (.cells (cellsL x.b) 29)).alloc (.cells (cellsL y.b) 29)).drew) W.heap.size = some (cellsL x.b) := by rw [rowAt_drew, rowAt_alloc_past _ _ _ (by simp), rowAt_alloc_at _ _ _ _ rfl]
    have q2 : rowAt (((W.alloc (.cells (cellsL x.b) 29)).alloc (.cells (cellsL y.b) 29)).drew) (W.heap.size + 1) = some (cellsL y.b) := by rw [rowAt_drew]; exact rowAt_alloc_at _ _ _ _ (by simp)
    have r2 := rowAt_past bW r0
    have r3 := rowAt_past bW r1
    have T1 := Lib.hid (T0.out.below bW)
    have b1 := below_past b0 bW b0.size
    clear bW r0 r1 ra rb hl0 hl1 T0 b0
    generalize ((W.alloc (.cells (cellsL x.b) 29)).alloc (.cells (cellsL y.b) 29)).drew = W2 at *
    have fa := fun z : Past W2 => rowAt_past z.h q1
    have fb := fun z : Past W2 => rowAt_past z.h q2
    have fc := fun z : Past W2 => rowAt_past z.h r2
    have c1 := fun z : Past W2 => (cell_of_rowAt (rowAt_past z.h r2) 65).trans g65
    have c2 := fun z : Past W2 => (cell_of_rowAt (rowAt_past z.h r2) 131).trans g131
    obtain ⟨R, hR⟩ : ∃ R : Nat → Value → World → Prop, R 6 = (fun v W' => ∃ g, v = .slice (some ⟨g, 0, none⟩) 2 2 ∧ StrsAt W' v T) := ⟨fun _ => _, rfl⟩
    have HS : Hid (∀ i ∈ [6], ∃ v W', Below W2.heap.size W2 W' ∧ R i v W') := Lib.hid (by
      intro i hi
      obtain rfl := List.mem_singleton.1 hi
      rw [hR]
      exact HLX.out W2)
    refine wp_region_tok [6] 15 R (by kernel_rfl) (by kernel_rfl) HS.out ?_
    intro τ hτ
    rcases e1 : τ 6 with ⟨v1, W1⟩
    have t1 := hτ 6 (by simp)
    rw [e1, hR] at t1
    dsimp only at t1
    obtain ⟨hb1, g1, rfl, hc1⟩ := t1
    clear HS hτ HLX
    simp only [List.take_succ_cons, List.take_zero]
    iterate 3 (refine tokL_val (by decide) (by kernel_rfl) rfl ?_; intro K hK; go_big_quiet_op; go_big_quiet_on)
    refine tokL_call (by decide) (by kernel_rfl) (by kernel_rfl) ?_
    apply Exists.intro
    refine And.intro ?_ ?_
    focus
      intro x hg
      unfold Oper.quietAt
      go_simp
      (exact call_yields (HCO.out _))
    simp only [Act.put, List.setIfInBounds_toArray, List.set_cons_succ, List.set_cons_zero]
    refine tokL_call (by decide) (by kernel_rfl) (by kernel_rfl) ?_
    apply Exists.intro
    refine And.intro ?_ ?_
    focus
      intro x hg
      unfold Oper.quietAt
      go_simp
      (exact call_yields (HC.out _))
    simp only [Act.put, List.setIfInBounds_toArray, List.set_cons_succ, List.set_cons_zero]
    iterate 1 (refine tokL_val (by decide) (by kernel_rfl) rfl ?_; intro K hK; go_big_quiet_op; go_big_quiet_on)
    refine tokL_tok e1 (by decide) (by kernel_rfl) ?_ ?_
    focus
      intro x hg
      unfold wildAt
      go_simp
      (exact (HL.out _).mono (fun e w' ⟨g, he, hs, hb⟩ => ⟨_, he, hb, ⟨g, rfl⟩, hs⟩))
    simp only [Act.put, List.setIfInBounds_toArray, List.set_cons_succ, List.set_cons_zero]
    refine tokL_call (by decide) (by kernel_rfl) (by kernel_rfl) ?_
    apply Exists.intro
    refine And.intro ?_ ?_
    focus
      intro x hg
      unfold Oper.quietAt
      go_simp
      (exact call_yields (HJ.out _ _ (hc1.below (by have := hg.2 6 (by simp) (by kernel_rfl); rw [e1] at this; exact this)) (T1.out.below x.h)))
    simp only [Act.put, List.setIfInBounds_toArray, List.set_cons_succ, List.set_cons_zero]
    iterate 6 (refine tokL_val (by decide) (by kernel_rfl) rfl ?_; intro K hK; go_big_quiet_op; go_big_quiet_on)
    refine tokL_sure (.int .i64 (max m k)) (by decide) (by kernel_rfl) (fun x => by go_simp) ?_
    simp only [Act.put, List.setIfInBounds_toArray, List.set_cons_succ, List.set_cons_zero]
    refine tokL_nil ?_
    simp only [List.drop_succ_cons, List.drop_zero]
    intro z hz
    have b3 := below_past b1 hz.1 b1.size
    have r4 := rowAt_past hz.1 r3
    clear hz hc1 hb1 b1 q1 q2 r2 r3 fa fb fc c1 c2 T1 HC HCO HL HJ e1 hR
    go_wp2_with fail
    exact row_ret_item rfl rfl rfl (rowAt_setRow_same r4 _) ⟨rfl, Below.setRow b3 (Nat.le_succ _) _⟩
  · go_wp2_with fail
    have bW : Below W.heap.size W (((W.alloc (.cells (cellsL y.b) 29)).alloc (.cells (cellsL x.b) 29)).drew) := (((Below.refl W.heap.size W).alloc (Nat.le_refl _) _).alloc (by simp) _).drew
    have q1 : rowAt (((W.alloc (.cells (cellsL y.b) 29)).alloc (.cells (cellsL x.b) 29)).drew) W.heap.size = some (cellsL y.b) := by rw [rowAt_drew, rowAt_alloc_past _ _ _ (by simp), rowAt_alloc_at _ _ _ _ rfl]
    have q2 : rowAt (((W.alloc (.cells (cellsL y.b) 29)).alloc (.cells (cellsL x.b) 29)).drew) (W.heap.size + 1) = some (cellsL x.b) := by rw [rowAt_drew]; exact rowAt_alloc_at _ _ _ _ (by simp)
    have r2 := rowAt_past bW r0
    have r3 := rowAt_past bW r1
    have T1 := Lib.hid (T0.out.below bW)
    have b1 := below_past b0 bW b0.size
    clear bW r0 r1 ra rb hl0 hl1 T0 b0
    generalize ((W.alloc (.cells (cellsL y.b) 29)).alloc (.cells (cellsL x.b) 29)).drew = W2 at *
    have fa := fun z : Past W2 => rowAt_past z.h q1
    have fb := fun z : Past W2 => rowAt_past z.h q2
    have fc := fun z : Past W2 => rowAt_past z.h r2
    have c1 := fun z : Past W2 => (cell_of_rowAt (rowAt_past z.h r2) 65).trans g65
    have c2 := fun z : Past W2 => (cell_of_rowAt (rowAt_past z.h r2) 131).trans g131
    obtain ⟨R, hR⟩ : ∃ R : Nat → Value → World → Prop, R 6 = (fun v W' => ∃ g, v = .slice (some ⟨g, 0, none⟩) 2 2 ∧ StrsAt W' v T) := ⟨fun _ => _, rfl⟩
    have HS : Hid (∀ i ∈ [6], ∃ v W', Below W2.heap.size W2 W' ∧ R i v W') := Lib.hid (by
      intro i hi
      obtain rfl := List.mem_singleton.1 hi
      rw [hR]
      exact HLX.out W2)
    refine wp_region_tok [6] 15 R (by kernel_rfl) (by kernel_rfl) HS.out ?_
    intro τ hτ
    rcases e1 : τ 6 with ⟨v1, W1⟩
    have t1 := hτ 6 (by simp)
    rw [e1, hR] at t1
    dsimp only at t1
    obtain ⟨hb1, g1, rfl, hc1⟩ := t1
    clear HS hτ HLX
    simp only [List.take_succ_cons, List.take_zero]
    iterate 3 (refine tokL_val (by decide) (by kernel_rfl) rfl ?_; intro K hK; go_big_quiet_op; go_big_quiet_on)
    refine tokL_call (by decide) (by kernel_rfl) (by kernel_rfl) ?_
    apply Exists.intro
    refine And.intro ?_ ?_
    focus
      intro x hg
      unfold Oper.quietAt
      go_simp
      (exact call_yields (HCO.out _))
    simp only [Act.put, List.setIfInBounds_toArray, List.set_cons_succ, List.set_cons_zero]
    refine tokL_call (by decide) (by kernel_rfl) (by kernel_rfl) ?_
    apply Exists.intro
    refine And.intro ?_ ?_
    focus
      intro x hg
      unfold Oper.quietAt
      go_simp
      (exact call_yields (HC.out _))
    simp only [Act.put, List.setIfInBounds_toArray, List.set_cons_succ, List.set_cons_zero]
    iterate 1 (refine tokL_val (by decide) (by kernel_rfl) rfl ?_; intro K hK; go_big_quiet_op; go_big_quiet_on)
    refine tokL_tok e1 (by decide) (by kernel_rfl) ?_ ?_
    focus
      intro x hg
      unfold wildAt
      go_simp
      (exact (HL.out _).mono (fun e w' ⟨g, he, hs, hb⟩ => ⟨_, he, hb, ⟨g, rfl⟩, hs⟩))
    simp only [Act.put, List.setIfInBounds_toArray, List.set_cons_succ, List.set_cons_zero]
    refine tokL_call (by decide) (by kernel_rfl) (by kernel_rfl) ?_
    apply Exists.intro
    refine And.intro ?_ ?_
    focus
      intro x hg
      unfold Oper.quietAt
      go_simp
      (exact call_yields (HJ.out _ _ (hc1.below (by have := hg.2 6 (by simp) (by kernel_rfl); rw [e1] at this; exact this)) (T1.out.below x.h)))
    simp only [Act.put, List.setIfInBounds_toArray, List.set_cons_succ, List.set_cons_zero]
    iterate 6 (refine tokL_val (by decide) (by kernel_rfl) rfl ?_; intro K hK; go_big_quiet_op; go_big_quiet_on)
    refine tokL_sure (.int .i64 (max m k)) (by decide) (by kernel_rfl) (fun x => by go_simp) ?_
    simp only [Act.put, List.setIfInBounds_toArray, List.set_cons_succ, List.set_cons_zero]
    refine tokL_nil ?_
    simp only [List.drop_succ_cons, List.drop_zero]
    intro z hz
    have b3 := below_past b1 hz.1 b1.size
    have r4 := rowAt_past hz.1 r3
    clear hz hc1 hb1 b1 q1 q2 r2 r3 fa fb fc c1 c2 T1 HC HCO HL HJ e1 hR
    go_wp2_with fail
    exact row_ret_item rfl rfl rfl (rowAt_setRow_same r4 _) ⟨rfl, Below.setRow b3 (Nat.le_succ _) _⟩
end Go.Proofs.YtnffmgpnhlcakaaDoor
namespace Go.Proofs.YtnffmgpnhlcakaaDoor
open Go Go.RowKit

@[go_sem] theorem mk_leaf (x : Value) (w : World) : (Instr.makeInterface 37 x).run Tryd.prog w = .ok (.iface 37 x) w := run_makeInterface w 37 x (by kernel_rfl)
@[go_sem] theorem mk_inner (x : Value) (w : World) : (Instr.makeInterface 45 x).run Tryd.prog w = .ok (.iface 45 x) w := run_makeInterface w 45 x (by kernel_rfl)
@[go_sem] theorem as_leaf (v : Value) (xT : TypeId) (w : World) : (Instr.typeAssert (.iface 37 v) xT 37 true).run Tryd.prog w = .ok (.tuple #[v, .bool true]) w := by
  simp [Instr.typeAssert, run_underlying Tryd.underlying37]
@[go_sem] theorem as_inner (v : Value) (xT : TypeId) (w : World) : (Instr.typeAssert (.iface 45 v) xT 45 true).run Tryd.prog w = .ok (.tuple #[v, .bool true]) w := by
  simp [Instr.typeAssert, run_underlying Tryd.underlying45]
@[go_sem] theorem as_leaf_inner (v : Value) (xT : TypeId) (w : World) : (Instr.typeAssert (.iface 45 v) xT 37 true).run Tryd.prog w = .ok (.tuple #[.agg (cellsF zeroLf), .bool false]) w := by
  simp [Instr.typeAssert, run_underlying Tryd.underlying37, zeroOf_leaf, zero_leaf]
@[go_sem] theorem as_inner_leaf (v : Value) (xT : TypeId) (w : World) : (Instr.typeAssert (.iface 37 v) xT 45 true).run Tryd.prog w = .ok (.tuple #[.agg (cellsN zeroItm zeroItm), .bool false]) w := by
  simp [Instr.typeAssert, run_underlying Tryd.underlying45, zeroOf_inner, zero_inner]
@[go_sem] theorem as_leaf_nil (xT : TypeId) (w : World) : (Instr.typeAssert .nilIface xT 37 true).run Tryd.prog w = .ok (.tuple #[.agg (cellsF zeroLf), .bool false]) w := by
  simp [Instr.typeAssert, run_underlying Tryd.underlying37, zeroOf_leaf, zero_leaf]
@[go_sem] theorem as_inner_nil (xT : TypeId) (w : World) : (Instr.typeAssert .nilIface xT 45 true).run Tryd.prog w = .ok (.tuple #[.agg (cellsN zeroItm zeroItm), .bool false]) w := by
  simp [Instr.typeAssert, run_underlying Tryd.underlying45, zeroOf_inner, zero_inner]

/-- May it be an epoch? -/
def epB (n : Int) : Bool := decide (0 ≤ n) && decide (n ≤ 1073741824)
def goodI (x : Itm) : Bool := good x.n x.b && epB x.e
/-- The error of two items. -/
def chkI (x y : Itm) : Int := if (goodI x && goodI y) = true then (if x.n ≤ common x.b y.b ∨ y.n ≤ common x.b y.b ∨ order x.b y.b ≠ -1 then 3 else 0) else 1
def chkF (x : Lf) : Int := if epB x.e = true then 0 else 1

set_option maxRecDepth 100000 in
theorem nisEpoch_any (n : Int) (w : World) : Calls Tryd.prog 82 #[.int .i64 n] w fun e w' => e = .returned (.bool (epB n)) ∧ w' = w := by
  unfold epB
  by_cases h0 : 0 ≤ n
  · have h0' : decide (0 ≤ n) = true := decide_eq_true h0
    by_cases h1 : n ≤ 1073741824
    · have h1' : decide (n ≤ 1073741824) = true := decide_eq_true h1
      go_enter Tryd.func82, Tryd.ntmps82
      go_wp2_with fail
      go_ret
      exact ⟨by first | rfl | (rw [h0', h1']; rfl), rfl⟩
    · have h1' : decide (n ≤ 1073741824) = false := decide_eq_false h1
      go_enter Tryd.func82, Tryd.ntmps82
      go_wp2_with fail
      go_ret
      exact ⟨by first | rfl | (rw [h0', h1']; rfl), rfl⟩
  · have h0' : decide (0 ≤ n) = false := decide_eq_false h0
    go_enter Tryd.func82, Tryd.ntmps82
    go_wp2_with fail
    go_ret
    exact ⟨by first | rfl | (rw [h0']; rfl), rfl⟩

set_option maxRecDepth 100000 in
theorem nGood_any (x : Itm) (w : World) : Calls Tryd.prog 83 #[.agg (cellsI x)] w fun e w' => e = .returned (.bool (goodI x)) ∧ Below w.heap.size w w' := by
  have b0 : Below w.heap.size w (w.alloc (.cells (cellsI x) 43)) := (Below.refl _ _).alloc (Nat.le_refl _) _
  have r0 : rowAt (w.alloc (.cells (cellsI x) 43)) w.heap.size = some (cellsI x) := rowAt_alloc_at _ _ _ _ rfl
  have HG := Lib.hid (fun w => Good_any x.n x.b w)
  have HE := Lib.hid (fun w => nisEpoch_any x.e w)
  have g65 := get_I65 x
  unfold goodI
  generalize good x.n x.b = g at *
  generalize epB x.e = p at *
  obtain ⟨m, hm⟩ : ∃ m, x.e = m := ⟨_, rfl⟩
  rw [hm] at g65 HE
  clear hm
  go_enter Tryd.func83, Tryd.ntmps83
  go_wp2_with fail
  generalize w.alloc (.cells (cellsI x) 43) = W at *
  refine (HG.out _).mono ?_
  rintro e w1 ⟨rfl, b1⟩
  have c1 := (cell_of_rowAt (rowAt_past b1 r0) 65).trans g65
  have b2 := below_past b0 b1 b0.size
  clear b0 b1 HG r0 g65
  cases g
  · go_wp2_with fail
    go_ret
    exact ⟨rfl, b2⟩
  · go_wp2_with fail
    refine (HE.out _).mono ?_
    rintro e w2 ⟨rfl, rfl⟩
    go_wp2_with fail
    go_ret
    exact ⟨rfl, b2⟩

set_option maxRecDepth 100000 in
theorem r15Good_any (x : Itm) (w : World) : Calls Tryd.prog 45 #[.agg (cellsI x)] w fun e w' => e = .returned (.bool (goodI x)) ∧ Below w.heap.size w w' := by
  have b0 : Below w.heap.size w (w.alloc (.cells (cellsI x) 33)) := (Below.refl _ _).alloc (Nat.le_refl _) _
  have r0 : rowAt (w.alloc (.cells (cellsI x) 33)) w.heap.size = some (cellsI x) := rowAt_alloc_at _ _ _ _ rfl
  have HG := Lib.hid (fun w => rGood_any x.n x.b w)
  have g0 := get_I0 x
  have g65 := get_I65 x
  unfold goodI epB
  obtain ⟨n, hn⟩ : ∃ n, x.n = n := ⟨_, rfl⟩
  obtain ⟨m, hm⟩ : ∃ m, x.e = m := ⟨_, rfl⟩
  rw [hn] at g0 HG ⊢
  rw [hm] at g65 ⊢
  have c0 := (cell_of_rowAt r0 0).trans g0
  generalize good n x.b = g at *
  clear hm hn
  go_enter Tryd.func45, Tryd.ntmps45
  go_wp2_with fail
  generalize w.alloc (.cells (cellsI x) 33) = W at *
  refine (HG.out _).mono ?_
  rintro e w1 ⟨rfl, b1⟩
  have c1 := (cell_of_rowAt (rowAt_past b1 r0) 65).trans g65
  have b2 := below_past b0 b1 b0.size
  clear b0 b1 HG r0 g65 g0 c0
  cases g
  · go_wp2_with fail
    go_ret
    exact ⟨rfl, b2⟩
  · by_cases h0 : 0 ≤ m
    · have h0' : decide (0 ≤ m) = true := decide_eq_true h0
      by_cases h1 : m ≤ 1073741824
      · have h1' : decide (m ≤ 1073741824) = true := decide_eq_true h1
        go_wp2_with fail
        go_ret
        exact ⟨by first | rfl | (rw [h0', h1']; rfl), b2⟩
      · have h1' : decide (m ≤ 1073741824) = false := decide_eq_false h1
        go_wp2_with fail
        go_ret
        exact ⟨by first | rfl | (rw [h0', h1']; rfl), b2⟩
    · have h0' : decide (0 ≤ m) = false := decide_eq_false h0
      go_wp2_with fail
      go_ret
      exact ⟨by first | rfl | (rw [h0']; rfl), b2⟩

set_option maxRecDepth 100000 in
theorem nleafFault_any (x : Lf) (w : World) : Calls Tryd.prog 75 #[.agg (cellsF x)] w fun e w' => e = .returned (.int .i64 (chkF x)) ∧ Below w.heap.size w w' := by
  have b0 : Below w.heap.size w (w.alloc (.cells (cellsF x) 37)) := (Below.refl _ _).alloc (Nat.le_refl _) _
  have r0 : rowAt (w.alloc (.cells (cellsF x) 37)) w.heap.size = some (cellsF x) := rowAt_alloc_at _ _ _ _ rfl
  have HE := Lib.hid (fun w => nisEpoch_any x.e w)
  have c1 := (cell_of_rowAt r0 64).trans (get_F64 x)
  unfold chkF
  generalize epB x.e = p at *
  obtain ⟨m, hm⟩ : ∃ m, x.e = m := ⟨_, rfl⟩
  rw [hm] at c1 HE
  clear hm
  go_enter Tryd.func75, Tryd.ntmps75
  go_wp2_with fail
  refine (HE.out _).mono ?_
  rintro e w1 ⟨rfl, rfl⟩
  cases p
  · go_wp2_with fail
    go_ret
    exact ⟨rfl, b0⟩
  · go_wp2_with fail
    go_ret
    exact ⟨rfl, b0⟩
end Go.Proofs.YtnffmgpnhlcakaaDoor
namespace Go.Proofs.YtnffmgpnhlcakaaDoor
open Go Go.RowKit

theorem common_sym (a b : Lab) : common a b = common b a := by
  refine common_of ?_
  have h := common_is b a
  exact ⟨h.le, fun i hi => (h.same i hi).symm, fun hlt => fun e => h.other hlt e.symm⟩
theorem order_one (a b : Lab) (h : common a b < 256) : order a b = 1 ∨ order a b = -1 := by
  unfold order
  rw [if_neg (by omega)]
  have := bit_lt a (common a b)
  omega
/-- The errors of two items, step by step. -/
theorem chkI_steps (x y : Itm) : chkI x y = if goodI x = false then 1 else if goodI y = false then 1 else if over x.n x.b y.n y.b = true then 3 else if over y.n y.b x.n x.b = true then 3 else if decide (0 < order x.b y.b) = true then 3 else 0 := by
  unfold chkI
  cases hx : goodI x
  · simp
  cases hy : goodI y
  · simp
  simp only [Bool.and_self, if_true, Bool.true_eq_false, if_false]
  have gx : good x.n x.b = true := by unfold goodI at hx; revert hx; cases good x.n x.b <;> simp
  have gy : good y.n y.b = true := by unfold goodI at hy; revert hy; cases good y.n y.b <;> simp
  obtain ⟨n, hn, hn2, _⟩ := good_nat gx
  obtain ⟨m, hm, hm2, _⟩ := good_nat gy
  have hs := common_sym y.b x.b
  unfold over has
  rw [gx, gy, hn, hm, hs]
  simp only [Bool.true_and]
  have ho := order_one x.b y.b
  generalize common x.b y.b = c at *
  generalize order x.b y.b = o at *
  by_cases h1 : (n : Int) ≤ c
  · rw [if_pos (.inl h1)]
    by_cases h2 : (n : Int) ≤ m
    · simp [h1, h2]
    · have h3 : (m : Int) ≤ n := by omega
      have h4 : (m : Int) ≤ c := by omega
      simp [h2, h3, h4]
  · by_cases h4 : (m : Int) ≤ c
    · rw [if_pos (.inr (.inl h4))]
      have h3 : (m : Int) ≤ n := by omega
      simp [h1, h3, h4]
    · have hc : c < 256 := by omega
      rcases ho hc with rfl | rfl
      · simp [h1, h4]
      · simp [h1, h4]

set_option maxRecDepth 100000 in
set_option maxHeartbeats 2000000 in
theorem r15Check_any (x y : Itm) (w : World) : Calls Tryd.prog 16 #[.agg (cellsI x), .agg (cellsI y)] w fun e w' => e = .returned (.int .i64 (chkI x y)) ∧ Below w.heap.size w w' := by
  have b0 : Below w.heap.size w ((w.alloc (.cells (cellsI x) 33)).alloc (.cells (cellsI y) 33)) := ((Below.refl _ _).alloc (Nat.le_refl _) _).alloc (by simp only [World.size_alloc]; omega) _
  have r0 : rowAt ((w.alloc (.cells (cellsI x) 33)).alloc (.cells (cellsI y) 33)) w.heap.size = some (cellsI x) := (rowAt_alloc_past _ _ _ (by simp only [World.size_alloc]; omega)).trans (rowAt_alloc_at _ _ _ _ rfl)
  have r1 : rowAt ((w.alloc (.cells (cellsI x) 33)).alloc (.cells (cellsI y) 33)) (w.heap.size + 1) = some (cellsI y) := rowAt_alloc_at _ _ _ _ (by simp only [World.size_alloc])
  have HG1 := Lib.hid (fun w => r15Good_any x w)
  have HG2 := Lib.hid (fun w => r15Good_any y w)
  have HCO := Lib.hid (fun w => rCommon_any x.b y.b w)
  have HOR := Lib.hid (fun w => rOrder_any x.b y.b w)
  have gx := get_I0 x
  have gy := get_I0 y
  unfold chkI
  obtain ⟨n, hn⟩ : ∃ n, x.n = n := ⟨_, rfl⟩
  obtain ⟨m, hm⟩ : ∃ m, y.n = m := ⟨_, rfl⟩
  rw [hn] at gx ⊢
  rw [hm] at gy ⊢
  clear hn hm
  generalize goodI x = g1 at *
  generalize goodI y = g2 at *
  generalize common x.b y.b = c at *
  generalize order x.b y.b = o at *
  obtain ⟨E, hE⟩ : ∃ E : Int, (if (g1 && g2) = true then (if n ≤ (c : Int) ∨ m ≤ (c : Int) ∨ o ≠ -1 then 3 else 0) else 1) = E := ⟨_, rfl⟩
  rw [hE]
  have HE := Lib.hid hE
  clear hE
  go_enter Tryd.func16, Tryd.ntmps16
  go_wp2_with fail
  generalize (w.alloc (.cells (cellsI x) 33)).alloc (.cells (cellsI y) 33) = W at *
  refine (HG1.out _).mono ?_
  rintro e w1 ⟨rfl, b1⟩
  have r2 := rowAt_past b1 r0
  have r3 := rowAt_past b1 r1
  have b2 := below_past b0 b1 b0.size
  clear b0 b1 HG1 r0 r1
  cases g1
  · obtain rfl : E = 1 := by rw [← HE.out]; rfl
    go_wp2_with fail
    go_ret
    exact ⟨rfl, b2⟩
  go_wp2_with fail
  refine (HG2.out _).mono ?_
  rintro e w2 ⟨rfl, b1⟩
  have r0 := rowAt_past b1 r2
  have r1 := rowAt_past b1 r3
  have b3 := below_past b2 b1 b2.size
  clear b2 b1 HG2 r2 r3
  cases g2
  · obtain rfl : E = 1 := by rw [← HE.out]; rfl
    go_wp2_with fail
    go_ret
    exact ⟨rfl, b3⟩
  go_wp2_with fail
  refine (HCO.out _).mono ?_
  rintro e w3 ⟨rfl, b1⟩
  have r2 := rowAt_past b1 r0
  have r3 := rowAt_past b1 r1
  have c0 := (cell_of_rowAt r2 0).trans gx
  have c1 := (cell_of_rowAt r3 0).trans gy
  have b2 := below_past b3 b1 b3.size
  clear b3 b1 HCO r0 r1
  by_cases h1 : n ≤ (c : Int)
  · have h1' : decide (n ≤ (c : Int)) = true := decide_eq_true h1
    obtain rfl : E = 3 := by rw [← HE.out]; simp [h1]
    go_wp2_with fail
    go_ret
    exact ⟨rfl, b2⟩
  · have h1' : decide (n ≤ (c : Int)) = false := decide_eq_false h1
    by_cases h2 : m ≤ (c : Int)
    · have h2' : decide (m ≤ (c : Int)) = true := decide_eq_true h2
      obtain rfl : E = 3 := by rw [← HE.out]; simp [h2]
      go_wp2_with fail
      go_ret
      exact ⟨rfl, b2⟩
    · have h2' : decide (m ≤ (c : Int)) = false := decide_eq_false h2
      go_wp2_with fail
      refine (HOR.out _).mono ?_
      rintro e w4 ⟨rfl, b1⟩
      have b3 := below_past b2 b1 b2.size
      clear HOR b2 b1 c0 c1 r2 r3
      by_cases h3 : o = -1
      · obtain rfl : E = 0 := by rw [← HE.out]; simp [h1, h2, h3]
        subst h3
        go_wp2_with fail
        go_ret
        exact ⟨rfl, b3⟩
      · have h3' : (o != -1) = true := by rw [bne_iff_ne]; exact h3
        obtain rfl : E = 3 := by rw [← HE.out]; simp [h3]
        go_wp2_with fail
        go_ret
        exact ⟨rfl, b3⟩
end Go.Proofs.YtnffmgpnhlcakaaDoor
namespace Go.Proofs.YtnffmgpnhlcakaaDoor
open Go Go.RowKit

set_option maxRecDepth 100000 in
set_option maxHeartbeats 2000000 in
theorem ninnerFault_any (x y : Itm) (w : World) : Calls Tryd.prog 76 #[.agg (cellsN x y)] w fun e w' => e = .returned (.int .i64 (chkI x y)) ∧ Below w.heap.size w w' := by
  have b0 : Below w.heap.size w (w.alloc (.cells (cellsN x y) 45)) := (Below.refl _ _).alloc (Nat.le_refl _) _
  have r0 : rowAt (w.alloc (.cells (cellsN x y) 45)) w.heap.size = some (cellsN x y) := rowAt_alloc_at _ _ _ _ rfl
  have HG1 := Lib.hid (fun w => nGood_any x w)
  have HG2 := Lib.hid (fun w => nGood_any y w)
  have HO1 := Lib.hid (fun w => Over_any x.n x.b y.n y.b w)
  have HO2 := Lib.hid (fun w => Over_any y.n y.b x.n x.b w)
  have HOR := Lib.hid (fun w => Order_any x.b y.b w)
  rw [chkI_steps]
  generalize goodI x = g1 at *
  generalize goodI y = g2 at *
  generalize over x.n x.b y.n y.b = o1 at *
  generalize over y.n y.b x.n x.b = o2 at *
  generalize order x.b y.b = o at *
  obtain ⟨E, hE⟩ : ∃ E : Int, (if g1 = false then 1 else if g2 = false then 1 else if o1 = true then 3 else if o2 = true then 3 else if decide (0 < o) = true then 3 else 0) = E := ⟨_, rfl⟩
  rw [hE]
  have HE := Lib.hid hE
  clear hE
  go_enter Tryd.func76, Tryd.ntmps76
  go_wp2_with fail
  generalize w.alloc (.cells (cellsN x y) 45) = W at *
  refine (HG1.out _).mono ?_
  rintro e w1 ⟨rfl, b1⟩
  have r2 := rowAt_past b1 r0
  have b2 := below_past b0 b1 b0.size
  clear b0 b1 HG1 r0
  cases g1
  · obtain rfl : E = 1 := by rw [← HE.out]; rfl
    go_wp2_with fail
    go_ret
    exact ⟨rfl, b2⟩
  go_wp2_with fail
  refine (HG2.out _).mono ?_
  rintro e W ⟨rfl, b1⟩
  have r0 := rowAt_past b1 r2
  have b3 := below_past b2 b1 b2.size
  clear b2 b1 HG2 r2
  cases g2
  · obtain rfl : E = 1 := by rw [← HE.out]; rfl
    go_wp2_with fail
    go_ret
    exact ⟨rfl, b3⟩
  go_wp2_with fail
  have hl0 := lt_of_rowAt r0
  have ra := rowAt_past ((Below.refl W.heap.size W).alloc (Nat.le_refl _) (.cells (cellsP 0 zeroLab) 41)) r0
  have rb := rowAt_past (((Below.refl W.heap.size W).alloc (Nat.le_refl _) (.cells (cellsP 0 zeroLab) 41)).alloc (by simp) (.cells (cellsP 0 zeroLab) 41)) r0
  go_region
  · have bW : Below W.heap.size W (((W.alloc (.cells (cellsP x.n x.b) 41)).alloc (.cells (cellsP y.n y.b) 41)).drew) := (((Below.refl W.heap.size W).alloc (Nat.le_refl _) _).alloc (by simp) _).drew
    have q1 : rowAt (((W.alloc (.cells (cellsP x.n x.b) 41)).alloc (.cells (cellsP y.n y.b) 41)).drew) W.heap.size = some (cellsP x.n x.b) := by rw [rowAt_drew, rowAt_alloc_past _ _ _ (by simp), rowAt_alloc_at _ _ _ _ rfl]
    have q2 : rowAt (((W.alloc (.cells (cellsP x.n x.b) 41)).alloc (.cells (cellsP y.n y.b) 41)).drew) (W.heap.size + 1) = some (cellsP y.n y.b) := by rw [rowAt_drew]; exact rowAt_alloc_at _ _ _ _ (by simp)
    have b4 := below_past b3 bW b3.size
    clear bW b3 r0 ra rb hl0
    generalize ((W.alloc (.cells (cellsP x.n x.b) 41)).alloc (.cells (cellsP y.n y.b) 41)).drew = W2 at *
    generalize W.heap.size = N at *
    go_wp2_with fail
    refine (HO1.out _).mono ?_
    rintro e w3 ⟨rfl, b1⟩
    have q3 := rowAt_past b1 q1
    have q4 := rowAt_past b1 q2
    have b5 := below_past b4 b1 b4.size
    clear q1 q2 b1 b4 HO1
    cases o1
    · go_wp2_with fail
      refine (HO2.out _).mono ?_
      rintro e w4 ⟨rfl, b1⟩
      have q1 := rowAt_past b1 q3
      have q2 := rowAt_past b1 q4
      have b4 := below_past b5 b1 b5.size
      clear q3 q4 b1 b5 HO2
      cases o2
      · go_wp2_with fail
        refine (HOR.out _).mono ?_
        rintro e w5 ⟨rfl, b1⟩
        have b5 := below_past b4 b1 b4.size
        clear q1 q2 b1 b4 HOR
        by_cases h3 : 0 < o
        · have h3' : decide (0 < o) = true := decide_eq_true h3
          obtain rfl : E = 3 := by rw [← HE.out]; simp [h3]
          go_wp2_with fail
          go_ret
          exact ⟨rfl, b5⟩
        · have h3' : decide (0 < o) = false := decide_eq_false h3
          obtain rfl : E = 0 := by rw [← HE.out]; simp [h3]
          go_wp2_with fail
          go_ret
          exact ⟨rfl, b5⟩
      · obtain rfl : E = 3 := by rw [← HE.out]; rfl
        go_wp2_with fail
        go_ret
        exact ⟨rfl, b4⟩
    · obtain rfl : E = 3 := by rw [← HE.out]; rfl
      go_wp2_with fail
      go_ret
      exact ⟨rfl, b5⟩
  · have bW : Below W.heap.size W (((W.alloc (.cells (cellsP y.n y.b) 41)).alloc (.cells (cellsP x.n x.b) 41)).drew) := (((Below.refl W.heap.size W).alloc (Nat.le_refl _) _).alloc (by simp) _).drew
    have q1 : rowAt (((W.alloc (.cells (cellsP y.n y.b) 41)).alloc (.cells (cellsP x.n x.b) 41)).drew) W.heap.size = some (cellsP y.n y.b) := by rw [rowAt_drew, rowAt_alloc_past _ _ _ (by simp), rowAt_alloc_at _ _ _ _ rfl]
    have q2 : rowAt (((W.alloc (.cells (cellsP y.n y.b) 41)).alloc (.cells (cellsP x.n x.b) 41)).drew) (W.heap.size + 1) = some (cellsP x.n x.b) := by rw [rowAt_drew]; exact rowAt_alloc_at _ _ _ _ (by simp)
    have b4 := below_past b3 bW b3.size
    clear bW b3 r0 ra rb hl0
    generalize ((W.alloc (.cells (cellsP y.n y.b) 41)).alloc (.cells (cellsP x.n x.b) 41)).drew = W2 at *
    generalize W.heap.size = N at *
    go_wp2_with fail
    refine (HO1.out _).mono ?_
    rintro e w3 ⟨rfl, b1⟩
    have q3 := rowAt_past b1 q1
    have q4 := rowAt_past b1 q2
    have b5 := below_past b4 b1 b4.size
    clear q1 q2 b1 b4 HO1
    cases o1
    · go_wp2_with fail
      refine (HO2.out _).mono ?_
      rintro e w4 ⟨rfl, b1⟩
      have q1 := rowAt_past b1 q3
      have q2 := rowAt_past b1 q4
      have b4 := below_past b5 b1 b5.size
      clear q3 q4 b1 b5 HO2
      cases o2
      · go_wp2_with fail
        refine (HOR.out _).mono ?_
        rintro e w5 ⟨rfl, b1⟩
        have b5 := below_past b4 b1 b4.size
        clear q1 q2 b1 b4 HOR
        by_cases h3 : 0 < o
        · have h3' : decide (0 < o) = true := decide_eq_true h3
          obtain rfl : E = 3 := by rw [← HE.out]; simp [h3]
          go_wp2_with fail
          go_ret
          exact ⟨rfl, b5⟩
        · have h3' : decide (0 < o) = false := decide_eq_false h3
          obtain rfl : E = 0 := by rw [← HE.out]; simp [h3]
          go_wp2_with fail
          go_ret
          exact ⟨rfl, b5⟩
      · obtain rfl : E = 3 := by rw [← HE.out]; rfl
        go_wp2_with fail
        go_ret
        exact ⟨rfl, b4⟩
    · obtain rfl : E = 3 := by rw [← HE.out]; rfl
      go_wp2_with fail
      go_ret
      exact ⟨rfl, b5⟩

/-- What a node is. -/
inductive Nd where
  | leaf (x : Lf)
  | inner (x y : Itm)
  | none
def Nd.val : Nd → Value
  | .leaf x => .iface 37 (.agg (cellsF x))
  | .inner x y => .iface 45 (.agg (cellsN x y))
  | .none => .nilIface
def chkN : Nd → Int
  | .leaf x => chkF x
  | .inner x y => chkI x y
  | .none => 3

set_option maxRecDepth 100000 in
set_option maxHeartbeats 2000000 in
theorem nfault_any (d : Nd) (w : World) : Calls Tryd.prog 58 #[d.val] w fun e w' => e = .returned (.int .i64 (chkN d)) ∧ Below w.heap.size w w' := by
  cases d with
  | leaf x =>
    have HF := Lib.hid (fun w => nleafFault_any x w)
    have b0 : Below w.heap.size w (w.alloc (.cells (cellsF x) 37)) := (Below.refl _ _).alloc (Nat.le_refl _) _
    have r0 : rowAt (w.alloc (.cells (cellsF x) 37)) w.heap.size = some (cellsF x) := rowAt_alloc_at _ _ _ _ rfl
    show Calls Tryd.prog 58 #[.iface 37 (.agg (cellsF x))] w fun e w' => e = .returned (.int .i64 (chkF x)) ∧ Below w.heap.size w w'
    generalize chkF x = E at *
    go_enter Tryd.func58, Tryd.ntmps58
    go_wp2_with fail
    generalize w.alloc (.cells (cellsF x) 37) = W at *
    refine (HF.out _).mono ?_
    rintro e w1 ⟨rfl, b1⟩
    have b2 := below_past b0 b1 b0.size
    clear b0 b1 HF r0
    go_wp2_with fail
    go_ret
    exact ⟨rfl, b2⟩
  | inner x y =>
    have HF := Lib.hid (fun w => ninnerFault_any x y w)
    have b0 : Below w.heap.size w (w.alloc (.cells (cellsN x y) 45)) := (Below.refl _ _).alloc (Nat.le_refl _) _
    have r0 : rowAt (w.alloc (.cells (cellsN x y) 45)) w.heap.size = some (cellsN x y) := rowAt_alloc_at _ _ _ _ rfl
    show Calls Tryd.prog 58 #[.iface 45 (.agg (cellsN x y))] w fun e w' => e = .returned (.int .i64 (chkI x y)) ∧ Below w.heap.size w w'
    generalize chkI x y = E at *
    go_enter Tryd.func58, Tryd.ntmps58
    go_wp2_with fail
    generalize w.alloc (.cells (cellsN x y) 45) = W at *
    refine (HF.out _).mono ?_
    rintro e w1 ⟨rfl, b1⟩
    have b2 := below_past b0 b1 b0.size
    clear b0 b1 HF r0
    go_wp2_with fail
    go_ret
    exact ⟨rfl, b2⟩
  | none =>
    show Calls Tryd.prog 58 #[.nilIface] w fun e w' => e = .returned (.int .i64 3) ∧ Below w.heap.size w w'
    go_enter Tryd.func58, Tryd.ntmps58
    go_wp2_with fail
    go_ret
    exact ⟨rfl, Below.refl _ _⟩
set_option maxRecDepth 100000 in
theorem ndCheck_any (d : Nd) (w : World) : Calls Tryd.prog 29 #[d.val] w fun e w' => e = .returned (.int .i64 (chkN d)) ∧ Below w.heap.size w w' := by
  have HF := Lib.hid (fun w => nfault_any d w)
  generalize d.val = v at *
  generalize chkN d = E at *
  go_enter Tryd.func29, Tryd.ntmps29
  go_wp2_with fail
  refine (HF.out _).mono ?_
  rintro e w1 ⟨rfl, b1⟩
  go_wp2_with fail
  go_ret
  exact ⟨rfl, b1⟩
end Go.Proofs.YtnffmgpnhlcakaaDoor
