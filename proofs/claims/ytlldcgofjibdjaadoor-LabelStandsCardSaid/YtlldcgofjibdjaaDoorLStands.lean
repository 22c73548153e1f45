/- For any seed, key, value and nonce the law LabelStands returns true. Conditions: the listed table is as the program lays it. -/
import Derived.Test.YtlldcgofjibdjaaDoorLabel4
import Derived.Test.YtlldcgofjibdjaaDoorToks
import Derived.Test.YtlldcgofjibdjaaDoorShaTabs
import Derived.Test.YtlldcgofjibdjaaDoorTie
import Derived.Test.YtlldcgofjibdjaaDoorCards
import Derived.SevenTiedAt
namespace Go.Proofs.YtlldcgofjibdjaaDoor.lstands
open Go Go.ChangeShapes Go.WideShapes Go.ChangeAt Go.ChangeMaps Go.RowKit Go.Proofs.YtlldcgofjibdjaaDoor

theorem joinL_two_len (c : UInt8) (l : List (List UInt8)) (h : ∀ t ∈ l, t.length ≤ 100) (hl : l.length ≤ 4) : (joinL c l).length ≤ 500 := by
  have := joinL_len c l h
  omega
set_option maxRecDepth 100000 in
set_option maxHeartbeats 4000000 in
theorem walk (k0 : ByteArray) (a b : Lab) (s0 : ByteArray) (w : World) (ht : Cubes w) : Calls Tryd.prog 4 #[.string k0, .agg (cellsL a), .agg (cellsL b), .string s0] w fun e w' => e = .returned (.bool true) ∧ Below w.heap.size w w' := by
  have HK0 := Lib.hid (fun w => l3Cut_any k0 100 w (by decide))
  have HK := Lib.hid (fun w => l3Cut_any s0 100 w (by decide))
  obtain ⟨K, hK⟩ : ∃ K, k0.data.toList.take 100 = K := ⟨_, rfl⟩
  have hK2 : K.length ≤ 100 := by rw [← hK]; exact List.length_take_le _ _
  obtain ⟨V, hV⟩ : ∃ V, s0.data.toList.take 100 = V := ⟨_, rfl⟩
  have hV2 : V.length ≤ 100 := by rw [← hV]; exact List.length_take_le _ _
  rw [hK] at HK0
  rw [hV] at HK
  clear hV hK
  have b0 : Below w.heap.size w ((w.alloc (.cells (cellsL a) 23)).alloc (.cells (cellsL b) 23)) := ((Below.refl _ _).alloc (Nat.le_refl _) _).alloc (by simp only [World.size_alloc]; omega) _
  have r0 : rowAt ((w.alloc (.cells (cellsL a) 23)).alloc (.cells (cellsL b) 23)) w.heap.size = some (cellsL a) := (rowAt_alloc_past _ _ _ (by simp only [World.size_alloc]; omega)).trans (rowAt_alloc_at _ _ _ _ rfl)
  have r1 : rowAt ((w.alloc (.cells (cellsL a) 23)).alloc (.cells (cellsL b) 23)) (w.heap.size + 1) = some (cellsL b) := rowAt_alloc_at _ _ _ _ (by simp only [World.size_alloc])
  have HT := Lib.hid (ht.below b0)
  have ha1 : ∀ t ∈ [a.l], t.length ≤ 100 := by intro t h; obtain rfl := List.mem_singleton.1 h; rw [a.h]; decide
  have hb1 : ∀ t ∈ [b.l, V], t.length ≤ 100 := by
    intro t h
    rcases List.mem_cons.1 h with rfl | h
    · rw [b.h]; decide
    · obtain rfl := List.mem_singleton.1 h
      exact hV2
  have HB2 : Hid (∀ w g, rowAt w g = some (cellsL a) → Calls Tryd.prog 14 #[.int .u8 2, .slice (some ⟨g, 0, none⟩) 1 1, .slice none 0 0] w fun e w' => e = .returned (.string (stx (joinL 2 [a.l]))) ∧ Below w.heap.size w w') := Lib.hid fun w g h => r14Bytes_none 2 _ _ [a] [] w (labs_at1 h) ⟨rfl, rfl⟩ (by simp) (by simp) (by simp)
  have HB3 : Hid (∀ w g, rowAt w g = some (cellsL a) → Calls Tryd.prog 14 #[.int .u8 3, .slice (some ⟨g, 0, none⟩) 1 1, .slice none 0 0] w fun e w' => e = .returned (.string (stx (joinL 3 [a.l]))) ∧ Below w.heap.size w w') := Lib.hid fun w g h => r14Bytes_none 3 _ _ [a] [] w (labs_at1 h) ⟨rfl, rfl⟩ (by simp) (by simp) (by simp)
  have HB4 : Hid (∀ w g k, rowAt w g = some (cellsL b) → w.cell? ⟨k, 0, none⟩ = some (.string (stx V)) → Calls Tryd.prog 14 #[.int .u8 4, .slice (some ⟨g, 0, none⟩) 1 1, .slice (some ⟨k, 0, none⟩) 1 1] w fun e w' => e = .returned (.string (stx (joinL 4 [b.l, V]))) ∧ Below w.heap.size w w') := Lib.hid fun w g k h hc => r14Bytes_one 4 _ _ [b] [V] w (labs_at1 h) ⟨V, k, rfl, rfl, hc⟩ (by simp) (by simp) (by intro t ht; obtain rfl := List.mem_singleton.1 ht; exact hV2)
  have HS2 : Hid (∀ w, Cubes w → Calls Tryd.prog 13 #[.string (stx (joinL 2 [a.l]))] w fun e w' => e = .returned (.agg (cellsL (tagL 2 [a.l]))) ∧ Below w.heap.size w w') := Lib.hid fun w h => Sum_any (stx (joinL 2 [a.l])) w h (by rw [stx_size]; have := joinL_two_len 2 [a.l] ha1 (by simp); omega)
  have HS3 : Hid (∀ w, Cubes w → Calls Tryd.prog 13 #[.string (stx (joinL 3 [a.l]))] w fun e w' => e = .returned (.agg (cellsL (tagL 3 [a.l]))) ∧ Below w.heap.size w w') := Lib.hid fun w h => Sum_any (stx (joinL 3 [a.l])) w h (by rw [stx_size]; have := joinL_two_len 3 [a.l] ha1 (by simp); omega)
  have HS4 : Hid (∀ w, Cubes w → Calls Tryd.prog 13 #[.string (stx (joinL 4 [b.l, V]))] w fun e w' => e = .returned (.agg (cellsL (tagL 4 [b.l, V]))) ∧ Below w.heap.size w w') := Lib.hid fun w h => Sum_any (stx (joinL 4 [b.l, V])) w h (by rw [stx_size]; have := joinL_two_len 4 [b.l, V] hb1 (by simp); omega)
  have HS5 : Hid (∀ w, Cubes w → Calls Tryd.prog 13 #[.string ⟨#[5]⟩] w fun e w' => e = .returned (.agg (cellsL (tagL 5 []))) ∧ Below w.heap.size w w') := Lib.hid fun w h => Sum_any ⟨#[5]⟩ w h (by decide)
  have HS6 : Hid (∀ w, Cubes w → Calls Tryd.prog 13 #[.string ⟨#[6]⟩] w fun e w' => e = .returned (.agg (cellsL (tagL 6 []))) ∧ Below w.heap.size w w') := Lib.hid fun w h => Sum_any ⟨#[6]⟩ w h (by decide)
  have HF := Lib.hid (fun w (h : Cubes w) => Fresh_any a w h)
  have HL := Lib.hid (fun w (h : Cubes w) => Stale_any a w h)
  have HN := Lib.hid (fun w (h : Cubes w) => Nonce_any K a w h hK2)
  have HM : Hid (∀ w, Cubes w → Calls Tryd.prog 15 #[.string (stx K), .string (stx ([110, 111, 110, 99, 101] ++ a.l))] w fun e w' => e = .returned (.agg (cellsL (nonceL K a))) ∧ Below w.heap.size w w') := Lib.hid fun w h => Mac_any K ([110, 111, 110, 99, 101] ++ a.l) w h (by omega) (by rw [List.length_append, a.h]; decide)
  have HAD : Hid ((⟨#[110, 111, 110, 99, 101]⟩ : ByteArray) ++ stx a.l = stx ([110, 111, 110, 99, 101] ++ a.l)) := Lib.hid (stx_append [110, 111, 110, 99, 101] a.l)
  have hsz : (stx a.l).size = 32 := by rw [stx_size, a.h]
  have HC := Lib.hid (fun w g (h : rowAt w g = some (cellsL a)) => conv_lab a w g h)
  have HCM := Lib.hid (fun w (h : Cubes w) => Commit_any V b w h hV2)
  have HTM := Lib.hid (fun w (h : Cubes w) => Tomb_any w h)
  have HMK := Lib.hid (fun w (h : Cubes w) => Mark_any w h)
  have HAW := Lib.hid (fun w (h : Cubes w) => awake14 w h)
  clear ht hV2 hK2 ha1 hb1
  generalize tagL 2 [a.l] = L2 at *
  generalize tagL 3 [a.l] = L3 at *
  generalize tagL 4 [b.l, V] = L4 at *
  generalize tagL 5 [] = L5 at *
  generalize tagL 6 [] = L6 at *
  generalize nonceL K a = LN at *
  generalize stx (joinL 2 [a.l]) = t2 at *
  generalize stx (joinL 3 [a.l]) = t3 at *
  generalize stx (joinL 4 [b.l, V]) = t4 at *
  generalize stx ([110, 111, 110, 99, 101] ++ a.l) = tn at *
  generalize stx a.l = ta at *
  generalize stx V = sV at *
  generalize stx K = sK at *
  have q2 : decide (L2 = L2) = true := decide_eq_true rfl
  have q3 : decide (L3 = L3) = true := decide_eq_true rfl
  have q4 : decide (L4 = L4) = true := decide_eq_true rfl
  have q5 : decide (L5 = L5) = true := decide_eq_true rfl
  have q6 : decide (L6 = L6) = true := decide_eq_true rfl
  have qn : decide (LN = LN) = true := decide_eq_true rfl
  go_enter Tryd.func4, Tryd.ntmps4
  go_wp2_with fail
  generalize (w.alloc (.cells (cellsL a) 23)).alloc (.cells (cellsL b) 23) = W at *
  refine (HK0.out _).mono ?_
  rintro e w1 ⟨rfl, rfl⟩
  clear HK0
  go_wp2_with fail
  refine (HK.out _).mono ?_
  rintro e w1 ⟨rfl, rfl⟩
  clear HK
  go_upto_region 2 with fail
  have f5 := fun x : Past w1 => rowAt_past x.h r0
  obtain ⟨R, hR1, hR2⟩ : ∃ R : Nat → Value → World → Prop, R 3 = (fun v W' => ∃ g, v = .slice (some ⟨g, 0, none⟩) 1 1 ∧ rowAt W' g = some (cellsL a)) ∧ R 11 = (fun v W' => ∃ g, v = .slice (some ⟨g, 0, none⟩) 1 1 ∧ rowAt W' g = some (cellsL a)) := ⟨fun _ => _, rfl, rfl⟩
  have HS : Hid (∀ i ∈ [3, 11], ∃ v W', Below w1.heap.size w1 W' ∧ R i v W') := Lib.hid (by
    have ha : ∀ (c : Array Value) (t : TypeId), Below w1.heap.size w1 (w1.alloc (.cells c t)) ∧ rowAt (w1.alloc (.cells c t)) w1.heap.size = some c := fun c t => ⟨(Below.refl _ _).alloc (Nat.le_refl _) _, rowAt_alloc_at w1 c t _ rfl⟩
    intro i hi
    simp only [List.mem_cons, List.not_mem_nil, or_false] at hi
    rcases hi with rfl | rfl
    · rw [hR1]; exact ⟨_, _, (ha (cellsL a) 23).1, _, rfl, (ha _ _).2⟩
    · rw [hR2]; exact ⟨_, _, (ha (cellsL a) 23).1, _, rfl, (ha _ _).2⟩)
  refine wp_region_tok [3, 11] 16 R (by kernel_rfl) (by kernel_rfl) HS.out ?_
  intro τ hτ
  rcases e1 : τ 3 with ⟨v1, W1⟩
  rcases e2 : τ 11 with ⟨v2, W2⟩
  have p1 := hτ 3 (by simp)
  have p2 := hτ 11 (by simp)
  rw [e1, hR1] at p1
  rw [e2, hR2] at p2
  dsimp only at p1 p2
  obtain ⟨hb1, g1, rfl, hc1⟩ := p1
  obtain ⟨hb2, g2, rfl, hc2⟩ := p2
  clear HS hτ hb1 hb2
  simp only [List.take_succ_cons, List.take_nil]
  refine tokL_val (by decide) (by kernel_rfl) rfl ?_; intro K hK; go_big_quiet_op; go_big_quiet_on
  refine tokL_call (by decide) (by kernel_rfl) (by kernel_rfl) ?_
  apply Exists.intro
  refine And.intro ?_ ?_
  focus
    intro x hg
    unfold Oper.quietAt
    go_simp
    (exact call_yields (HF.out _ (HT.out.below x.h)))
  simp only [Act.put, List.setIfInBounds_toArray, List.set_cons_succ, List.set_cons_zero]
  refine tokL_val (by decide) (by kernel_rfl) rfl ?_; intro K hK; go_big_quiet_op; go_big_quiet_on
  refine tokL_tok e1 (by decide) (by kernel_rfl) ?_ ?_
  focus
    intro x hg
    unfold wildAt
    go_simp
    (exact (Below.refl _ _).alloc (Nat.le_refl _) _)
  simp only [Act.put, List.setIfInBounds_toArray, List.set_cons_succ, List.set_cons_zero]
  refine tokL_call (by decide) (by kernel_rfl) (by kernel_rfl) ?_
  apply Exists.intro
  refine And.intro ?_ ?_
  focus
    intro x hg
    unfold Oper.quietAt
    go_simp
    (exact call_yields (HB2.out _ _ (rowAt_past (by have := hg.2 3 (by simp) (by kernel_rfl); rw [e1] at this; exact this) hc1)))
  simp only [Act.put, List.setIfInBounds_toArray, List.set_cons_succ, List.set_cons_zero]
  refine tokL_call (by decide) (by kernel_rfl) (by kernel_rfl) ?_
  apply Exists.intro
  refine And.intro ?_ ?_
  focus
    intro x hg
    unfold Oper.quietAt
    go_simp
    (exact call_yields (HS2.out _ (HT.out.below x.h)))
  simp only [Act.put, List.setIfInBounds_toArray, List.set_cons_succ, List.set_cons_zero]
  iterate 3 (refine tokL_val (by decide) (by kernel_rfl) rfl ?_; intro K hK; go_big_quiet_op; go_big_quiet_on)
  refine tokL_call (by decide) (by kernel_rfl) (by kernel_rfl) ?_
  apply Exists.intro
  refine And.intro ?_ ?_
  focus
    intro x hg
    unfold Oper.quietAt
    go_simp
    (exact call_yields (HL.out _ (HT.out.below x.h)))
  simp only [Act.put, List.setIfInBounds_toArray, List.set_cons_succ, List.set_cons_zero]
  refine tokL_val (by decide) (by kernel_rfl) rfl ?_; intro K hK; go_big_quiet_op; go_big_quiet_on
  refine tokL_tok e2 (by decide) (by kernel_rfl) ?_ ?_
  focus
    intro x hg
    unfold wildAt
    go_simp
    (exact (Below.refl _ _).alloc (Nat.le_refl _) _)
  simp only [Act.put, List.setIfInBounds_toArray, List.set_cons_succ, List.set_cons_zero]
  refine tokL_call (by decide) (by kernel_rfl) (by kernel_rfl) ?_
  apply Exists.intro
  refine And.intro ?_ ?_
  focus
    intro x hg
    unfold Oper.quietAt
    go_simp
    (exact call_yields (HB3.out _ _ (rowAt_past (by have := hg.2 11 (by simp) (by kernel_rfl); rw [e2] at this; exact this) hc2)))
  simp only [Act.put, List.setIfInBounds_toArray, List.set_cons_succ, List.set_cons_zero]
  refine tokL_call (by decide) (by kernel_rfl) (by kernel_rfl) ?_
  apply Exists.intro
  refine And.intro ?_ ?_
  focus
    intro x hg
    unfold Oper.quietAt
    go_simp
    (exact call_yields (HS3.out _ (HT.out.below x.h)))
  simp only [Act.put, List.setIfInBounds_toArray, List.set_cons_succ, List.set_cons_zero]
  iterate 2 (refine tokL_val (by decide) (by kernel_rfl) rfl ?_; intro K hK; go_big_quiet_op; go_big_quiet_on)
  refine tokL_nil ?_
  simp only [List.drop_succ_cons, List.drop_nil]
  intro z hz
  have bZ := below_past b0 hz.1 b0.size
  have r3 := rowAt_past hz.1 r0
  have r4 := rowAt_past hz.1 r1
  have TZ := Lib.hid (HT.out.below hz.1)
  clear hz hc1 hc2 b0 HT hR1 hR2 e1 e2 r0 r1 f5 HF HL HB2 HB3 HS2 HS3
  go_upto_region 4 with fail
  have f5 := fun x : Past z => rowAt_past x.h r3
  have f6 := fun x : Past z => rowAt_past x.h r4
  have hcv := fun x : Past z => HC.out x.w _ (rowAt_past x.h r3)
  obtain ⟨R, hR1, hR2⟩ : ∃ R : Nat → Value → World → Prop, R 17 = (fun v W' => ∃ g, v = .slice (some ⟨g, 0, none⟩) 1 1 ∧ rowAt W' g = some (cellsL b)) ∧ R 19 = (fun v W' => ∃ g, v = .slice (some ⟨g, 0, none⟩) 1 1 ∧ W'.cell? ⟨g, 0, none⟩ = some (.string sV)) :=
    ⟨fun i => if i = 19 then (fun v W' => ∃ g, v = .slice (some ⟨g, 0, none⟩) 1 1 ∧ W'.cell? ⟨g, 0, none⟩ = some (.string sV)) else (fun v W' => ∃ g, v = .slice (some ⟨g, 0, none⟩) 1 1 ∧ rowAt W' g = some (cellsL b)), rfl, rfl⟩
  have HS : Hid (∀ i ∈ [17, 19], ∃ v W', Below z.heap.size z W' ∧ R i v W') := Lib.hid (by
    have ha : ∀ (c : Array Value) (t : TypeId), Below z.heap.size z (z.alloc (.cells c t)) ∧ rowAt (z.alloc (.cells c t)) z.heap.size = some c := fun c t => ⟨(Below.refl _ _).alloc (Nat.le_refl _) _, rowAt_alloc_at z c t _ rfl⟩
    intro i hi
    simp only [List.mem_cons, List.not_mem_nil, or_false] at hi
    rcases hi with rfl | rfl
    · rw [hR1]; exact ⟨_, _, (ha (cellsL b) 23).1, _, rfl, (ha _ _).2⟩
    · rw [hR2]; exact ⟨_, _, (ha #[.string sV] 9).1, _, rfl, cell_of_rowAt (ha _ _).2 0⟩)
  clear HC
  refine wp_region_tok [17, 19] 35 R (by kernel_rfl) (by kernel_rfl) HS.out ?_
  intro τ hτ
  rcases e1 : τ 17 with ⟨v1, W1⟩
  rcases e2 : τ 19 with ⟨v2, W2⟩
  have p1 := hτ 17 (by simp)
  have p2 := hτ 19 (by simp)
  rw [e1, hR1] at p1
  rw [e2, hR2] at p2
  dsimp only at p1 p2
  obtain ⟨hb1, g1, rfl, hc1⟩ := p1
  obtain ⟨hb2, g2, rfl, hc2⟩ := p2
  clear HS hτ hb1 hb2
  simp only [List.take_succ_cons, List.take_nil]
  refine tokL_call (by decide) (by kernel_rfl) (by kernel_rfl) ?_
  apply Exists.intro
  refine And.intro ?_ ?_
  focus
    intro x hg
    unfold Oper.quietAt
    go_simp
    (exact call_yields (HAW.out _ (TZ.out.below x.h)))
  simp only [Act.put, List.setIfInBounds_toArray, List.set_cons_succ, List.set_cons_zero]
  iterate 3 (refine tokL_val (by decide) (by kernel_rfl) rfl ?_; intro K hK; go_big_quiet_op; go_big_quiet_on)
  refine tokL_call (by decide) (by kernel_rfl) (by kernel_rfl) ?_
  apply Exists.intro
  refine And.intro ?_ ?_
  focus
    intro x hg
    unfold Oper.quietAt
    go_simp
    (exact call_yields (HN.out _ (TZ.out.below x.h)))
  simp only [Act.put, List.setIfInBounds_toArray, List.set_cons_succ, List.set_cons_zero]
  iterate 4 (refine tokL_val (by decide) (by kernel_rfl) rfl ?_; intro K hK; go_big_quiet_op; go_big_quiet_on)
  refine tokL_call (by decide) (by kernel_rfl) (by kernel_rfl) ?_
  apply Exists.intro
  refine And.intro ?_ ?_
  focus
    intro x hg
    unfold Oper.quietAt
    go_simp
    (rw [HAD.out]; exact call_yields (HM.out _ (TZ.out.below x.h)))
  simp only [Act.put, List.setIfInBounds_toArray, List.set_cons_succ, List.set_cons_zero]
  iterate 5 (refine tokL_val (by decide) (by kernel_rfl) rfl ?_; intro K hK; go_big_quiet_op; go_big_quiet_on)
  refine tokL_call (by decide) (by kernel_rfl) (by kernel_rfl) ?_
  apply Exists.intro
  refine And.intro ?_ ?_
  focus
    intro x hg
    unfold Oper.quietAt
    go_simp
    (exact call_yields (HCM.out _ (TZ.out.below x.h)))
  simp only [Act.put, List.setIfInBounds_toArray, List.set_cons_succ, List.set_cons_zero]
  refine tokL_val (by decide) (by kernel_rfl) rfl ?_; intro K hK; go_big_quiet_op; go_big_quiet_on
  refine tokL_tok e1 (by decide) (by kernel_rfl) ?_ ?_
  focus
    intro x hg
    unfold wildAt
    go_simp
    (exact (Below.refl _ _).alloc (Nat.le_refl _) _)
  simp only [Act.put, List.setIfInBounds_toArray, List.set_cons_succ, List.set_cons_zero]
  refine tokL_val (by decide) (by kernel_rfl) rfl ?_; intro K hK; go_big_quiet_op; go_big_quiet_on
  refine tokL_tok e2 (by decide) (by kernel_rfl) ?_ ?_
  focus
    intro x hg
    unfold wildAt
    go_simp
    (exact (Below.refl _ _).alloc (Nat.le_refl _) _)
  simp only [Act.put, List.setIfInBounds_toArray, List.set_cons_succ, List.set_cons_zero]
  refine tokL_call (by decide) (by kernel_rfl) (by kernel_rfl) ?_
  apply Exists.intro
  refine And.intro ?_ ?_
  focus
    intro x hg
    unfold Oper.quietAt
    go_simp
    (exact call_yields (HB4.out _ _ _ (rowAt_past (by have := hg.2 17 (by simp) (by kernel_rfl); rw [e1] at this; exact this) hc1) ((Below.cell (by have := hg.2 19 (by simp) (by kernel_rfl); rw [e2] at this; exact this) (cellLt hc2)).trans hc2)))
  simp only [Act.put, List.setIfInBounds_toArray, List.set_cons_succ, List.set_cons_zero]
  refine tokL_call (by decide) (by kernel_rfl) (by kernel_rfl) ?_
  apply Exists.intro
  refine And.intro ?_ ?_
  focus
    intro x hg
    unfold Oper.quietAt
    go_simp
    (exact call_yields (HS4.out _ (TZ.out.below x.h)))
  simp only [Act.put, List.setIfInBounds_toArray, List.set_cons_succ, List.set_cons_zero]
  iterate 3 (refine tokL_val (by decide) (by kernel_rfl) rfl ?_; intro K hK; go_big_quiet_op; go_big_quiet_on)
  refine tokL_call (by decide) (by kernel_rfl) (by kernel_rfl) ?_
  apply Exists.intro
  refine And.intro ?_ ?_
  focus
    intro x hg
    unfold Oper.quietAt
    go_simp
    (exact call_yields (HTM.out _ (TZ.out.below x.h)))
  simp only [Act.put, List.setIfInBounds_toArray, List.set_cons_succ, List.set_cons_zero]
  refine tokL_call (by decide) (by kernel_rfl) (by kernel_rfl) ?_
  apply Exists.intro
  refine And.intro ?_ ?_
  focus
    intro x hg
    unfold Oper.quietAt
    go_simp
    (exact call_yields (HS5.out _ (TZ.out.below x.h)))
  simp only [Act.put, List.setIfInBounds_toArray, List.set_cons_succ, List.set_cons_zero]
  iterate 3 (refine tokL_val (by decide) (by kernel_rfl) rfl ?_; intro K hK; go_big_quiet_op; go_big_quiet_on)
  refine tokL_call (by decide) (by kernel_rfl) (by kernel_rfl) ?_
  apply Exists.intro
  refine And.intro ?_ ?_
  focus
    intro x hg
    unfold Oper.quietAt
    go_simp
    (exact call_yields (HMK.out _ (TZ.out.below x.h)))
  simp only [Act.put, List.setIfInBounds_toArray, List.set_cons_succ, List.set_cons_zero]
  refine tokL_call (by decide) (by kernel_rfl) (by kernel_rfl) ?_
  apply Exists.intro
  refine And.intro ?_ ?_
  focus
    intro x hg
    unfold Oper.quietAt
    go_simp
    (exact call_yields (HS6.out _ (TZ.out.below x.h)))
  simp only [Act.put, List.setIfInBounds_toArray, List.set_cons_succ, List.set_cons_zero]
  iterate 3 (refine tokL_val (by decide) (by kernel_rfl) rfl ?_; intro K hK; go_big_quiet_op; go_big_quiet_on)
  refine tokL_nil ?_
  simp only [List.drop_succ_cons, List.drop_nil]
  intro y hy
  have bY := below_past bZ hy.1 bZ.size
  clear hy hc1 hc2 bZ TZ hR1 hR2 e1 e2 r3 r4 f5 f6 hcv
  go_wp2_with fail
  go_ret
  exact ⟨rfl, bY⟩
set_option maxRecDepth 100000 in
theorem lifted (os : Os) (started : os.Started) (H : Type) (enc : TypeId × Value → H) :
    ReturnsInHanded {} Tryd.checked os 4 .any (fun w args => (Rows.labelStandsSpec.pre enc Tryd.prog Tryd.f4 [] false w args ∧ laidMetH Tryd.prog laidSha w) ∧ sizedMet enc Tryd.prog Tryd.f4 (OpenSpec.ofChange Rows.labelStandsSpec) false w args) (Rows.labelStandsSpec.post enc Tryd.prog Tryd.f4 false true false false) := by
  refine returnsInHanded_of_change_and (C := Tryd.checked) (X := fun w _ => laidMetH Tryd.prog laidSha w) (fun _ _ _ hh h => h.of_heap hh) own started (by kernel_rfl) Tryd.func4
    (ChangeSpec.witness_shaped (enc := enc) (C := Tryd.checked) (os := os) (X := fun w _ => laidMetH Tryd.prog laidSha w) false (World.doorLaid Tryd.prog 2000 os) #[.string ⟨#[]⟩, .agg (cellsL zeroLab), .agg (cellsL zeroLab), .string ⟨#[]⟩] 8 rfl (World.shaped_of_RefB (by kernel_rfl) (by kernel_rfl)) (by kernel_rfl) (by kernel_rfl) (by kernel_rfl) (door_sha os _)) ?_
  intro W base args ds gs before hval0 hW _ _ hL _
  have hval : ∀ (j : Nat) t v, Tryd.f4.params[j]? = some t → args[j]? = some v → Value.okWide Tryd.prog W .any base t v := hval0
  clear hval0
  have hW' := hW
  obtain ⟨p, q, hA0, hV, rfl, hfz, hnd⟩ := hW
  have hA : DataW.TrodAll enc Tryd.prog W 0 (fun _ => true) true Tryd.f4.params.toList args.toList ds p := hA0
  rw [Tryd.params4] at hA hval
  clear hA0 hfz hnd hV
  have hr : Readable Tryd.f4.params.toList := by
    rw [Tryd.params4]
    exact readable_of_all (by kernel_rfl)
  have fin : ∀ W', Below W.heap.size W W' → Rows.labelStandsSpec.post enc Tryd.prog Tryd.f4 false true false false W args (.bool true) W' := fun W' hb =>
    law_post rfl hW' hr (fun l hl => by
      rw [Tryd.params4] at hl
      match l, hl with
      | [d1, d2, d3, d4], _ => rfl) (by kernel_rfl) hb
  clear hW' hr
  have HT := cubes_of_laid hL
  obtain ⟨v0, v1, v2, v3, d0, d1, d2, d3, p0, p1, p2, p3, rfl, rfl, rfl, h0, h1, h2, h3⟩ := trodAll_four hA; obtain ⟨k, rfl, _, _, w0⟩ := open_string Tryd.underlying9 (hval 0 9 v0 rfl rfl) h0; obtain ⟨a, rfl⟩ := open_lab Tryd.underlying23 Tryd.underlying5 cellsOf_u8 cellsOf_lab (hval 1 23 v1 rfl rfl) h1; obtain ⟨b, rfl⟩ := open_lab Tryd.underlying23 Tryd.underlying5 cellsOf_u8 cellsOf_lab (hval 2 23 v2 rfl rfl) h2; obtain ⟨s, rfl, _, _, w3⟩ := open_string Tryd.underlying9 (hval 3 9 v3 rfl rfl) h3
  exact (walk k a b s W HT).mono fun e W' ⟨he, hb⟩ => ⟨_, he, fin W' hb⟩
theorem row_holds : Rows.LabelStandsSaid :=
  OpenClaim.holds_of_wide 4 Tryd.f4 rfl rfl rfl rfl rfl rfl rfl ⟨rfl, rfl, rfl, rfl, rfl⟩ rfl rfl rfl rfl rfl (by kernel_rfl) Tryd.func4 (by kernel_rfl)
    (of_decide_eq_true (by kernel_rfl)) (by unfold Func.isWrapper; first | (rw [if_pos (by decide +kernel)]; kernel_rfl) | (rw [if_neg (by decide +kernel)]; exact ⟨rfl, rfl⟩))
    (fun os started H enc _ => lifted os started H enc)
theorem proved : Rows.LabelStandsCardSaid :=
  Claim7.holds_tied_plain_at .later [] [.data] true _ false
    row_holds (fun _ h => by cases h) (by kernel_rfl) (fun _ h => by cases h) labelStands_row_tie rfl ⟨rfl, rfl⟩ (by kernel_rfl) rfl
    (fun f fn hf hfn => by
      obtain rfl : f = 4 := Option.some.inj ((show Tryd.prog.funcNamed "chirograph/chirographlaw14.LabelStands" = some 4 by kernel_rfl).symm.trans hf) |>.symm
      obtain rfl : fn = Tryd.f4 := (Option.some.inj (Tryd.func4.symm.trans hfn)).symm
      exact ⟨by kernel_rfl, fun j t ht => by
        rw [Tryd.params4] at ht
        have hm : t ∈ [9, 23, 23, 9] := by simpa using Array.mem_of_getElem? ht
        have hall : ([9, 23, 23, 9].all fun u => !Tryd.prog.wantsStandIn u) = true := by kernel_rfl
        exact (show Tryd.prog.wantsStandIn t = false by simpa using List.all_eq_true.1 hall t hm)⟩)
    (by kernel_rfl)
end Go.Proofs.YtlldcgofjibdjaaDoor.lstands
