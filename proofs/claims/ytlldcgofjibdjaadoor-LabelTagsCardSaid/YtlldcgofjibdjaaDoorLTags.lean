/- For any labels and any text the law LabelTags returns true. Conditions: the listed table is as the program lays it. -/
import Derived.Test.YtlldcgofjibdjaaDoorLabel4
import Derived.Test.YtlldcgofjibdjaaDoorToks
import Derived.Test.YtlldcgofjibdjaaDoorShaTabs
import Derived.Test.YtlldcgofjibdjaaDoorTie
import Derived.Test.YtlldcgofjibdjaaDoorCards
import Derived.SevenTiedAt
namespace Go.Proofs.YtlldcgofjibdjaaDoor.ltags
open Go Go.ChangeShapes Go.WideShapes Go.ChangeAt Go.ChangeMaps Go.RowKit Go.Proofs.YtlldcgofjibdjaaDoor

theorem labs_at1 {w : World} {g : Nat} {a : Lab} (h : rowAt w g = some (cellsL a)) : LabsAt w (.slice (some ⟨g, 0, none⟩) 1 1) [a] := by
  refine ⟨_, _, rfl, fun i hi => ⟨g, cellsL a, rfl, h, ?_⟩⟩
  obtain rfl : i = 0 := by simpa using hi
  refine ⟨by simp, ?_⟩
  rw [show (List.getD [a] 0 zeroLab) = a from rfl]
  apply Array.ext
  · simp
  · intro j h1 h2
    simp
theorem labs_at0 (w : World) : LabsAt w (.slice none 0 0) [] := ⟨none, 0, rfl, fun i hi => absurd hi (Nat.not_lt_zero i)⟩
/-- The five texts. -/
def tagsL (a b : Lab) (s : List UInt8) : List (List UInt8) := [joinL 2 [a.l], joinL 3 [a.l], joinL 4 [b.l, s], joinL 5 [], joinL 6 []]
theorem tags_apart (a b : Lab) (s : List UInt8) (i j : Nat) (hi : i < 5) (hj : j < i) : (tagsL a b s).getD i [] ≠ (tagsL a b s).getD j [] := by
  have h : ∀ k, k < 5 → ((tagsL a b s).getD k []).head? = some (UInt8.ofNat (k + 2)) := by
    intro k hk
    rcases (by omega : k = 0 ∨ k = 1 ∨ k = 2 ∨ k = 3 ∨ k = 4) with rfl | rfl | rfl | rfl | rfl <;> rfl
  intro e
  have h1 := h i hi
  have h2 := h j (by omega)
  rw [e, h2] at h1
  have h3 := congrArg UInt8.toNat (Option.some.inj h1)
  rw [UInt8.toNat_ofNat', UInt8.toNat_ofNat'] at h3
  omega
set_option maxRecDepth 100000 in
set_option maxHeartbeats 4000000 in
theorem walk (a b : Lab) (s0 : ByteArray) (w : World) (ht : Cubes w) : Calls Tryd.prog 6 #[.agg (cellsL a), .agg (cellsL b), .string s0] w fun e w' => e = .returned (.bool true) ∧ Below w.heap.size w w' := by
  have HK := Lib.hid (fun w => l3Cut_any s0 100 w (by decide))
  obtain ⟨V, hV⟩ : ∃ V, s0.data.toList.take 100 = V := ⟨_, rfl⟩
  have hV2 : V.length ≤ 100 := by rw [← hV]; exact List.length_take_le _ _
  rw [hV] at HK
  clear hV
  have b0 : Below w.heap.size w ((w.alloc (.cells (cellsL a) 23)).alloc (.cells (cellsL b) 23)) := ((Below.refl _ _).alloc (Nat.le_refl _) _).alloc (by simp only [World.size_alloc]; omega) _
  have r0 : rowAt ((w.alloc (.cells (cellsL a) 23)).alloc (.cells (cellsL b) 23)) w.heap.size = some (cellsL a) := (rowAt_alloc_past _ _ _ (by simp only [World.size_alloc]; omega)).trans (rowAt_alloc_at _ _ _ _ rfl)
  have r1 : rowAt ((w.alloc (.cells (cellsL a) 23)).alloc (.cells (cellsL b) 23)) (w.heap.size + 1) = some (cellsL b) := rowAt_alloc_at _ _ _ _ (by simp only [World.size_alloc])
  have HT := Lib.hid (ht.below b0)
  have HB2 : Hid (∀ w g, rowAt w g = some (cellsL a) → Calls Tryd.prog 14 #[.int .u8 2, .slice (some ⟨g, 0, none⟩) 1 1, .slice none 0 0] w fun e w' => e = .returned (.string (stx (joinL 2 [a.l]))) ∧ Below w.heap.size w w') := Lib.hid fun w g h => r14Bytes_none 2 _ _ [a] [] w (labs_at1 h) ⟨rfl, rfl⟩ (by simp) (by simp) (by simp)
  have HB3 : Hid (∀ w g, rowAt w g = some (cellsL a) → Calls Tryd.prog 14 #[.int .u8 3, .slice (some ⟨g, 0, none⟩) 1 1, .slice none 0 0] w fun e w' => e = .returned (.string (stx (joinL 3 [a.l]))) ∧ Below w.heap.size w w') := Lib.hid fun w g h => r14Bytes_none 3 _ _ [a] [] w (labs_at1 h) ⟨rfl, rfl⟩ (by simp) (by simp) (by simp)
  have HB4 : Hid (∀ w g k, rowAt w g = some (cellsL b) → w.cell? ⟨k, 0, none⟩ = some (.string (stx V)) → Calls Tryd.prog 14 #[.int .u8 4, .slice (some ⟨g, 0, none⟩) 1 1, .slice (some ⟨k, 0, none⟩) 1 1] w fun e w' => e = .returned (.string (stx (joinL 4 [b.l, V]))) ∧ Below w.heap.size w w') := Lib.hid fun w g k h hc => r14Bytes_one 4 _ _ [b] [V] w (labs_at1 h) ⟨V, k, rfl, rfl, hc⟩ (by simp) (by simp) (by intro t ht; obtain rfl := List.mem_singleton.1 ht; exact hV2)
  have HB5 : Hid (∀ w, Calls Tryd.prog 14 #[.int .u8 5, .slice none 0 0, .slice none 0 0] w fun e w' => e = .returned (.string (stx (joinL 5 []))) ∧ Below w.heap.size w w') := Lib.hid fun w => r14Bytes_none 5 _ _ [] [] w (labs_at0 w) ⟨rfl, rfl⟩ (by simp) (by simp) (by simp)
  have HB6 : Hid (∀ w, Calls Tryd.prog 14 #[.int .u8 6, .slice none 0 0, .slice none 0 0] w fun e w' => e = .returned (.string (stx (joinL 6 []))) ∧ Below w.heap.size w w') := Lib.hid fun w => r14Bytes_none 6 _ _ [] [] w (labs_at0 w) ⟨rfl, rfl⟩ (by simp) (by simp) (by simp)
  have HAP := Lib.hid (tags_apart a b V)
  obtain ⟨T, hT⟩ : ∃ T, tagsL a b V = T := ⟨_, rfl⟩
  have HTT : Hid (tagsL a b V = T) := Lib.hid hT
  rw [hT] at HAP
  have HTL : Hid (T.length = 5) := Lib.hid (by rw [← hT]; rfl)
  have HAW := Lib.hid (fun w (h : Cubes w) => awake14 w h)
  clear ht hV2 hT
  go_enter Tryd.func6, Tryd.ntmps6
  go_wp2_with fail
  generalize (w.alloc (.cells (cellsL a) 23)).alloc (.cells (cellsL b) 23) = W at *
  refine (HK.out _).mono ?_
  rintro e w1 ⟨rfl, rfl⟩
  clear HK
  go_upto_region 2 with fail
  have f3 := fun x : Past w1 => rowAt_past x.h r0
  have f4 := fun x : Past w1 => rowAt_past x.h r1
  obtain ⟨R, hR1, hR2, hR3, hR4, hR5⟩ : ∃ R : Nat → Value → World → Prop, R 1 = (fun v W' => ∃ g, v = .slice (some ⟨g, 0, none⟩) 1 1 ∧ rowAt W' g = some (cellsL a)) ∧ R 4 = (fun v W' => ∃ g, v = .slice (some ⟨g, 0, none⟩) 1 1 ∧ rowAt W' g = some (cellsL a)) ∧ R 7 = (fun v W' => ∃ g, v = .slice (some ⟨g, 0, none⟩) 1 1 ∧ rowAt W' g = some (cellsL b)) ∧ R 9 = (fun v W' => ∃ g, v = .slice (some ⟨g, 0, none⟩) 1 1 ∧ W'.cell? ⟨g, 0, none⟩ = some (.string (stx V))) ∧ R 13 = (fun v W' => ∃ g, v = .slice (some ⟨g, 0, none⟩) 5 5 ∧ rowAt W' g = some #[.string (stx (joinL 2 [a.l])), .string (stx (joinL 3 [a.l])), .string (stx (joinL 4 [b.l, V])), .string (stx (joinL 5 [])), .string (stx (joinL 6 []))]) :=
    ⟨fun i => if i = 7 then (fun v W' => ∃ g, v = .slice (some ⟨g, 0, none⟩) 1 1 ∧ rowAt W' g = some (cellsL b)) else if i = 9 then (fun v W' => ∃ g, v = .slice (some ⟨g, 0, none⟩) 1 1 ∧ W'.cell? ⟨g, 0, none⟩ = some (.string (stx V))) else if i = 13 then (fun v W' => ∃ g, v = .slice (some ⟨g, 0, none⟩) 5 5 ∧ rowAt W' g = some #[.string (stx (joinL 2 [a.l])), .string (stx (joinL 3 [a.l])), .string (stx (joinL 4 [b.l, V])), .string (stx (joinL 5 [])), .string (stx (joinL 6 []))]) else (fun v W' => ∃ g, v = .slice (some ⟨g, 0, none⟩) 1 1 ∧ rowAt W' g = some (cellsL a)), rfl, rfl, rfl, rfl, rfl⟩
  have HS : Hid (∀ i ∈ [1, 4, 7, 9, 13], ∃ v W', Below w1.heap.size w1 W' ∧ R i v W') := Lib.hid (by
    have ha : ∀ (c : Array Value) (t : TypeId), Below w1.heap.size w1 (w1.alloc (.cells c t)) ∧ rowAt (w1.alloc (.cells c t)) w1.heap.size = some c := fun c t => ⟨(Below.refl _ _).alloc (Nat.le_refl _) _, rowAt_alloc_at w1 c t _ rfl⟩
    intro i hi
    simp only [List.mem_cons, List.not_mem_nil, or_false] at hi
    rcases hi with rfl | rfl | rfl | rfl | rfl
    · rw [hR1]; exact ⟨_, _, (ha (cellsL a) 23).1, _, rfl, (ha _ _).2⟩
    · rw [hR2]; exact ⟨_, _, (ha (cellsL a) 23).1, _, rfl, (ha _ _).2⟩
    · rw [hR3]; exact ⟨_, _, (ha (cellsL b) 23).1, _, rfl, (ha _ _).2⟩
    · rw [hR4]; exact ⟨_, _, (ha #[.string (stx V)] 9).1, _, rfl, cell_of_rowAt (ha _ _).2 0⟩
    · rw [hR5]; exact ⟨_, _, (ha #[.string (stx (joinL 2 [a.l])), .string (stx (joinL 3 [a.l])), .string (stx (joinL 4 [b.l, V])), .string (stx (joinL 5 [])), .string (stx (joinL 6 []))] 9).1, _, rfl, (ha _ _).2⟩)
  have HTG : Hid (∀ i, i < 5 → (#[.string (stx (joinL 2 [a.l])), .string (stx (joinL 3 [a.l])), .string (stx (joinL 4 [b.l, V])), .string (stx (joinL 5 [])), .string (stx (joinL 6 []))] : Array Value)[i]? = some (.string (stx (T.getD i [])))) := Lib.hid (by
    intro i hi
    rw [← HTT.out]
    rcases (by omega : i = 0 ∨ i = 1 ∨ i = 2 ∨ i = 3 ∨ i = 4) with rfl | rfl | rfl | rfl | rfl <;> rfl)
  clear HTT r0 r1
  generalize stx (joinL 2 [a.l]) = t2 at *
  generalize stx (joinL 3 [a.l]) = t3 at *
  generalize stx (joinL 4 [b.l, V]) = t4 at *
  generalize stx (joinL 5 []) = t5 at *
  generalize stx (joinL 6 []) = t6 at *
  generalize stx V = sV at *
  focus
    refine wp_region_tok [1, 4, 7, 9, 13] 15 R (by kernel_rfl) (by kernel_rfl) HS.out ?_
    intro τ hτ
    rcases e1 : τ 1 with ⟨v1, W1⟩
    rcases e2 : τ 4 with ⟨v2, W2⟩
    rcases e3 : τ 7 with ⟨v3, W3⟩
    rcases e4 : τ 9 with ⟨v4, W4⟩
    rcases e5 : τ 13 with ⟨v5, W5⟩
    have q1 := hτ 1 (by simp)
    have q2 := hτ 4 (by simp)
    have q3 := hτ 7 (by simp)
    have q4 := hτ 9 (by simp)
    have q5 := hτ 13 (by simp)
    rw [e1, hR1] at q1
    rw [e2, hR2] at q2
    rw [e3, hR3] at q3
    rw [e4, hR4] at q4
    rw [e5, hR5] at q5
    dsimp only at q1 q2 q3 q4 q5
    obtain ⟨hb1, g1, rfl, hc1⟩ := q1
    obtain ⟨hb2, g2, rfl, hc2⟩ := q2
    obtain ⟨hb3, g3, rfl, hc3⟩ := q3
    obtain ⟨hb4, g4, rfl, hc4⟩ := q4
    obtain ⟨hb5, g5, rfl, hc5⟩ := q5
    clear HS hτ hb1 hb2 hb3 hb4 hb5
    simp only [List.take_succ_cons, List.take_nil]
    refine tokL_val (by decide) (by kernel_rfl) rfl ?_; intro K hK; go_big_quiet_op; go_big_quiet_on
    refine tokL_tok e1 (by decide) (by kernel_rfl) ?_ ?_
    focus
      intro x hg
      unfold wildAt
      go_simp
      (exact (Below.refl _ _).alloc (Nat.le_refl _) _)
    simp only [Act.put, List.setIfInBounds_toArray, List.set_cons_succ, List.set_cons_zero]
    refine tokL_call (by decide) (by kernel_rfl) (by kernel_rfl) ?_
    apply Exists.intro
    refine And.intro ?_ ?_
    focus
      intro x hg
      unfold Oper.quietAt
      go_simp
      (exact call_yields (HB2.out _ _ (rowAt_past (by have := hg.2 1 (by simp) (by kernel_rfl); rw [e1] at this; exact this) hc1)))
    simp only [Act.put, List.setIfInBounds_toArray, List.set_cons_succ, List.set_cons_zero]
    refine tokL_val (by decide) (by kernel_rfl) rfl ?_; intro K hK; go_big_quiet_op; go_big_quiet_on
    refine tokL_tok e2 (by decide) (by kernel_rfl) ?_ ?_
    focus
      intro x hg
      unfold wildAt
      go_simp
      (exact (Below.refl _ _).alloc (Nat.le_refl _) _)
    simp only [Act.put, List.setIfInBounds_toArray, List.set_cons_succ, List.set_cons_zero]
    refine tokL_call (by decide) (by kernel_rfl) (by kernel_rfl) ?_
    apply Exists.intro
    refine And.intro ?_ ?_
    focus
      intro x hg
      unfold Oper.quietAt
      go_simp
      (exact call_yields (HB3.out _ _ (rowAt_past (by have := hg.2 4 (by simp) (by kernel_rfl); rw [e2] at this; exact this) hc2)))
    simp only [Act.put, List.setIfInBounds_toArray, List.set_cons_succ, List.set_cons_zero]
    refine tokL_val (by decide) (by kernel_rfl) rfl ?_; intro K hK; go_big_quiet_op; go_big_quiet_on
    refine tokL_tok e3 (by decide) (by kernel_rfl) ?_ ?_
    focus
      intro x hg
      unfold wildAt
      go_simp
      (exact (Below.refl _ _).alloc (Nat.le_refl _) _)
    simp only [Act.put, List.setIfInBounds_toArray, List.set_cons_succ, List.set_cons_zero]
    refine tokL_val (by decide) (by kernel_rfl) rfl ?_; intro K hK; go_big_quiet_op; go_big_quiet_on
    refine tokL_tok e4 (by decide) (by kernel_rfl) ?_ ?_
    focus
      intro x hg
      unfold wildAt
      go_simp
      (exact (Below.refl _ _).alloc (Nat.le_refl _) _)
    simp only [Act.put, List.setIfInBounds_toArray, List.set_cons_succ, List.set_cons_zero]
    refine tokL_call (by decide) (by kernel_rfl) (by kernel_rfl) ?_
    apply Exists.intro
    refine And.intro ?_ ?_
    focus
      intro x hg
      unfold Oper.quietAt
      go_simp
      (exact call_yields (HB4.out _ _ _ (rowAt_past (by have := hg.2 7 (by simp) (by kernel_rfl); rw [e3] at this; exact this) hc3) ((Below.cell (by have := hg.2 9 (by simp) (by kernel_rfl); rw [e4] at this; exact this) (cellLt hc4)).trans hc4)))
    simp only [Act.put, List.setIfInBounds_toArray, List.set_cons_succ, List.set_cons_zero]
    refine tokL_call (by decide) (by kernel_rfl) (by kernel_rfl) ?_
    apply Exists.intro
    refine And.intro ?_ ?_
    focus
      intro x hg
      unfold Oper.quietAt
      go_simp
      (exact call_yields (HB5.out _))
    simp only [Act.put, List.setIfInBounds_toArray, List.set_cons_succ, List.set_cons_zero]
    refine tokL_call (by decide) (by kernel_rfl) (by kernel_rfl) ?_
    apply Exists.intro
    refine And.intro ?_ ?_
    focus
      intro x hg
      unfold Oper.quietAt
      go_simp
      (exact call_yields (HB6.out _))
    simp only [Act.put, List.setIfInBounds_toArray, List.set_cons_succ, List.set_cons_zero]
    refine tokL_tok e5 (by decide) (by kernel_rfl) ?_ ?_
    focus
      intro x hg
      unfold wildAt
      go_simp
      (exact (Below.refl _ _).alloc (Nat.le_refl _) _)
    simp only [Act.put, List.setIfInBounds_toArray, List.set_cons_succ, List.set_cons_zero]
    refine tokL_val (by decide) (by kernel_rfl) rfl ?_; intro K hK; go_big_quiet_op; go_big_quiet_on
    refine tokL_nil ?_
    simp only [List.drop_succ_cons, List.drop_nil]
    intro z hz
    have bZ := below_past b0 hz.1 b0.size
    have hr5 := rowAt_past (by have := hz.2 13 (by simp) rfl; rw [e5] at this; exact this) hc5
    have TZ := Lib.hid (HT.out.below hz.1)
    have HCL : Hid (∀ i, i < 5 → z.cell? ⟨g5, i, none⟩ = some (.string (stx (T.getD i [])))) := Lib.hid fun i hi => by rw [cell_of_rowAt hr5]; exact HTG.out i hi
    clear hz hc1 hc2 hc3 hc4 hc5 hr5 HTG b0 HT HB2 HB3 HB4 HB5 HB6 f3 f4 hR1 hR2 hR3 hR4 hR5 e1 e2 e3 e4 e5
    go_wp2_with fail
    go_loopw [28] (fun x wr => ∃ i : Nat, i ≤ 5 ∧ x = .int .i64 i ∧ Hid (Below z.heap.size z wr)) (fun x _ => (5 - intOf x).toNat)
    case atStart => exact ⟨0, Nat.zero_le _, rfl, Lib.hid (Below.refl _ _)⟩
    case round =>
      obtain ⟨i, hi, rfl, BZ⟩ := hrel
      by_cases hlt : i < 5
      · have hi5 : (i : Int) < 5 := by omega
        have hi55 : (i : Int) ≤ 5 := by omega
        have hi0 : (0 : Int) ≤ i := by omega
        go_wp2_with fail
        go_loopw [35] (fun x w2 => ∃ j : Nat, j ≤ i ∧ x = .int .i64 j ∧ Hid (Below z.heap.size z w2)) (fun x _ => (i - intOf x).toNat)
        case atStart => exact ⟨0, Nat.zero_le _, rfl, BZ⟩
        case round =>
          obtain ⟨j, hj, rfl, BZ2⟩ := hrel
          by_cases hlt2 : j < i
          · have hji : (j : Int) < i := by omega
            have hj5 : (j : Int) < 5 := by omega
            have hj0 : (0 : Int) ≤ j := by omega
            have c1 := fun x : Past wr => ((Below.step BZ2.out x.h).cell (p := ⟨g5, i, none⟩) (cellLt (HCL.out i hlt))).trans (HCL.out i hlt)
            have c2 := fun x : Past wr => ((Below.step BZ2.out x.h).cell (p := ⟨g5, j, none⟩) (cellLt (HCL.out j (by omega)))).trans (HCL.out j (by omega))
            have hne := str_ne (fun e => HAP.out i j hlt hlt2 (stx_inj e))
            generalize stx (T.getD i []) = si at *
            generalize stx (T.getD j []) = sj at *
            go_upto_region 9 with fail
            refine wp_region_past (by kernel_rfl) (by kernel_rfl) ?_
            repeat (go_big_quiet_step (fail))
            refine wpQuiet_nil ?_
            intro w2 hw2
            obtain ⟨⟨wn, hn⟩, rfl⟩ := hw2
            try dsimp only
            go_wp2_with fail
            exact ⟨⟨j + 1, hlt2, by go_num, Lib.hid (Below.step BZ2.out hn)⟩, by simp [intOf]; omega⟩
          · obtain rfl : j = i := by omega
            go_wp2_with fail
            exact ⟨⟨j + 1, hlt, by go_num, BZ2⟩, by simp [intOf]; omega⟩
      · obtain rfl : i = 5 := by omega
        go_wp2_with fail
        refine (HAW.out _ (TZ.out.below BZ.out)).mono ?_
        rintro e w5 ⟨rfl, b5⟩
        have b6 := below_past (below_past bZ BZ.out bZ.size) b5 (Nat.le_trans bZ.size BZ.out.size)
        clear b5
        go_wp2_with fail
        go_ret
        exact ⟨rfl, b6⟩
set_option maxRecDepth 100000 in
theorem lifted (os : Os) (started : os.Started) (H : Type) (enc : TypeId × Value → H) :
    ReturnsInHanded {} Tryd.checked os 6 .any (fun w args => (Rows.labelTagsSpec.pre enc Tryd.prog Tryd.f6 [] false w args ∧ laidMetH Tryd.prog laidSha w) ∧ sizedMet enc Tryd.prog Tryd.f6 (OpenSpec.ofChange Rows.labelTagsSpec) false w args) (Rows.labelTagsSpec.post enc Tryd.prog Tryd.f6 false true false false) := by
  refine returnsInHanded_of_change_and (C := Tryd.checked) (X := fun w _ => laidMetH Tryd.prog laidSha w) (fun _ _ _ hh h => h.of_heap hh) own started (by kernel_rfl) Tryd.func6
    (ChangeSpec.witness_shaped (enc := enc) (C := Tryd.checked) (os := os) (X := fun w _ => laidMetH Tryd.prog laidSha w) false (World.doorLaid Tryd.prog 2000 os) #[.agg (cellsL zeroLab), .agg (cellsL zeroLab), .string ⟨#[]⟩] 8 rfl (World.shaped_of_RefB (by kernel_rfl) (by kernel_rfl)) (by kernel_rfl) (by kernel_rfl) (by kernel_rfl) (door_sha os _)) ?_
  intro W base args ds gs before hval0 hW _ _ hL _
  have hval : ∀ (j : Nat) t v, Tryd.f6.params[j]? = some t → args[j]? = some v → Value.okWide Tryd.prog W .any base t v := hval0
  clear hval0
  have hW' := hW
  obtain ⟨p, q, hA0, hV, rfl, hfz, hnd⟩ := hW
  have hA : DataW.TrodAll enc Tryd.prog W 0 (fun _ => true) true Tryd.f6.params.toList args.toList ds p := hA0
  rw [Tryd.params6] at hA hval
  clear hA0 hfz hnd hV
  have hr : Readable Tryd.f6.params.toList := by
    rw [Tryd.params6]
    exact readable_of_all (by kernel_rfl)
  have fin : ∀ W', Below W.heap.size W W' → Rows.labelTagsSpec.post enc Tryd.prog Tryd.f6 false true false false W args (.bool true) W' := fun W' hb =>
    law_post rfl hW' hr (fun l hl => by
      rw [Tryd.params6] at hl
      match l, hl with
      | [d1, d2, d3], _ => rfl) (by kernel_rfl) hb
  clear hW' hr
  have HT := cubes_of_laid hL
  obtain ⟨v0, v1, v2, d0, d1, d2, p0, p1, p2, rfl, rfl, rfl, h0, h1, h2⟩ := trodAll_three hA; obtain ⟨a, rfl⟩ := open_lab Tryd.underlying23 Tryd.underlying5 cellsOf_u8 cellsOf_lab (hval 0 23 v0 rfl rfl) h0; obtain ⟨b, rfl⟩ := open_lab Tryd.underlying23 Tryd.underlying5 cellsOf_u8 cellsOf_lab (hval 1 23 v1 rfl rfl) h1; obtain ⟨s, rfl, _, _, w2⟩ := open_string Tryd.underlying9 (hval 2 9 v2 rfl rfl) h2
  exact (walk a b s W HT).mono fun e W' ⟨he, hb⟩ => ⟨_, he, fin W' hb⟩
theorem row_holds : Rows.LabelTagsSaid :=
  OpenClaim.holds_of_wide 6 Tryd.f6 rfl rfl rfl rfl rfl rfl rfl ⟨rfl, rfl, rfl, rfl, rfl⟩ rfl rfl rfl rfl rfl (by kernel_rfl) Tryd.func6 (by kernel_rfl)
    (of_decide_eq_true (by kernel_rfl)) (by unfold Func.isWrapper; first | (rw [if_pos (by decide +kernel)]; kernel_rfl) | (rw [if_neg (by decide +kernel)]; exact ⟨rfl, rfl⟩))
    (fun os started H enc _ => lifted os started H enc)
theorem proved : Rows.LabelTagsCardSaid :=
  Claim7.holds_tied_plain_at .later [] [.data] true _ false
    row_holds (fun _ h => by cases h) (by kernel_rfl) (fun _ h => by cases h) labelTags_row_tie rfl ⟨rfl, rfl⟩ (by kernel_rfl) rfl
    (fun f fn hf hfn => by
      obtain rfl : f = 6 := Option.some.inj ((show Tryd.prog.funcNamed "chirograph/chirographlaw14.LabelTags" = some 6 by kernel_rfl).symm.trans hf) |>.symm
      obtain rfl : fn = Tryd.f6 := (Option.some.inj (Tryd.func6.symm.trans hfn)).symm
      exact ⟨by kernel_rfl, fun j t ht => by
        rw [Tryd.params6] at ht
        have hm : t ∈ [23, 23, 9] := by simpa using Array.mem_of_getElem? ht
        have hall : ([23, 23, 9].all fun u => !Tryd.prog.wantsStandIn u) = true := by kernel_rfl
        exact (show Tryd.prog.wantsStandIn t = false by simpa using List.all_eq_true.1 hall t hm)⟩)
    (by kernel_rfl)
end Go.Proofs.YtlldcgofjibdjaaDoor.ltags
