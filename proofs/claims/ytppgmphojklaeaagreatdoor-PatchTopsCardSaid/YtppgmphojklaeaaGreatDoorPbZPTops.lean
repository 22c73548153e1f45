/- For any items the law PatchTops returns true. Conditions: the listed table is as the program lays it. -/
import Derived.Test.YtppgmphojklaeaaGreatDoorPb14
import Derived.Test.YtppgmphojklaeaaGreatDoorTie
import Derived.Test.YtppgmphojklaeaaGreatDoorCards
import Derived.SevenTiedAt
namespace Go.Proofs.YtppgmphojklaeaaGreatDoor.ptops
open Go Go.ChangeShapes Go.WideShapes Go.ChangeAt Go.ChangeMaps Go.RowKit Go.Proofs.YtppgmphojklaeaaGreatDoor

theorem top_is {L : List Itm} (h : chkL L = 0) : topL L = (topR L, 0) := by
  unfold topL topR
  rw [if_neg (by rw [h]; decide)]
  split <;> rfl
theorem top_not {L : List Itm} (h : chkL L ≠ 0) : topL L = (zeroLab, chkL L) := by rw [topL, if_pos h]
set_option maxRecDepth 100000 in
set_option maxHeartbeats 4000000 in
theorem walk (v : Value) (L0 : List Itm) (w : World) (ht : Cubes w) (hv : InI w v L0) (hmx : ∀ ao n cap, v = .slice ao n cap → cap ≤ maxLen) : Calls Tryz.prog 3 #[v] w fun e w' => e = .returned (.bool true) ∧ Below w.heap.size w w' := by
  obtain ⟨a0, ao, cap, rfl, hcap0⟩ := hv.at
  have hmax := hmx _ _ _ rfl
  have HT := Lib.hid ht
  obtain ⟨n0, hn0⟩ : ∃ n0, L0.length = n0 := ⟨_, rfl⟩
  by_cases hb : 60 < n0
  · have hb' : (60 : Int) < n0 := by omega
    have hb2 : (60 : Int) ≤ cap := by omega
    obtain ⟨L, hLe⟩ : ∃ L, L0.take 60 = L := ⟨_, rfl⟩
    have hl6 : L.length = 60 := by rw [← hLe, List.length_take]; omega
    have A0 : Hid (AtI w.heap.size w (.slice ao 60 cap) L) := by
      show AtI _ _ _ _
      rw [← hLe]
      exact AtI.take a0 (by omega)
    have hcap : 60 ≤ cap := by omega
    rw [hn0]
    clear hv a0 hcap0 hLe hn0 hmx ht
    go_enter Tryz.func3, Tryz.ntmps3
    have HM : Hid (L.length = 60) := hl6
    have lm : 60 ≤ 60 := Nat.le_refl _
    clear hl6
    go_upto_region 3 with fail
    have H1 := Lib.hid (l16Told_any _ L (by have := HM.out; omega) 60 (by decide) w A0.out)
    rw [List.take_of_length_le (by have := HM.out; omega), show ((60 : Nat) : Int) = 60 from rfl] at H1
    have A1 := A0
    have BB := Lib.hid (Below.refl w.heap.size w)
    go_wp2_with fail
    refine H1.out.mono ?_
    rintro e w1 ⟨u1, rfl, o1, b1⟩
    replace BB := Lib.hid (BB.out.trans (b1.mono BB.out.size))
    replace A1 := Lib.hid ((A1.out.below (Nat.le_refl _) b1).below b1.size (Below.refl _ _))
    have M1 := Lib.hid o1.at
    obtain ⟨ao1, cap1, rfl⟩ := o1.shape
    have H2 := Lib.hid (r16Check_any _ L (by have := HM.out; omega) w1 M1.out)
    obtain ⟨E, hE⟩ : ∃ E, chkL L = E := ⟨_, rfl⟩
    have HE := Lib.hid hE
    rw [hE, HM.out] at H2
    rw [HM.out] at M1 ⊢
    clear H1 o1 b1 hE
    go_wp2_with fail
    refine H2.out.mono ?_
    rintro e w2 ⟨rfl, b2⟩
    replace BB := Lib.hid (BB.out.trans (b2.mono BB.out.size))
    replace A1 := Lib.hid ((A1.out.below (Nat.le_refl _) b2).below b2.size (Below.refl _ _))
    replace M1 := Lib.hid ((M1.out.below (Nat.le_refl _) b2).below b2.size (Below.refl _ _))
    have H3 := Lib.hid (paTop_any L ao cap w2 (by have := HM.out; omega) (by have := HM.out; omega) hmax (HT.out.below BB.out) (by rw [HM.out]; exact A1.out))
    rw [HM.out] at H3
    clear H2 b2
    go_wp2_with fail
    refine H3.out.mono ?_
    rintro e w3 ⟨rfl, b3⟩
    replace BB := Lib.hid (BB.out.trans (b3.mono BB.out.size))
    replace A1 := Lib.hid ((A1.out.below (Nat.le_refl _) b3).below b3.size (Below.refl _ _))
    replace M1 := Lib.hid ((M1.out.below (Nat.le_refl _) b3).below b3.size (Below.refl _ _))
    clear H3 b3
    obtain ⟨Z, hZ⟩ : ∃ Z, (topL L).1 = Z := ⟨_, rfl⟩
    have hE2 : (topL L).2 = E := by
      have := HE.out
      by_cases h0 : chkL L = 0
      · rw [top_is h0]; omega
      · rw [top_not h0]; exact this
    rw [hZ, hE2]
    have HZ := Lib.hid hZ
    have b4 : Below w3.heap.size w3 (w3.alloc (.cells (cellsL Z) 27)) := (Below.refl _ _).alloc (Nat.le_refl _) _
    have R4 := Lib.hid (rowAt_of_heap (World.alloc_heap_new w3 (.cells (cellsL Z) 27)))
    replace BB := Lib.hid (BB.out.trans (b4.mono BB.out.size))
    replace A1 := Lib.hid ((A1.out.below (Nat.le_refl _) b4).below b4.size (Below.refl _ _))
    replace M1 := Lib.hid ((M1.out.below (Nat.le_refl _) b4).below b4.size (Below.refl _ _))
    clear b4 hE2 hZ
    have HA : Hid (∀ w2, Below w.heap.size w w2 → Calls Tryz.prog 14 #[] w2 fun e w' => e = .returned (.bool true) ∧ Below w2.heap.size w2 w') := Lib.hid fun w2 h2 => awake16 w2 (HT.out.below h2)
    go_wp2_with fail
    generalize w3.alloc (.cells (cellsL Z) 27) = W4 at *
    generalize w3.heap.size = p4 at *
    have r4 := R4.out
    have p1 := fun z => Past.row r4 z
    have HAW : Hid (∀ w2, Below W4.heap.size W4 w2 → Calls Tryz.prog 14 #[] w2 fun e w' => e = .returned (.bool true) ∧ Below w2.heap.size w2 w') := Lib.hid fun w2 h2 => HA.out w2 (BB.out.trans (h2.mono BB.out.size))
    have HCK : Hid (∀ w2, Below W4.heap.size W4 w2 → Calls Tryz.prog 15 #[.slice ao 60 cap] w2 fun e w' => e = .returned (.int .i64 E) ∧ Below w2.heap.size w2 w') := Lib.hid fun w2 h2 => by
      have := paCheck_any _ L (by have := HM.out; omega) w2 ((A1.out.below (Nat.le_refl _) h2).below h2.size (Below.refl _ _))
      rwa [HE.out] at this
    by_cases h0 : E = 0
    case neg =>
      have qe : (E != 0) = true := bne_iff_ne.2 h0
      have qe2 : (E == 0) = false := beq_eq_false_iff_ne.2 h0
      obtain rfl : Z = zeroLab := by rw [← HZ.out, top_not (by rw [HE.out]; exact h0)]
      refine wp_region_past (by kernel_rfl) (by kernel_rfl) ?_
      go_big_quiet_step (exact Past.call (HAW.out _ (Past.h _)))
      iterate 3 go_big_quiet_step (fail)
      go_big_quiet_step (exact Past.call (HCK.out _ (Past.h _)))
      repeat go_big_quiet_step (fail)
      refine wpQuiet_nil ?_
      intro wn hw2
      obtain ⟨⟨wx, hn⟩, rfl⟩ := hw2
      try dsimp only
      replace BB := Lib.hid (BB.out.trans (hn.mono BB.out.size))
      replace A1 := Lib.hid ((A1.out.below (Nat.le_refl _) hn).below hn.size (Below.refl _ _))
      replace M1 := Lib.hid ((M1.out.below (Nat.le_refl _) hn).below hn.size (Below.refl _ _))
      have H5 := Lib.hid (paSorted_any _ L (by have := HM.out; omega) wn A1.out)
      clear p1 hn HA HAW HCK r4 R4
      go_wp2_with fail
      refine H5.out.mono ?_
      rintro e w5 ⟨u5, rfl, o5, b5⟩
      replace BB := Lib.hid (BB.out.trans (b5.mono BB.out.size))
      replace M1 := Lib.hid ((M1.out.below (Nat.le_refl _) b5).below b5.size (Below.refl _ _))
      have A5 := Lib.hid o5.at
      obtain ⟨ao5, cap5, rfl⟩ := o5.shape
      have H6 := Lib.hid (r16Sorted_any _ L (by have := HM.out; omega) w5 M1.out)
      clear H5 o5 b5 A1
      go_wp2_with fail
      refine H6.out.mono ?_
      rintro e w6 ⟨u6, rfl, o6, b6⟩
      replace BB := Lib.hid (BB.out.trans (b6.mono BB.out.size))
      replace A5 := Lib.hid ((A5.out.below (Nat.le_refl _) b6).below b6.size (Below.refl _ _))
      have A6 := Lib.hid o6.at
      obtain ⟨ao6, cap6, rfl⟩ := o6.shape
      have H7 := Lib.hid (l16Same_any _ _ (isortL (ltOf ordI) L) (by rw [isortL_length]; have := HM.out; omega) w6 A5.out A6.out)
      clear H6 o6 b6 A5 A6 M1
      go_wp2_with fail
      refine H7.out.mono ?_
      rintro e w7 ⟨rfl, b7⟩
      replace BB := Lib.hid (BB.out.trans (b7.mono BB.out.size))
      clear H7 b7
      go_wp2
      go_ret
      exact ⟨rfl, BB.out⟩
    case pos =>
      subst h0
      have hR : RiseI L := chkL_rise HE.out
      obtain rfl : Z = topR L := by rw [← HZ.out, top_is HE.out]
      have HTP : Hid (∀ w2, Below W4.heap.size W4 w2 → Calls Tryz.prog 16 #[.slice ao1 60 cap1] w2 fun e w' => e = .returned (.agg (cellsL (topR L))) ∧ Below w2.heap.size w2 w') := Lib.hid fun w2 h2 => r16Top_any _ L (by have := HM.out; omega) hR w2 ((M1.out.below (Nat.le_refl _) h2).below h2.size (Below.refl _ _))
      generalize topR L = Z at *
      refine wp_region_past (by kernel_rfl) (by kernel_rfl) ?_
      go_big_quiet_step (exact Past.call (HAW.out _ (Past.h _)))
      iterate 3 go_big_quiet_step (fail)
      go_big_quiet_step (exact Past.call (HCK.out _ (Past.h _)))
      iterate 14 go_big_quiet_step (fail)
      go_big_quiet_step (exact Past.call (HTP.out _ (Past.h _)))
      repeat go_big_quiet_step (fail)
      refine wpQuiet_nil ?_
      intro wn hw2
      obtain ⟨⟨wx, hn⟩, rfl⟩ := hw2
      try dsimp only
      replace BB := Lib.hid (BB.out.trans (hn.mono BB.out.size))
      replace A1 := Lib.hid ((A1.out.below (Nat.le_refl _) hn).below hn.size (Below.refl _ _))
      replace M1 := Lib.hid ((M1.out.below (Nat.le_refl _) hn).below hn.size (Below.refl _ _))
      have H5 := Lib.hid (paSorted_any _ L (by have := HM.out; omega) wn A1.out)
      clear p1 hn HA HAW HCK r4 R4
      go_wp2_with fail
      refine H5.out.mono ?_
      rintro e w5 ⟨u5, rfl, o5, b5⟩
      replace BB := Lib.hid (BB.out.trans (b5.mono BB.out.size))
      replace M1 := Lib.hid ((M1.out.below (Nat.le_refl _) b5).below b5.size (Below.refl _ _))
      have A5 := Lib.hid o5.at
      obtain ⟨ao5, cap5, rfl⟩ := o5.shape
      have H6 := Lib.hid (r16Sorted_any _ L (by have := HM.out; omega) w5 M1.out)
      clear H5 o5 b5 A1
      go_wp2_with fail
      refine H6.out.mono ?_
      rintro e w6 ⟨u6, rfl, o6, b6⟩
      replace BB := Lib.hid (BB.out.trans (b6.mono BB.out.size))
      replace A5 := Lib.hid ((A5.out.below (Nat.le_refl _) b6).below b6.size (Below.refl _ _))
      have A6 := Lib.hid o6.at
      obtain ⟨ao6, cap6, rfl⟩ := o6.shape
      have H7 := Lib.hid (l16Same_any _ _ (isortL (ltOf ordI) L) (by rw [isortL_length]; have := HM.out; omega) w6 A5.out A6.out)
      clear H6 o6 b6 A5 A6 M1
      go_wp2_with fail
      refine H7.out.mono ?_
      rintro e w7 ⟨rfl, b7⟩
      replace BB := Lib.hid (BB.out.trans (b7.mono BB.out.size))
      clear H7 b7
      go_wp2
      go_ret
      exact ⟨rfl, BB.out⟩
  · have hb' : ¬ (60 : Int) < n0 := by omega
    obtain ⟨L, rfl⟩ : ∃ L, L = L0 := ⟨_, rfl⟩
    have A0 : Hid (AtI w.heap.size w (.slice ao n0 cap) L) := by rw [← hn0]; exact a0
    have HM : Hid (L.length = n0) := hn0
    have lm : n0 ≤ 60 := by omega
    have hcap : n0 ≤ cap := by omega
    rw [hn0]
    clear hv a0 hcap0 ht hmx hn0 hb
    go_enter Tryz.func3, Tryz.ntmps3
    go_upto_region 3 with fail
    have H1 := Lib.hid (l16Told_any _ L (by have := HM.out; omega) 60 (by decide) w A0.out)
    rw [List.take_of_length_le (by have := HM.out; omega), show ((60 : Nat) : Int) = 60 from rfl] at H1
    have A1 := A0
    have BB := Lib.hid (Below.refl w.heap.size w)
    go_wp2_with fail
    refine H1.out.mono ?_
    rintro e w1 ⟨u1, rfl, o1, b1⟩
    replace BB := Lib.hid (BB.out.trans (b1.mono BB.out.size))
    replace A1 := Lib.hid ((A1.out.below (Nat.le_refl _) b1).below b1.size (Below.refl _ _))
    have M1 := Lib.hid o1.at
    obtain ⟨ao1, cap1, rfl⟩ := o1.shape
    have H2 := Lib.hid (r16Check_any _ L (by have := HM.out; omega) w1 M1.out)
    obtain ⟨E, hE⟩ : ∃ E, chkL L = E := ⟨_, rfl⟩
    have HE := Lib.hid hE
    rw [hE, HM.out] at H2
    rw [HM.out] at M1 ⊢
    clear H1 o1 b1 hE
    go_wp2_with fail
    refine H2.out.mono ?_
    rintro e w2 ⟨rfl, b2⟩
    replace BB := Lib.hid (BB.out.trans (b2.mono BB.out.size))
    replace A1 := Lib.hid ((A1.out.below (Nat.le_refl _) b2).below b2.size (Below.refl _ _))
    replace M1 := Lib.hid ((M1.out.below (Nat.le_refl _) b2).below b2.size (Below.refl _ _))
    have H3 := Lib.hid (paTop_any L ao cap w2 (by have := HM.out; omega) (by have := HM.out; omega) hmax (HT.out.below BB.out) (by rw [HM.out]; exact A1.out))
    rw [HM.out] at H3
    clear H2 b2
    go_wp2_with fail
    refine H3.out.mono ?_
    rintro e w3 ⟨rfl, b3⟩
    replace BB := Lib.hid (BB.out.trans (b3.mono BB.out.size))
    replace A1 := Lib.hid ((A1.out.below (Nat.le_refl _) b3).below b3.size (Below.refl _ _))
    replace M1 := Lib.hid ((M1.out.below (Nat.le_refl _) b3).below b3.size (Below.refl _ _))
    clear H3 b3
    obtain ⟨Z, hZ⟩ : ∃ Z, (topL L).1 = Z := ⟨_, rfl⟩
    have hE2 : (topL L).2 = E := by
      have := HE.out
      by_cases h0 : chkL L = 0
      · rw [top_is h0]; omega
      · rw [top_not h0]; exact this
    rw [hZ, hE2]
    have HZ := Lib.hid hZ
    have b4 : Below w3.heap.size w3 (w3.alloc (.cells (cellsL Z) 27)) := (Below.refl _ _).alloc (Nat.le_refl _) _
    have R4 := Lib.hid (rowAt_of_heap (World.alloc_heap_new w3 (.cells (cellsL Z) 27)))
    replace BB := Lib.hid (BB.out.trans (b4.mono BB.out.size))
    replace A1 := Lib.hid ((A1.out.below (Nat.le_refl _) b4).below b4.size (Below.refl _ _))
    replace M1 := Lib.hid ((M1.out.below (Nat.le_refl _) b4).below b4.size (Below.refl _ _))
    clear b4 hE2 hZ
    have HA : Hid (∀ w2, Below w.heap.size w w2 → Calls Tryz.prog 14 #[] w2 fun e w' => e = .returned (.bool true) ∧ Below w2.heap.size w2 w') := Lib.hid fun w2 h2 => awake16 w2 (HT.out.below h2)
    go_wp2_with fail
    generalize w3.alloc (.cells (cellsL Z) 27) = W4 at *
    generalize w3.heap.size = p4 at *
    have r4 := R4.out
    have p1 := fun z => Past.row r4 z
    have HAW : Hid (∀ w2, Below W4.heap.size W4 w2 → Calls Tryz.prog 14 #[] w2 fun e w' => e = .returned (.bool true) ∧ Below w2.heap.size w2 w') := Lib.hid fun w2 h2 => HA.out w2 (BB.out.trans (h2.mono BB.out.size))
    have HCK : Hid (∀ w2, Below W4.heap.size W4 w2 → Calls Tryz.prog 15 #[.slice ao n0 cap] w2 fun e w' => e = .returned (.int .i64 E) ∧ Below w2.heap.size w2 w') := Lib.hid fun w2 h2 => by
      have := paCheck_any _ L (by have := HM.out; omega) w2 ((A1.out.below (Nat.le_refl _) h2).below h2.size (Below.refl _ _))
      rwa [HE.out] at this
    by_cases h0 : E = 0
    case neg =>
      have qe : (E != 0) = true := bne_iff_ne.2 h0
      have qe2 : (E == 0) = false := beq_eq_false_iff_ne.2 h0
      obtain rfl : Z = zeroLab := by rw [← HZ.out, top_not (by rw [HE.out]; exact h0)]
      refine wp_region_past (by kernel_rfl) (by kernel_rfl) ?_
      go_big_quiet_step (exact Past.call (HAW.out _ (Past.h _)))
      iterate 3 go_big_quiet_step (fail)
      go_big_quiet_step (exact Past.call (HCK.out _ (Past.h _)))
      repeat go_big_quiet_step (fail)
      refine wpQuiet_nil ?_
      intro wn hw2
      obtain ⟨⟨wx, hn⟩, rfl⟩ := hw2
      try dsimp only
      replace BB := Lib.hid (BB.out.trans (hn.mono BB.out.size))
      replace A1 := Lib.hid ((A1.out.below (Nat.le_refl _) hn).below hn.size (Below.refl _ _))
      replace M1 := Lib.hid ((M1.out.below (Nat.le_refl _) hn).below hn.size (Below.refl _ _))
      have H5 := Lib.hid (paSorted_any _ L (by have := HM.out; omega) wn A1.out)
      clear p1 hn HA HAW HCK r4 R4
      go_wp2_with fail
      refine H5.out.mono ?_
      rintro e w5 ⟨u5, rfl, o5, b5⟩
      replace BB := Lib.hid (BB.out.trans (b5.mono BB.out.size))
      replace M1 := Lib.hid ((M1.out.below (Nat.le_refl _) b5).below b5.size (Below.refl _ _))
      have A5 := Lib.hid o5.at
      obtain ⟨ao5, cap5, rfl⟩ := o5.shape
      have H6 := Lib.hid (r16Sorted_any _ L (by have := HM.out; omega) w5 M1.out)
      clear H5 o5 b5 A1
      go_wp2_with fail
      refine H6.out.mono ?_
      rintro e w6 ⟨u6, rfl, o6, b6⟩
      replace BB := Lib.hid (BB.out.trans (b6.mono BB.out.size))
      replace A5 := Lib.hid ((A5.out.below (Nat.le_refl _) b6).below b6.size (Below.refl _ _))
      have A6 := Lib.hid o6.at
      obtain ⟨ao6, cap6, rfl⟩ := o6.shape
      have H7 := Lib.hid (l16Same_any _ _ (isortL (ltOf ordI) L) (by rw [isortL_length]; have := HM.out; omega) w6 A5.out A6.out)
      clear H6 o6 b6 A5 A6 M1
      go_wp2_with fail
      refine H7.out.mono ?_
      rintro e w7 ⟨rfl, b7⟩
      replace BB := Lib.hid (BB.out.trans (b7.mono BB.out.size))
      clear H7 b7
      go_wp2
      go_ret
      exact ⟨rfl, BB.out⟩
    case pos =>
      subst h0
      have hR : RiseI L := chkL_rise HE.out
      obtain rfl : Z = topR L := by rw [← HZ.out, top_is HE.out]
      have HTP : Hid (∀ w2, Below W4.heap.size W4 w2 → Calls Tryz.prog 16 #[.slice ao1 n0 cap1] w2 fun e w' => e = .returned (.agg (cellsL (topR L))) ∧ Below w2.heap.size w2 w') := Lib.hid fun w2 h2 => r16Top_any _ L (by have := HM.out; omega) hR w2 ((M1.out.below (Nat.le_refl _) h2).below h2.size (Below.refl _ _))
      generalize topR L = Z at *
      refine wp_region_past (by kernel_rfl) (by kernel_rfl) ?_
      go_big_quiet_step (exact Past.call (HAW.out _ (Past.h _)))
      iterate 3 go_big_quiet_step (fail)
      go_big_quiet_step (exact Past.call (HCK.out _ (Past.h _)))
      iterate 14 go_big_quiet_step (fail)
      go_big_quiet_step (exact Past.call (HTP.out _ (Past.h _)))
      repeat go_big_quiet_step (fail)
      refine wpQuiet_nil ?_
      intro wn hw2
      obtain ⟨⟨wx, hn⟩, rfl⟩ := hw2
      try dsimp only
      replace BB := Lib.hid (BB.out.trans (hn.mono BB.out.size))
      replace A1 := Lib.hid ((A1.out.below (Nat.le_refl _) hn).below hn.size (Below.refl _ _))
      replace M1 := Lib.hid ((M1.out.below (Nat.le_refl _) hn).below hn.size (Below.refl _ _))
      have H5 := Lib.hid (paSorted_any _ L (by have := HM.out; omega) wn A1.out)
      clear p1 hn HA HAW HCK r4 R4
      go_wp2_with fail
      refine H5.out.mono ?_
      rintro e w5 ⟨u5, rfl, o5, b5⟩
      replace BB := Lib.hid (BB.out.trans (b5.mono BB.out.size))
      replace M1 := Lib.hid ((M1.out.below (Nat.le_refl _) b5).below b5.size (Below.refl _ _))
      have A5 := Lib.hid o5.at
      obtain ⟨ao5, cap5, rfl⟩ := o5.shape
      have H6 := Lib.hid (r16Sorted_any _ L (by have := HM.out; omega) w5 M1.out)
      clear H5 o5 b5 A1
      go_wp2_with fail
      refine H6.out.mono ?_
      rintro e w6 ⟨u6, rfl, o6, b6⟩
      replace BB := Lib.hid (BB.out.trans (b6.mono BB.out.size))
      replace A5 := Lib.hid ((A5.out.below (Nat.le_refl _) b6).below b6.size (Below.refl _ _))
      have A6 := Lib.hid o6.at
      obtain ⟨ao6, cap6, rfl⟩ := o6.shape
      have H7 := Lib.hid (l16Same_any _ _ (isortL (ltOf ordI) L) (by rw [isortL_length]; have := HM.out; omega) w6 A5.out A6.out)
      clear H6 o6 b6 A5 A6 M1
      go_wp2_with fail
      refine H7.out.mono ?_
      rintro e w7 ⟨rfl, b7⟩
      replace BB := Lib.hid (BB.out.trans (b7.mono BB.out.size))
      clear H7 b7
      go_wp2
      go_ret
      exact ⟨rfl, BB.out⟩
set_option maxRecDepth 100000 in
theorem lifted (os : Os) (started : os.Started) (H : Type) (enc : TypeId × Value → H) :
    ReturnsInHanded {} Tryz.checked os 3 .any (fun w args => (Rows.patchTopsSpec.pre enc Tryz.prog Tryz.f3 [] false w args ∧ laidMetH Tryz.prog laidSha w) ∧ sizedMet enc Tryz.prog Tryz.f3 (OpenSpec.ofChange Rows.patchTopsSpec) false w args) (Rows.patchTopsSpec.post enc Tryz.prog Tryz.f3 false true false false) := by
  refine returnsInHanded_of_change_and (C := Tryz.checked) (X := fun w _ => laidMetH Tryz.prog laidSha w) (fun _ _ _ hh h => h.of_heap hh) own started (by kernel_rfl) Tryz.func3
    (ChangeSpec.witness_shaped (enc := enc) (C := Tryz.checked) (os := os) (X := fun w _ => laidMetH Tryz.prog laidSha w) false (World.doorLaid Tryz.prog 2000 os) #[.slice none 0 0] 8 rfl (World.shaped_of_RefB (by kernel_rfl) (by kernel_rfl)) (by kernel_rfl) (by kernel_rfl) (by kernel_rfl) (door_sha os _)) ?_
  intro W base args ds gs before hval0 hW _ _ hL _
  have hval : ∀ (j : Nat) t v, Tryz.f3.params[j]? = some t → args[j]? = some v → Value.okWide Tryz.prog W .any base t v := hval0
  clear hval0
  have hW' := hW
  obtain ⟨p, q, hA0, hV, rfl, hfz, hnd⟩ := hW
  have hA : DataW.TrodAll enc Tryz.prog W 0 (fun _ => true) true Tryz.f3.params.toList args.toList ds p := hA0
  rw [Tryz.params3] at hA hval
  clear hA0 hfz hnd hV
  have hr : Readable Tryz.f3.params.toList := by
    rw [Tryz.params3]
    exact readable_of_all (by kernel_rfl)
  have fin : ∀ W', Below W.heap.size W W' → Rows.patchTopsSpec.post enc Tryz.prog Tryz.f3 false true false false W args (.bool true) W' := fun W' hb =>
    law_post rfl hW' hr (fun l hl => by
      rw [Tryz.params3] at hl
      match l, hl with
      | [d1], _ => rfl) (by kernel_rfl) hb
  clear hW' hr
  have HT := cubes_of_laid hL
  obtain ⟨v0, d0, rfl, rfl, h0⟩ := trodAll_one hA; obtain ⟨la, hinla⟩ := inI_of Tryz.underlying22 cellsOf_item (fun _ _ _ h => item_in h) (hval 0 22 v0 rfl rfl) h0; have hmx := slice_max Tryz.underlying22 (hval 0 22 v0 rfl rfl) h0
  exact (walk v0 la W HT hinla hmx).mono fun e W' ⟨he, hb⟩ => ⟨_, he, fin W' hb⟩
theorem row_holds : Rows.PatchTopsSaid :=
  OpenClaim.holds_of_wide 3 Tryz.f3 rfl rfl rfl rfl rfl rfl rfl ⟨rfl, rfl, rfl, rfl, rfl⟩ rfl rfl rfl rfl rfl (by kernel_rfl) Tryz.func3 (by kernel_rfl)
    (of_decide_eq_true (by kernel_rfl)) (by unfold Func.isWrapper; first | (rw [if_pos (by decide +kernel)]; kernel_rfl) | (rw [if_neg (by decide +kernel)]; exact ⟨rfl, rfl⟩))
    (fun os started H enc _ => lifted os started H enc)
theorem proved : Rows.PatchTopsCardSaid :=
  Claim7.holds_tied_plain_at .later [] [.data] true _ true
    row_holds (fun _ h => by cases h) (by kernel_rfl) (fun _ h => by cases h) patchTops_row_tie rfl ⟨rfl, rfl⟩ (by kernel_rfl) rfl
    (fun f fn hf hfn => by
      obtain rfl : f = 3 := Option.some.inj ((show Tryz.prog.funcNamed "chirograph/chirographlaw16.PatchTops" = some 3 by kernel_rfl).symm.trans hf) |>.symm
      obtain rfl : fn = Tryz.f3 := (Option.some.inj (Tryz.func3.symm.trans hfn)).symm
      exact ⟨by kernel_rfl, fun j t ht => by
        rw [Tryz.params3] at ht
        have hm : t ∈ [22] := by simpa using Array.mem_of_getElem? ht
        have hall : ([22].all fun u => !Tryz.prog.wantsStandIn u) = true := by kernel_rfl
        exact (show Tryz.prog.wantsStandIn t = false by simpa using List.all_eq_true.1 hall t hm)⟩)
    (by kernel_rfl)
end Go.Proofs.YtppgmphojklaeaaGreatDoor.ptops
