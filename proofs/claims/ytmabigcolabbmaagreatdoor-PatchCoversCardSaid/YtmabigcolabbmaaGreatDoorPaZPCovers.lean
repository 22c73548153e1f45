/- For any leaves and any labels the law PatchCovers returns true. Conditions: the listed table is as the program lays it. -/
import Derived.Test.YtmabigcolabbmaaGreatDoorPa14
import Derived.Test.YtmabigcolabbmaaGreatDoorTie
import Derived.Test.YtmabigcolabbmaaGreatDoorCards
import Derived.SevenTiedAt
namespace Go.Proofs.YtmabigcolabbmaaGreatDoor.pcovers
open Go Go.ChangeShapes Go.WideShapes Go.ChangeAt Go.ChangeMaps Go.RowKit Go.Proofs.YtmabigcolabbmaaGreatDoor

set_option maxRecDepth 100000 in
set_option maxHeartbeats 4000000 in
theorem walk (v lv : Value) (L0 : List Lf) (K0 : List Lab) (w : World) (ht : Cubes w) (hv : InF w v L0) (hk : InL w lv K0) : Calls Tryz.prog 4 #[v, lv] w fun e w' => e = .returned (.bool true) ∧ Below w.heap.size w w' := by
  have H1 := Lib.hid (l16Few_in v L0 40 (by decide) w hv)
  rw [show ((40 : Nat) : Int) = 40 from rfl] at H1
  have HK := Lib.hid hk
  have HT := Lib.hid ht
  have lL : (L0.take 40).length ≤ 40 := by rw [List.length_take]; omega
  have lK : (K0.take 40).length ≤ 40 := by rw [List.length_take]; omega
  clear hv hk ht
  generalize L0.take 40 = L at *
  go_enter Tryz.func4, Tryz.ntmps4
  go_wp2_with fail
  refine H1.out.mono ?_
  rintro e w1 ⟨u1, rfl, o1, b1⟩
  have H2 := Lib.hid (l16few_in lv K0 (by decide) w1 (HK.out.below b1))
  have BB := Lib.hid b1
  have A1 := Lib.hid o1.at
  obtain ⟨ao1, cap1, rfl⟩ := o1.shape
  generalize K0.take 40 = K at *
  clear H1 HK o1 b1
  go_wp2_with fail
  refine H2.out.mono ?_
  rintro e w2 ⟨u2, rfl, o2, b2⟩
  replace BB := Lib.hid (BB.out.trans (b2.mono BB.out.size))
  replace A1 := Lib.hid ((A1.out.below (Nat.le_refl _) b2).below b2.size (Below.refl _ _))
  have A2 := Lib.hid o2.at
  obtain ⟨ao2, cap2, rfl⟩ := o2.shape
  have H3 := Lib.hid (l16Leaves_any _ L (by omega) w2 A1.out)
  clear H2 o2 b2
  go_wp2_with fail
  refine H3.out.mono ?_
  rintro e w3 ⟨u3, rfl, o3, b3⟩
  replace BB := Lib.hid (BB.out.trans (b3.mono BB.out.size))
  replace A1 := Lib.hid ((A1.out.below (Nat.le_refl _) b3).below b3.size (Below.refl _ _))
  replace A2 := Lib.hid ((A2.out.below (Nat.le_refl _) b3).below b3.size (Below.refl _ _))
  have H4 := Lib.hid (r16Of_any _ L (by omega) w3 o3.at)
  obtain ⟨ao3, cap3, rfl⟩ := o3.shape
  clear H3 o3 b3
  go_wp2_with fail
  refine H4.out.mono ?_
  rintro e w4 ⟨u4, rfl, o4, b4⟩
  change OwnJ w4 w3.heap.size u4 (itemsL L) at o4
  replace BB := Lib.hid (BB.out.trans (b4.mono BB.out.size))
  replace A1 := Lib.hid ((A1.out.below (Nat.le_refl _) b4).below b4.size (Below.refl _ _))
  replace A2 := Lib.hid ((A2.out.below (Nat.le_refl _) b4).below b4.size (Below.refl _ _))
  have lI : (itemsL L).length = L.length := (isortL_length _).trans (List.length_map _)
  have A4 := Lib.hid o4.at
  obtain ⟨ao4, cap4, rfl⟩ := o4.shape
  have H5 := Lib.hid (r16Check_any _ (itemsL L) (by omega) w4 A4.out)
  have LI := Lib.hid lI
  obtain ⟨E, hE⟩ : ∃ E, chkL (itemsL L) = E := ⟨_, rfl⟩
  have HE := Lib.hid hE
  rw [hE] at H5
  clear H4 o4 b4 lI hE
  go_wp2_with fail
  refine H5.out.mono ?_
  rintro e w5 ⟨rfl, b5⟩
  replace BB := Lib.hid (BB.out.trans (b5.mono BB.out.size))
  replace A1 := Lib.hid ((A1.out.below (Nat.le_refl _) b5).below b5.size (Below.refl _ _))
  replace A2 := Lib.hid ((A2.out.below (Nat.le_refl _) b5).below b5.size (Below.refl _ _))
  replace A4 := Lib.hid ((A4.out.below (Nat.le_refl _) b5).below b5.size (Below.refl _ _))
  have H6 := Lib.hid (paCover_any _ _ L K (by omega) (by omega) w5 (HT.out.below BB.out) A1.out A2.out)
  rw [HE.out] at H6
  clear H5 b5
  go_wp2_with fail
  refine H6.out.mono ?_
  rintro e w6 ⟨⟨us, uu, rfl, o5, o6⟩, b6⟩
  replace BB := Lib.hid (BB.out.trans (b6.mono BB.out.size))
  replace A1 := Lib.hid ((A1.out.below (Nat.le_refl _) b6).below b6.size (Below.refl _ _))
  replace A2 := Lib.hid ((A2.out.below (Nat.le_refl _) b6).below b6.size (Below.refl _ _))
  replace A4 := Lib.hid ((A4.out.below (Nat.le_refl _) b6).below b6.size (Below.refl _ _))
  have A5 := Lib.hid o5.at
  have A6 := Lib.hid o6.at
  obtain ⟨ao5, cap5, rfl⟩ := o5.shape
  obtain ⟨ao6, cap6, rfl⟩ := o6.shape
  have H7 := Lib.hid (awake16 w6 (HT.out.below BB.out))
  clear H6 b6 o5 o6
  go_wp2_with fail
  refine H7.out.mono ?_
  rintro e w7 ⟨rfl, b7⟩
  replace BB := Lib.hid (BB.out.trans (b7.mono BB.out.size))
  replace A1 := Lib.hid ((A1.out.below (Nat.le_refl _) b7).below b7.size (Below.refl _ _))
  replace A2 := Lib.hid ((A2.out.below (Nat.le_refl _) b7).below b7.size (Below.refl _ _))
  replace A4 := Lib.hid ((A4.out.below (Nat.le_refl _) b7).below b7.size (Below.refl _ _))
  replace A5 := Lib.hid ((A5.out.below (Nat.le_refl _) b7).below b7.size (Below.refl _ _))
  replace A6 := Lib.hid ((A6.out.below (Nat.le_refl _) b7).below b7.size (Below.refl _ _))
  have H8 := Lib.hid (paOf_any _ L (by omega) w7 (HT.out.below BB.out) A1.out)
  clear H7 b7
  go_wp2_with fail
  refine H8.out.mono ?_
  rintro e w8 ⟨u8, rfl, o8, b8⟩
  change OwnI w8 w7.heap.size u8 (itemsL L) at o8
  replace BB := Lib.hid (BB.out.trans (b8.mono BB.out.size))
  replace A2 := Lib.hid ((A2.out.below (Nat.le_refl _) b8).below b8.size (Below.refl _ _))
  replace A4 := Lib.hid ((A4.out.below (Nat.le_refl _) b8).below b8.size (Below.refl _ _))
  replace A5 := Lib.hid ((A5.out.below (Nat.le_refl _) b8).below b8.size (Below.refl _ _))
  replace A6 := Lib.hid ((A6.out.below (Nat.le_refl _) b8).below b8.size (Below.refl _ _))
  have H9 := Lib.hid (l16Same_any _ _ (itemsL L) (by have := LI.out; omega) w8 o8.at A4.out)
  obtain ⟨ao8, cap8, rfl⟩ := o8.shape
  clear H8 b8 o8 A1
  go_wp2_with fail
  refine H9.out.mono ?_
  rintro e w9 ⟨rfl, b9⟩
  replace BB := Lib.hid (BB.out.trans (b9.mono BB.out.size))
  replace A2 := Lib.hid ((A2.out.below (Nat.le_refl _) b9).below b9.size (Below.refl _ _))
  replace A4 := Lib.hid ((A4.out.below (Nat.le_refl _) b9).below b9.size (Below.refl _ _))
  replace A5 := Lib.hid ((A5.out.below (Nat.le_refl _) b9).below b9.size (Below.refl _ _))
  replace A6 := Lib.hid ((A6.out.below (Nat.le_refl _) b9).below b9.size (Below.refl _ _))
  clear H9 b9
  by_cases h0 : E = 0
  case neg =>
    have qe : (E != 0) = true := bne_iff_ne.2 h0
    have hc := cover_nil (L := L) (K := K) (by rw [HE.out]; exact h0)
    rw [hc]
    have B9 := Lib.hid BB.out
    clear A2 A4 A5 A6 hc BB
    go_wp2_with fail
    go_ret
    exact ⟨rfl, B9.out⟩
  case pos =>
    subst h0
    have H10 := Lib.hid (r16Cover_all L K (by omega) (by omega) HE.out _ _ w9 A4.out A2.out)
    clear A2 A4
    go_wp2_with fail
    refine H10.out.mono ?_
    rintro e w10 ⟨p1, p2, rfl, q1, q2, b10⟩
    replace BB := Lib.hid (BB.out.trans (b10.mono BB.out.size))
    replace A5 := Lib.hid ((A5.out.below (Nat.le_refl _) b10).below b10.size (Below.refl _ _))
    replace A6 := Lib.hid ((A6.out.below (Nat.le_refl _) b10).below b10.size (Below.refl _ _))
    have lC : (coverL L K).1.length ≤ 1000000 ∧ (coverL L K).2.length ≤ 100 := by
      rw [cover_is HE.out]
      by_cases hz : (risingL L).length = 0
      · rw [hz, List.eq_nil_of_length_eq_zero hz]
        exact ⟨Nat.zero_le _, Nat.zero_le _⟩
      · have := covF_len (risingL L).length (touchL K) (risingL L) (by omega) (by rw [← items_rising]; exact chkL_rise HE.out)
        have hl : (risingL L).length = L.length := isortL_length L
        omega
    have H11 := Lib.hid (l16Same_any _ p1 _ lC.1 w10 A5.out q1)
    have A7 := Lib.hid q2
    obtain ⟨aop, capp, rfl, _⟩ := q1
    obtain ⟨aoq, capq, rfl, _⟩ := q2
    rw [List.length_map] at A7 ⊢
    obtain ⟨U, hU⟩ : ∃ U, (coverL L K).2 = U := ⟨_, rfl⟩
    rw [hU] at A6 A7 lC ⊢
    obtain ⟨m, hm⟩ : ∃ m, U.length = m := ⟨_, rfl⟩
    have hm1 : (m : Int) ≤ 100 := by omega
    rw [hm] at A6 A7 ⊢
    have HM := Lib.hid hm
    clear H10 b10 hU hm lC
    go_wp2_with fail
    refine H11.out.mono ?_
    rintro e w11 ⟨rfl, b11⟩
    replace BB := Lib.hid (BB.out.trans (b11.mono BB.out.size))
    replace A6 := Lib.hid ((A6.out.below (Nat.le_refl _) b11).below b11.size (Below.refl _ _))
    replace A7 := Lib.hid ((A7.out.below (Nat.le_refl _) b11).below b11.size (Below.refl _ _))
    clear H11 b11 A5
    go_wp2_with fail
    have HA6 : Hid (∀ i, i < m → ∃ g o cur, ao6 = some ⟨g, o, none⟩ ∧ g < w11.heap.size ∧ rowAt w11 g = some cur ∧ o + (i * 65 + 65) ≤ cur.size ∧ cur.extract (o + i * 65) (o + i * 65 + 65) = cellsF (U.getD i zeroLf)) := by
      show ∀ i, _
      intro i hi
      obtain ⟨ao', cap', e1, h2⟩ := A6.out
      injection e1 with e3 e4 e5
      subst e3
      exact h2 i (by rw [HM.out]; exact hi)
    have HA7 : Hid (∀ i, i < m → ∃ g o cur, aoq = some ⟨g, o, none⟩ ∧ g < w11.heap.size ∧ rowAt w11 g = some cur ∧ o + (i * 66 + 66) ≤ cur.size ∧ cur.extract (o + i * 66) (o + i * 66 + 66) = cellsI (leafI (U.getD i zeroLf))) := by
      show ∀ i, _
      intro i hi
      obtain ⟨ao', cap', e1, h2⟩ := A7.out
      injection e1 with e3 e4 e5
      subst e3
      obtain ⟨g, o, cur, x1, x2, x3, x4, x5⟩ := h2 i (by rw [List.length_map, HM.out]; exact hi)
      refine ⟨g, o, cur, x1, x2, x3, x4, ?_⟩
      rw [x5, List.getD_eq_getElem?_getD, List.getElem?_map, List.getD_eq_getElem?_getD, List.getElem?_eq_getElem (by rw [HM.out]; exact hi)]
      rfl
    clear A6 A7
    go_loopw [73] (fun s73 wr => ∃ (i : Nat), s73 = .int .i64 i ∧ i ≤ m ∧ Below w11.heap.size w11 wr) (fun s73 _ => (m - intOf s73).toNat)
    case atStart => exact ⟨0, rfl, Nat.zero_le _, Below.refl _ _⟩
    case round =>
      rename_i wr
      obtain ⟨i, rfl, hi, B1⟩ := hrel
      by_cases hlt : i < m
      · have hlt' : (i : Int) < m := by omega
        obtain ⟨g, o, cur, rfl, hg, hr0, hsz, hex⟩ := HA6.out i hlt
        obtain ⟨g2, o2, cur2, rfl, hg2, hr2, hsz2, hex2⟩ := HA7.out i hlt
        have q1 := (rowAt_below B1 hg).trans hr0
        have q2 := (rowAt_below B1 hg2).trans hr2
        have s1 : o + i * 65 + 65 ≤ cur.size := by omega
        have s2 : o2 + i * 66 + 66 ≤ cur2.size := by omega
        generalize U.getD i zeroLf = x at *
        have b2 : Below wr.heap.size wr (wr.alloc (.cells (cellsF x) 51)) := (Below.refl _ _).alloc (Nat.le_refl _) _
        have q3 := rowAt_past b2 q2
        have q4 : rowAt (wr.alloc (.cells (cellsF x) 51)) wr.heap.size = some (cellsF x) := rowAt_of_heap (World.alloc_heap_new _ _)
        have p1 := fun z => Past.row q3 z
        have p2 := fun z => Past.row q4 z
        have HC := Lib.hid (fun w => r16Leaf_any x w)
        have B2 := B1.trans (b2.mono B1.size)
        generalize leafI x = y at *
        clear hr0 hr2 hsz hsz2 hg hg2 q2 q3 q4 B1 b2
        go_wp2_with fail
        refine wp_region_past (by kernel_rfl) (by kernel_rfl) ?_
        iterate 1 go_big_quiet_step (fail)
        go_big_quiet_step (exact Past.call (HC.out _))
        iterate 5 go_big_quiet_step (fail)
        refine wpQuiet_nil ?_
        intro wn hw2
        obtain ⟨⟨wx, hn⟩, rfl⟩ := hw2
        try dsimp only
        have B3 := B2.trans (hn.mono B2.size)
        clear p1 p2 hn B2 HC q1
        go_wp2
        go_roundw
        case rel => exact ⟨i + 1, by go_num, hlt, B3⟩
        case measure => simp [intOf]; omega
      · obtain rfl : i = m := by omega
        have hlt' : ¬ (i : Int) < i := by omega
        have B5 := Lib.hid (BB.out.trans (B1.mono BB.out.size))
        clear B1 BB
        go_wp2
        go_ret
        exact ⟨rfl, B5.out⟩
set_option maxRecDepth 100000 in
theorem lifted (os : Os) (started : os.Started) (H : Type) (enc : TypeId × Value → H) :
    ReturnsInHanded {} Tryz.checked os 4 .any (fun w args => (Rows.patchCoversSpec.pre enc Tryz.prog Tryz.f4 [] false w args ∧ laidMetH Tryz.prog laidSha w) ∧ sizedMet enc Tryz.prog Tryz.f4 (OpenSpec.ofChange Rows.patchCoversSpec) false w args) (Rows.patchCoversSpec.post enc Tryz.prog Tryz.f4 false true false false) := by
  refine returnsInHanded_of_change_and (C := Tryz.checked) (X := fun w _ => laidMetH Tryz.prog laidSha w) (fun _ _ _ hh h => h.of_heap hh) own started (by kernel_rfl) Tryz.func4
    (ChangeSpec.witness_shaped (enc := enc) (C := Tryz.checked) (os := os) (X := fun w _ => laidMetH Tryz.prog laidSha w) false (World.doorLaid Tryz.prog 2000 os) #[.slice none 0 0, .slice none 0 0] 8 rfl (World.shaped_of_RefB (by kernel_rfl) (by kernel_rfl)) (by kernel_rfl) (by kernel_rfl) (by kernel_rfl) (door_sha os _)) ?_
  intro W base args ds gs before hval0 hW _ _ hL _
  have hval : ∀ (j : Nat) t v, Tryz.f4.params[j]? = some t → args[j]? = some v → Value.okWide Tryz.prog W .any base t v := hval0
  clear hval0
  have hW' := hW
  obtain ⟨p, q, hA0, hV, rfl, hfz, hnd⟩ := hW
  have hA : DataW.TrodAll enc Tryz.prog W 0 (fun _ => true) true Tryz.f4.params.toList args.toList ds p := hA0
  rw [Tryz.params4] at hA hval
  clear hA0 hfz hnd hV
  have hr : Readable Tryz.f4.params.toList := by
    rw [Tryz.params4]
    exact readable_of_all (by kernel_rfl)
  have fin : ∀ W', Below W.heap.size W W' → Rows.patchCoversSpec.post enc Tryz.prog Tryz.f4 false true false false W args (.bool true) W' := fun W' hb =>
    law_post rfl hW' hr (fun l hl => by
      rw [Tryz.params4] at hl
      match l, hl with
      | [d1, d2], _ => rfl) (by kernel_rfl) hb
  clear hW' hr
  have HT := cubes_of_laid hL
  obtain ⟨v0, v1, d0, d1, p0, p1, rfl, rfl, rfl, h0, h1⟩ := trodAll_two hA; obtain ⟨la, hinla⟩ := inF_of Tryz.underlying38 cellsOf_leaf (fun _ _ _ h => leaf_in h) (hval 0 38 v0 rfl rfl) h0; obtain ⟨lb, hinlb⟩ := inL_of Tryz.underlying39 cellsOf_lab (fun _ _ _ h => labl_in h) (hval 1 39 v1 rfl rfl) h1
  exact (walk v0 v1 la lb W HT hinla hinlb).mono fun e W' ⟨he, hb⟩ => ⟨_, he, fin W' hb⟩
theorem row_holds : Rows.PatchCoversSaid :=
  OpenClaim.holds_of_wide 4 Tryz.f4 rfl rfl rfl rfl rfl rfl rfl ⟨rfl, rfl, rfl, rfl, rfl⟩ rfl rfl rfl rfl rfl (by kernel_rfl) Tryz.func4 (by kernel_rfl)
    (of_decide_eq_true (by kernel_rfl)) (by unfold Func.isWrapper; first | (rw [if_pos (by decide +kernel)]; kernel_rfl) | (rw [if_neg (by decide +kernel)]; exact ⟨rfl, rfl⟩))
    (fun os started H enc _ => lifted os started H enc)
theorem proved : Rows.PatchCoversCardSaid :=
  Claim7.holds_tied_plain_at .later [] [.data] true _ true
    row_holds (fun _ h => by cases h) (by kernel_rfl) (fun _ h => by cases h) patchCovers_row_tie rfl ⟨rfl, rfl⟩ (by kernel_rfl) rfl
    (fun f fn hf hfn => by
      obtain rfl : f = 4 := Option.some.inj ((show Tryz.prog.funcNamed "chirograph/chirographlaw16.PatchCovers" = some 4 by kernel_rfl).symm.trans hf) |>.symm
      obtain rfl : fn = Tryz.f4 := (Option.some.inj (Tryz.func4.symm.trans hfn)).symm
      exact ⟨by kernel_rfl, fun j t ht => by
        rw [Tryz.params4] at ht
        have hm : t ∈ [38, 39] := by simpa using Array.mem_of_getElem? ht
        have hall : ([38, 39].all fun u => !Tryz.prog.wantsStandIn u) = true := by kernel_rfl
        exact (show Tryz.prog.wantsStandIn t = false by simpa using List.all_eq_true.1 hall t hm)⟩)
    (by kernel_rfl)
end Go.Proofs.YtmabigcolabbmaaGreatDoor.pcovers
