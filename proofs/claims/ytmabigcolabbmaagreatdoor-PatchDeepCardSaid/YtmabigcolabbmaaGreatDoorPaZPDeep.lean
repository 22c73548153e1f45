/- For any leaves the law PatchDeep returns true. Conditions: the listed table is as the program lays it. -/
import Derived.Test.YtmabigcolabbmaaGreatDoorPa14
import Derived.Test.YtmabigcolabbmaaGreatDoorTie
import Derived.Test.YtmabigcolabbmaaGreatDoorCards
import Derived.SevenTiedAt
namespace Go.Proofs.YtmabigcolabbmaaGreatDoor.pdeep
open Go Go.ChangeShapes Go.WideShapes Go.ChangeAt Go.ChangeMaps Go.RowKit Go.Proofs.YtmabigcolabbmaaGreatDoor

theorem caps {w : World} {B : Nat} {v : Value} {L : List Itm} (h : OwnI w B v L) : ∃ ao cap, v = .slice ao L.length cap ∧ L.length ≤ cap ∧ cap ≤ maxLen := by
  rcases h.2 with ⟨h1, h2⟩ | ⟨g, cap, cur, h1, _, _, h4, h5, _⟩
  · exact ⟨none, 0, by rw [h1, h2], by omega, Nat.zero_le _⟩
  · exact ⟨_, cap, h1, h4, h5⟩
theorem capsJ {w : World} {B : Nat} {v : Value} {L : List Itm} (h : OwnJ w B v L) : ∃ ao cap, v = .slice ao L.length cap ∧ L.length ≤ cap ∧ cap ≤ maxLen := by
  rcases h.2 with ⟨h1, h2⟩ | ⟨g, cap, cur, h1, _, _, h4, h5, _⟩
  · exact ⟨none, 0, by rw [h1, h2], by omega, Nat.zero_le _⟩
  · exact ⟨_, cap, h1, h4, h5⟩
theorem items_len (L : List Lf) : (itemsL L).length = L.length := (isortL_length _).trans (List.length_map _)
theorem top_is {L : List Itm} (h : chkL L = 0) : topL L = (topR L, 0) := by
  unfold topL topR
  rw [if_neg (by rw [h]; decide)]
  split <;> rfl
set_option maxRecDepth 100000 in
set_option maxHeartbeats 4000000 in
theorem walk (v : Value) (L0 : List Lf) (w : World) (ht : Cubes w) (hv : InF w v L0) : Calls Tryz.prog 7 #[v] w fun e w' => e = .returned (.bool true) ∧ Below w.heap.size w w' := by
  have H1 := Lib.hid (l16Few_in v L0 30 (by decide) w hv)
  rw [show ((30 : Nat) : Int) = 30 from rfl] at H1
  have HT := Lib.hid ht
  have lL : (L0.take 30).length ≤ 30 := by rw [List.length_take]; omega
  clear hv ht
  generalize L0.take 30 = L at *
  go_enter Tryz.func7, Tryz.ntmps7
  go_wp2_with fail
  refine H1.out.mono ?_
  rintro e w1 ⟨u1, rfl, o1, b1⟩
  have BB := Lib.hid b1
  have A1 := Lib.hid o1.at
  obtain ⟨ao1, cap1, rfl⟩ := o1.shape
  have H2 := Lib.hid (paOf_any _ L (by omega) w1 (HT.out.below BB.out) A1.out)
  clear H1 o1 b1
  go_wp2_with fail
  refine H2.out.mono ?_
  rintro e w2 ⟨u2, rfl, o2, b2⟩
  change OwnI w2 w1.heap.size u2 (itemsL L) at o2
  replace BB := Lib.hid (BB.out.trans (b2.mono BB.out.size))
  replace A1 := Lib.hid ((A1.out.below (Nat.le_refl _) b2).below b2.size (Below.refl _ _))
  have H3 := Lib.hid (paCheck_any _ (itemsL L) (by rw [items_len]; omega) w2 o2.at)
  obtain ⟨ao2, cap2, rfl⟩ := o2.shape
  obtain ⟨E, hE⟩ : ∃ E, chkL (itemsL L) = E := ⟨_, rfl⟩
  have HE := Lib.hid hE
  rw [hE] at H3
  clear H2 o2 b2 hE
  go_wp2_with fail
  refine H3.out.mono ?_
  rintro e w3 ⟨rfl, b3⟩
  replace BB := Lib.hid (BB.out.trans (b3.mono BB.out.size))
  replace A1 := Lib.hid ((A1.out.below (Nat.le_refl _) b3).below b3.size (Below.refl _ _))
  clear H3 b3
  by_cases h0 : E = 0
  case neg =>
    have qe : (E != 0) = true := bne_iff_ne.2 h0
    have H4 := Lib.hid (awake16 w3 (HT.out.below BB.out))
    clear A1
    go_wp2_with fail
    refine H4.out.mono ?_
    rintro e w4 ⟨rfl, b4⟩
    replace BB := Lib.hid (BB.out.trans (b4.mono BB.out.size))
    clear H4 b4
    go_wp2
    go_ret
    exact ⟨rfl, BB.out⟩
  case pos =>
    subst h0
    have H4 := Lib.hid (paOf_any _ L (by omega) w3 (HT.out.below BB.out) A1.out)
    go_wp2_with fail
    refine H4.out.mono ?_
    rintro e w4 ⟨u4, rfl, o4, b4⟩
    change OwnI w4 w3.heap.size u4 (itemsL L) at o4
    replace BB := Lib.hid (BB.out.trans (b4.mono BB.out.size))
    replace A1 := Lib.hid ((A1.out.below (Nat.le_refl _) b4).below b4.size (Below.refl _ _))
    have A4 := o4.at
    obtain ⟨ao4, cap4, rfl, lc4, lm4⟩ := caps o4
    have H5 := Lib.hid (paTop_any (itemsL L) ao4 cap4 w4 (by rw [items_len]; omega) lc4 lm4 (HT.out.below BB.out) A4)
    rw [top_is HE.out] at H5
    clear H4 o4 b4 A4 lc4 lm4
    go_wp2_with fail
    refine H5.out.mono ?_
    rintro e w5 ⟨rfl, b5⟩
    replace BB := Lib.hid (BB.out.trans (b5.mono BB.out.size))
    replace A1 := Lib.hid ((A1.out.below (Nat.le_refl _) b5).below b5.size (Below.refl _ _))
    clear H5 b5
    obtain ⟨Z, hZ⟩ : ∃ Z, topR (itemsL L) = Z := ⟨_, rfl⟩
    rw [hZ]
    have HZ := Lib.hid hZ
    have b6 : Below w5.heap.size w5 (w5.alloc (.cells (cellsL Z) 27)) := (Below.refl _ _).alloc (Nat.le_refl _) _
    have R6 := Lib.hid (rowAt_of_heap (World.alloc_heap_new w5 (.cells (cellsL Z) 27)))
    replace BB := Lib.hid (BB.out.trans (b6.mono BB.out.size))
    replace A1 := Lib.hid ((A1.out.below (Nat.le_refl _) b6).below b6.size (Below.refl _ _))
    have H6 := Lib.hid (l16Leaves_any _ L (by omega) _ A1.out)
    clear b6 hZ
    go_wp2_with fail
    generalize w5.alloc (.cells (cellsL Z) 27) = W6 at *
    generalize w5.heap.size = p5 at *
    refine H6.out.mono ?_
    rintro e w7 ⟨u7, rfl, o7, b7⟩
    replace BB := Lib.hid (BB.out.trans (b7.mono BB.out.size))
    replace R6 := Lib.hid (rowAt_past b7 R6.out)
    have H8 := Lib.hid (r16Of_any _ L (by omega) w7 o7.at)
    obtain ⟨ao7, cap7, rfl⟩ := o7.shape
    clear H6 o7 b7 A1
    go_wp2_with fail
    refine H8.out.mono ?_
    rintro e w8 ⟨u8, rfl, o8, b8⟩
    change OwnJ w8 w7.heap.size u8 (itemsL L) at o8
    replace BB := Lib.hid (BB.out.trans (b8.mono BB.out.size))
    have r8 := rowAt_past b8 R6.out
    have A8 := Lib.hid o8.at
    obtain ⟨ao8, cap8, rfl, lc8, lm8⟩ := capsJ o8
    have hR : RiseI (itemsL L) := chkL_rise HE.out
    have HA : Hid (∀ w2, Below w8.heap.size w8 w2 → Calls Tryz.prog 12 #[] w2 fun e w' => e = .returned (.bool true) ∧ Below w2.heap.size w2 w') := Lib.hid fun w2 h2 => awake16 w2 (HT.out.below (BB.out.trans (h2.mono BB.out.size)))
    have HTP : Hid (∀ w2, Below w8.heap.size w8 w2 → Calls Tryz.prog 14 #[.slice ao8 (itemsL L).length cap8] w2 fun e w' => e = .returned (.agg (cellsL Z)) ∧ Below w2.heap.size w2 w') := Lib.hid fun w2 h2 => by
      have := r16Top_any _ (itemsL L) (by rw [items_len]; omega) hR w2 ((A8.out.below (Nat.le_refl _) h2).below h2.size (Below.refl _ _))
      rwa [HZ.out] at this
    have HCN : Hid (∀ w2, Calls Tryz.prog 27 #[.int .i64 L.length] w2 fun e w' => e = .returned (.int .i64 ((2 * L.length - 1 : Nat) : Int)) ∧ w' = w2) := Lib.hid fun w2 => paCount_any L.length (by omega) w2
    have HND : Hid (∀ w2, Below w8.heap.size w8 w2 → Calls Tryz.prog 28 #[.slice ao8 (itemsL L).length cap8] w2 fun e w' => e = .returned (.int .i64 ((2 * L.length - 1 : Nat) : Int)) ∧ Below w2.heap.size w2 w') := Lib.hid fun w2 h2 => by
      have := l16nodes_any (itemsL L).length (itemsL L) ao8 cap8 w2 (Nat.le_refl _) hR (by rw [items_len]; omega) lc8 lm8 ((A8.out.below (Nat.le_refl _) h2).below h2.size (Below.refl _ _))
      have e2 : 2 * (itemsL L).length - 1 = 2 * L.length - 1 := by rw [items_len]
      rw [e2] at this
      exact this
    generalize (2 * L.length - 1 : Nat) = NN at *
    generalize (itemsL L).length = nI at *
    generalize L.length = nL at *
    have p1 := fun z => Past.row r8 z
    clear H8 o8 b8 lc8 lm8 hR A8 r8 R6
    go_wp2_with fail
    refine wp_region_past (by kernel_rfl) (by kernel_rfl) ?_
    go_big_quiet_step (exact Past.call (HA.out _ (Past.h _)))
    iterate 7 go_big_quiet_step (fail)
    go_big_quiet_step (exact Past.call (HTP.out _ (Past.h _)))
    iterate 5 go_big_quiet_step (fail)
    go_big_quiet_step (exact Past.call_same (HCN.out _))
    iterate 1 go_big_quiet_step (fail)
    go_big_quiet_step (exact Past.call (HND.out _ (Past.h _)))
    iterate 3 go_big_quiet_step (fail)
    refine wpQuiet_nil ?_
    intro wn hw2
    obtain ⟨⟨wx, hn⟩, rfl⟩ := hw2
    try dsimp only
    have B9 := Lib.hid (BB.out.trans (hn.mono BB.out.size))
    clear p1 hn BB HA HTP HCN HND
    go_wp2
    go_ret
    exact ⟨by simp, B9.out⟩
set_option maxRecDepth 100000 in
theorem lifted (os : Os) (started : os.Started) (H : Type) (enc : TypeId × Value → H) :
    ReturnsInHanded {} Tryz.checked os 7 .any (fun w args => (Rows.patchDeepSpec.pre enc Tryz.prog Tryz.f7 [] false w args ∧ laidMetH Tryz.prog laidSha w) ∧ sizedMet enc Tryz.prog Tryz.f7 (OpenSpec.ofChange Rows.patchDeepSpec) false w args) (Rows.patchDeepSpec.post enc Tryz.prog Tryz.f7 false true false false) := by
  refine returnsInHanded_of_change_and (C := Tryz.checked) (X := fun w _ => laidMetH Tryz.prog laidSha w) (fun _ _ _ hh h => h.of_heap hh) own started (by kernel_rfl) Tryz.func7
    (ChangeSpec.witness_shaped (enc := enc) (C := Tryz.checked) (os := os) (X := fun w _ => laidMetH Tryz.prog laidSha w) false (World.doorLaid Tryz.prog 2000 os) #[.slice none 0 0] 8 rfl (World.shaped_of_RefB (by kernel_rfl) (by kernel_rfl)) (by kernel_rfl) (by kernel_rfl) (by kernel_rfl) (door_sha os _)) ?_
  intro W base args ds gs before hval0 hW _ _ hL _
  have hval : ∀ (j : Nat) t v, Tryz.f7.params[j]? = some t → args[j]? = some v → Value.okWide Tryz.prog W .any base t v := hval0
  clear hval0
  have hW' := hW
  obtain ⟨p, q, hA0, hV, rfl, hfz, hnd⟩ := hW
  have hA : DataW.TrodAll enc Tryz.prog W 0 (fun _ => true) true Tryz.f7.params.toList args.toList ds p := hA0
  rw [Tryz.params7] at hA hval
  clear hA0 hfz hnd hV
  have hr : Readable Tryz.f7.params.toList := by
    rw [Tryz.params7]
    exact readable_of_all (by kernel_rfl)
  have fin : ∀ W', Below W.heap.size W W' → Rows.patchDeepSpec.post enc Tryz.prog Tryz.f7 false true false false W args (.bool true) W' := fun W' hb =>
    law_post rfl hW' hr (fun l hl => by
      rw [Tryz.params7] at hl
      match l, hl with
      | [d1], _ => rfl) (by kernel_rfl) hb
  clear hW' hr
  have HT := cubes_of_laid hL
  obtain ⟨v0, d0, rfl, rfl, h0⟩ := trodAll_one hA; obtain ⟨la, hinla⟩ := inF_of Tryz.underlying38 cellsOf_leaf (fun _ _ _ h => leaf_in h) (hval 0 38 v0 rfl rfl) h0
  exact (walk v0 la W HT hinla).mono fun e W' ⟨he, hb⟩ => ⟨_, he, fin W' hb⟩
theorem row_holds : Rows.PatchDeepSaid :=
  OpenClaim.holds_of_wide 7 Tryz.f7 rfl rfl rfl rfl rfl rfl rfl ⟨rfl, rfl, rfl, rfl, rfl⟩ rfl rfl rfl rfl rfl (by kernel_rfl) Tryz.func7 (by kernel_rfl)
    (of_decide_eq_true (by kernel_rfl)) (by unfold Func.isWrapper; first | (rw [if_pos (by decide +kernel)]; kernel_rfl) | (rw [if_neg (by decide +kernel)]; exact ⟨rfl, rfl⟩))
    (fun os started H enc _ => lifted os started H enc)
theorem proved : Rows.PatchDeepCardSaid :=
  Claim7.holds_tied_plain_at .later [] [.data] true _ true
    row_holds (fun _ h => by cases h) (by kernel_rfl) (fun _ h => by cases h) patchDeep_row_tie rfl ⟨rfl, rfl⟩ (by kernel_rfl) rfl
    (fun f fn hf hfn => by
      obtain rfl : f = 7 := Option.some.inj ((show Tryz.prog.funcNamed "chirograph/chirographlaw16.PatchDeep" = some 7 by kernel_rfl).symm.trans hf) |>.symm
      obtain rfl : fn = Tryz.f7 := (Option.some.inj (Tryz.func7.symm.trans hfn)).symm
      exact ⟨by kernel_rfl, fun j t ht => by
        rw [Tryz.params7] at ht
        have hm : t ∈ [38] := by simpa using Array.mem_of_getElem? ht
        have hall : ([38].all fun u => !Tryz.prog.wantsStandIn u) = true := by kernel_rfl
        exact (show Tryz.prog.wantsStandIn t = false by simpa using List.all_eq_true.1 hall t hm)⟩)
    (by kernel_rfl)
end Go.Proofs.YtmabigcolabbmaaGreatDoor.pdeep
