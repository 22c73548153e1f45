/- For every list of lists of entries the law MergeLists returns true. Conditions: none. -/
import Derived.Test.YtgddmbfacmgfpaaMerge7
import Derived.Test.YtgddmbfacmgfpaaEntsIn
import Derived.Test.YtgddmbfacmgfpaaEnts4
import Derived.Test.YtgddmbfacmgfpaaMIn
namespace Go.Proofs.Ytgddmbfacmgfpaa.mlists
open Go Go.ChangeShapes Go.WideShapes Go.ChangeAt Go.RowKit Go.Proofs.Ytgddmbfacmgfpaa

set_option maxRecDepth 100000 in
set_option maxHeartbeats 4000000 in
theorem walk (v : Value) (ls : List (List Ent)) (d : Bool) (w : World) (h1 : InEntss w v ls) : Calls Try.prog 7 #[v, .bool d] w fun e w' => e = .returned (.bool true) ∧ Below w.heap.size w w' := by
  obtain ⟨ao, cap, rfl, hmy, hmz, h3⟩ := h1
  have hmx : ls.length ≤ maxLen := Nat.le_trans hmy hmz
  clear hmy hmz
  have H3 := Lib.hid h3
  obtain ⟨len, hlen⟩ : ∃ len, ls.length = len := ⟨_, rfl⟩
  have HLEN := Lib.hid hlen
  rw [hlen] at hmx ⊢
  have hli : (len : Int) ≤ 9223372036854775807 := by unfold maxLen at hmx; omega
  have a1 : Below w.heap.size w (w.alloc (.cells #[] 63)) := (Below.refl _ _).alloc (Nat.le_refl _) _
  have o1 := ownLists_new w w.heap.size w.heap.size rfl (Nat.le_refl _)
  clear h3 hlen hmx
  go_enter Try.func7, Try.ntmps7
  go_wp2_with fail
  generalize (w.alloc (.cells #[] 63)) = W0 at *
  generalize hB : w.heap.size = B at *
  have HB := Lib.hid hB
  clear hB
  go_loopw [5, 6] (fun v x wr => ∃ i : Nat, i ≤ len ∧ i ≤ 8 ∧ x = .int .i64 i ∧ OwnLists wr B v (inE 40 ls i) ∧ Below B w wr) (fun _ x _ => (8 - intOf x).toNat)
  case atStart => exact ⟨0, Nat.zero_le _, Nat.zero_le _, rfl, o1, a1⟩
  case round =>
    obtain ⟨i, hi1, hi2, rfl, ow, b0⟩ := hrel
    clear o1 a1
    by_cases hgo : i < len ∧ i < 8
    · as_aux_lemma =>
      obtain ⟨gg1, gg2⟩ := hgo
      have g1' : decide (i < len) = true := decide_eq_true gg1
      have g2' : decide ((i : Int) < 8) = true := decide_eq_true (by omega)
      have g1n : (i : Int) < len := by omega
      have g2n : (i : Int) < 8 := by omega
      obtain ⟨l, hl⟩ : ∃ l, ls[i]? = some l := ⟨_, List.getElem?_eq_getElem (by rw [HLEN.out]; exact gg1)⟩
      obtain ⟨ad, u, rfl, hc, hin⟩ := H3.out i l hl
      have c1 := (b0.cell (p := ad.add i) (by rw [← HB.out]; exact cellLt hc)).trans hc
      have HR := Lib.hid (rising_any u l 40 wr (hin.below (by rw [HB.out]; exact b0)) (by decide))
      have HTX : Hid (inE 40 ls (i + 1) = inE 40 ls i ++ [riseE (fewE 40 l)]) := Lib.hid (inE_succ 40 ls i l hl)
      have hll : (inE 40 ls i).length ≤ 1000000 := Nat.le_trans (inE_length 40 ls i) (by omega)
      have HLL := Lib.hid hll
      have hBr : B ≤ wr.heap.size := by rw [← HB.out]; exact b0.size
      clear hl hll hc hin
      go_wp2_with fail
      refine HR.out.mono ?_
      rintro e w1 ⟨v1, rfl, oR, b1⟩
      obtain ⟨A1, k1, rfl⟩ := oR.shape
      have ow1 := ow.below b1
      have oR1 := oR.low hBr
      have b2 := below_past b0 b1 hBr
      have hz1 : B ≤ w1.heap.size := Nat.le_trans hBr b1.size
      generalize riseE (fewE 40 l) = R at *
      generalize R.length = rl at *
      have bq : Below w1.heap.size w1 (w1.alloc (.cells #[.slice A1 rl k1] 63)) := (Below.refl _ _).alloc (Nat.le_refl _) _
      have ow2 := ow1.below bq
      have oR2 := oR1.below bq
      have b3 := below_past b2 bq hz1
      have hcell := cell_of_rowAt (rowAt_alloc_at w1 #[.slice A1 rl k1] 63 _ rfl) 0
      have hz2 : B ≤ (w1.alloc (.cells #[.slice A1 rl k1] 63)).heap.size := Nat.le_trans hz1 bq.size
      clear ow ow1 oR oR1 b0 b1 b2 bq c1 HR
      go_wp2_with (at_builtin; refine wpList_put_list rfl _ _ rfl B _ _ rfl ow2 _ R oR2 w1.heap.size 1 rfl hcell hz2 HLL.out ?_)
      intro v' w' hown hgrow
      have b4 := ow2.grown hgrow b3 hz2
      rw [← HTX.out] at hown
      clear ow2 oR2 hgrow b3 hcell
      go_wp2_with fail
      exact ⟨⟨i + 1, gg1, gg2, by go_num, hown, b4⟩, by simp [intOf]; omega⟩
    · by_cases hg1 : i < len
      · obtain rfl : i = 8 := by omega
        have g1' : decide ((8 : Nat) < len) = true := decide_eq_true hg1
        have g1n : ((8 : Nat) : Int) < len := by omega
        have g1m : (8 : Int) < len := by omega
        clear hgo
        as_aux_lemma =>
        have hin := Lib.hid (inE_all 40 ls 8)
        have ho := Lib.hid ow
        have B0 := Lib.hid b0
        have hBr : B ≤ wr.heap.size := by rw [← HB.out]; exact b0.size
        have hIl : (inE 40 ls 8).length ≤ 8 := Nat.le_trans (inE_length 40 ls 8) (by omega)
        have hIs : sumE (inE 40 ls 8) ≤ 320 := inE_sum 40 ls 8 8 (by omega)
        clear ow b0
        generalize inE 40 ls 8 = I at *
        go_wp2_with fail
        refine (awake12 _).mono ?_
        rintro e w2 ⟨rfl, b2⟩
        have o2 := ho.out.below b2
        have b2' := below_past B0.out b2 hBr
        have hz2 : B ≤ w2.heap.size := Nat.le_trans hBr b2.size
        clear b2 ho B0
        go_wp2_with fail
        refine (mLists_any _ I d w2 o2.lie hin.out.1 (by omega) (by omega) hin.out.2).mono ?_
        rintro e w3 ⟨v3, rfl, o3, b3⟩
        have o3' := o2.below b3
        have b3' := below_past b2' b3 hz2
        have hz3 : B ≤ w3.heap.size := Nat.le_trans hz2 b3.size
        clear o2 b3 b2'
        go_wp2_with fail
        refine (r12Lists_any _ I d w3 o3'.lie hin.out.1 (by omega) (by omega)).mono ?_
        rintro e w4 ⟨v4, rfl, o4, b4⟩
        have e3 := o3.lie.below b4
        have e4 := o4.lie
        have b4' := below_past b3' b4 hz3
        have hz4 : B ≤ w4.heap.size := Nat.le_trans hz3 b4.size
        have hKl : (keptE d (mergeE I)).length ≤ 1000000 := Nat.le_trans (List.length_filter_le _ _) (Nat.le_trans (mergeE_length I) (by omega))
        clear o3 o4 o3' b4 b3'
        go_wp2_with fail
        refine (r9Same_any _ _ _ _ w4 e3 e4 hKl).mono ?_
        rintro e w5 ⟨rfl, b5⟩
        have b5' := below_past b4' b5 hz4
        rw [decide_eq_true rfl]
        clear e3 e4 b5 b4'
        go_wp2_with fail
        go_ret
        exact ⟨rfl, by rw [HB.out]; exact b5'⟩
      · obtain rfl : i = len := by omega
        clear hgo hg1
        as_aux_lemma =>
        have hin := Lib.hid (inE_all 40 ls i)
        have ho := Lib.hid ow
        have B0 := Lib.hid b0
        have hBr : B ≤ wr.heap.size := by rw [← HB.out]; exact b0.size
        have hIl : (inE 40 ls i).length ≤ 8 := Nat.le_trans (inE_length 40 ls i) (by omega)
        have hIs : sumE (inE 40 ls i) ≤ 320 := inE_sum 40 ls i 8 (by omega)
        clear ow b0
        generalize inE 40 ls i = I at *
        go_wp2_with fail
        refine (awake12 _).mono ?_
        rintro e w2 ⟨rfl, b2⟩
        have o2 := ho.out.below b2
        have b2' := below_past B0.out b2 hBr
        have hz2 : B ≤ w2.heap.size := Nat.le_trans hBr b2.size
        clear b2 ho B0
        go_wp2_with fail
        refine (mLists_any _ I d w2 o2.lie hin.out.1 (by omega) (by omega) hin.out.2).mono ?_
        rintro e w3 ⟨v3, rfl, o3, b3⟩
        have o3' := o2.below b3
        have b3' := below_past b2' b3 hz2
        have hz3 : B ≤ w3.heap.size := Nat.le_trans hz2 b3.size
        clear o2 b3 b2'
        go_wp2_with fail
        refine (r12Lists_any _ I d w3 o3'.lie hin.out.1 (by omega) (by omega)).mono ?_
        rintro e w4 ⟨v4, rfl, o4, b4⟩
        have e3 := o3.lie.below b4
        have e4 := o4.lie
        have b4' := below_past b3' b4 hz3
        have hz4 : B ≤ w4.heap.size := Nat.le_trans hz3 b4.size
        have hKl : (keptE d (mergeE I)).length ≤ 1000000 := Nat.le_trans (List.length_filter_le _ _) (Nat.le_trans (mergeE_length I) (by omega))
        clear o3 o4 o3' b4 b3'
        go_wp2_with fail
        refine (r9Same_any _ _ _ _ w4 e3 e4 hKl).mono ?_
        rintro e w5 ⟨rfl, b5⟩
        have b5' := below_past b4' b5 hz4
        rw [decide_eq_true rfl]
        clear e3 e4 b5 b4'
        go_wp2_with fail
        go_ret
        exact ⟨rfl, by rw [HB.out]; exact b5'⟩
set_option maxRecDepth 100000 in
theorem lifted (os : Os) (started : os.Started) (H : Type) (enc : TypeId × Value → H) :
    ReturnsInHanded {} Try.checked os 7 .any (Rows.mergeListsSpec.pre6 enc Try.prog Try.f7 Rows.mergeListsRow.domain false) (Rows.mergeListsSpec.post enc Try.prog Try.f7 false true false false) := by
  refine returnsInHanded_of_change (C := Try.checked) own started (by kernel_rfl) Try.func7
    (ChangeSpec.witness6 (enc := enc) (C := Try.checked) false ⟨#[], #[.slice none 0 0, .bool false], []⟩ 8 (by kernel_rfl) (by kernel_rfl) (by kernel_rfl) (by kernel_rfl)) ?_
  intro W base args ds gs before hval0 hW _ _
  have hval : ∀ (j : Nat) t v, Try.f7.params[j]? = some t → args[j]? = some v → Value.okWide Try.prog W .any base t v := hval0
  clear hval0
  have hW' := hW
  obtain ⟨p, q, hA0, hV, rfl, hfz, hnd⟩ := hW
  have hA : DataW.TrodAll enc Try.prog W 0 (fun _ => true) true Try.f7.params.toList args.toList ds p := hA0
  rw [Try.params7] at hA hval
  clear hA0 hfz hnd hV
  have hr : Readable Try.f7.params.toList := by
    rw [Try.params7]
    exact readable_of_all (by kernel_rfl)
  have fin : ∀ W', Below W.heap.size W W' → Rows.mergeListsSpec.post enc Try.prog Try.f7 false true false false W args (.bool true) W' := fun W' hb =>
    law_post rfl hW' hr (fun l hl => by
      rw [Try.params7] at hl
      match l, hl with
      | [d1, d2], _ => rfl) (by kernel_rfl) hb
  clear hW' hr
  obtain ⟨v0, v1, d0, d1, p0, p1, rfl, rfl, rfl, h0, h1⟩ := trodAll_two hA; obtain ⟨l1, hs1⟩ := in_entss_of Try.underlying62 (by kernel_rfl) Try.underlying63 Try.underlying71 (by kernel_rfl) rfl rfl rfl rfl rfl rfl Try.underlying9 (by kernel_rfl) Try.underlying4 (by kernel_rfl) (hval 0 62 v0 rfl rfl) h0; obtain ⟨b, rfl, _, _⟩ := open_bool Try.underlying4 (hval 1 4 v1 rfl rfl) h1
  exact (walk v0 l1 b W hs1).mono fun e W' ⟨he, hb⟩ => ⟨_, he, fin W' hb⟩
theorem proved : Rows.MergeListsSaid :=
  OpenClaim.holds_of_wide 7 Try.f7 rfl rfl rfl rfl rfl rfl rfl ⟨rfl, rfl, rfl, rfl, rfl⟩ rfl rfl rfl rfl rfl (by kernel_rfl) Try.func7 (by kernel_rfl)
    (of_decide_eq_true (by kernel_rfl)) (by unfold Func.isWrapper; first | (rw [if_pos (by decide +kernel)]; kernel_rfl) | (rw [if_neg (by decide +kernel)]; exact ⟨rfl, rfl⟩))
    (fun os started H enc _ => lifted os started H enc)
end Go.Proofs.Ytgddmbfacmgfpaa.mlists
