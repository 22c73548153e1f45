/- For any leaves and any numbers the law PatchOrder returns true. Conditions: the listed table is as the program lays it. -/
import Derived.Test.YtmabigcolabbmaaGreatDoorPo12
import Derived.Test.YtmabigcolabbmaaGreatDoorTie
import Derived.Test.YtmabigcolabbmaaGreatDoorCards
import Derived.SevenTiedAt
namespace Go.Proofs.YtmabigcolabbmaaGreatDoor.porder
open Go Go.ChangeShapes Go.WideShapes Go.ChangeAt Go.ChangeMaps Go.RowKit Go.Proofs.YtmabigcolabbmaaGreatDoor

theorem caps {w : World} {B : Nat} {v : Value} {L : List Itm} (h : OwnI w B v L) : ∃ ao cap, v = .slice ao L.length cap ∧ L.length ≤ cap ∧ cap ≤ maxLen := by
  rcases h.2 with ⟨h1, h2⟩ | ⟨g, cap, cur, h1, _, _, h4, h5, _⟩
  · exact ⟨none, 0, by rw [h1, h2], by omega, Nat.zero_le _⟩
  · exact ⟨_, cap, h1, h4, h5⟩
theorem capsF {w : World} {B : Nat} {v : Value} {L : List Lf} (h : OwnF w B v L) : ∃ ao cap, v = .slice ao L.length cap ∧ L.length ≤ cap ∧ cap ≤ maxLen := by
  rcases h.2 with ⟨h1, h2⟩ | ⟨g, cap, cur, h1, _, _, h4, h5, _⟩
  · exact ⟨none, 0, by rw [h1, h2], by omega, Nat.zero_le _⟩
  · exact ⟨_, cap, h1, h4, h5⟩
theorem tops {L M : List Lf} (h : L.Perm M) : (topL (itemsL L)).1 = (topL (itemsL M)).1 ∧ ((topL (itemsL L)).2 = 0 ↔ (topL (itemsL M)).2 = 0) := by
  rcases top_perm h with e | ⟨h1, h2⟩
  · rw [e]
    exact ⟨rfl, Iff.rfl⟩
  · unfold topL
    rw [if_pos h1, if_pos h2]
    exact ⟨rfl, fun q => absurd q h1, fun q => absurd q h2⟩
theorem items_len (L : List Lf) : (itemsL L).length = L.length := (isortL_length _).trans (List.length_map _)
set_option maxRecDepth 100000 in
set_option maxHeartbeats 4000000 in
theorem walk (v bv : Value) (L0 : List Lf) (ks : List Int) (w : World) (ht : Cubes w) (hv : InF w v L0) (hk : InNums w bv ks) : Calls Tryz.prog 6 #[v, bv] w fun e w' => e = .returned (.bool true) ∧ Below w.heap.size w w' := by
  have H1 := Lib.hid (l16Few_in v L0 40 (by decide) w hv)
  rw [show ((40 : Nat) : Int) = 40 from rfl] at H1
  obtain ⟨aob, capb, rfl, _, _, hk2, hk3⟩ := hk
  have HK := Lib.hid hk3
  obtain ⟨nk, hnk⟩ : ∃ nk, ks.length = nk := ⟨_, rfl⟩
  rw [hnk] at HK ⊢
  have HT := Lib.hid ht
  have lL : (L0.take 40).length ≤ 40 := by rw [List.length_take]; omega
  clear hv hk2 hk3 hnk ht
  generalize L0.take 40 = L at *
  go_enter Tryz.func6, Tryz.ntmps6
  go_wp2_with fail
  refine H1.out.mono ?_
  rintro e w1 ⟨u1, rfl, o1, b1⟩
  have BB := Lib.hid b1
  have A1 := Lib.hid o1.at
  obtain ⟨ao1, cap1, rfl, lc1, _⟩ := capsF o1
  have H2 := Lib.hid (paOf_any _ L (by omega) w1 (HT.out.below BB.out) A1.out)
  clear H1 o1 b1
  go_wp2_with fail
  refine H2.out.mono ?_
  rintro e w2 ⟨u2, rfl, o2, b2⟩
  change OwnI w2 w1.heap.size u2 (itemsL L) at o2
  replace BB := Lib.hid (BB.out.trans (b2.mono BB.out.size))
  replace A1 := Lib.hid ((A1.out.below (Nat.le_refl _) b2).below b2.size (Below.refl _ _))
  have A2 := o2.at
  obtain ⟨ao2, cap2, rfl, lc2, lm2⟩ := caps o2
  have H3 := Lib.hid (paTop_any (itemsL L) ao2 cap2 w2 (by rw [items_len]; omega) lc2 lm2 (HT.out.below BB.out) A2)
  obtain ⟨T1, hT1⟩ : ∃ T1, topL (itemsL L) = T1 := ⟨_, rfl⟩
  have HT1 := Lib.hid hT1
  rw [hT1] at H3
  clear H2 o2 b2 A2 hT1 lc2 lm2
  go_wp2_with fail
  refine H3.out.mono ?_
  rintro e w3 ⟨rfl, b3⟩
  replace BB := Lib.hid (BB.out.trans (b3.mono BB.out.size))
  replace A1 := Lib.hid ((A1.out.below (Nat.le_refl _) b3).below b3.size (Below.refl _ _))
  clear H3 b3
  have b4 : Below w3.heap.size w3 (w3.alloc (.cells (cellsL T1.1) 27)) := (Below.refl _ _).alloc (Nat.le_refl _) _
  have R4 := Lib.hid (rowAt_of_heap (World.alloc_heap_new w3 (.cells (cellsL T1.1) 27)))
  replace BB := Lib.hid (BB.out.trans (b4.mono BB.out.size))
  replace A1 := Lib.hid ((A1.out.below (Nat.le_refl _) b4).below b4.size (Below.refl _ _))
  have H5 := Lib.hid (l16Few_any ao1 cap1 L (by omega) lc1 40 _ A1.out)
  rw [show ((40 : Nat) : Int) = 40 from rfl, List.take_of_length_le lL] at H5
  clear b4
  go_wp2_with fail
  have hp5' : w3.heap.size < (w3.alloc (.cells (cellsL T1.1) 27)).heap.size := by rw [World.size_alloc]; omega
  generalize w3.alloc (.cells (cellsL T1.1) 27) = W4 at *
  generalize w3.heap.size = p5 at *
  refine H5.out.mono ?_
  rintro e w6 ⟨u7, rfl, o7, b6⟩
  have zB := BB.out.size
  replace BB := Lib.hid (BB.out.trans (b6.mono BB.out.size))
  have R6 := Lib.hid (rowAt_past b6 R4.out)
  obtain ⟨C, hC⟩ : ∃ C, W4.heap.size = C := ⟨_, rfl⟩
  have b6s := b6.size
  rw [hC] at o7 hp5' zB b6s
  obtain ⟨n, hn⟩ : ∃ n, L.length = n := ⟨_, rfl⟩
  obtain ⟨ao7, cap7, rfl⟩ := o7.shape
  rw [hn] at o7 lL ⊢
  have HN := Lib.hid hn
  have hp5 := hp5'
  clear H5 b6 R4 hC A1 hn hp5'
  go_wp2_with fail
  go_loopw [8] (fun s8 wr => ∃ (i : Nat) (M : List Lf), s8 = .int .i64 i ∧ i ≤ nk ∧ Hid (M.Perm L) ∧ OwnF wr C (.slice ao7 n cap7) M ∧ Below C w6 wr ∧ C ≤ wr.heap.size) (fun s8 _ => (nk - intOf s8).toNat)
  case atStart => exact ⟨0, L, rfl, Nat.zero_le _, List.Perm.refl _, o7, Below.refl _ _, b6s⟩
  case round =>
    clear o7
    rename_i wr
    obtain ⟨i, M, rfl, hi, HP, OM, B1, S1⟩ := hrel
    by_cases hik : i < nk
    · have hik' : (i : Int) < nk := by omega
      by_cases hin : i < n
      · have hin' : (i : Int) < n := by omega
        obtain ⟨a, rfl, hc⟩ := HK.out i hik
        have hwC : w.heap.size ≤ C := by omega
        have ck := ((BB.out.trans (B1.mono hwC)).cell (cellLt hc)).trans hc
        have ac : (a.add i).block < w.heap.size := cellLt hc
        generalize ks.getD i 0 = k at ck
        clear hc
        by_cases hk0 : 0 ≤ k
        · by_cases hkn : k < (n : Int)
          · obtain ⟨j, rfl⟩ : ∃ j : Nat, k = (j : Int) := ⟨k.toNat, by omega⟩
            have hjn : j < n := by omega
            have lM : M.length = n := HP.out.length_eq.trans HN.out
            obtain ⟨g, cap', cur, e1, hg, _, rg, sg, xg⟩ := OM.lie (by rw [lM]; omega)
            injection e1 with e2 e3 e4
            subst e2 e4
            clear e3
            rw [lM] at sg
            have xi := xg i (by omega)
            have xj := xg j (by omega)
            have hgs : g < wr.heap.size := lt_of_rowAt rg
            have si : i * 65 + 65 ≤ cur.size := by omega
            have sj : j * 65 + 65 ≤ cur.size := by omega
            have HPM : Hid (((M.set i (M.getD j zeroLf)).set j (M.getD i zeroLf)).Perm M) := by
              show List.Perm _ _
              have := @List.set_set_perm _ M i j (by omega) (by omega)
              rw [List.getD_eq_getElem?_getD, List.getD_eq_getElem?_getD, List.getElem?_eq_getElem (by omega), List.getElem?_eq_getElem (by omega)]
              exact this
            generalize M.getD i zeroLf = x at *
            generalize M.getD j zeroLf = y at *
            have OM' : OwnF wr C (.slice (some ⟨g, 0, none⟩) M.length cap7) M := by rw [lM]; exact OM
            have O9 := OM'.put rg (i := i) (by omega) y
            have s2 : (splice cur (i * 65) (cellsF y).toList).size = cur.size := by simp [splice]; omega
            obtain ⟨cur2, hcur2⟩ : ∃ cur2, splice cur (i * 65) (cellsF y).toList = cur2 := ⟨_, rfl⟩
            rw [hcur2] at O9 s2
            have B9 : Below C w6 ((wr.setRow g cur2).alloc (.cells (cellsF x) 51)) := (Below.setRow B1 hg cur2).alloc (by simpa using S1) _
            have rb9 : rowAt ((wr.setRow g cur2).alloc (.cells (cellsF x) 51)) wr.heap.size = some (cellsF x) := rowAt_alloc_at _ _ _ _ (by simp)
            have rg9 : rowAt ((wr.setRow g cur2).alloc (.cells (cellsF x) 51)) g = some cur2 := (rowAt_alloc_past _ _ _ (by simpa using hgs)).trans (rowAt_setRow_same rg _)
            have ck9 : ((wr.setRow g cur2).alloc (.cells (cellsF x) 51)).cell? (a.add i) = some (.int .i64 j) := (B9.cell (by omega)).trans ((B1.cell (p := a.add i) (by omega)).symm.trans ck)
            have O9b := O9.below ((Below.refl _ _).alloc (Nat.le_refl _) (.cells (cellsF x) 51))
            have rg8 : rowAt (wr.alloc (.cells (cellsF x) 51)) g = some cur := (rowAt_alloc_past _ _ _ hgs).trans rg
            have ck8 : (wr.alloc (.cells (cellsF x) 51)).cell? (a.add i) = some (.int .i64 j) := (((Below.refl wr.heap.size wr).alloc (Nat.le_refl _) _).cell (p := a.add i) (by omega)).trans ck
            have OH := Lib.hid O9b
            have BH := Lib.hid B9
            have S9 : C ≤ ((wr.setRow g cur2).alloc (.cells (cellsF x) 51)).heap.size := by simp; omega
            have SH := Lib.hid S9
            have s2j : j * 65 + 65 ≤ cur2.size := by omega
            have LM := Lib.hid lM
            clear OM OM' O9 O9b B9 S9 lM xg HT1 sg
            go_wp2_with fail
            have p1 := fun z => (Past.cell (cellLt ck9) z).trans ck9
            have p2 := fun z => Past.row rb9 z
            generalize (wr.setRow g cur2).alloc (.cells (cellsF x) 51) = W9 at *
            clear rb9 hcur2 rg8 ck8 xi xj
            refine wp_region_tok [] 7 (fun _ _ _ => True) (by kernel_rfl) (by kernel_rfl) (by intro i hi; cases hi) ?_
            intro τ hτ
            clear hτ
            simp only [List.take_succ_cons, List.take_zero]
            iterate 7 (refine tokL_val (by decide) (by kernel_rfl) rfl ?_; intro K hK; go_big_quiet_op; go_big_quiet_on)
            refine tokL_nil ?_
            simp only [List.drop_succ_cons, List.drop_zero]
            intro z hz
            have rz : rowAt z g = some cur2 := rowAt_past hz.1 rg9
            have OZ := (OH.out.below hz.1)
            rw [show M.length = (M.set i y).length from List.length_set.symm] at OZ
            have OZ2 := OZ.put rz (i := j) (by rw [List.length_set, LM.out]; omega) x
            rw [List.length_set, LM.out] at OZ2
            have OZ3 := Lib.hid OZ2
            have BZ := Lib.hid (Below.setRow (BH.out.trans (hz.1.mono SH.out)) hg (splice cur2 (j * 65) (cellsF x).toList))
            have SZ := Lib.hid (show C ≤ (z.setRow g (splice cur2 (j * 65) (cellsF x).toList)).heap.size by simpa using Nat.le_trans SH.out hz.1.size)
            clear hz p1 p2 OZ OZ2 OH BH SH rg9 ck9
            go_wp2
            go_roundw
            case rel => exact ⟨i + 1, _, by go_num, by omega, HPM.out.trans HP.out, OZ3.out, BZ.out, SZ.out⟩
            case measure => simp [intOf]; omega
          · have hkn' : ¬ k < (n : Int) := hkn
            have O5 := Lib.hid OM
            clear OM
            go_wp2
            go_roundw
            case rel => exact ⟨i + 1, M, by go_num, by omega, HP.out, O5.out, B1, S1⟩
            case measure => simp [intOf]; omega
        · have hk0' : ¬ 0 ≤ k := hk0
          have O5 := Lib.hid OM
          clear OM
          go_wp2
          go_roundw
          case rel => exact ⟨i + 1, M, by go_num, by omega, HP.out, O5.out, B1, S1⟩
          case measure => simp [intOf]; omega
      · have hin' : ¬ (i : Int) < n := by omega
        have lM : M.length = n := HP.out.length_eq.trans HN.out
        have A8 := OM.at
        rw [← lM] at A8
        have H8 := Lib.hid (paOf_any _ M (by omega) wr (HT.out.below (BB.out.trans (B1.mono (by omega)))) A8)
        have R8 := Lib.hid ((rowAt_below B1 hp5).trans R6.out)
        have B8 := Lib.hid (BB.out.trans (B1.mono (by omega)))
        rw [lM] at H8
        clear OM A8 B1
        go_wp2_with fail
        refine H8.out.mono ?_
        rintro e w8 ⟨u8, rfl, o8, b8⟩
        change OwnI w8 wr.heap.size u8 (itemsL M) at o8
        replace B8 := Lib.hid (B8.out.trans (b8.mono B8.out.size))
        have A9 := o8.at
        obtain ⟨ao8, cap8, rfl, lc8, lm8⟩ := caps o8
        have H9 := Lib.hid (paTop_any (itemsL M) ao8 cap8 w8 (by rw [items_len]; omega) lc8 lm8 (HT.out.below B8.out) A9)
        have HX := Lib.hid (tops HP.out.symm)
        rw [HT1.out] at HX
        replace R8 := Lib.hid (rowAt_past b8 R8.out)
        obtain ⟨T2, hT2⟩ : ∃ T2, topL (itemsL M) = T2 := ⟨_, rfl⟩
        rw [hT2] at HX H9
        clear H8 o8 b8 A9 hT2 lc8 lm8
        go_wp2_with fail
        refine H9.out.mono ?_
        rintro e w9 ⟨rfl, b9⟩
        replace B8 := Lib.hid (B8.out.trans (b9.mono B8.out.size))
        replace R8 := Lib.hid (rowAt_past b9 R8.out)
        clear H9 b9
        have b10 : Below w9.heap.size w9 (w9.alloc (.cells (cellsL T2.1) 27)) := (Below.refl _ _).alloc (Nat.le_refl _) _
        have R10 := Lib.hid (rowAt_of_heap (World.alloc_heap_new w9 (.cells (cellsL T2.1) 27)))
        replace B8 := Lib.hid (B8.out.trans (b10.mono B8.out.size))
        replace R8 := Lib.hid (rowAt_past b10 R8.out)
        have H11 := Lib.hid (awake16 _ (HT.out.below B8.out))
        clear b10
        go_wp2_with fail
        refine H11.out.mono ?_
        rintro e w11 ⟨rfl, b11⟩
        replace B8 := Lib.hid (B8.out.trans (b11.mono B8.out.size))
        have r8 := rowAt_past b11 R8.out
        have r10 := rowAt_past b11 R10.out
        clear b11 H11 R8 R10
        obtain ⟨la, ea⟩ := T1
        obtain ⟨lb, eb⟩ := T2
        obtain ⟨h1, h2⟩ := HX.out
        dsimp only at *
        subst h1
        by_cases h0 : ea = 0
        · have h3 := h2.1 h0
          subst h0 h3
          clear h2 HX HT1
          go_wp2_with fail
          go_ret
          exact ⟨by simp, B8.out⟩
        · have h3 : ¬ eb = 0 := fun q => h0 (h2.2 q)
          have q1 : (ea == 0) = false := beq_eq_false_iff_ne.2 h0
          have q2 : (eb == 0) = false := beq_eq_false_iff_ne.2 h3
          clear h2 HX HT1
          go_wp2_with fail
          go_ret
          exact ⟨by simp, B8.out⟩
    · have hik' : ¬ (i : Int) < nk := by omega
      have lM : M.length = n := HP.out.length_eq.trans HN.out
      have A8 := OM.at
      rw [← lM] at A8
      have H8 := Lib.hid (paOf_any _ M (by omega) wr (HT.out.below (BB.out.trans (B1.mono (by omega)))) A8)
      have R8 := Lib.hid ((rowAt_below B1 hp5).trans R6.out)
      have B8 := Lib.hid (BB.out.trans (B1.mono (by omega)))
      rw [lM] at H8
      clear OM A8 B1
      go_wp2_with fail
      refine H8.out.mono ?_
      rintro e w8 ⟨u8, rfl, o8, b8⟩
      change OwnI w8 wr.heap.size u8 (itemsL M) at o8
      replace B8 := Lib.hid (B8.out.trans (b8.mono B8.out.size))
      have A9 := o8.at
      obtain ⟨ao8, cap8, rfl, lc8, lm8⟩ := caps o8
      have H9 := Lib.hid (paTop_any (itemsL M) ao8 cap8 w8 (by rw [items_len]; omega) lc8 lm8 (HT.out.below B8.out) A9)
      have HX := Lib.hid (tops HP.out.symm)
      rw [HT1.out] at HX
      replace R8 := Lib.hid (rowAt_past b8 R8.out)
      obtain ⟨T2, hT2⟩ : ∃ T2, topL (itemsL M) = T2 := ⟨_, rfl⟩
      rw [hT2] at HX H9
      clear H8 o8 b8 A9 hT2 lc8 lm8
      go_wp2_with fail
      refine H9.out.mono ?_
      rintro e w9 ⟨rfl, b9⟩
      replace B8 := Lib.hid (B8.out.trans (b9.mono B8.out.size))
      replace R8 := Lib.hid (rowAt_past b9 R8.out)
      clear H9 b9
      have b10 : Below w9.heap.size w9 (w9.alloc (.cells (cellsL T2.1) 27)) := (Below.refl _ _).alloc (Nat.le_refl _) _
      have R10 := Lib.hid (rowAt_of_heap (World.alloc_heap_new w9 (.cells (cellsL T2.1) 27)))
      replace B8 := Lib.hid (B8.out.trans (b10.mono B8.out.size))
      replace R8 := Lib.hid (rowAt_past b10 R8.out)
      have H11 := Lib.hid (awake16 _ (HT.out.below B8.out))
      clear b10
      go_wp2_with fail
      refine H11.out.mono ?_
      rintro e w11 ⟨rfl, b11⟩
      replace B8 := Lib.hid (B8.out.trans (b11.mono B8.out.size))
      have r8 := rowAt_past b11 R8.out
      have r10 := rowAt_past b11 R10.out
      clear b11 H11 R8 R10
      obtain ⟨la, ea⟩ := T1
      obtain ⟨lb, eb⟩ := T2
      obtain ⟨h1, h2⟩ := HX.out
      dsimp only at *
      subst h1
      by_cases h0 : ea = 0
      · have h3 := h2.1 h0
        subst h0 h3
        clear h2 HX HT1
        go_wp2_with fail
        go_ret
        exact ⟨by simp, B8.out⟩
      · have h3 : ¬ eb = 0 := fun q => h0 (h2.2 q)
        have q1 : (ea == 0) = false := beq_eq_false_iff_ne.2 h0
        have q2 : (eb == 0) = false := beq_eq_false_iff_ne.2 h3
        clear h2 HX HT1
        go_wp2_with fail
        go_ret
        exact ⟨by simp, B8.out⟩
set_option maxRecDepth 100000 in
theorem lifted (os : Os) (started : os.Started) (H : Type) (enc : TypeId × Value → H) :
    ReturnsInHanded {} Tryz.checked os 6 .any (fun w args => (Rows.patchOrderSpec.pre enc Tryz.prog Tryz.f6 [] false w args ∧ laidMetH Tryz.prog laidSha w) ∧ sizedMet enc Tryz.prog Tryz.f6 (OpenSpec.ofChange Rows.patchOrderSpec) false w args) (Rows.patchOrderSpec.post enc Tryz.prog Tryz.f6 false true false false) := by
  refine returnsInHanded_of_change_and (C := Tryz.checked) (X := fun w _ => laidMetH Tryz.prog laidSha w) (fun _ _ _ hh h => h.of_heap hh) own started (by kernel_rfl) Tryz.func6
    (ChangeSpec.witness_shaped (enc := enc) (C := Tryz.checked) (os := os) (X := fun w _ => laidMetH Tryz.prog laidSha w) false (World.doorLaid Tryz.prog 2000 os) #[.slice none 0 0, .slice none 0 0] 8 rfl (World.shaped_of_RefB (by kernel_rfl) (by kernel_rfl)) (by kernel_rfl) (by kernel_rfl) (by kernel_rfl) (door_sha os _)) ?_
  intro W base args ds gs before hval0 hW _ _ hL _
  have hval : ∀ (j : Nat) t v, Tryz.f6.params[j]? = some t → args[j]? = some v → Value.okWide Tryz.prog W .any base t v := hval0
  clear hval0
  have hW' := hW
  obtain ⟨p, q, hA0, hV, rfl, hfz, hnd⟩ := hW
  have hA : DataW.TrodAll enc Tryz.prog W 0 (fun _ => true) true Tryz.f6.params.toList args.toList ds p := hA0
  rw [Tryz.params6] at hA hval
  clear hA0 hfz hnd hV
  have hr : Readable Tryz.f6.params.toList := by
    rw [Tryz.params6]
    exact readable_of_all (by kernel_rfl)
  have fin : ∀ W', Below W.heap.size W W' → Rows.patchOrderSpec.post enc Tryz.prog Tryz.f6 false true false false W args (.bool true) W' := fun W' hb =>
    law_post rfl hW' hr (fun l hl => by
      rw [Tryz.params6] at hl
      match l, hl with
      | [d1, d2], _ => rfl) (by kernel_rfl) hb
  clear hW' hr
  have HT := cubes_of_laid hL
  obtain ⟨v0, v1, d0, d1, p0, p1, rfl, rfl, rfl, h0, h1⟩ := trodAll_two hA; obtain ⟨la, hinla⟩ := inF_of Tryz.underlying38 cellsOf_leaf (fun _ _ _ h => leaf_in h) (hval 0 38 v0 rfl rfl) h0; obtain ⟨lb, hinlb⟩ := in_nums Tryz.underlying59 Tryz.underlying3 cellsOf_int (hval 1 59 v1 rfl rfl) h1
  exact (walk v0 v1 la lb W HT hinla hinlb).mono fun e W' ⟨he, hb⟩ => ⟨_, he, fin W' hb⟩
theorem row_holds : Rows.PatchOrderSaid :=
  OpenClaim.holds_of_wide 6 Tryz.f6 rfl rfl rfl rfl rfl rfl rfl ⟨rfl, rfl, rfl, rfl, rfl⟩ rfl rfl rfl rfl rfl (by kernel_rfl) Tryz.func6 (by kernel_rfl)
    (of_decide_eq_true (by kernel_rfl)) (by unfold Func.isWrapper; first | (rw [if_pos (by decide +kernel)]; kernel_rfl) | (rw [if_neg (by decide +kernel)]; exact ⟨rfl, rfl⟩))
    (fun os started H enc _ => lifted os started H enc)
theorem proved : Rows.PatchOrderCardSaid :=
  Claim7.holds_tied_plain_at .later [] [.data] true _ true
    row_holds (fun _ h => by cases h) (by kernel_rfl) (fun _ h => by cases h) patchOrder_row_tie rfl ⟨rfl, rfl⟩ (by kernel_rfl) rfl
    (fun f fn hf hfn => by
      obtain rfl : f = 6 := Option.some.inj ((show Tryz.prog.funcNamed "chirograph/chirographlaw16.PatchOrder" = some 6 by kernel_rfl).symm.trans hf) |>.symm
      obtain rfl : fn = Tryz.f6 := (Option.some.inj (Tryz.func6.symm.trans hfn)).symm
      exact ⟨by kernel_rfl, fun j t ht => by
        rw [Tryz.params6] at ht
        have hm : t ∈ [38, 59] := by simpa using Array.mem_of_getElem? ht
        have hall : ([38, 59].all fun u => !Tryz.prog.wantsStandIn u) = true := by kernel_rfl
        exact (show Tryz.prog.wantsStandIn t = false by simpa using List.all_eq_true.1 hall t hm)⟩)
    (by kernel_rfl)
end Go.Proofs.YtmabigcolabbmaaGreatDoor.porder
