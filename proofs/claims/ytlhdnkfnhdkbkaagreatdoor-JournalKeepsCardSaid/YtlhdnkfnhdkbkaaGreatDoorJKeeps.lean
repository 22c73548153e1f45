/- For every list of texts and every list of flags the law JournalKeeps returns true. Conditions: the listed variables are as the program lays them. -/
import Derived.Test.YtlhdnkfnhdkbkaaGreatDoorJKit
import Derived.Test.YtlhdnkfnhdkbkaaGreatDoorSealLaw
import Derived.Test.YtlhdnkfnhdkbkaaGreatDoorTabsJ
import Derived.Test.YtlhdnkfnhdkbkaaGreatDoorTie
import Derived.Test.YtlhdnkfnhdkbkaaGreatDoorCards
import Derived.SevenTiedAt
import Derived.Deep.Grids
namespace Go.Proofs.YtlhdnkfnhdkbkaaGreatDoor.jkeeps
open Go Go.ChangeShapes Go.WideShapes Go.ChangeAt Go.ChangeMaps Go.RowKit Go.Proofs.YtlhdnkfnhdkbkaaGreatDoor
attribute [local go_sem] Oper.semAt_some

theorem maxM : max (1048576 : Int) 0 = 1048576 := by decide
set_option maxRecDepth 100000 in
set_option maxHeartbeats 4000000 in
theorem walk (v0 v1 : Value) (l0 l1 : Nat) (S : Nat → ByteArray) (Z : Nat → Bool) (w : World) (h0 : InStrs w v0 l0 S) (h1 : InFlags w v1 l1 Z) (ht : Tabs w) :
    Calls Tryz.prog 4 #[v0, v1] w fun e w' => e = .returned (.bool true) ∧ Below w.heap.size w w' := by
  have H0 := Lib.hid (dNew_any 1048576 w ⟨by decide, by decide⟩)
  rw [maxM] at H0
  have HT := Lib.hid ht
  have HS0 := Lib.hid h0
  have HZ1 := Lib.hid h1
  obtain ⟨ao0, cap0, rfl, _⟩ := h0
  obtain ⟨ao1, cap1, rfl, _⟩ := h1
  obtain ⟨B, hB⟩ : ∃ B, w.heap.size = B := ⟨_, rfl⟩
  have HB := Lib.hid hB
  rw [hB] at H0
  clear ht hB
  go_enter Tryz.func4, Tryz.ntmps4
  go_wp2_with fail
  refine H0.out.mono ?_
  rintro e w1 ⟨q, rfl, hq, d0, b0⟩
  have H1 := Lib.hid (jw_first 1048576 (by decide) (by decide) d0 b0 HT.out HB.out)
  clear H0 d0 b0 hq
  go_wp2_with fail
  refine H1.out.mono ?_
  rintro e w2 ⟨j, v, rfl, -, j0⟩
  have a2 : Below w2.heap.size w2 (w2.alloc (.cells #[] 9)) := (Below.refl _ _).alloc (Nat.le_refl _) _
  have o2 := ownStrs_new w2 B _ rfl j0.low
  have j2 := j0.kept a2
  clear H1 j0 a2
  go_wp2_with fail
  generalize (w2.alloc (.cells #[] 9)) = W2 at *
  go_loopw [6, 9, 10] (fun jv x y wr => ∃ (i : Nat) (pre : List Seg) (now : Nat) (cur want : List (List UInt8)) (d : DDisk) (j : Nat), i ≤ l0 ∧ i ≤ 20 ∧ y = .int .i64 i ∧ jv = .pointer (some ⟨j, 0, none⟩) ∧ JW B q j 1048576 pre now cur want d w wr ∧ OwnStrs wr B x want ∧ want.length = i ∧ now ≤ i ∧ dUsed d.files ≤ 208 * i) (fun _ _ y _ => (20 - intOf y).toNat)
  case atStart => exact ⟨0, [], 0, [], [], _, j, Nat.zero_le _, Nat.zero_le _, rfl, rfl, j2, o2, rfl, Nat.le_refl _, Nat.zero_le _⟩
  case round =>
    obtain ⟨i, pre, now, cur, want, d, jj, hi1, hi2, rfl, rfl, JWr, OW, hwl, hnow, hus⟩ := hrel
    clear j2 o2
    by_cases hgo : i < l0 ∧ i < 20
    · obtain ⟨hlt1, hlt2⟩ := hgo
      have g0 : decide (i < l0) = true := decide_eq_true hlt1
      have g0i : (i : Int) < l0 := by omega
      have g2 : decide ((i : Int) < 20) = true := decide_eq_true (by omega)
      have g2i : (i : Int) < 20 := by omega
      obtain ⟨mao, mcap, hv, hS⟩ := HS0.out
      obtain ⟨ma, hmao, hc⟩ := hS i hlt1
      obtain ⟨rfl, rfl⟩ : ao0 = mao ∧ cap0 = mcap := by simpa using hv
      subst hmao
      obtain ⟨L, hL⟩ : ∃ L, (S i).data.toList.take 200 = L := ⟨_, rfl⟩
      have hl2 : L.length ≤ 200 := by rw [← hL]; exact List.length_take_le _ _
      have HK : Hid (Calls Tryz.prog 12 #[.string (S i), .int .i64 200] wr fun e w' => e = .returned (.string (stx L)) ∧ w' = wr) := Lib.hid (by
        have := l3Cut_any (S i) 200 wr (by decide)
        rwa [hL] at this)
      have c0 := (JWr.bel.cell (p := ma.add i) (by rw [← HB.out]; exact cellLt hc)).trans hc
      have HAD := Lib.hid (jw_add JWr L (by omega) (by omega))
      have OS := Lib.hid OW
      have HWL : Hid ((want ++ [L]).length = i + 1) := Lib.hid (by rw [List.length_append, hwl]; rfl)
      have hw6 : want.length ≤ 1000000 := by omega
      clear hv hS hc hL JWr OW
      go_wp2_with fail
      refine HK.out.mono ?_
      rintro e w3 ⟨rfl, rfl⟩
      clear HK
      go_wp2_with fail
      refine HAD.out.mono ?_
      rintro e w4 ⟨rfl, j4, u4, s4⟩
      have o4 := s4.strs OS.out
      have HUS : Hid (dUsed (addD d (nm now) L).files ≤ 208 * (i + 1)) := Lib.hid (by rw [u4]; omega)
      generalize addD d (nm now) L = d' at *
      have a4 : Below w4.heap.size w4 (w4.alloc (.cells #[.string (stx L)] 9)) := (Below.refl _ _).alloc (Nat.le_refl _) _
      have o5 : OwnStrs (w4.alloc (.cells #[.string (stx L)] 9)) B u9 want := o4.below a4
      have J5 := Lib.hid (j4.kept a4)
      have hc1 : (w4.alloc (.cells #[.string (stx L)] 9)).cell? ⟨w4.heap.size, 0, none⟩ = some (.string (stx L)) := cell_of_rowAt (rowAt_alloc_at w4 #[.string (stx L)] 9 _ rfl) 0
      have HC1 := Lib.hid hc1
      clear HAD OS s4 o4 j4 u4 a4 hc1
      go_wp2_with (at_builtin; refine wpList_put_text rfl _ _ rfl B u9 want rfl o5 L ⟨w4.heap.size, 0, none⟩ 1 rfl HC1.out J5.out.low hw6 ?_)
      intro v' w6 o6 g6 _
      have J6 := Lib.hid (J5.out.aside o5 g6)
      have O6 := Lib.hid o6
      clear J5 HC1 o5 o6 g6
      by_cases hz : i < l1
      · have k1 : decide (i < l1) = true := decide_eq_true hz
        have k1i : (i : Int) < l1 := by omega
        obtain ⟨nao, ncap, hv, hZ⟩ := HZ1.out
        obtain ⟨na, hnao, hc⟩ := hZ i hz
        obtain ⟨rfl, rfl⟩ : ao1 = nao ∧ cap1 = ncap := by simpa using hv
        subst hnao
        have c1 := (J6.out.bel.cell (p := na.add i) (by rw [← HB.out]; exact cellLt hc)).trans hc
        clear hv hZ hc
        cases hb : Z i with
        | true =>
          rw [hb] at c1
          have HO := Lib.hid (jw_open J6.out (by have := HUS.out; omega) (by rw [HWL.out]; omega))
          clear J6
          go_wp2_with fail
          refine HO.out.mono ?_
          rintro e w7 ⟨k, v3, m, rfl, hm, o3, jk, j7, b7⟩
          obtain rfl := hm (by simp)
          have O7 := Lib.hid (O6.out.below b7)
          have HS := Lib.hid (same_any _ _ _ w7 o3.lie O7.out.lie (by rw [HWL.out]; omega))
          have J7 := Lib.hid j7
          have JK := Lib.hid jk
          have hni : (now : Int) ≤ 20 := by omega
          clear HO O6 o3 j7 jk b7 c1
          go_wp2_with fail
          refine HS.out.mono ?_
          rintro e w8 ⟨rfl, b8⟩
          have O8 := Lib.hid (O7.out.below b8)
          have J8 := Lib.hid (J7.out.kept b8)
          have JK8 := Lib.hid (JK.out.kept b8)
          have HN1 := Lib.hid (jNow_any B k q _ w8 JK8.out)
          have HN2 := Lib.hid (jNow_any B jj q _ w8 J8.out.ja)
          clear HS O7 J7 JK b8
          go_wp2_with fail
          refine HN1.out.mono ?_
          rintro e w9 ⟨rfl, rfl⟩
          go_wp2_with fail
          refine HN2.out.mono ?_
          rintro e w10 ⟨rfl, rfl⟩
          have J9 := Lib.hid (J8.out.over JK8.out (by omega))
          have hle : decide (((now + 1 : Nat) : Int) ≤ now) = false := decide_eq_false (by omega)
          have hle2 : decide (now + 1 ≤ now) = false := decide_eq_false (by omega)
          have hle3 : ((now + 1 : Nat) : Int) = (now : Int) + 1 := by omega
          have hle4 : decide ((now : Int) + 1 ≤ now) = false := decide_eq_false (by omega)
          clear HN1 HN2 J8 JK8
          go_wp2_with fail
          exact ⟨⟨i + 1, _, now + 1, _, _, _, k, hlt1, by omega, by go_num, rfl, J9.out, O8.out, HWL.out, by omega, HUS.out⟩, by simp [intOf]; omega⟩
        | false =>
          rw [hb] at c1
          go_wp2_with fail
          exact ⟨⟨i + 1, _, now, _, _, _, jj, hlt1, by omega, by go_num, rfl, J6.out, O6.out, HWL.out, by omega, HUS.out⟩, by simp [intOf]; omega⟩
      · have k1 : decide (i < l1) = false := decide_eq_false hz
        go_wp2_with fail
        exact ⟨⟨i + 1, _, now, _, _, _, jj, hlt1, by omega, by go_num, rfl, J6.out, O6.out, HWL.out, by omega, HUS.out⟩, by simp [intOf]; omega⟩
    · by_cases e0 : i < l0
      · have g0 : decide (i < l0) = true := decide_eq_true e0
        have g0i : (i : Int) < l0 := by omega
        have g2 : decide ((i : Int) < 20) = false := decide_eq_false (by omega)
        have HO := Lib.hid (jw_open JWr (by omega) (by omega))
        have HAW := Lib.hid (fun w ht => awake7 w ht)
        have OS := Lib.hid OW
        have HL : Hid (want.length ≤ 1000000) := Lib.hid (by omega)
        clear JWr OW
        go_wp2_with fail
        refine HO.out.mono ?_
        rintro e w3 ⟨k, v3, m, rfl, -, o3, -, j3, b3⟩
        have OS3 := Lib.hid (OS.out.below b3)
        have O3 := Lib.hid o3
        have J3 := Lib.hid j3
        have HA := Lib.hid (HAW.out _ j3.tabs)
        clear HO OS b3 o3 j3 HAW
        go_wp2_with fail
        refine HA.out.mono ?_
        rintro e w4 ⟨rfl, b4⟩
        have HS := Lib.hid (same_any _ _ _ w4 (O3.out.below b4).lie (OS3.out.below b4).lie HL.out)
        have J4 := Lib.hid (J3.out.kept b4)
        clear HA O3 OS3 J3 b4
        go_wp2_with fail
        refine HS.out.mono ?_
        rintro e w5 ⟨rfl, b5⟩
        have J5 := (J4.out.kept b5).bel
        clear HS J4 b5
        go_wp2_with fail
        go_ret
        exact ⟨rfl, by rw [HB.out]; exact J5⟩
      · have g0 : decide (i < l0) = false := decide_eq_false e0
        have HO := Lib.hid (jw_open JWr (by omega) (by omega))
        have HAW := Lib.hid (fun w ht => awake7 w ht)
        have OS := Lib.hid OW
        have HL : Hid (want.length ≤ 1000000) := Lib.hid (by omega)
        clear JWr OW
        go_wp2_with fail
        refine HO.out.mono ?_
        rintro e w3 ⟨k, v3, m, rfl, -, o3, -, j3, b3⟩
        have OS3 := Lib.hid (OS.out.below b3)
        have O3 := Lib.hid o3
        have J3 := Lib.hid j3
        have HA := Lib.hid (HAW.out _ j3.tabs)
        clear HO OS b3 o3 j3 HAW
        go_wp2_with fail
        refine HA.out.mono ?_
        rintro e w4 ⟨rfl, b4⟩
        have HS := Lib.hid (same_any _ _ _ w4 (O3.out.below b4).lie (OS3.out.below b4).lie HL.out)
        have J4 := Lib.hid (J3.out.kept b4)
        clear HA O3 OS3 J3 b4
        go_wp2_with fail
        refine HS.out.mono ?_
        rintro e w5 ⟨rfl, b5⟩
        have J5 := (J4.out.kept b5).bel
        clear HS J4 b5
        go_wp2_with fail
        go_ret
        exact ⟨rfl, by rw [HB.out]; exact J5⟩
set_option maxRecDepth 100000 in
theorem lifted (os : Os) (started : os.Started) (H : Type) (enc : TypeId × Value → H) :
    ReturnsInHanded {} Tryz.checked os 4 .any (fun w args => (Rows.journalKeepsSpec.pre enc Tryz.prog Tryz.f4 [] false w args ∧ laidMetH Tryz.prog laidJ w) ∧ sizedMet enc Tryz.prog Tryz.f4 (OpenSpec.ofChange Rows.journalKeepsSpec) false w args) (Rows.journalKeepsSpec.post enc Tryz.prog Tryz.f4 false true false false) := by
  refine returnsInHanded_of_change_and (C := Tryz.checked) (X := fun w _ => laidMetH Tryz.prog laidJ w) (fun _ _ _ hh h => h.of_heap hh) own started (by kernel_rfl) Tryz.func4
    (ChangeSpec.witness_shaped (enc := enc) (C := Tryz.checked) (os := os) (X := fun w _ => laidMetH Tryz.prog laidJ w) false (World.doorLaid Tryz.prog 2000 os) #[.slice none 0 0, .slice none 0 0] 8 rfl (World.shaped_of_RefB (by kernel_rfl) (by kernel_rfl)) (by kernel_rfl) (by kernel_rfl) (by kernel_rfl) (door_J os _)) ?_
  intro W base args ds gs before hval0 hW _ _ hL _
  have hval : ∀ (j : Nat) t v, Tryz.f4.params[j]? = some t → args[j]? = some v → Value.okWide Tryz.prog W .any base t v := hval0
  clear hval0
  have hW' := hW
  obtain ⟨p, q, hA0, hV, rfl, hfz, hnd⟩ := hW
  have hA : DataW.TrodAll enc Tryz.prog W 0 (fun _ => true) true Tryz.f4.params.toList args.toList ds p := hA0
  rw [Tryz.params4] at hA hval
  clear hA0 hfz hnd hV
  have hr : Readable Tryz.f4.params.toList := by
    rw [Tryz.params4]
    exact readable_of_all (by kernel_rfl)
  have fin : ∀ W', Below W.heap.size W W' → Rows.journalKeepsSpec.post enc Tryz.prog Tryz.f4 false true false false W args (.bool true) W' := fun W' hb =>
    law_post rfl hW' hr (fun l hl => by
      rw [Tryz.params4] at hl
      match l, hl with
      | [d1, d2], _ => rfl) (by kernel_rfl) hb
  clear hW' hr
  have HT := tabsJ_of_laid hL
  obtain ⟨v0, v1, d0, d1, p0, p1, rfl, rfl, rfl, h0, h1⟩ := trodAll_two hA; obtain ⟨l0, S0, hs0⟩ := in_strs Tryz.underlying27 Tryz.underlying9 cellsOf_string (hval 0 27 v0 rfl rfl) h0; obtain ⟨l1, Z1, hz1⟩ := in_flags Tryz.underlying45 Tryz.underlying4 cellsOf_flag (hval 1 45 v1 rfl rfl) h1
  exact (walk v0 v1 l0 l1 S0 Z1 W hs0 hz1 HT).mono fun e W' ⟨he, hb⟩ => ⟨_, he, fin W' hb⟩
theorem row_holds : Rows.JournalKeepsSaid :=
  OpenClaim.holds_of_wide 4 Tryz.f4 rfl rfl rfl rfl rfl rfl rfl ⟨rfl, rfl, rfl, rfl, rfl⟩ rfl rfl rfl rfl rfl (by kernel_rfl) Tryz.func4 (by kernel_rfl)
    (of_decide_eq_true (by kernel_rfl)) (by unfold Func.isWrapper; first | (rw [if_pos (by decide +kernel)]; kernel_rfl) | (rw [if_neg (by decide +kernel)]; exact ⟨rfl, rfl⟩))
    (fun os started H enc _ => lifted os started H enc)
theorem proved : Rows.JournalKeepsCardSaid :=
  Claim7.holds_tied_plain_at .later [] [.data, .data, .data, .sentinel, .sentinel, .data, .data] true _ true
    row_holds (fun _ h => by cases h) (by kernel_rfl) (fun _ h => by cases h) journalKeeps_row_tie rfl ⟨rfl, rfl⟩ (by kernel_rfl) rfl
    (fun f fn hf hfn => by
      obtain rfl : f = 4 := Option.some.inj ((show Tryz.prog.funcNamed "chirograph/chirographlaw07.JournalKeeps" = some 4 by kernel_rfl).symm.trans hf) |>.symm
      obtain rfl : fn = Tryz.f4 := (Option.some.inj (Tryz.func4.symm.trans hfn)).symm
      exact ⟨by kernel_rfl, fun j t ht => by
        rw [Tryz.params4] at ht
        have hm : t ∈ [27, 45] := by simpa using Array.mem_of_getElem? ht
        have hall : ([27, 45].all fun u => !Tryz.prog.wantsStandIn u) = true := by kernel_rfl
        exact (show Tryz.prog.wantsStandIn t = false by simpa using List.all_eq_true.1 hall t hm)⟩)
    (by kernel_rfl)
end Go.Proofs.YtlhdnkfnhdkbkaaGreatDoor.jkeeps
