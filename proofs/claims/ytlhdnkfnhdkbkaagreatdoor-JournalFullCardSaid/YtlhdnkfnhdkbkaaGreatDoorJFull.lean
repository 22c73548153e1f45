/- For every number and every list of texts the law JournalFull returns true. Conditions: the listed variables are as the program lays them. -/
import Derived.Test.YtlhdnkfnhdkbkaaGreatDoorJKit
import Derived.Test.YtlhdnkfnhdkbkaaGreatDoorSealLaw
import Derived.Test.YtlhdnkfnhdkbkaaGreatDoorTabsJ
import Derived.Test.YtlhdnkfnhdkbkaaGreatDoorTie
import Derived.Test.YtlhdnkfnhdkbkaaGreatDoorCards
import Derived.SevenTiedAt
namespace Go.Proofs.YtlhdnkfnhdkbkaaGreatDoor.jfull
open Go Go.ChangeShapes Go.WideShapes Go.ChangeAt Go.ChangeMaps Go.RowKit Go.Proofs.YtlhdnkfnhdkbkaaGreatDoor
attribute [local go_sem] Oper.semAt_some

set_option maxRecDepth 100000 in
theorem walk_no (n : Int) (v0 : Value) (w : World) (hn : n < 0 ∨ 3000 < n) (ht : Tabs w) : Calls Tryz.prog 5 #[.int .i64 n, v0] w fun e w' => e = .returned (.bool true) ∧ Below w.heap.size w w' := by
  have HA := Lib.hid (awake7 w ht)
  clear ht
  by_cases h1 : n < 0
  · have h1' : decide (n < 0) = true := decide_eq_true h1
    clear hn h1
    go_enter Tryz.func5, Tryz.ntmps5
    go_wp2_with fail
    refine HA.out.mono ?_
    rintro e w1 ⟨rfl, b1⟩
    go_wp2_with fail
    go_ret
    exact ⟨rfl, b1⟩
  · have h1' : decide (n < 0) = false := decide_eq_false h1
    have h2' : decide (3000 < n) = true := decide_eq_true (by omega)
    clear hn h1
    go_enter Tryz.func5, Tryz.ntmps5
    go_wp2_with fail
    refine HA.out.mono ?_
    rintro e w1 ⟨rfl, b1⟩
    go_wp2_with fail
    go_ret
    exact ⟨rfl, b1⟩
set_option maxRecDepth 100000 in
set_option maxHeartbeats 4000000 in
theorem walk_yes (r : Nat) (v0 : Value) (l0 : Nat) (S : Nat → ByteArray) (w : World) (h0 : InStrs w v0 l0 S) (hr : r ≤ 3000) (ht : Tabs w) :
    Calls Tryz.prog 5 #[.int .i64 r, v0] w fun e w' => e = .returned (.bool true) ∧ Below w.heap.size w w' := by
  have h1' : decide ((r : Int) < 0) = false := decide_eq_false (by omega)
  have h2' : decide ((3000 : Int) < r) = false := decide_eq_false (by omega)
  have hri : (r : Int) ≤ 3000 := by omega
  have hr0 : (0 : Int) ≤ r := by omega
  have H0 := Lib.hid (dNew_any r w ⟨by omega, by omega⟩)
  rw [show max (r : Int) 0 = r by omega] at H0
  have HT := Lib.hid ht
  have HS0 := Lib.hid h0
  obtain ⟨ao0, cap0, rfl, _⟩ := h0
  obtain ⟨B, hB⟩ : ∃ B, w.heap.size = B := ⟨_, rfl⟩
  have HB := Lib.hid hB
  rw [hB] at H0
  clear ht hB
  go_enter Tryz.func5, Tryz.ntmps5
  go_wp2_with fail
  refine H0.out.mono ?_
  rintro e w1 ⟨q, rfl, hq, d0, b0⟩
  have H1 := Lib.hid (jw_first r (by omega) (by omega) d0 b0 HT.out HB.out)
  clear H0 d0 b0 hq
  go_wp2_with fail
  refine H1.out.mono ?_
  rintro e w2 ⟨j, v, rfl, -, j0⟩
  have a2 : Below w2.heap.size w2 (w2.alloc (.cells #[] 9)) := (Below.refl _ _).alloc (Nat.le_refl _) _
  have o2 := ownStrs_new w2 B _ rfl j0.low
  have j2 := j0.kept a2
  clear H1 j0 a2
  go_wp2_with fail
  generalize (w2.alloc (.cells #[] 9)) = W2 at *
  go_loopw [9, 10] (fun x y wr => ∃ (i : Nat) (cur want : List (List UInt8)) (d : DDisk), i ≤ l0 ∧ i ≤ 20 ∧ y = .int .i64 i ∧ JW B q j r [] 0 cur want d w wr ∧ OwnStrs wr B x want ∧ want.length ≤ i) (fun _ y _ => (20 - intOf y).toNat)
  case atStart => exact ⟨0, [], [], _, Nat.zero_le _, Nat.zero_le _, rfl, j2, o2, Nat.le_refl _⟩
  case round =>
    obtain ⟨i, cur, want, d, hi1, hi2, rfl, JWr, OW, hwl⟩ := hrel
    clear j2 o2
    by_cases hgo : i < l0 ∧ i < 20
    · obtain ⟨hlt1, hlt2⟩ := hgo
      have g0 : decide (i < l0) = true := decide_eq_true hlt1
      have g0i : (i : Int) < l0 := by omega
      have g2 : decide ((i : Int) < 20) = true := decide_eq_true (by omega)
      have g2i : (i : Int) < 20 := by omega
      obtain ⟨mao, mcap, hv, hS⟩ := HS0.out
      obtain ⟨ma, hmao, hc⟩ := hS i hlt1
      obtain ⟨rfl, rfl⟩ : ao0 = mao ∧ cap0 = mcap := by simpa using hv
      subst hmao
      obtain ⟨L, hL⟩ : ∃ L, (S i).data.toList.take 300 = L := ⟨_, rfl⟩
      have hl2 : L.length ≤ 300 := by rw [← hL]; exact List.length_take_le _ _
      have HK : Hid (Calls Tryz.prog 12 #[.string (S i), .int .i64 300] wr fun e w' => e = .returned (.string (stx L)) ∧ w' = wr) := Lib.hid (by
        have := l3Cut_any (S i) 300 wr (by decide)
        rwa [hL] at this)
      have c0 := (JWr.bel.cell (p := ma.add i) (by rw [← HB.out]; exact cellLt hc)).trans hc
      have HUS := Lib.hid (dUsed_any B q d wr JWr.da)
      have hcap := JWr.cap
      have OS := Lib.hid OW
      have hw6 : want.length ≤ 1000000 := by omega
      have hms : (stx L).size = L.length := stx_size L
      by_cases hfit : (L.length : Int) + 8 ≤ r - dUsed d.files
      · as_aux_lemma =>
        have HAD := Lib.hid (jw_add JWr L (by omega) hfit)
        have HWL : Hid ((want ++ [L]).length ≤ i + 1) := Lib.hid (by rw [List.length_append]; simp; exact hwl)
        generalize dUsed d.files = u at *
        have q1 : decide ((L.length : Int) + 8 ≤ (r : Int) - u) = true := decide_eq_true hfit
        clear hv hS hc hL JWr OW
        go_wp2_with fail
        refine HK.out.mono ?_
        rintro e w3 ⟨rfl, rfl⟩
        clear HK
        go_wp2_with fail
        refine HUS.out.mono ?_
        rintro e w33 ⟨rfl, rfl⟩
        go_wp2_with fail
        refine HAD.out.mono ?_
        rintro e w4 ⟨rfl, j4, -, s4⟩
        have o4 := s4.strs OS.out
        generalize addD d (nm 0) L = d' at *
        have a4 : Below w4.heap.size w4 (w4.alloc (.cells #[.string (stx L)] 9)) := (Below.refl _ _).alloc (Nat.le_refl _) _
        have o5 : OwnStrs (w4.alloc (.cells #[.string (stx L)] 9)) B u9 want := o4.below a4
        have J5 := Lib.hid (j4.kept a4)
        have hc1 : (w4.alloc (.cells #[.string (stx L)] 9)).cell? ⟨w4.heap.size, 0, none⟩ = some (.string (stx L)) := cell_of_rowAt (rowAt_alloc_at w4 #[.string (stx L)] 9 _ rfl) 0
        have HC1 := Lib.hid hc1
        clear HAD OS s4 o4 j4 a4 hc1 hfit HUS
        go_wp2_with (at_builtin; refine wpList_put_text rfl _ _ rfl B u9 want rfl o5 L ⟨w4.heap.size, 0, none⟩ 1 rfl HC1.out J5.out.low hw6 ?_)
        intro v' w6 o6 g6 _
        have J6 := Lib.hid (J5.out.aside o5 g6)
        have O6 := Lib.hid o6
        clear J5 HC1 o5 o6 g6
        go_wp2_with fail
        exact ⟨⟨i + 1, _, _, _, hlt1, by omega, by go_num, J6.out, O6.out, HWL.out⟩, by simp [intOf]; omega⟩
      · as_aux_lemma =>
        have HAD := Lib.hid (jw_full JWr L (by omega) hfit)
        have HU2 : Hid (∀ w', DiskAt B q d w' → Calls Tryz.prog 23 #[.pointer (some ⟨q, 0, none⟩)] w' fun e w'' => e = .returned (.int .i64 (dUsed d.files)) ∧ w'' = w') := Lib.hid fun w' h => dUsed_any B q d w' h
        have HWL := Lib.hid hwl
        generalize dUsed d.files = u at *
        have q1 : decide ((L.length : Int) + 8 ≤ (r : Int) - u) = false := decide_eq_false hfit
        clear hv hS hc hL JWr OW
        go_wp2_with fail
        refine HK.out.mono ?_
        rintro e w3 ⟨rfl, rfl⟩
        clear HK
        go_wp2_with fail
        refine HUS.out.mono ?_
        rintro e w33 ⟨rfl, rfl⟩
        go_wp2_with fail
        refine HAD.out.mono ?_
        rintro e w4 ⟨rfl, j4, s4⟩
        have O4 := Lib.hid (s4.strs OS.out)
        have J4 := Lib.hid j4
        have HU4 := Lib.hid (HU2.out _ j4.da)
        clear HAD OS s4 j4 hfit HUS HU2
        go_wp2_with fail
        refine HU4.out.mono ?_
        rintro e w5 ⟨rfl, rfl⟩
        go_wp2_with fail
        exact ⟨⟨i + 1, _, _, _, hlt1, by omega, by go_num, J4.out, O4.out, by have := HWL.out; omega⟩, by simp [intOf]; omega⟩
    · by_cases e0 : i < l0
      · have g0 : decide (i < l0) = true := decide_eq_true e0
        have g0i : (i : Int) < l0 := by omega
        have g2 : decide ((i : Int) < 20) = false := decide_eq_false (by omega)
        have hcap := JWr.cap
        have HO := Lib.hid (jw_open JWr (by omega) (by omega))
        have HAW := Lib.hid (fun w ht => awake7 w ht)
        have OS := Lib.hid OW
        have HL : Hid (want.length ≤ 1000000) := Lib.hid (by omega)
        clear JWr OW hcap
        go_wp2_with fail
        refine HO.out.mono ?_
        rintro e w3 ⟨k, v3, m, rfl, -, o3, -, j3, b3⟩
        have OS3 := Lib.hid (OS.out.below b3)
        have O3 := Lib.hid o3
        have J3 := Lib.hid j3
        have HA := Lib.hid (HAW.out _ j3.tabs)
        clear HO OS b3 o3 j3 HAW
        go_wp2_with fail
        refine HA.out.mono ?_
        rintro e w4 ⟨rfl, b4⟩
        have HS := Lib.hid (same_any _ _ _ w4 (O3.out.below b4).lie (OS3.out.below b4).lie HL.out)
        have J4 := Lib.hid (J3.out.kept b4)
        clear HA O3 OS3 J3 b4
        go_wp2_with fail
        refine HS.out.mono ?_
        rintro e w5 ⟨rfl, b5⟩
        have J5 := (J4.out.kept b5).bel
        clear HS J4 b5
        go_wp2_with fail
        go_ret
        exact ⟨rfl, by rw [HB.out]; exact J5⟩
      · have g0 : decide (i < l0) = false := decide_eq_false e0
        have hcap := JWr.cap
        have HO := Lib.hid (jw_open JWr (by omega) (by omega))
        have HAW := Lib.hid (fun w ht => awake7 w ht)
        have OS := Lib.hid OW
        have HL : Hid (want.length ≤ 1000000) := Lib.hid (by omega)
        clear JWr OW hcap
        go_wp2_with fail
        refine HO.out.mono ?_
        rintro e w3 ⟨k, v3, m, rfl, -, o3, -, j3, b3⟩
        have OS3 := Lib.hid (OS.out.below b3)
        have O3 := Lib.hid o3
        have J3 := Lib.hid j3
        have HA := Lib.hid (HAW.out _ j3.tabs)
        clear HO OS b3 o3 j3 HAW
        go_wp2_with fail
        refine HA.out.mono ?_
        rintro e w4 ⟨rfl, b4⟩
        have HS := Lib.hid (same_any _ _ _ w4 (O3.out.below b4).lie (OS3.out.below b4).lie HL.out)
        have J4 := Lib.hid (J3.out.kept b4)
        clear HA O3 OS3 J3 b4
        go_wp2_with fail
        refine HS.out.mono ?_
        rintro e w5 ⟨rfl, b5⟩
        have J5 := (J4.out.kept b5).bel
        clear HS J4 b5
        go_wp2_with fail
        go_ret
        exact ⟨rfl, by rw [HB.out]; exact J5⟩
theorem walk (n : Int) (v0 : Value) (l0 : Nat) (S : Nat → ByteArray) (w : World) (h0 : InStrs w v0 l0 S) (ht : Tabs w) : Calls Tryz.prog 5 #[.int .i64 n, v0] w fun e w' => e = .returned (.bool true) ∧ Below w.heap.size w w' := by
  by_cases h : n < 0 ∨ 3000 < n
  · exact walk_no n v0 w h ht
  · obtain ⟨q, rfl⟩ : ∃ q : Nat, n = q := ⟨n.toNat, by omega⟩
    exact walk_yes q v0 l0 S w h0 (by omega) ht
set_option maxRecDepth 100000 in
theorem lifted (os : Os) (started : os.Started) (H : Type) (enc : TypeId × Value → H) :
    ReturnsInHanded {} Tryz.checked os 5 .any (fun w args => (Rows.journalFullSpec.pre enc Tryz.prog Tryz.f5 [] false w args ∧ laidMetH Tryz.prog laidJ w) ∧ sizedMet enc Tryz.prog Tryz.f5 (OpenSpec.ofChange Rows.journalFullSpec) false w args) (Rows.journalFullSpec.post enc Tryz.prog Tryz.f5 false true false false) := by
  refine returnsInHanded_of_change_and (C := Tryz.checked) (X := fun w _ => laidMetH Tryz.prog laidJ w) (fun _ _ _ hh h => h.of_heap hh) own started (by kernel_rfl) Tryz.func5
    (ChangeSpec.witness_shaped (enc := enc) (C := Tryz.checked) (os := os) (X := fun w _ => laidMetH Tryz.prog laidJ w) false (World.doorLaid Tryz.prog 2000 os) #[.int .i64 0, .slice none 0 0] 8 rfl (World.shaped_of_RefB (by kernel_rfl) (by kernel_rfl)) (by kernel_rfl) (by kernel_rfl) (by kernel_rfl) (door_J os _)) ?_
  intro W base args ds gs before hval0 hW _ _ hL _
  have hval : ∀ (j : Nat) t v, Tryz.f5.params[j]? = some t → args[j]? = some v → Value.okWide Tryz.prog W .any base t v := hval0
  clear hval0
  have hW' := hW
  obtain ⟨p, q, hA0, hV, rfl, hfz, hnd⟩ := hW
  have hA : DataW.TrodAll enc Tryz.prog W 0 (fun _ => true) true Tryz.f5.params.toList args.toList ds p := hA0
  rw [Tryz.params5] at hA hval
  clear hA0 hfz hnd hV
  have hr : Readable Tryz.f5.params.toList := by
    rw [Tryz.params5]
    exact readable_of_all (by kernel_rfl)
  have fin : ∀ W', Below W.heap.size W W' → Rows.journalFullSpec.post enc Tryz.prog Tryz.f5 false true false false W args (.bool true) W' := fun W' hb =>
    law_post rfl hW' hr (fun l hl => by
      rw [Tryz.params5] at hl
      match l, hl with
      | [d1, d2], _ => rfl) (by kernel_rfl) hb
  clear hW' hr
  have HT := tabsJ_of_laid hL
  obtain ⟨v0, v1, d0, d1, p0, p1, rfl, rfl, rfl, h0, h1⟩ := trodAll_two hA; obtain ⟨n, rfl, _, _, w0⟩ := open_int Tryz.underlying3 (hval 0 3 v0 rfl rfl) h0; obtain ⟨l1, S1, hs1⟩ := in_strs Tryz.underlying27 Tryz.underlying9 cellsOf_string (hval 1 27 v1 rfl rfl) h1
  exact (walk n v1 l1 S1 W hs1 HT).mono fun e W' ⟨he, hb⟩ => ⟨_, he, fin W' hb⟩
theorem row_holds : Rows.JournalFullSaid :=
  OpenClaim.holds_of_wide 5 Tryz.f5 rfl rfl rfl rfl rfl rfl rfl ⟨rfl, rfl, rfl, rfl, rfl⟩ rfl rfl rfl rfl rfl (by kernel_rfl) Tryz.func5 (by kernel_rfl)
    (of_decide_eq_true (by kernel_rfl)) (by unfold Func.isWrapper; first | (rw [if_pos (by decide +kernel)]; kernel_rfl) | (rw [if_neg (by decide +kernel)]; exact ⟨rfl, rfl⟩))
    (fun os started H enc _ => lifted os started H enc)
theorem proved : Rows.JournalFullCardSaid :=
  Claim7.holds_tied_plain_at .later [] [.data, .data, .data, .sentinel, .sentinel, .data, .data] true _ true
    row_holds (fun _ h => by cases h) (by kernel_rfl) (fun _ h => by cases h) journalFull_row_tie rfl ⟨rfl, rfl⟩ (by kernel_rfl) rfl
    (fun f fn hf hfn => by
      obtain rfl : f = 5 := Option.some.inj ((show Tryz.prog.funcNamed "chirograph/chirographlaw07.JournalFull" = some 5 by kernel_rfl).symm.trans hf) |>.symm
      obtain rfl : fn = Tryz.f5 := (Option.some.inj (Tryz.func5.symm.trans hfn)).symm
      exact ⟨by kernel_rfl, fun j t ht => by
        rw [Tryz.params5] at ht
        have hm : t ∈ [3, 27] := by simpa using Array.mem_of_getElem? ht
        have hall : ([3, 27].all fun u => !Tryz.prog.wantsStandIn u) = true := by kernel_rfl
        exact (show Tryz.prog.wantsStandIn t = false by simpa using List.all_eq_true.1 hall t hm)⟩)
    (by kernel_rfl)
end Go.Proofs.YtlhdnkfnhdkbkaaGreatDoor.jfull
