/- For any entries and any key the law BlockSeeks returns true. Conditions: the listed tables are as the program lays them. -/
import Derived.Test.YtpdfchaamedeoaaDoorBlock8
import Derived.Test.YtpdfchaamedeoaaDoorBlock10
import Derived.Test.YtpdfchaamedeoaaDoorEntsIn
import Derived.Test.YtpdfchaamedeoaaDoorTabs
import Derived.Test.YtpdfchaamedeoaaDoorTie
import Derived.Test.YtpdfchaamedeoaaDoorCards
import Derived.SevenTiedAt
namespace Go.Proofs.YtpdfchaamedeoaaDoor.kseeks
open Go Go.ChangeShapes Go.WideShapes Go.ChangeAt Go.ChangeMaps Go.RowKit Go.Proofs.YtpdfchaamedeoaaDoor

set_option maxRecDepth 100000 in
set_option maxHeartbeats 4000000 in
theorem walk (v : Value) (es : List Ent) (k0 : ByteArray) (w : World) (h : InEnts w v es) (ht : Tabs w) : Calls Tryd.prog 5 #[v, .string k0] w fun e w' => e = .returned (.bool true) ∧ Below w.heap.size w w' := by
  have HF := Lib.hid (few9_any v es 200 w h (by decide))
  have HK := Lib.hid (fun w => l3Cut_any k0 300 w (by decide))
  obtain ⟨key, hkey⟩ : ∃ key, k0.data.toList.take 300 = key := ⟨_, rfl⟩
  rw [hkey] at HK
  have hsm : smallB (fewE 200 es) := fun x hx => by have := fewE_small 200 es x hx; omega
  obtain ⟨l, hl⟩ : ∃ l, fewE 200 es = l := ⟨_, rfl⟩
  have hll : l.length ≤ 200 := by rw [← hl, fewE_length]; exact Nat.min_le_left _ _
  rw [hl] at HF hsm
  have HT := Lib.hid ht
  have HC := Lib.hid (fun v w (h : EntsAt w v l) => r9Check_any v l w h hsm)
  have HAW := Lib.hid (fun w (h : Tabs w) => awake9 w h)
  by_cases hc : checkB l = 0
  · have hr : rising l := by
      unfold checkB at hc
      split at hc
      · cases hc
      · exact (goB_zero hc).1
    rw [hc] at HC
    have HS := Lib.hid (fun v w (h : EntsAt w v l) => kSeek_any v l key w h hr (by omega))
    have HRS := Lib.hid (fun v w (h : EntsAt w v l) => r9Seek_any v l key w h (by omega))
    have HFD := Lib.hid (fun v w (h : EntsAt w v l) => kFind_any v l key w h hr (by omega) hsm)
    have hlk := look_at hr key
    have hcl := seekE_le l key
    generalize seekE l key = c at *
    obtain ⟨n, hn⟩ : ∃ n, l.length = n := ⟨_, rfl⟩
    have HN := Lib.hid hn
    rw [hn] at hll hcl hlk
    have hn1 : (n : Int) ≤ 200 := by omega
    have hc3 : (c : Int) ≤ n := by omega
    clear hc hr hsm hl hkey ht h hn
    by_cases hlt : c < n
    · have i1 : (c : Int) < n := by omega
      have i2 : decide (c < n) = true := decide_eq_true hlt
      obtain ⟨x, hx⟩ : ∃ x, l[c]? = some x := ⟨_, List.getElem?_eq_getElem (by rw [HN.out]; exact hlt)⟩
      have hgd : l.getD c ⟨[], [], false⟩ = x := by rw [List.getD_eq_getElem?_getD, hx]; rfl
      rw [hgd] at hlk
      have HX := Lib.hid hx
      by_cases hk : x.key = key
      · rw [if_pos ⟨hlt, hk⟩] at hlk
        rw [hlk] at HFD
        unfold FindR entA at HFD
        obtain ⟨yk, hyk⟩ : ∃ yk, x.key = yk := ⟨_, rfl⟩
        obtain ⟨yv, hyv⟩ : ∃ yv, x.val = yv := ⟨_, rfl⟩
        obtain ⟨yg, hyg⟩ : ∃ yg, x.gone = yg := ⟨_, rfl⟩
        have HXX := Lib.hid (⟨hyk, hyv, hyg⟩ : x.key = yk ∧ x.val = yv ∧ x.gone = yg)
        simp only [hyk, hyv, hyg] at HFD
        rw [hyk] at hk
        subst hk
        have q1 : (yk == yk) = true := beq_self_eq_true _
        clear hlk hgd hx hlt hcl hyk hyv hyg
        go_enter Tryd.func5, Tryd.ntmps5
        go_wp2_with fail
        refine HF.out.mono ?_
        rintro e w1 ⟨v1, rfl, o1, b1⟩
        have T1 := Lib.hid (HT.out.below b1)
        have L1 := Lib.hid o1.lie
        clear HF o1 HT
        go_wp2_with fail
        refine (HK.out _).mono ?_
        rintro e w2 ⟨rfl, rfl⟩
        have HC1 := Lib.hid (HC.out _ _ L1.out)
        clear HK HC
        go_wp2_with fail
        refine HC1.out.mono ?_
        rintro e w2 ⟨rfl, b2⟩
        have b3 := below_past b1 b2 b1.size
        have T2 := Lib.hid (T1.out.below b2)
        have L2 := Lib.hid (L1.out.below b2)
        clear HC1 b1 b2 T1 L1
        have HS2 := Lib.hid (HRS.out _ _ L2.out)
        clear HRS
        go_wp2_with fail
        refine HS2.out.mono ?_
        rintro e w3 ⟨rfl, b2⟩
        have b4 := below_past b3 b2 b3.size
        have T3 := Lib.hid (T2.out.below b2)
        have L3 := Lib.hid (L2.out.below b2)
        have HF3 := Lib.hid (HFD.out _ _ L3.out)
        clear HS2 b2 b3 T2 L2 HFD
        go_wp2_with fail
        refine HF3.out.mono ?_
        rintro e w4 ⟨rfl, b2⟩
        have bq := Below.alloc (Below.refl w4.heap.size w4) (Nat.le_refl _) (.cells #[.string (stx yk), .string (stx yv), .bool yg] 42)
        have b22 := below_past b2 bq b2.size
        have b5 := below_past b4 b22 b4.size
        have T5 := Lib.hid (T3.out.below b22)
        have L5 := Lib.hid (L3.out.below b22)
        have r5 := rowAt_alloc_at w4 #[.string (stx yk), .string (stx yv), .bool yg] 42 _ rfl
        clear HF3 b2 bq b22 b4 T3 L3
        obtain ⟨A, cap, hv, g1, g2, g3⟩ := id L5.out
        rw [HN.out] at hv
        subst hv
        obtain ⟨g, o, rfl, c0, c1, c2⟩ := g3 c x HX.out
        rw [HXX.out.1] at c0
        rw [HXX.out.2.1] at c1
        rw [HXX.out.2.2] at c2
        clear g1 g2 g3 HX HXX
        go_upto_region 8 with fail
        have d0 := fun y : Past (w4.alloc (.cells #[.string (stx yk), .string (stx yv), .bool yg] 42)) => (y.h.cell (p := ⟨g, o + c * 3, none⟩) (cellLt c0)).trans c0
        have d1 := fun y : Past (w4.alloc (.cells #[.string (stx yk), .string (stx yv), .bool yg] 42)) => (y.h.cell (p := ⟨g, o + c * 3 + 1, none⟩) (cellLt c1)).trans c1
        have d2 := fun y : Past (w4.alloc (.cells #[.string (stx yk), .string (stx yv), .bool yg] 42)) => (y.h.cell (p := ⟨g, o + c * 3 + 2, none⟩) (cellLt c2)).trans c2
        clear c0 c1 c2
        generalize (w4.alloc (.cells #[.string (stx yk), .string (stx yv), .bool yg] 42)) = W5 at *
        have a0 := fun y : Past W5 => cell_of_rowAt (rowAt_past y.h r5) 0
        have a1 := fun y : Past W5 => cell_of_rowAt (rowAt_past y.h r5) 1
        have a2 := fun y : Past W5 => cell_of_rowAt (rowAt_past y.h r5) 2
        have HA5 := fun y : Past W5 => HAW.out _ (T5.out.below y.h)
        have HS5 := fun y : Past W5 => HS.out _ _ (L5.out.below y.h)
        clear HAW HS T5 L5 r5
        refine wp_region_past (by kernel_rfl) (by kernel_rfl) ?_
        repeat (go_big_quiet_step ((first | (go_at_call 16; exact Past.call (HA5 _)) | (go_at_call 25; exact Past.call (HS5 _)))))
        refine wpQuiet_nil ?_
        intro w2 hw2
        obtain ⟨⟨wn, hn⟩, rfl⟩ := hw2
        try dsimp only
        clear a0 a1 a2 HA5 HS5
        have b6 := below_past b5 hn b5.size
        go_wp2_with fail
        go_ret
        exact ⟨rfl, b6⟩
      · rw [if_neg (fun e => hk e.2)] at hlk
        rw [hlk] at HFD
        unfold FindR at HFD
        have q1 : (x.key == key) = false := by rw [beq_eq_false_iff_ne]; exact hk
        have q2 := str_ne (fun e => hk (stx_inj e))
        clear hlk hgd hx hlt hcl hk
        go_enter Tryd.func5, Tryd.ntmps5
        go_wp2_with fail
        refine HF.out.mono ?_
        rintro e w1 ⟨v1, rfl, o1, b1⟩
        have T1 := Lib.hid (HT.out.below b1)
        have L1 := Lib.hid o1.lie
        clear HF o1 HT
        go_wp2_with fail
        refine (HK.out _).mono ?_
        rintro e w2 ⟨rfl, rfl⟩
        have HC1 := Lib.hid (HC.out _ _ L1.out)
        clear HK HC
        go_wp2_with fail
        refine HC1.out.mono ?_
        rintro e w2 ⟨rfl, b2⟩
        have b3 := below_past b1 b2 b1.size
        have T2 := Lib.hid (T1.out.below b2)
        have L2 := Lib.hid (L1.out.below b2)
        clear HC1 b1 b2 T1 L1
        have HS2 := Lib.hid (HRS.out _ _ L2.out)
        clear HRS
        go_wp2_with fail
        refine HS2.out.mono ?_
        rintro e w3 ⟨rfl, b2⟩
        have b4 := below_past b3 b2 b3.size
        have T3 := Lib.hid (T2.out.below b2)
        have L3 := Lib.hid (L2.out.below b2)
        have HF3 := Lib.hid (HFD.out _ _ L3.out)
        clear HS2 b2 b3 T2 L2 HFD
        go_wp2_with fail
        refine HF3.out.mono ?_
        rintro e w4 ⟨rfl, b2⟩
        have bq := Below.alloc (Below.refl w4.heap.size w4) (Nat.le_refl _) (.cells #[.string ⟨#[]⟩, .string ⟨#[]⟩, .bool false] 42)
        have b22 := below_past b2 bq b2.size
        have b5 := below_past b4 b22 b4.size
        have T5 := Lib.hid (T3.out.below b22)
        have L5 := Lib.hid (L3.out.below b22)
        have r5 := rowAt_alloc_at w4 #[.string ⟨#[]⟩, .string ⟨#[]⟩, .bool false] 42 _ rfl
        clear HF3 b2 bq b22 b4 T3 L3
        obtain ⟨A, cap, hv, g1, g2, g3⟩ := id L5.out
        rw [HN.out] at hv
        subst hv
        obtain ⟨g, o, rfl, c0, c1, c2⟩ := g3 c x HX.out
        clear g1 g2 g3 HX c1 c2
        go_upto_region 8 with fail
        clear c0
        generalize (w4.alloc (.cells #[.string ⟨#[]⟩, .string ⟨#[]⟩, .bool false] 42)) = W5 at *
        have a0 := fun y : Past W5 => cell_of_rowAt (rowAt_past y.h r5) 0
        have a1 := fun y : Past W5 => cell_of_rowAt (rowAt_past y.h r5) 1
        have a2 := fun y : Past W5 => cell_of_rowAt (rowAt_past y.h r5) 2
        have HA5 := fun y : Past W5 => HAW.out _ (T5.out.below y.h)
        have HS5 := fun y : Past W5 => HS.out _ _ (L5.out.below y.h)
        clear HAW HS T5 L5 r5
        refine wp_region_past (by kernel_rfl) (by kernel_rfl) ?_
        repeat (go_big_quiet_step ((first | (go_at_call 16; exact Past.call (HA5 _)) | (go_at_call 25; exact Past.call (HS5 _)))))
        refine wpQuiet_nil ?_
        intro w2 hw2
        obtain ⟨⟨wn, hn⟩, rfl⟩ := hw2
        try dsimp only
        clear a0 a1 a2 HA5 HS5
        have b6 := below_past b5 hn b5.size
        go_wp2_with fail
        go_ret
        exact ⟨rfl, b6⟩
    · rw [if_neg (fun e => hlt e.1)] at hlk
      rw [hlk] at HFD
      unfold FindR at HFD
      obtain rfl : c = n := by omega
      clear hlk hlt hcl
      go_enter Tryd.func5, Tryd.ntmps5
      go_wp2_with fail
      refine HF.out.mono ?_
      rintro e w1 ⟨v1, rfl, o1, b1⟩
      have T1 := Lib.hid (HT.out.below b1)
      have L1 := Lib.hid o1.lie
      clear HF o1 HT
      go_wp2_with fail
      refine (HK.out _).mono ?_
      rintro e w2 ⟨rfl, rfl⟩
      have HC1 := Lib.hid (HC.out _ _ L1.out)
      clear HK HC
      go_wp2_with fail
      refine HC1.out.mono ?_
      rintro e w2 ⟨rfl, b2⟩
      have b3 := below_past b1 b2 b1.size
      have T2 := Lib.hid (T1.out.below b2)
      have L2 := Lib.hid (L1.out.below b2)
      clear HC1 b1 b2 T1 L1
      have HS2 := Lib.hid (HRS.out _ _ L2.out)
      clear HRS
      go_wp2_with fail
      refine HS2.out.mono ?_
      rintro e w3 ⟨rfl, b2⟩
      have b4 := below_past b3 b2 b3.size
      have T3 := Lib.hid (T2.out.below b2)
      have L3 := Lib.hid (L2.out.below b2)
      have HF3 := Lib.hid (HFD.out _ _ L3.out)
      clear HS2 b2 b3 T2 L2 HFD
      go_wp2_with fail
      refine HF3.out.mono ?_
      rintro e w4 ⟨rfl, b2⟩
      have bq := Below.alloc (Below.refl w4.heap.size w4) (Nat.le_refl _) (.cells #[.string ⟨#[]⟩, .string ⟨#[]⟩, .bool false] 42)
      have b22 := below_past b2 bq b2.size
      have b5 := below_past b4 b22 b4.size
      have T5 := Lib.hid (T3.out.below b22)
      have L5 := Lib.hid (L3.out.below b22)
      have r5 := rowAt_alloc_at w4 #[.string ⟨#[]⟩, .string ⟨#[]⟩, .bool false] 42 _ rfl
      clear HF3 b2 bq b22 b4 T3 L3
      obtain ⟨A, cap, hv, g1, g2, g3⟩ := id L5.out
      rw [HN.out] at hv
      subst hv
      clear g1 g2 g3
      go_upto_region 8 with fail
      generalize (w4.alloc (.cells #[.string ⟨#[]⟩, .string ⟨#[]⟩, .bool false] 42)) = W5 at *
      have a0 := fun y : Past W5 => cell_of_rowAt (rowAt_past y.h r5) 0
      have a1 := fun y : Past W5 => cell_of_rowAt (rowAt_past y.h r5) 1
      have a2 := fun y : Past W5 => cell_of_rowAt (rowAt_past y.h r5) 2
      have HA5 := fun y : Past W5 => HAW.out _ (T5.out.below y.h)
      have HS5 := fun y : Past W5 => HS.out _ _ (L5.out.below y.h)
      clear HAW HS T5 L5 r5
      refine wp_region_past (by kernel_rfl) (by kernel_rfl) ?_
      repeat (go_big_quiet_step ((first | (go_at_call 16; exact Past.call (HA5 _)) | (go_at_call 25; exact Past.call (HS5 _)))))
      refine wpQuiet_nil ?_
      intro w2 hw2
      obtain ⟨⟨wn, hn⟩, rfl⟩ := hw2
      try dsimp only
      clear a0 a1 a2 HA5 HS5
      have b6 := below_past b5 hn b5.size
      go_wp2_with fail
      go_ret
      exact ⟨rfl, b6⟩
  · generalize checkB l = E at *
    have p1 : ((E : Int) != 0) = true := by rw [bne_iff_ne]; omega
    have p2 : (E != 0) = true := by rw [bne_iff_ne]; exact hc
    clear hc hsm hl hkey ht h hll
    go_enter Tryd.func5, Tryd.ntmps5
    go_wp2_with fail
    refine HF.out.mono ?_
    rintro e w1 ⟨v1, rfl, o1, b1⟩
    have T1 := Lib.hid (HT.out.below b1)
    have L1 := Lib.hid o1.lie
    clear HF o1 HT
    go_wp2_with fail
    refine (HK.out _).mono ?_
    rintro e w2 ⟨rfl, rfl⟩
    have HC1 := Lib.hid (HC.out _ _ L1.out)
    clear HK HC
    go_wp2_with fail
    refine HC1.out.mono ?_
    rintro e w2 ⟨rfl, b2⟩
    have b3 := below_past b1 b2 b1.size
    have T2 := Lib.hid (T1.out.below b2)
    have L2 := Lib.hid (L1.out.below b2)
    clear HC1 b1 b2 T1 L1
    have HA := Lib.hid (HAW.out _ T2.out)
    clear T2 L2 HAW
    go_wp2_with fail
    refine HA.out.mono ?_
    rintro e w7 ⟨rfl, b7⟩
    have b8 := below_past b3 b7 b3.size
    clear HA b3 b7
    go_wp2_with fail
    go_ret
    exact ⟨rfl, b8⟩
set_option maxRecDepth 100000 in
theorem lifted (os : Os) (started : os.Started) (H : Type) (enc : TypeId × Value → H) :
    ReturnsInHanded {} Tryd.checked os 5 .any (fun w args => (Rows.blockSeeksSpec.pre enc Tryd.prog Tryd.f5 [] false w args ∧ laidMetH Tryd.prog laidSeal w) ∧ sizedMet enc Tryd.prog Tryd.f5 (OpenSpec.ofChange Rows.blockSeeksSpec) false w args) (Rows.blockSeeksSpec.post enc Tryd.prog Tryd.f5 false true false false) := by
  refine returnsInHanded_of_change_and (C := Tryd.checked) (X := fun w _ => laidMetH Tryd.prog laidSeal w) (fun _ _ _ hh h => h.of_heap hh) own started (by kernel_rfl) Tryd.func5
    (ChangeSpec.witness_shaped (enc := enc) (C := Tryd.checked) (os := os) (X := fun w _ => laidMetH Tryd.prog laidSeal w) false (World.doorLaid Tryd.prog 2000 os) #[.slice none 0 0, .string ⟨#[]⟩] 8 rfl (World.shaped_of_RefB (by kernel_rfl) (by kernel_rfl)) (by kernel_rfl) (by kernel_rfl) (by kernel_rfl) (door_seal os _)) ?_
  intro W base args ds gs before hval0 hW _ _ hL _
  have hval : ∀ (j : Nat) t v, Tryd.f5.params[j]? = some t → args[j]? = some v → Value.okWide Tryd.prog W .any base t v := hval0
  clear hval0
  have hW' := hW
  obtain ⟨p, q, hA0, hV, rfl, hfz, hnd⟩ := hW
  have hA : DataW.TrodAll enc Tryd.prog W 0 (fun _ => true) true Tryd.f5.params.toList args.toList ds p := hA0
  rw [Tryd.params5] at hA hval
  clear hA0 hfz hnd hV
  have hr : Readable Tryd.f5.params.toList := by
    rw [Tryd.params5]
    exact readable_of_all (by kernel_rfl)
  have fin : ∀ W', Below W.heap.size W W' → Rows.blockSeeksSpec.post enc Tryd.prog Tryd.f5 false true false false W args (.bool true) W' := fun W' hb =>
    law_post rfl hW' hr (fun l hl => by
      rw [Tryd.params5] at hl
      match l, hl with
      | [d1, d2], _ => rfl) (by kernel_rfl) hb
  clear hW' hr
  have HT := tabs_of_laid hL
  obtain ⟨v0, v1, d0, d1, p0, p1, rfl, rfl, rfl, h0, h1⟩ := trodAll_two hA; obtain ⟨l1, hs1, hs1b⟩ := in_ents_of Tryd.underlying22 Tryd.underlying42 (by kernel_rfl) rfl rfl rfl rfl rfl rfl Tryd.underlying9 (by kernel_rfl) Tryd.underlying4 (by kernel_rfl) (hval 0 22 v0 rfl rfl) h0; obtain ⟨s, rfl, _, _, w1⟩ := open_string Tryd.underlying9 (hval 1 9 v1 rfl rfl) h1
  exact (walk v0 l1 s W hs1 HT).mono fun e W' ⟨he, hb⟩ => ⟨_, he, fin W' hb⟩
theorem row_holds : Rows.BlockSeeksSaid :=
  OpenClaim.holds_of_wide 5 Tryd.f5 rfl rfl rfl rfl rfl rfl rfl ⟨rfl, rfl, rfl, rfl, rfl⟩ rfl rfl rfl rfl rfl (by kernel_rfl) Tryd.func5 (by kernel_rfl)
    (of_decide_eq_true (by kernel_rfl)) (by unfold Func.isWrapper; first | (rw [if_pos (by decide +kernel)]; kernel_rfl) | (rw [if_neg (by decide +kernel)]; exact ⟨rfl, rfl⟩))
    (fun os started H enc _ => lifted os started H enc)
theorem proved : Rows.BlockSeeksCardSaid :=
  Claim7.holds_tied_plain_at .later [] [.data, .data] true _ false
    row_holds (fun _ h => by cases h) (by kernel_rfl) (fun _ h => by cases h) blockSeeks_row_tie rfl ⟨rfl, rfl⟩ (by kernel_rfl) rfl
    (fun f fn hf hfn => by
      obtain rfl : f = 5 := Option.some.inj ((show Tryd.prog.funcNamed "chirograph/chirographlaw09.BlockSeeks" = some 5 by kernel_rfl).symm.trans hf) |>.symm
      obtain rfl : fn = Tryd.f5 := (Option.some.inj (Tryd.func5.symm.trans hfn)).symm
      exact ⟨by kernel_rfl, fun j t ht => by
        rw [Tryd.params5] at ht
        have hm : t ∈ [22, 9] := by simpa using Array.mem_of_getElem? ht
        have hall : ([22, 9].all fun u => !Tryd.prog.wantsStandIn u) = true := by kernel_rfl
        exact (show Tryd.prog.wantsStandIn t = false by simpa using List.all_eq_true.1 hall t hm)⟩)
    (by kernel_rfl)
end Go.Proofs.YtpdfchaamedeoaaDoor.kseeks
