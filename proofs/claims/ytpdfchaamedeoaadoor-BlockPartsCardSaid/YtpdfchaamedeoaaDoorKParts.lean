/- For any entries and any key the law BlockParts returns true. Conditions: the listed tables are as the program lays them. -/
import Derived.Test.YtpdfchaamedeoaaDoorBlockLaw
import Derived.Test.YtpdfchaamedeoaaDoorBlock10
import Derived.Test.YtpdfchaamedeoaaDoorEntsIn
import Derived.Test.YtpdfchaamedeoaaDoorTabs
import Derived.Test.YtpdfchaamedeoaaDoorTie
import Derived.Test.YtpdfchaamedeoaaDoorCards
import Derived.SevenTiedAt
namespace Go.Proofs.YtpdfchaamedeoaaDoor.kparts
open Go Go.ChangeShapes Go.WideShapes Go.ChangeAt Go.ChangeMaps Go.RowKit Go.Proofs.YtpdfchaamedeoaaDoor

set_option maxRecDepth 100000 in
set_option maxHeartbeats 4000000 in
theorem walk (v : Value) (es : List Ent) (k0 : ByteArray) (w : World) (h : InEnts w v es) (ht : Tabs w) : Calls Tryd.prog 8 #[v, .string k0] w fun e w' => e = .returned (.bool true) ∧ Below w.heap.size w w' := by
  have HF := Lib.hid (few9_any v es 200 w h (by decide))
  have HK := Lib.hid (fun w => l3Cut_any k0 300 w (by decide))
  obtain ⟨key, hkey⟩ : ∃ key, k0.data.toList.take 300 = key := ⟨_, rfl⟩
  rw [hkey] at HK
  have hsm : smallB (fewE 200 es) := fun x hx => by have := fewE_small 200 es x hx; omega
  obtain ⟨l, hl⟩ : ∃ l, fewE 200 es = l := ⟨_, rfl⟩
  have hll : l.length ≤ 200 := by rw [← hl, fewE_length]; exact Nat.min_le_left _ _
  rw [hl] at HF hsm
  have HT := Lib.hid ht
  have HC := Lib.hid (fun v w (h : EntsAt w v l) => kCheck_any v l w h hsm)
  have HAW := Lib.hid (fun w (h : Tabs w) => awake9 w h)
  by_cases hc : checkB l = 0
  · have hr : rising l := by
      unfold checkB at hc
      split at hc
      · cases hc
      · exact (goB_zero hc).1
    rw [hc] at HC
    have HS := Lib.hid (fun v w (h : EntsAt w v l) => kSeek_any v l key w h hr (by omega))
    have HFD : Hid (∀ v w x, EntsAt w v l → x ∈ l → Calls Tryd.prog 24 #[v, .string (stx x.key)] w fun e w' => e = .returned (.tuple #[.agg #[.string (stx x.key), .string (stx x.val), .bool x.gone], .bool true]) ∧ Below w.heap.size w w') := Lib.hid fun v w x h hx => by
      have := kFind_any v l x.key w h hr (by omega) hsm
      rw [look_mem hr hx] at this
      exact this
    have HLT : Hid (∀ t x, l[t]? = some x → (x.key < key ↔ t < seekE l key)) := Lib.hid fun t x hx => seekE_lt hr hx
    have hcl := seekE_le l key
    generalize seekE l key = c at *
    obtain ⟨n, hn⟩ : ∃ n, l.length = n := ⟨_, rfl⟩
    have HN := Lib.hid hn
    rw [hn] at hll hcl
    have hn1 : (n : Int) ≤ 200 := by omega
    have hc1 : ¬ (n : Int) < c := by omega
    have hc2 : decide (n < c) = false := decide_eq_false (by omega)
    have hc3 : (c : Int) ≤ n := by omega
    clear hc hr hsm hl hkey ht h hn
    go_enter Tryd.func8, Tryd.ntmps8
    go_wp2_with fail
    refine HF.out.mono ?_
    rintro e w1 ⟨v1, rfl, o1, b1⟩
    have T1 := Lib.hid (HT.out.below b1)
    have L1 := Lib.hid o1.lie
    clear HF o1 HT
    go_wp2_with fail
    refine (HK.out _).mono ?_
    rintro e w2 ⟨rfl, rfl⟩
    have HC1 := Lib.hid (HC.out _ _ L1.out)
    clear HK HC
    go_wp2_with fail
    refine HC1.out.mono ?_
    rintro e w2 ⟨rfl, b2⟩
    have b3 := below_past b1 b2 b1.size
    have T2 := Lib.hid (T1.out.below b2)
    have L2 := Lib.hid (L1.out.below b2)
    have HS2 := Lib.hid (HS.out _ _ L2.out)
    clear HC1 b1 b2 T1 L1 HS
    go_wp2_with fail
    refine HS2.out.mono ?_
    rintro e w3 ⟨rfl, b2⟩
    have b4 := below_past b3 b2 b3.size
    have T3 := Lib.hid (T2.out.below b2)
    have L3 := Lib.hid (L2.out.below b2)
    clear HS2 b2 b3 T2 L2
    obtain ⟨A, cap, hv, g1, g2, g3⟩ := id L3.out
    rw [HN.out] at hv
    subst hv
    have H3 := Lib.hid g3
    clear g1 g2 g3
    go_wp2_with fail
    go_loopw [31] (fun x wr => ∃ i : Nat, i ≤ n ∧ x = .int .i64 i ∧ Hid (Below w3.heap.size w3 wr)) (fun x _ => (n - intOf x).toNat)
    case atStart => exact ⟨0, Nat.zero_le _, rfl, Lib.hid (Below.refl _ _)⟩
    case round =>
      obtain ⟨i, hi, rfl, BZ⟩ := hrel
      by_cases hlt : i < n
      · have hlt' : (i : Int) < n := by omega
        obtain ⟨x, hx⟩ : ∃ x, l[i]? = some x := ⟨_, List.getElem?_eq_getElem (by rw [HN.out]; exact hlt)⟩
        obtain ⟨g, o, rfl, hat⟩ := H3.out i x hx
        obtain ⟨c1, c2, c3⟩ := hat.below BZ.out
        have bq : Below wr.heap.size wr (wr.alloc (.cells #[.string (stx x.key), .string (stx x.val), .bool x.gone] 42)) := (Below.refl _ _).alloc (Nat.le_refl _) _
        have r2 := rowAt_alloc_at wr #[.string (stx x.key), .string (stx x.val), .bool x.gone] 42 _ rfl
        have BZ2 := Lib.hid (below_past BZ.out bq BZ.out.size)
        have HFX := Lib.hid (HFD.out _ _ x (L3.out.below BZ2.out) (List.mem_of_getElem? hx))
        have hlk := HLT.out i x hx
        have hd : decide (x.key < key) = decide (i < c) := decide_eq_decide.2 hlk
        have hless := lessE x.key key
        rw [hd] at hless
        have hless2 : Go.Op.bytesLess (stx x.key).toList (stx key).toList = decide (i < c) := by rw [lessE, stx_toList, stx_toList, hd]
        clear hx hat hlk hd
        go_wp2_with fail
        generalize wr.alloc (.cells #[.string (stx x.key), .string (stx x.val), .bool x.gone] 42) = W at *
        refine HFX.out.mono ?_
        rintro e w5 ⟨rfl, b5⟩
        have r3 := rowAt_past b5 r2
        have BZ3 := below_past BZ2.out b5 BZ2.out.size
        have BZ4 := Lib.hid (BZ3.alloc BZ3.size (.cells #[.string (stx x.key), .string (stx x.val), .bool x.gone] 42))
        have r4 : rowAt (w5.alloc (.cells #[.string (stx x.key), .string (stx x.val), .bool x.gone] 42)) wr.heap.size = some #[.string (stx x.key), .string (stx x.val), .bool x.gone] := rowAt_past ((Below.refl _ _).alloc (Nat.le_refl _) _) r3
        have d0 := cell_of_rowAt r4 0
        have d1 := cell_of_rowAt r4 1
        have d2 := cell_of_rowAt r4 2
        clear c1 c2 c3 bq r2 HFX b5 BZ3 r3 r4 BZ BZ2
        by_cases hic : i < c
        · have j1 : (i : Int) < c := by omega
          rw [decide_eq_true hic] at hless hless2
          have j2 : decide (i < c) = true := decide_eq_true hic
          go_wp2_with fail
          exact ⟨⟨i + 1, hlt, by go_num, BZ4⟩, by simp [intOf]; omega⟩
        · have j1 : ¬ (i : Int) < c := by omega
          rw [decide_eq_false hic] at hless hless2
          have j2 : decide (i < c) = false := decide_eq_false hic
          go_wp2_with fail
          exact ⟨⟨i + 1, hlt, by go_num, BZ4⟩, by simp [intOf]; omega⟩
      · obtain rfl : i = n := by omega
        have b6 := below_past b4 BZ.out b4.size
        have HA := Lib.hid (HAW.out _ (T3.out.below BZ.out))
        clear HAW T3 L3 H3 BZ b4 HFD HLT
        go_wp2_with fail
        refine HA.out.mono ?_
        rintro e w7 ⟨rfl, b7⟩
        have b8 := below_past b6 b7 b6.size
        clear HA b6 b7
        go_wp2_with fail
        go_ret
        exact ⟨rfl, b8⟩
  · generalize checkB l = E at *
    have p1 : ((E : Int) != 0) = true := by rw [bne_iff_ne]; omega
    have p2 : (E != 0) = true := by rw [bne_iff_ne]; exact hc
    clear hc hsm hl hkey ht h hll
    go_enter Tryd.func8, Tryd.ntmps8
    go_wp2_with fail
    refine HF.out.mono ?_
    rintro e w1 ⟨v1, rfl, o1, b1⟩
    have T1 := Lib.hid (HT.out.below b1)
    have L1 := Lib.hid o1.lie
    clear HF o1 HT
    go_wp2_with fail
    refine (HK.out _).mono ?_
    rintro e w2 ⟨rfl, rfl⟩
    have HC1 := Lib.hid (HC.out _ _ L1.out)
    clear HK HC
    go_wp2_with fail
    refine HC1.out.mono ?_
    rintro e w2 ⟨rfl, b2⟩
    have b3 := below_past b1 b2 b1.size
    have HA := Lib.hid (HAW.out _ (T1.out.below b2))
    clear HC1 b1 b2 T1 L1 HAW
    go_wp2_with fail
    refine HA.out.mono ?_
    rintro e w7 ⟨rfl, b7⟩
    have b8 := below_past b3 b7 b3.size
    clear HA b3 b7
    go_wp2_with fail
    go_ret
    exact ⟨rfl, b8⟩
set_option maxRecDepth 100000 in
theorem lifted (os : Os) (started : os.Started) (H : Type) (enc : TypeId × Value → H) :
    ReturnsInHanded {} Tryd.checked os 8 .any (fun w args => (Rows.blockPartsSpec.pre enc Tryd.prog Tryd.f8 [] false w args ∧ laidMetH Tryd.prog laidSeal w) ∧ sizedMet enc Tryd.prog Tryd.f8 (OpenSpec.ofChange Rows.blockPartsSpec) false w args) (Rows.blockPartsSpec.post enc Tryd.prog Tryd.f8 false true false false) := by
  refine returnsInHanded_of_change_and (C := Tryd.checked) (X := fun w _ => laidMetH Tryd.prog laidSeal w) (fun _ _ _ hh h => h.of_heap hh) own started (by kernel_rfl) Tryd.func8
    (ChangeSpec.witness_shaped (enc := enc) (C := Tryd.checked) (os := os) (X := fun w _ => laidMetH Tryd.prog laidSeal w) false (World.doorLaid Tryd.prog 2000 os) #[.slice none 0 0, .string ⟨#[]⟩] 8 rfl (World.shaped_of_RefB (by kernel_rfl) (by kernel_rfl)) (by kernel_rfl) (by kernel_rfl) (by kernel_rfl) (door_seal os _)) ?_
  intro W base args ds gs before hval0 hW _ _ hL _
  have hval : ∀ (j : Nat) t v, Tryd.f8.params[j]? = some t → args[j]? = some v → Value.okWide Tryd.prog W .any base t v := hval0
  clear hval0
  have hW' := hW
  obtain ⟨p, q, hA0, hV, rfl, hfz, hnd⟩ := hW
  have hA : DataW.TrodAll enc Tryd.prog W 0 (fun _ => true) true Tryd.f8.params.toList args.toList ds p := hA0
  rw [Tryd.params8] at hA hval
  clear hA0 hfz hnd hV
  have hr : Readable Tryd.f8.params.toList := by
    rw [Tryd.params8]
    exact readable_of_all (by kernel_rfl)
  have fin : ∀ W', Below W.heap.size W W' → Rows.blockPartsSpec.post enc Tryd.prog Tryd.f8 false true false false W args (.bool true) W' := fun W' hb =>
    law_post rfl hW' hr (fun l hl => by
      rw [Tryd.params8] at hl
      match l, hl with
      | [d1, d2], _ => rfl) (by kernel_rfl) hb
  clear hW' hr
  have HT := tabs_of_laid hL
  obtain ⟨v0, v1, d0, d1, p0, p1, rfl, rfl, rfl, h0, h1⟩ := trodAll_two hA; obtain ⟨l1, hs1, hs1b⟩ := in_ents_of Tryd.underlying22 Tryd.underlying42 (by kernel_rfl) rfl rfl rfl rfl rfl rfl Tryd.underlying9 (by kernel_rfl) Tryd.underlying4 (by kernel_rfl) (hval 0 22 v0 rfl rfl) h0; obtain ⟨s, rfl, _, _, w1⟩ := open_string Tryd.underlying9 (hval 1 9 v1 rfl rfl) h1
  exact (walk v0 l1 s W hs1 HT).mono fun e W' ⟨he, hb⟩ => ⟨_, he, fin W' hb⟩
theorem row_holds : Rows.BlockPartsSaid :=
  OpenClaim.holds_of_wide 8 Tryd.f8 rfl rfl rfl rfl rfl rfl rfl ⟨rfl, rfl, rfl, rfl, rfl⟩ rfl rfl rfl rfl rfl (by kernel_rfl) Tryd.func8 (by kernel_rfl)
    (of_decide_eq_true (by kernel_rfl)) (by unfold Func.isWrapper; first | (rw [if_pos (by decide +kernel)]; kernel_rfl) | (rw [if_neg (by decide +kernel)]; exact ⟨rfl, rfl⟩))
    (fun os started H enc _ => lifted os started H enc)
theorem proved : Rows.BlockPartsCardSaid :=
  Claim7.holds_tied_plain_at .later [] [.data, .data] true _ false
    row_holds (fun _ h => by cases h) (by kernel_rfl) (fun _ h => by cases h) blockParts_row_tie rfl ⟨rfl, rfl⟩ (by kernel_rfl) rfl
    (fun f fn hf hfn => by
      obtain rfl : f = 8 := Option.some.inj ((show Tryd.prog.funcNamed "chirograph/chirographlaw09.BlockParts" = some 8 by kernel_rfl).symm.trans hf) |>.symm
      obtain rfl : fn = Tryd.f8 := (Option.some.inj (Tryd.func8.symm.trans hfn)).symm
      exact ⟨by kernel_rfl, fun j t ht => by
        rw [Tryd.params8] at ht
        have hm : t ∈ [22, 9] := by simpa using Array.mem_of_getElem? ht
        have hall : ([22, 9].all fun u => !Tryd.prog.wantsStandIn u) = true := by kernel_rfl
        exact (show Tryd.prog.wantsStandIn t = false by simpa using List.all_eq_true.1 hall t hm)⟩)
    (by kernel_rfl)
end Go.Proofs.YtpdfchaamedeoaaDoor.kparts
