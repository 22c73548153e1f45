/- For any entries and any text the law BlockBack returns true. Conditions: the listed tables are as the program lays them. -/
import Derived.Test.YtpdfchaamedeoaaDoorBlockLaw
import Derived.Test.YtpdfchaamedeoaaDoorEnts4
import Derived.Test.YtpdfchaamedeoaaDoorEntsIn
import Derived.Test.YtpdfchaamedeoaaDoorTabs
import Derived.Test.YtpdfchaamedeoaaDoorTie
import Derived.Test.YtpdfchaamedeoaaDoorCards
import Derived.SevenTiedAt
namespace Go.Proofs.YtpdfchaamedeoaaDoor.kback
open Go Go.ChangeShapes Go.WideShapes Go.ChangeAt Go.ChangeMaps Go.RowKit Go.Proofs.YtpdfchaamedeoaaDoor

theorem few_small (n : Nat) (es : List Ent) : smallB (fewE n es) := fun x hx => by have := fewE_small n es x hx; omega
set_option maxRecDepth 100000 in
set_option maxHeartbeats 4000000 in
theorem walk (v : Value) (es : List Ent) (m0 : ByteArray) (w : World) (h : InEnts w v es) (ht : Tabs w) : Calls Tryd.prog 6 #[v, .string m0] w fun e w' => e = .returned (.bool true) ∧ Below w.heap.size w w' := by
  have HF := Lib.hid (few9_any v es 270 w h (by decide))
  have HC := Lib.hid (fun w => l3Cut_any m0 300 w (by decide))
  obtain ⟨mo, hm⟩ : ∃ mo, m0.data.toList.take 300 = mo := ⟨_, rfl⟩
  have hmo : mo.length ≤ 300 := by rw [← hm]; exact List.length_take_le _ _
  rw [hm] at HC
  have hsm := few_small 270 es
  obtain ⟨l, hl⟩ : ∃ l, fewE 270 es = l := ⟨_, rfl⟩
  have hll : l.length ≤ 270 := by rw [← hl, fewE_length]; exact Nat.min_le_left _ _
  rw [hl] at HF hsm
  have HT := Lib.hid ht
  have HM := Lib.hid (fun v w (h : EntsAt w v l) (ht : Tabs w) => kMake_any v l w h ht hsm)
  have HAW := Lib.hid (fun w (h : Tabs w) => awake9 w h)
  by_cases hc : checkB l = 0 ∧ (textB l).length ≤ 65536
  · obtain ⟨e1, e2, e3⟩ := read_made hc.1 hc.2 mo
    rw [makeB_ok hc.1 hc.2] at HM
    have hfl : (frame (textB l)).length ≤ 65544 := by rw [frame_length]; have := hc.2; omega
    have HRD := Lib.hid (fun w (h : Tabs w) => kRead_any (stx (frame (textB l) ++ mo)) w (by rw [stx_size, List.length_append]; omega) h)
    rw [show (stx (frame (textB l) ++ mo)).data.toList = frame (textB l) ++ mo from rfl] at HRD
    unfold ReadR at HRD
    rw [e1, e2, e3] at HRD
    have HSM := Lib.hid (fun v u w h1 h2 => r9Same_any v u l l w h1 h2 (by omega))
    rw [decide_eq_true (rfl : l = l)] at HSM
    obtain ⟨N, hN⟩ : ∃ N, (frame (textB l)).length = N := ⟨_, rfl⟩
    rw [hN] at HRD hfl
    have hsz : (stx (frame (textB l))).size = N := by rw [stx_size, hN]
    have hsz2 : (stx mo).size ≤ 300 := by rw [stx_size]; exact hmo
    have HAD : Hid (stx (frame (textB l)) ++ stx mo = stx (frame (textB l) ++ mo)) := Lib.hid (stx_append _ _)
    have hN1 : (N : Int) ≤ 65544 := by omega
    clear e1 e2 e3 ht h hm hl hmo hc hsm hll hN
    generalize stx (frame (textB l) ++ mo) = S2 at *
    generalize stx (frame (textB l)) = S1 at *
    generalize stx mo = so at *
    go_enter Tryd.func6, Tryd.ntmps6
    go_wp2_with fail
    refine HF.out.mono ?_
    rintro e w1 ⟨v1, rfl, o1, b1⟩
    have T1 := Lib.hid (HT.out.below b1)
    have L1 := Lib.hid o1.lie
    clear HF o1 HT
    go_wp2_with fail
    refine (HC.out _).mono ?_
    rintro e w2 ⟨rfl, rfl⟩
    have HM2 := Lib.hid (HM.out _ _ L1.out T1.out)
    clear HC HM
    go_wp2_with fail
    refine HM2.out.mono ?_
    rintro e w3 ⟨rfl, b2⟩
    have b3 := below_past b1 b2 b1.size
    have T3 := Lib.hid (T1.out.below b2)
    have L3 := Lib.hid (L1.out.below b2)
    have HR := Lib.hid (HRD.out _ T3.out)
    clear HM2 b1 b2 T1 L1 HRD
    go_wp2_with fail
    rw [HAD.out]
    refine HR.out.mono ?_
    rintro e w4 ⟨u, rfl, o4, b2⟩
    have b4 := below_past b3 b2 b3.size
    have T4 := Lib.hid (T3.out.below b2)
    have L4 := Lib.hid (L3.out.below b2)
    have K4 := Lib.hid o4.lie
    clear HR b2 b3 T3 L3 o4
    go_wp2_with fail
    refine (HAW.out _ T4.out).mono ?_
    rintro e w5 ⟨rfl, b2⟩
    have b5 := below_past b4 b2 b4.size
    have HS5 := Lib.hid (HSM.out _ _ _ (L4.out.below b2) (K4.out.below b2))
    clear HAW T4 L4 K4 b2 b4 HSM
    go_wp2_with fail
    refine HS5.out.mono ?_
    rintro e w6 ⟨rfl, b2⟩
    have b6 := below_past b5 b2 b5.size
    clear HS5 b2 b5
    go_wp2_with fail
    go_ret
    exact ⟨rfl, b6⟩
  · obtain ⟨x, hx, hR⟩ : ∃ x : Nat, x ≠ 0 ∧ MakeR l = .tuple #[.string ⟨#[]⟩, .int .i64 x] := by
      unfold MakeR makeB
      by_cases h1 : checkB l = 0
      · rw [if_neg (by rw [h1]; simp), if_neg (fun e => hc ⟨h1, e⟩)]
        exact ⟨2, by decide, rfl⟩
      · rw [if_pos h1]
        exact ⟨_, h1, rfl⟩
    rw [hR] at HM
    have p1 : ((x : Int) != 0) = true := by rw [bne_iff_ne]; omega
    have p2 : (x != 0) = true := by rw [bne_iff_ne]; exact hx
    clear ht h hm hl hmo hc hsm hll hx hR
    generalize stx mo = so at *
    go_enter Tryd.func6, Tryd.ntmps6
    go_wp2_with fail
    refine HF.out.mono ?_
    rintro e w1 ⟨v1, rfl, o1, b1⟩
    have T1 := Lib.hid (HT.out.below b1)
    have L1 := Lib.hid o1.lie
    clear HF o1 HT
    go_wp2_with fail
    refine (HC.out _).mono ?_
    rintro e w2 ⟨rfl, rfl⟩
    have HM2 := Lib.hid (HM.out _ _ L1.out T1.out)
    clear HC HM
    go_wp2_with fail
    refine HM2.out.mono ?_
    rintro e w3 ⟨rfl, b2⟩
    have b3 := below_past b1 b2 b1.size
    have T3 := Lib.hid (T1.out.below b2)
    clear HM2 b1 b2 T1 L1
    go_wp2_with fail
    refine (HAW.out _ T3.out).mono ?_
    rintro e w5 ⟨rfl, b2⟩
    have b5 := below_past b3 b2 b3.size
    clear HAW T3 b2 b3
    go_wp2_with fail
    go_ret
    exact ⟨rfl, b5⟩
set_option maxRecDepth 100000 in
theorem lifted (os : Os) (started : os.Started) (H : Type) (enc : TypeId × Value → H) :
    ReturnsInHanded {} Tryd.checked os 6 .any (fun w args => (Rows.blockBackSpec.pre enc Tryd.prog Tryd.f6 [] false w args ∧ laidMetH Tryd.prog laidSeal w) ∧ sizedMet enc Tryd.prog Tryd.f6 (OpenSpec.ofChange Rows.blockBackSpec) false w args) (Rows.blockBackSpec.post enc Tryd.prog Tryd.f6 false true false false) := by
  refine returnsInHanded_of_change_and (C := Tryd.checked) (X := fun w _ => laidMetH Tryd.prog laidSeal w) (fun _ _ _ hh h => h.of_heap hh) own started (by kernel_rfl) Tryd.func6
    (ChangeSpec.witness_shaped (enc := enc) (C := Tryd.checked) (os := os) (X := fun w _ => laidMetH Tryd.prog laidSeal w) false (World.doorLaid Tryd.prog 2000 os) #[.slice none 0 0, .string ⟨#[]⟩] 8 rfl (World.shaped_of_RefB (by kernel_rfl) (by kernel_rfl)) (by kernel_rfl) (by kernel_rfl) (by kernel_rfl) (door_seal os _)) ?_
  intro W base args ds gs before hval0 hW _ _ hL _
  have hval : ∀ (j : Nat) t v, Tryd.f6.params[j]? = some t → args[j]? = some v → Value.okWide Tryd.prog W .any base t v := hval0
  clear hval0
  have hW' := hW
  obtain ⟨p, q, hA0, hV, rfl, hfz, hnd⟩ := hW
  have hA : DataW.TrodAll enc Tryd.prog W 0 (fun _ => true) true Tryd.f6.params.toList args.toList ds p := hA0
  rw [Tryd.params6] at hA hval
  clear hA0 hfz hnd hV
  have hr : Readable Tryd.f6.params.toList := by
    rw [Tryd.params6]
    exact readable_of_all (by kernel_rfl)
  have fin : ∀ W', Below W.heap.size W W' → Rows.blockBackSpec.post enc Tryd.prog Tryd.f6 false true false false W args (.bool true) W' := fun W' hb =>
    law_post rfl hW' hr (fun l hl => by
      rw [Tryd.params6] at hl
      match l, hl with
      | [d1, d2], _ => rfl) (by kernel_rfl) hb
  clear hW' hr
  have HT := tabs_of_laid hL
  obtain ⟨v0, v1, d0, d1, p0, p1, rfl, rfl, rfl, h0, h1⟩ := trodAll_two hA; obtain ⟨l1, hs1, hs1b⟩ := in_ents_of Tryd.underlying22 Tryd.underlying42 (by kernel_rfl) rfl rfl rfl rfl rfl rfl Tryd.underlying9 (by kernel_rfl) Tryd.underlying4 (by kernel_rfl) (hval 0 22 v0 rfl rfl) h0; obtain ⟨s, rfl, _, _, w1⟩ := open_string Tryd.underlying9 (hval 1 9 v1 rfl rfl) h1
  exact (walk v0 l1 s W hs1 HT).mono fun e W' ⟨he, hb⟩ => ⟨_, he, fin W' hb⟩
theorem row_holds : Rows.BlockBackSaid :=
  OpenClaim.holds_of_wide 6 Tryd.f6 rfl rfl rfl rfl rfl rfl rfl ⟨rfl, rfl, rfl, rfl, rfl⟩ rfl rfl rfl rfl rfl (by kernel_rfl) Tryd.func6 (by kernel_rfl)
    (of_decide_eq_true (by kernel_rfl)) (by unfold Func.isWrapper; first | (rw [if_pos (by decide +kernel)]; kernel_rfl) | (rw [if_neg (by decide +kernel)]; exact ⟨rfl, rfl⟩))
    (fun os started H enc _ => lifted os started H enc)
theorem proved : Rows.BlockBackCardSaid :=
  Claim7.holds_tied_plain_at .later [] [.data, .data] true _ false
    row_holds (fun _ h => by cases h) (by kernel_rfl) (fun _ h => by cases h) blockBack_row_tie rfl ⟨rfl, rfl⟩ (by kernel_rfl) rfl
    (fun f fn hf hfn => by
      obtain rfl : f = 6 := Option.some.inj ((show Tryd.prog.funcNamed "chirograph/chirographlaw09.BlockBack" = some 6 by kernel_rfl).symm.trans hf) |>.symm
      obtain rfl : fn = Tryd.f6 := (Option.some.inj (Tryd.func6.symm.trans hfn)).symm
      exact ⟨by kernel_rfl, fun j t ht => by
        rw [Tryd.params6] at ht
        have hm : t ∈ [22, 9] := by simpa using Array.mem_of_getElem? ht
        have hall : ([22, 9].all fun u => !Tryd.prog.wantsStandIn u) = true := by kernel_rfl
        exact (show Tryd.prog.wantsStandIn t = false by simpa using List.all_eq_true.1 hall t hm)⟩)
    (by kernel_rfl)
end Go.Proofs.YtpdfchaamedeoaaDoor.kback
