/- For every text the law SealWraps returns true. Conditions: the listed tables are as the program lays them. -/
import Derived.Test.YtogmoclpijibaaaDoorSealLaw
import Derived.Test.YtogmoclpijibaaaDoorSealRef
import Derived.Test.YtogmoclpijibaaaDoorTabs
import Derived.Test.YtogmoclpijibaaaDoorTie
import Derived.Test.YtogmoclpijibaaaDoorCards
import Derived.SevenTiedAt
namespace Go.Proofs.YtogmoclpijibaaaDoor.wraps
open Go Go.ChangeShapes Go.WideShapes Go.ChangeAt Go.ChangeMaps Go.RowKit Go.Proofs.YtogmoclpijibaaaDoor

set_option maxRecDepth 100000 in
theorem walk (s : ByteArray) (w : World) (ht : Tabs w) : Calls Tryd.prog 9 #[.string s] w fun e w' => e = .returned (.bool true) ∧ Below w.heap.size w w' := by
  have HK := Lib.hid (l3Cut_any s 400 w (by decide))
  obtain ⟨L, hL⟩ : ∃ L, s.data.toList.take 400 = L := ⟨_, rfl⟩
  have hl : L.length ≤ 400 := by rw [← hL, List.length_take]; omega
  rw [hL] at HK
  have H1 := Lib.hid (Wrap_any (stx L) w (by rw [stx_size]; omega) ht)
  have H2 : Hid (∀ w, Tabs w → Calls Tryd.prog 29 #[.string (stx L)] w fun e w' => e = .returned (.int .u32 (crc L)) ∧ Below w.heap.size w w') := Lib.hid fun w ht => Check_any (stx L) w (by rw [stx_size]; omega) ht
  have H3 : Hid (∀ w, Calls Tryd.prog 30 #[.string (stx L)] w fun e w' => e = .returned (.int .u32 (crc L)) ∧ w' = w) := Lib.hid fun w => r4Check_any (stx L) w (by rw [stx_size]; omega)
  have H4 : Hid (∀ w, Calls Tryd.prog 31 #[.string (stx L)] w fun e w' => e = .returned (.string (stx (frame L))) ∧ Below w.heap.size w w') := Lib.hid fun w => r4Wrap_any (stx L) w (by rw [stx_size]; omega)
  rw [show (stx L).data.toList = L from rfl] at H1
  have HT := Lib.hid ht
  clear ht hL hl
  generalize crc L = k at *
  generalize stx (frame L) = F at *
  generalize stx L = S at *
  go_enter Tryd.func9, Tryd.ntmps9
  go_wp2_with fail
  refine HK.out.mono ?_
  rintro e w1 ⟨rfl, rfl⟩
  go_wp2_with fail
  refine H1.out.mono ?_
  rintro e w2 ⟨rfl, b1⟩
  have T1 := Lib.hid (HT.out.below b1)
  have HA := Lib.hid (awake4 w2 T1.out)
  go_wp2_with fail
  refine HA.out.mono ?_
  rintro e w3 ⟨rfl, b2⟩
  have b3 := below_past b1 b2 b1.size
  have T2 := Lib.hid (HT.out.below b3)
  clear b1 b2 HA T1
  go_wp2_with fail
  refine (H2.out _ T2.out).mono ?_
  rintro e w4 ⟨rfl, b1⟩
  have b4 := below_past b3 b1 b3.size
  clear b3 b1 T2
  go_wp2_with fail
  refine (H3.out _).mono ?_
  rintro e w5 ⟨rfl, rfl⟩
  go_wp2_with fail
  refine (H4.out _).mono ?_
  rintro e w6 ⟨rfl, b1⟩
  have b5 := below_past b4 b1 b4.size
  clear b4 b1
  go_wp2_with fail
  go_ret
  exact ⟨rfl, b5⟩
set_option maxRecDepth 100000 in
theorem lifted (os : Os) (started : os.Started) (H : Type) (enc : TypeId × Value → H) :
    ReturnsInHanded {} Tryd.checked os 9 .any (fun w args => (Rows.sealWrapsSpec.pre enc Tryd.prog Tryd.f9 [] false w args ∧ laidMetH Tryd.prog laidSeal w) ∧ sizedMet enc Tryd.prog Tryd.f9 (OpenSpec.ofChange Rows.sealWrapsSpec) false w args) (Rows.sealWrapsSpec.post enc Tryd.prog Tryd.f9 false true false false) := by
  refine returnsInHanded_of_change_and (C := Tryd.checked) (X := fun w _ => laidMetH Tryd.prog laidSeal w) (fun _ _ _ hh h => h.of_heap hh) own started (by kernel_rfl) Tryd.func9
    (ChangeSpec.witness_shaped (enc := enc) (C := Tryd.checked) (os := os) (X := fun w _ => laidMetH Tryd.prog laidSeal w) false (World.doorLaid Tryd.prog 2000 os) #[.string ⟨#[]⟩] 8 rfl (World.shaped_of_RefB (by kernel_rfl) (by kernel_rfl)) (by kernel_rfl) (by kernel_rfl) (by kernel_rfl) (door_seal os _)) ?_
  intro W base args ds gs before hval0 hW _ _ hL _
  have hval : ∀ (j : Nat) t v, Tryd.f9.params[j]? = some t → args[j]? = some v → Value.okWide Tryd.prog W .any base t v := hval0
  clear hval0
  have hW' := hW
  obtain ⟨p, q, hA0, hV, rfl, hfz, hnd⟩ := hW
  have hA : DataW.TrodAll enc Tryd.prog W 0 (fun _ => true) true Tryd.f9.params.toList args.toList ds p := hA0
  rw [Tryd.params9] at hA hval
  clear hA0 hfz hnd hV
  have hr : Readable Tryd.f9.params.toList := by
    rw [Tryd.params9]
    exact readable_of_all (by kernel_rfl)
  have fin : ∀ W', Below W.heap.size W W' → Rows.sealWrapsSpec.post enc Tryd.prog Tryd.f9 false true false false W args (.bool true) W' := fun W' hb =>
    law_post rfl hW' hr (fun l hl => by
      rw [Tryd.params9] at hl
      match l, hl with
      | [d1], _ => rfl) (by kernel_rfl) hb
  clear hW' hr
  have HT := tabs_of_laid hL
  obtain ⟨v0, d0, rfl, rfl, h0⟩ := trodAll_one hA; obtain ⟨s, rfl, _, _, w0⟩ := open_string Tryd.underlying9 (hval 0 9 v0 rfl rfl) h0
  exact (walk s W HT).mono fun e W' ⟨he, hb⟩ => ⟨_, he, fin W' hb⟩
theorem row_holds : Rows.SealWrapsSaid :=
  OpenClaim.holds_of_wide 9 Tryd.f9 rfl rfl rfl rfl rfl rfl rfl ⟨rfl, rfl, rfl, rfl, rfl⟩ rfl rfl rfl rfl rfl (by kernel_rfl) Tryd.func9 (by kernel_rfl)
    (of_decide_eq_true (by kernel_rfl)) (by unfold Func.isWrapper; first | (rw [if_pos (by decide +kernel)]; kernel_rfl) | (rw [if_neg (by decide +kernel)]; exact ⟨rfl, rfl⟩))
    (fun os started H enc _ => lifted os started H enc)
theorem proved : Rows.SealWrapsCardSaid :=
  Claim7.holds_tied_plain_at .later [] [.data, .data] true _ false
    row_holds (fun _ h => by cases h) (by kernel_rfl) (fun _ h => by cases h) sealWraps_row_tie rfl ⟨rfl, rfl⟩ (by kernel_rfl) rfl
    (fun f fn hf hfn => by
      obtain rfl : f = 9 := Option.some.inj ((show Tryd.prog.funcNamed "chirograph/chirographlaw04.SealWraps" = some 9 by kernel_rfl).symm.trans hf) |>.symm
      obtain rfl : fn = Tryd.f9 := (Option.some.inj (Tryd.func9.symm.trans hfn)).symm
      exact ⟨by kernel_rfl, fun j t ht => by
        rw [Tryd.params9] at ht
        have hm : t ∈ [9] := by simpa using Array.mem_of_getElem? ht
        have hall : ([9].all fun u => !Tryd.prog.wantsStandIn u) = true := by kernel_rfl
        exact (show Tryd.prog.wantsStandIn t = false by simpa using List.all_eq_true.1 hall t hm)⟩)
    (by kernel_rfl)
end Go.Proofs.YtogmoclpijibaaaDoor.wraps
