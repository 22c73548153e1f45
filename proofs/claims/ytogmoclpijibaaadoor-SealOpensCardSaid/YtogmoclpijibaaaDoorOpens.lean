/- For every text the law SealOpens returns true. Conditions: the listed tables are as the program lays them. -/
import Derived.Test.YtogmoclpijibaaaDoorSealRef3
import Derived.Test.YtogmoclpijibaaaDoorTabs
import Derived.Test.YtogmoclpijibaaaDoorTie
import Derived.Test.YtogmoclpijibaaaDoorCards
import Derived.SevenTiedAt
namespace Go.Proofs.YtogmoclpijibaaaDoor.opens
open Go Go.ChangeShapes Go.WideShapes Go.ChangeAt Go.ChangeMaps Go.RowKit Go.Proofs.YtogmoclpijibaaaDoor

theorem allF_le (l : List UInt8) : ∀ (f n : Nat), (allF f l n).1.length ≤ f := by
  intro f
  induction f with
  | zero => intro n; exact Nat.le_refl _
  | succ f ih =>
    intro n
    rw [allF]
    split
    · have := ih (n + opN (l.drop n))
      simp
      omega
    · exact Nat.zero_le _
set_option maxRecDepth 100000 in
set_option maxHeartbeats 1000000 in
theorem walk (s : ByteArray) (w : World) (ht : Tabs w) : Calls Tryd.prog 10 #[.string s] w fun e w' => e = .returned (.bool true) ∧ Below w.heap.size w w' := by
  have HK := Lib.hid (l3Cut_any s 1000 w (by decide))
  obtain ⟨L, hL⟩ : ∃ L, s.data.toList.take 1000 = L := ⟨_, rfl⟩
  have hl : L.length ≤ 1000 := by rw [← hL, List.length_take]; omega
  rw [hL] at HK
  have hz : (stx L).size ≤ 1000 := by rw [stx_size]; exact hl
  have H1 := Lib.hid (Open_any (stx L) w (by omega) ht)
  have H2 : Hid (∀ w, Calls Tryd.prog 33 #[.string (stx L)] w fun e w' => e = .returned (OpenR L) ∧ Below w.heap.size w w') := Lib.hid fun w => r4Open_any (stx L) w (by omega)
  have H3 : Hid (∀ w, Tabs w → Calls Tryd.prog 34 #[.string (stx L)] w (AllRet w L)) := Lib.hid fun w ht => All_any (stx L) w (by omega) ht
  have H4 : Hid (∀ w, Calls Tryd.prog 35 #[.string (stx L)] w (AllRet w L)) := Lib.hid fun w => r4All_any (stx L) w (by omega)
  have HN : Hid ((allR L).1.length ≤ 1000000) := Lib.hid (by have := allF_le L (L.length + 1) 0; unfold allR; omega)
  rw [show (stx L).data.toList = L from rfl] at H1
  obtain ⟨E, hE⟩ : ∃ E, opE L = E := ⟨_, rfl⟩
  obtain ⟨N, hN⟩ : ∃ N, opN L = N := ⟨_, rfl⟩
  obtain ⟨S, hS⟩ : ∃ S, opS L = S := ⟨_, rfl⟩
  have hO : OpenR L = .tuple #[.string (stx S), .int .i64 N, .int .i64 E] := by rw [OpenR, hE, hN, hS]
  rw [hO] at H1 H2
  have HT := Lib.hid ht
  clear ht hL hl hz hE hN hS hO
  generalize stx S = X at *
  generalize stx L = Y at *
  go_enter Tryd.func10, Tryd.ntmps10
  go_wp2_with fail
  refine HK.out.mono ?_
  rintro e w1 ⟨rfl, rfl⟩
  go_wp2_with fail
  refine H1.out.mono ?_
  rintro e w2 ⟨rfl, b1⟩
  clear HK H1
  go_wp2_with fail
  refine (H2.out _).mono ?_
  rintro e w3 ⟨rfl, b2⟩
  have b3 := below_past b1 b2 b1.size
  have T3 := Lib.hid (HT.out.below b3)
  clear b1 b2 H2
  go_wp2_with fail
  refine (H3.out _ T3.out).mono ?_
  rintro e w4 ⟨v, rfl, o1, b1⟩
  have k1 := o1.lie
  have b4 := below_past b3 b1 b3.size
  clear b3 b1 H3 T3 o1
  go_wp2_with fail
  refine (H4.out _).mono ?_
  rintro e w5 ⟨u, rfl, o1, b1⟩
  have k2 := o1.lie
  have k3 := k1.below b1
  have b5 := below_past b4 b1 b4.size
  have T5 := Lib.hid (HT.out.below b5)
  have HA := Lib.hid (awake4 _ T5.out)
  clear b4 b1 H4 o1 k1
  go_wp2_with fail
  refine HA.out.mono ?_
  rintro e w6 ⟨rfl, b1⟩
  have HS := Lib.hid (same_any v u _ w6 (k3.below b1) (k2.below b1) HN.out)
  have b6 := below_past b5 b1 b5.size
  clear b5 b1 HA k3 k2 T5
  go_wp2_with fail
  refine HS.out.mono ?_
  rintro e w7 ⟨rfl, b1⟩
  have b7 := below_past b6 b1 b6.size
  clear b6 b1 HS
  go_wp2_with fail
  go_ret
  exact ⟨rfl, b7⟩
set_option maxRecDepth 100000 in
theorem lifted (os : Os) (started : os.Started) (H : Type) (enc : TypeId × Value → H) :
    ReturnsInHanded {} Tryd.checked os 10 .any (fun w args => (Rows.sealOpensSpec.pre enc Tryd.prog Tryd.f10 [] false w args ∧ laidMetH Tryd.prog laidSeal w) ∧ sizedMet enc Tryd.prog Tryd.f10 (OpenSpec.ofChange Rows.sealOpensSpec) false w args) (Rows.sealOpensSpec.post enc Tryd.prog Tryd.f10 false true false false) := by
  refine returnsInHanded_of_change_and (C := Tryd.checked) (X := fun w _ => laidMetH Tryd.prog laidSeal w) (fun _ _ _ hh h => h.of_heap hh) own started (by kernel_rfl) Tryd.func10
    (ChangeSpec.witness_shaped (enc := enc) (C := Tryd.checked) (os := os) (X := fun w _ => laidMetH Tryd.prog laidSeal w) false (World.doorLaid Tryd.prog 2000 os) #[.string ⟨#[]⟩] 8 rfl (World.shaped_of_RefB (by kernel_rfl) (by kernel_rfl)) (by kernel_rfl) (by kernel_rfl) (by kernel_rfl) (door_seal os _)) ?_
  intro W base args ds gs before hval0 hW _ _ hL _
  have hval : ∀ (j : Nat) t v, Tryd.f10.params[j]? = some t → args[j]? = some v → Value.okWide Tryd.prog W .any base t v := hval0
  clear hval0
  have hW' := hW
  obtain ⟨p, q, hA0, hV, rfl, hfz, hnd⟩ := hW
  have hA : DataW.TrodAll enc Tryd.prog W 0 (fun _ => true) true Tryd.f10.params.toList args.toList ds p := hA0
  rw [Tryd.params10] at hA hval
  clear hA0 hfz hnd hV
  have hr : Readable Tryd.f10.params.toList := by
    rw [Tryd.params10]
    exact readable_of_all (by kernel_rfl)
  have fin : ∀ W', Below W.heap.size W W' → Rows.sealOpensSpec.post enc Tryd.prog Tryd.f10 false true false false W args (.bool true) W' := fun W' hb =>
    law_post rfl hW' hr (fun l hl => by
      rw [Tryd.params10] at hl
      match l, hl with
      | [d1], _ => rfl) (by kernel_rfl) hb
  clear hW' hr
  have HT := tabs_of_laid hL
  obtain ⟨v0, d0, rfl, rfl, h0⟩ := trodAll_one hA; obtain ⟨s, rfl, _, _, w0⟩ := open_string Tryd.underlying9 (hval 0 9 v0 rfl rfl) h0
  exact (walk s W HT).mono fun e W' ⟨he, hb⟩ => ⟨_, he, fin W' hb⟩
theorem row_holds : Rows.SealOpensSaid :=
  OpenClaim.holds_of_wide 10 Tryd.f10 rfl rfl rfl rfl rfl rfl rfl ⟨rfl, rfl, rfl, rfl, rfl⟩ rfl rfl rfl rfl rfl (by kernel_rfl) Tryd.func10 (by kernel_rfl)
    (of_decide_eq_true (by kernel_rfl)) (by unfold Func.isWrapper; first | (rw [if_pos (by decide +kernel)]; kernel_rfl) | (rw [if_neg (by decide +kernel)]; exact ⟨rfl, rfl⟩))
    (fun os started H enc _ => lifted os started H enc)
theorem proved : Rows.SealOpensCardSaid :=
  Claim7.holds_tied_plain_at .later [] [.data, .data] true _ false
    row_holds (fun _ h => by cases h) (by kernel_rfl) (fun _ h => by cases h) sealOpens_row_tie rfl ⟨rfl, rfl⟩ (by kernel_rfl) rfl
    (fun f fn hf hfn => by
      obtain rfl : f = 10 := Option.some.inj ((show Tryd.prog.funcNamed "chirograph/chirographlaw04.SealOpens" = some 10 by kernel_rfl).symm.trans hf) |>.symm
      obtain rfl : fn = Tryd.f10 := (Option.some.inj (Tryd.func10.symm.trans hfn)).symm
      exact ⟨by kernel_rfl, fun j t ht => by
        rw [Tryd.params10] at ht
        have hm : t ∈ [9] := by simpa using Array.mem_of_getElem? ht
        have hall : ([9].all fun u => !Tryd.prog.wantsStandIn u) = true := by kernel_rfl
        exact (show Tryd.prog.wantsStandIn t = false by simpa using List.all_eq_true.1 hall t hm)⟩)
    (by kernel_rfl)
end Go.Proofs.YtogmoclpijibaaaDoor.opens
