/- For any text the law BlockOne returns true. Conditions: the listed tables are as the program lays them. -/
import Derived.Test.YtpdfchaamedeoaaDoorBlockLaw
import Derived.Test.YtpdfchaamedeoaaDoorTabs
import Derived.Test.YtpdfchaamedeoaaDoorTie
import Derived.Test.YtpdfchaamedeoaaDoorCards
import Derived.SevenTiedAt
namespace Go.Proofs.YtpdfchaamedeoaaDoor.kone
open Go Go.ChangeShapes Go.WideShapes Go.ChangeAt Go.ChangeMaps Go.RowKit Go.Proofs.YtpdfchaamedeoaaDoor

theorem frame_read (T : List UInt8) (h : T.length ≤ 65536) : readE (frame T) = (readB T).1 ∧ ((readB T).1 = 0 → checkB (readL (frame T)) = 0 ∧ textB (readL (frame T)) = T ∧ readN (frame T) = ((frame T).length : Nat)) := by
  have := open_frame T [] h
  rw [List.append_nil] at this
  obtain ⟨e1, e2, e3⟩ := this
  have hr : readE (frame T) = (readB T).1 := by rw [readE, if_neg (by rw [e1]; simp), e2]
  refine ⟨hr, fun h0 => ?_⟩
  obtain ⟨k1, k2⟩ := readB_one T h0
  have hl : readL (frame T) = (readB T).2 := by rw [readL, if_pos (hr.trans h0), e2]
  rw [hl]
  exact ⟨k1, k2.symm, by rw [readN, if_pos (hr.trans h0), e3, frame_length]⟩
set_option maxRecDepth 100000 in
set_option maxHeartbeats 4000000 in
theorem walk (s0 : ByteArray) (w : World) (ht : Tabs w) : Calls Tryd.prog 7 #[.string s0] w fun e w' => e = .returned (.bool true) ∧ Below w.heap.size w w' := by
  have HC := Lib.hid (fun w => l3Cut_any s0 2000 w (by decide))
  obtain ⟨T, hm⟩ : ∃ T, s0.data.toList.take 2000 = T := ⟨_, rfl⟩
  have hT : T.length ≤ 2000 := by rw [← hm]; exact List.length_take_le _ _
  rw [hm] at HC
  clear hm
  obtain ⟨h1, h2⟩ := frame_read T (by omega)
  have HT := Lib.hid ht
  have HW := Lib.hid (fun w (h : Tabs w) => Wrap_any (stx T) w (by rw [stx_size]; omega) h)
  rw [show (stx T).data.toList = T from rfl] at HW
  have hfl : (frame T).length ≤ 2008 := by rw [frame_length]; omega
  have HRD := Lib.hid (fun w (h : Tabs w) => kRead_any (stx (frame T)) w (by rw [stx_size]; omega) h)
  rw [show (stx (frame T)).data.toList = frame T from rfl] at HRD
  have HAW := Lib.hid (fun w (h : Tabs w) => awake9 w h)
  obtain ⟨N, hN⟩ : ∃ N, (frame T).length = N := ⟨_, rfl⟩
  have hsz : (stx (frame T)).size = N := by rw [stx_size, hN]
  rw [hN] at h2 hfl
  by_cases h0 : (readB T).1 = 0
  · obtain ⟨k1, k2, k3⟩ := h2 h0
    have hE : readE (frame T) = 0 := h1.trans h0
    have HM := Lib.hid (fun v w (h : EntsAt w v (readL (frame T))) (ht : Tabs w) => kMake_any v _ w h ht (fun x hx => by have := (checkB_len k1).2 x hx; omega))
    rw [makeB_ok k1 (by rw [k2]; omega), k2] at HM
    unfold ReadR at HRD
    rw [hE, k3] at HRD
    have q1 : ((stx (frame T)).toList == (stx (frame T)).toList) = true := beq_self_eq_true _
    have hN1 : (N : Int) ≤ 2008 := by omega
    clear h1 h2 h0 k1 k2 k3 hE ht hN hT
    generalize readL (frame T) = l at *
    generalize stx (frame T) = S1 at *
    generalize stx T = sT at *
    go_enter Tryd.func7, Tryd.ntmps7
    go_wp2_with fail
    refine (HC.out _).mono ?_
    rintro e w1 ⟨rfl, rfl⟩
    clear HC
    go_wp2_with fail
    refine (HW.out _ HT.out).mono ?_
    rintro e w2 ⟨rfl, b2⟩
    have T2 := Lib.hid (HT.out.below b2)
    clear HW HT
    go_wp2_with fail
    refine (HRD.out _ T2.out).mono ?_
    rintro e w3 ⟨v, rfl, ow, b3⟩
    have b4 := below_past b2 b3 b2.size
    have T3 := Lib.hid (T2.out.below b3)
    have L3 := ow.lie
    obtain ⟨A, cap, hv, _⟩ := id L3
    have HM3 := Lib.hid (HM.out _ _ L3 T3.out)
    subst hv
    clear HRD T2 b2 b3 ow L3 HM
    go_wp2_with fail
    refine HM3.out.mono ?_
    rintro e w4 ⟨rfl, b3⟩
    have b5 := below_past b4 b3 b4.size
    have T4 := Lib.hid (T3.out.below b3)
    clear HM3 T3 b4 b3
    go_wp2_with fail
    refine (HAW.out _ T4.out).mono ?_
    rintro e w5 ⟨rfl, b3⟩
    have b6 := below_past b5 b3 b5.size
    clear HAW T4 b5 b3
    go_wp2_with fail
    go_ret
    exact ⟨rfl, b6⟩
  · have hE : readE (frame T) = (readB T).1 := h1
    have hL : readL (frame T) = [] := by rw [readL, if_neg (by rw [hE]; exact h0)]
    have hNN : readN (frame T) = 0 := by rw [readN, if_neg (by rw [hE]; exact h0)]
    unfold ReadR at HRD
    rw [hL, hNN, hE] at HRD
    generalize (readB T).1 = x at *
    have p1 : (x != 0) = true := by rw [bne_iff_ne]; exact h0
    clear h1 h2 h0 hE hL hNN ht hN hT
    generalize stx (frame T) = S1 at *
    generalize stx T = sT at *
    go_enter Tryd.func7, Tryd.ntmps7
    go_wp2_with fail
    refine (HC.out _).mono ?_
    rintro e w1 ⟨rfl, rfl⟩
    clear HC
    go_wp2_with fail
    refine (HW.out _ HT.out).mono ?_
    rintro e w2 ⟨rfl, b2⟩
    have T2 := Lib.hid (HT.out.below b2)
    clear HW HT
    go_wp2_with fail
    refine (HRD.out _ T2.out).mono ?_
    rintro e w3 ⟨v, rfl, ow, b3⟩
    have b4 := below_past b2 b3 b2.size
    have T3 := Lib.hid (T2.out.below b3)
    obtain ⟨A, cap, hv, _⟩ := ow.lie
    rw [show ([] : List Ent).length = 0 from rfl] at hv
    subst hv
    clear HRD T2 b2 b3 ow
    go_wp2_with fail
    refine (HAW.out _ T3.out).mono ?_
    rintro e w5 ⟨rfl, b3⟩
    have b6 := below_past b4 b3 b4.size
    clear HAW T3 b4 b3
    go_wp2_with fail
    go_ret
    exact ⟨rfl, b6⟩
set_option maxRecDepth 100000 in
theorem lifted (os : Os) (started : os.Started) (H : Type) (enc : TypeId × Value → H) :
    ReturnsInHanded {} Tryd.checked os 7 .any (fun w args => (Rows.blockOneSpec.pre enc Tryd.prog Tryd.f7 [] false w args ∧ laidMetH Tryd.prog laidSeal w) ∧ sizedMet enc Tryd.prog Tryd.f7 (OpenSpec.ofChange Rows.blockOneSpec) false w args) (Rows.blockOneSpec.post enc Tryd.prog Tryd.f7 false true false false) := by
  refine returnsInHanded_of_change_and (C := Tryd.checked) (X := fun w _ => laidMetH Tryd.prog laidSeal w) (fun _ _ _ hh h => h.of_heap hh) own started (by kernel_rfl) Tryd.func7
    (ChangeSpec.witness_shaped (enc := enc) (C := Tryd.checked) (os := os) (X := fun w _ => laidMetH Tryd.prog laidSeal w) false (World.doorLaid Tryd.prog 2000 os) #[.string ⟨#[]⟩] 8 rfl (World.shaped_of_RefB (by kernel_rfl) (by kernel_rfl)) (by kernel_rfl) (by kernel_rfl) (by kernel_rfl) (door_seal os _)) ?_
  intro W base args ds gs before hval0 hW _ _ hL _
  have hval : ∀ (j : Nat) t v, Tryd.f7.params[j]? = some t → args[j]? = some v → Value.okWide Tryd.prog W .any base t v := hval0
  clear hval0
  have hW' := hW
  obtain ⟨p, q, hA0, hV, rfl, hfz, hnd⟩ := hW
  have hA : DataW.TrodAll enc Tryd.prog W 0 (fun _ => true) true Tryd.f7.params.toList args.toList ds p := hA0
  rw [Tryd.params7] at hA hval
  clear hA0 hfz hnd hV
  have hr : Readable Tryd.f7.params.toList := by
    rw [Tryd.params7]
    exact readable_of_all (by kernel_rfl)
  have fin : ∀ W', Below W.heap.size W W' → Rows.blockOneSpec.post enc Tryd.prog Tryd.f7 false true false false W args (.bool true) W' := fun W' hb =>
    law_post rfl hW' hr (fun l hl => by
      rw [Tryd.params7] at hl
      match l, hl with
      | [d1], _ => rfl) (by kernel_rfl) hb
  clear hW' hr
  have HT := tabs_of_laid hL
  obtain ⟨v0, d0, rfl, rfl, h0⟩ := trodAll_one hA; obtain ⟨s, rfl, _, _, w0⟩ := open_string Tryd.underlying9 (hval 0 9 v0 rfl rfl) h0
  exact (walk s W HT).mono fun e W' ⟨he, hb⟩ => ⟨_, he, fin W' hb⟩
theorem row_holds : Rows.BlockOneSaid :=
  OpenClaim.holds_of_wide 7 Tryd.f7 rfl rfl rfl rfl rfl rfl rfl ⟨rfl, rfl, rfl, rfl, rfl⟩ rfl rfl rfl rfl rfl (by kernel_rfl) Tryd.func7 (by kernel_rfl)
    (of_decide_eq_true (by kernel_rfl)) (by unfold Func.isWrapper; first | (rw [if_pos (by decide +kernel)]; kernel_rfl) | (rw [if_neg (by decide +kernel)]; exact ⟨rfl, rfl⟩))
    (fun os started H enc _ => lifted os started H enc)
theorem proved : Rows.BlockOneCardSaid :=
  Claim7.holds_tied_plain_at .later [] [.data, .data] true _ false
    row_holds (fun _ h => by cases h) (by kernel_rfl) (fun _ h => by cases h) blockOne_row_tie rfl ⟨rfl, rfl⟩ (by kernel_rfl) rfl
    (fun f fn hf hfn => by
      obtain rfl : f = 7 := Option.some.inj ((show Tryd.prog.funcNamed "chirograph/chirographlaw09.BlockOne" = some 7 by kernel_rfl).symm.trans hf) |>.symm
      obtain rfl : fn = Tryd.f7 := (Option.some.inj (Tryd.func7.symm.trans hfn)).symm
      exact ⟨by kernel_rfl, fun j t ht => by
        rw [Tryd.params7] at ht
        have hm : t ∈ [9] := by simpa using Array.mem_of_getElem? ht
        have hall : ([9].all fun u => !Tryd.prog.wantsStandIn u) = true := by kernel_rfl
        exact (show Tryd.prog.wantsStandIn t = false by simpa using List.all_eq_true.1 hall t hm)⟩)
    (by kernel_rfl)
end Go.Proofs.YtpdfchaamedeoaaDoor.kone
