/- For every key and text the law ShaKeys returns true. Conditions: the listed table is as the program lays it. -/
import Derived.Test.YtgjhbfajonjhkaaDoorShaMac
import Derived.Test.YtgjhbfajonjhkaaDoorShaTabs
import Derived.Test.YtgjhbfajonjhkaaDoorTie
import Derived.Test.YtgjhbfajonjhkaaDoorCards
import Derived.SevenTiedAt
namespace Go.Proofs.YtgjhbfajonjhkaaDoor.keys
open Go Go.ChangeShapes Go.WideShapes Go.ChangeAt Go.ChangeMaps Go.RowKit Go.Proofs.YtgjhbfajonjhkaaDoor

theorem mac_long (key t : List UInt8) (h : 64 < key.length) : macL (shaLab key).l t = macL key t := by
  unfold macL
  rw [macK_long key h, macK_short (shaLab key).l (by rw [(shaLab key).h]; omega)]
theorem fill_nought (key : List UInt8) (h : key.length < 64) : fillB (key ++ [0]) = fillB key := by
  unfold fillB
  have e : [(0 : UInt8)] ++ List.replicate 64 0 = List.replicate 65 0 := rfl
  rw [Blk.mk.injEq, List.append_assoc, e, List.take_append, List.take_append, List.take_replicate, List.take_replicate]
  congr 2
  omega
theorem mac_nought (key t : List UInt8) (h : key.length < 64) : macL (key ++ [0]) t = macL key t := by
  unfold macL keyL
  rw [macK_short key (by omega), macK_short (key ++ [0]) (by rw [List.length_append, List.length_singleton]; omega), fill_nought key h]

set_option maxRecDepth 100000 in
set_option maxHeartbeats 2000000 in
theorem walk (k0 s0 : ByteArray) (w : World) (ht : Cubes w) : Calls Tryd.prog 8 #[.string k0, .string s0] w fun e w' => e = .returned (.bool true) ∧ Below w.heap.size w w' := by
  have HK := Lib.hid (fun w => l3Cut_any k0 200 w (by decide))
  have HK2 := Lib.hid (fun w => l3Cut_any s0 200 w (by decide))
  obtain ⟨key, hkey⟩ : ∃ key, k0.data.toList.take 200 = key := ⟨_, rfl⟩
  obtain ⟨t, htx⟩ : ∃ t, s0.data.toList.take 200 = t := ⟨_, rfl⟩
  have hk200 : key.length ≤ 200 := by rw [← hkey]; exact List.length_take_le _ _
  have ht200 : t.length ≤ 200 := by rw [← htx]; exact List.length_take_le _ _
  rw [hkey] at HK
  rw [htx] at HK2
  have hz : (stx key).size = key.length := stx_size key
  have HM := Lib.hid (fun w ht => Mac_any key t w ht (by omega) (by omega))
  have HT := Lib.hid ht
  clear hkey htx ht
  by_cases h64 : 64 < key.length
  · have h64' : decide ((64 : Int) < key.length) = true := decide_eq_true (by omega)
    have h64'' : decide (64 < key.length) = true := decide_eq_true (by omega)
    have HS := Lib.hid (fun w ht => Sum_any (stx key) w ht (by rw [stx_size]; omega))
    rw [show (stx key).data.toList = key from rfl] at HS
    have HM2 := Lib.hid (fun w ht => Mac_any (shaLab key).l t w ht (by rw [(shaLab key).h]; omega) (by omega))
    rw [mac_long key t h64] at HM2
    generalize macL key t = M at *
    generalize shaLab key = L at *
    clear h64 hk200 ht200
    go_enter Tryd.func8, Tryd.ntmps8
    go_wp2_with fail
    refine (HK.out _).mono ?_
    rintro e w1 ⟨rfl, rfl⟩
    go_wp2_with fail
    refine (HK2.out _).mono ?_
    rintro e w1 ⟨rfl, rfl⟩
    go_wp2_with fail
    refine (HS.out _ HT.out).mono ?_
    rintro e w1 ⟨rfl, b1⟩
    have b2 := b1.alloc b1.size (.cells (cellsL L) 25)
    have r1 := rowAt_alloc_at w1 (cellsL L) 25 _ rfl
    have T1 := Lib.hid (HT.out.below b2)
    clear HS b1
    go_wp2_with fail
    generalize w1.alloc (.cells (cellsL L) 25) = W at *
    have hcv : ∀ x : Past W, (convert 33 9 (.slice (some ⟨w1.heap.size, 0, none⟩) 32 32)).run Tryd.prog x.w = .ok (.string (stx L.l)) x.w := fun x => conv_lab L x.w _ (rowAt_past x.h r1)
    have hlj : decide (M = M) = true := decide_eq_true rfl
    refine wp_region_past (by kernel_rfl) (by kernel_rfl) ?_
    go_big_quiet_step (exact Past.call (awake3 _ (T1.out.below (Past.h _))))
    iterate 3 go_big_quiet_step (fail)
    go_big_quiet_step (exact Past.call (HM.out _ (T1.out.below (Past.h _))))
    iterate 3 go_big_quiet_step (fail)
    go_big_quiet_step (exact Past.call (HM2.out _ (T1.out.below (Past.h _))))
    iterate 3 go_big_quiet_step (fail)
    refine wpQuiet_nil ?_
    rintro _ ⟨y, rfl⟩
    have b3 := below_past b2 y.h b2.size
    go_wp2_with fail
    go_ret
    exact ⟨rfl, b3⟩
  · have h64' : decide ((64 : Int) < key.length) = false := decide_eq_false (by omega)
    have h64'' : decide (64 < key.length) = false := decide_eq_false (by omega)
    by_cases h6 : key.length = 64
    · have hq : ((key.length : Int) == 64) = true := by rw [beq_iff_eq]; omega
      have hq2 : (key.length == 64) = true := by rw [beq_iff_eq]; omega
      clear h64 h6 hk200 ht200
      have HA := Lib.hid (awake3 w HT.out)
      go_enter Tryd.func8, Tryd.ntmps8
      go_wp2_with fail
      refine (HK.out _).mono ?_
      rintro e w1 ⟨rfl, rfl⟩
      go_wp2_with fail
      refine (HK2.out _).mono ?_
      rintro e w1 ⟨rfl, rfl⟩
      go_wp2_with fail
      refine HA.out.mono ?_
      rintro e w1 ⟨rfl, b1⟩
      clear HA
      go_wp2_with fail
      go_ret
      exact ⟨rfl, b1⟩
    · have hq : ((key.length : Int) == 64) = false := by rw [beq_eq_false_iff_ne]; omega
      have hq2 : (key.length == 64) = false := by rw [beq_eq_false_iff_ne]; omega
      have HM2 := Lib.hid (fun w ht => Mac_any (key ++ [0]) t w ht (by rw [List.length_append, List.length_singleton]; omega) (by omega))
      rw [mac_nought key t (by omega), ← stx_append] at HM2
      have HA := Lib.hid (awake3 w HT.out)
      generalize macL key t = M at *
      have hlj : decide (M = M) = true := decide_eq_true rfl
      have hzk : (stx key ++ stx [0]).size ≤ 300 := by rw [ByteArray.size_append, hz, stx_size, List.length_singleton]; omega
      have hz0 : (stx [0]).size = 1 := rfl
      have hk3 : (key.length : Int) ≤ 200 := by omega
      clear h64 h6 hk200 ht200
      go_enter Tryd.func8, Tryd.ntmps8
      go_wp2_with fail
      refine (HK.out _).mono ?_
      rintro e w1 ⟨rfl, rfl⟩
      go_wp2_with fail
      refine (HK2.out _).mono ?_
      rintro e w1 ⟨rfl, rfl⟩
      go_wp2_with fail
      refine HA.out.mono ?_
      rintro e w1 ⟨rfl, b1⟩
      have T1 := HT.out.below b1
      have HX := Lib.hid (HM.out _ T1)
      clear HA
      go_wp2_with fail
      refine HX.out.mono ?_
      rintro e w2 ⟨rfl, b2⟩
      have b3 := below_past b1 b2 b1.size
      have HX2 := Lib.hid (HM2.out _ (T1.below b2))
      clear HX b1 b2 T1
      go_wp2_with fail
      refine HX2.out.mono ?_
      rintro e w3 ⟨rfl, b2⟩
      have b4 := below_past b3 b2 b3.size
      clear HX2 b3 b2
      go_wp2_with fail
      go_ret
      exact ⟨by simp, b4⟩
set_option maxRecDepth 100000 in
theorem lifted (os : Os) (started : os.Started) (H : Type) (enc : TypeId × Value → H) :
    ReturnsInHanded {} Tryd.checked os 8 .any (fun w args => (Rows.shaKeysSpec.pre enc Tryd.prog Tryd.f8 [] false w args ∧ laidMetH Tryd.prog laidSha w) ∧ sizedMet enc Tryd.prog Tryd.f8 (OpenSpec.ofChange Rows.shaKeysSpec) false w args) (Rows.shaKeysSpec.post enc Tryd.prog Tryd.f8 false true false false) := by
  refine returnsInHanded_of_change_and (C := Tryd.checked) (X := fun w _ => laidMetH Tryd.prog laidSha w) (fun _ _ _ hh h => h.of_heap hh) own started (by kernel_rfl) Tryd.func8
    (ChangeSpec.witness_shaped (enc := enc) (C := Tryd.checked) (os := os) (X := fun w _ => laidMetH Tryd.prog laidSha w) false (World.doorLaid Tryd.prog 2000 os) #[.string ⟨#[]⟩, .string ⟨#[]⟩] 8 rfl (World.shaped_of_RefB (by kernel_rfl) (by kernel_rfl)) (by kernel_rfl) (by kernel_rfl) (by kernel_rfl) (door_sha os _)) ?_
  intro W base args ds gs before hval0 hW _ _ hL _
  have hval : ∀ (j : Nat) t v, Tryd.f8.params[j]? = some t → args[j]? = some v → Value.okWide Tryd.prog W .any base t v := hval0
  clear hval0
  have hW' := hW
  obtain ⟨p, q, hA0, hV, rfl, hfz, hnd⟩ := hW
  have hA : DataW.TrodAll enc Tryd.prog W 0 (fun _ => true) true Tryd.f8.params.toList args.toList ds p := hA0
  rw [Tryd.params8] at hA hval
  clear hA0 hfz hnd hV
  have hr : Readable Tryd.f8.params.toList := by
    rw [Tryd.params8]
    exact readable_of_all (by kernel_rfl)
  have fin : ∀ W', Below W.heap.size W W' → Rows.shaKeysSpec.post enc Tryd.prog Tryd.f8 false true false false W args (.bool true) W' := fun W' hb =>
    law_post rfl hW' hr (fun l hl => by
      rw [Tryd.params8] at hl
      match l, hl with
      | [d1, d2], _ => rfl) (by kernel_rfl) hb
  clear hW' hr
  have HT := cubes_of_laid hL
  obtain ⟨v0, v1, d0, d1, p0, p1, rfl, rfl, rfl, h0, h1⟩ := trodAll_two hA; obtain ⟨k, rfl, _, _, w0⟩ := open_string Tryd.underlying9 (hval 0 9 v0 rfl rfl) h0; obtain ⟨s, rfl, _, _, w1⟩ := open_string Tryd.underlying9 (hval 1 9 v1 rfl rfl) h1
  exact (walk k s W HT).mono fun e W' ⟨he, hb⟩ => ⟨_, he, fin W' hb⟩
theorem row_holds : Rows.ShaKeysSaid :=
  OpenClaim.holds_of_wide 8 Tryd.f8 rfl rfl rfl rfl rfl rfl rfl ⟨rfl, rfl, rfl, rfl, rfl⟩ rfl rfl rfl rfl rfl (by kernel_rfl) Tryd.func8 (by kernel_rfl)
    (of_decide_eq_true (by kernel_rfl)) (by unfold Func.isWrapper; first | (rw [if_pos (by decide +kernel)]; kernel_rfl) | (rw [if_neg (by decide +kernel)]; exact ⟨rfl, rfl⟩))
    (fun os started H enc _ => lifted os started H enc)
theorem proved : Rows.ShaKeysCardSaid :=
  Claim7.holds_tied_plain_at .later [] [.data] true _ false
    row_holds (fun _ h => by cases h) (by kernel_rfl) (fun _ h => by cases h) shaKeys_row_tie rfl ⟨rfl, rfl⟩ (by kernel_rfl) rfl
    (fun f fn hf hfn => by
      obtain rfl : f = 8 := Option.some.inj ((show Tryd.prog.funcNamed "chirograph/chirographlaw03.ShaKeys" = some 8 by kernel_rfl).symm.trans hf) |>.symm
      obtain rfl : fn = Tryd.f8 := (Option.some.inj (Tryd.func8.symm.trans hfn)).symm
      exact ⟨by kernel_rfl, fun j t ht => by
        rw [Tryd.params8] at ht
        have hm : t ∈ [9, 9] := by simpa using Array.mem_of_getElem? ht
        have hall : ([9, 9].all fun u => !Tryd.prog.wantsStandIn u) = true := by kernel_rfl
        exact (show Tryd.prog.wantsStandIn t = false by simpa using List.all_eq_true.1 hall t hm)⟩)
    (by kernel_rfl)
end Go.Proofs.YtgjhbfajonjhkaaDoor.keys
