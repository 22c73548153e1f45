/- For every key and text the law ShaMacs returns true. Conditions: the listed table is as the program lays it. -/
import Derived.Test.YtgjhbfajonjhkaaDoorShaRef6
import Derived.Test.YtgjhbfajonjhkaaDoorShaTabs
import Derived.Test.YtgjhbfajonjhkaaDoorTie
import Derived.Test.YtgjhbfajonjhkaaDoorCards
import Derived.SevenTiedAt
namespace Go.Proofs.YtgjhbfajonjhkaaDoor.macs
open Go Go.ChangeShapes Go.WideShapes Go.ChangeAt Go.ChangeMaps Go.RowKit Go.Proofs.YtgjhbfajonjhkaaDoor

set_option maxRecDepth 100000 in
theorem walk (k0 s0 : ByteArray) (w : World) (ht : Cubes w) : Calls Tryd.prog 4 #[.string k0, .string s0] w fun e w' => e = .returned (.bool true) ∧ Below w.heap.size w w' := by
  have HK := Lib.hid (fun w => l3Cut_any k0 200 w (by decide))
  have HK2 := Lib.hid (fun w => l3Cut_any s0 200 w (by decide))
  obtain ⟨key, hkey⟩ : ∃ key, k0.data.toList.take 200 = key := ⟨_, rfl⟩
  obtain ⟨t, htx⟩ : ∃ t, s0.data.toList.take 200 = t := ⟨_, rfl⟩
  have hk200 : key.length ≤ 200 := by rw [← hkey]; exact List.length_take_le _ _
  have ht200 : t.length ≤ 200 := by rw [← htx]; exact List.length_take_le _ _
  rw [hkey] at HK
  rw [htx] at HK2
  have HT := Lib.hid ht
  have HA := Lib.hid (awake3 w ht)
  have HM := Lib.hid (fun w ht => Mac_any key t w ht (by omega) (by omega))
  have HR := Lib.hid (fun w => r3Mac_any key t w (by omega) (by omega))
  clear ht htx hkey hk200 ht200
  generalize macL key t = L at *
  generalize stx key = sk at *
  generalize stx t = st at *
  have hlj : decide (L = L) = true := decide_eq_true rfl
  as_aux_lemma =>
    go_enter Tryd.func4, Tryd.ntmps4
    go_wp2_with fail
    refine (HK.out _).mono ?_
    rintro e w1 ⟨rfl, rfl⟩
    go_wp2_with fail
    refine (HK2.out _).mono ?_
    rintro e w1 ⟨rfl, rfl⟩
    go_wp2_with fail
    refine HA.out.mono ?_
    rintro e w1 ⟨rfl, b1⟩
    have T1 := Lib.hid (HT.out.below b1)
    clear HA
    go_wp2_with fail
    refine (HM.out _ T1.out).mono ?_
    rintro e w2 ⟨rfl, b2⟩
    have b3 := below_past b1 b2 b1.size
    clear b1 b2 T1
    go_wp2_with fail
    refine (HR.out _).mono ?_
    rintro e w3 ⟨rfl, b2⟩
    have b4 := below_past b3 b2 b3.size
    clear b3 b2
    go_wp2_with fail
    go_ret
    exact ⟨by simp, b4⟩
set_option maxRecDepth 100000 in
theorem lifted (os : Os) (started : os.Started) (H : Type) (enc : TypeId × Value → H) :
    ReturnsInHanded {} Tryd.checked os 4 .any (fun w args => (Rows.shaMacsSpec.pre enc Tryd.prog Tryd.f4 [] false w args ∧ laidMetH Tryd.prog laidSha w) ∧ sizedMet enc Tryd.prog Tryd.f4 (OpenSpec.ofChange Rows.shaMacsSpec) false w args) (Rows.shaMacsSpec.post enc Tryd.prog Tryd.f4 false true false false) := by
  refine returnsInHanded_of_change_and (C := Tryd.checked) (X := fun w _ => laidMetH Tryd.prog laidSha w) (fun _ _ _ hh h => h.of_heap hh) own started (by kernel_rfl) Tryd.func4
    (ChangeSpec.witness_shaped (enc := enc) (C := Tryd.checked) (os := os) (X := fun w _ => laidMetH Tryd.prog laidSha w) false (World.doorLaid Tryd.prog 2000 os) #[.string ⟨#[]⟩, .string ⟨#[]⟩] 8 rfl (World.shaped_of_RefB (by kernel_rfl) (by kernel_rfl)) (by kernel_rfl) (by kernel_rfl) (by kernel_rfl) (door_sha os _)) ?_
  intro W base args ds gs before hval0 hW _ _ hL _
  have hval : ∀ (j : Nat) t v, Tryd.f4.params[j]? = some t → args[j]? = some v → Value.okWide Tryd.prog W .any base t v := hval0
  clear hval0
  have hW' := hW
  obtain ⟨p, q, hA0, hV, rfl, hfz, hnd⟩ := hW
  have hA : DataW.TrodAll enc Tryd.prog W 0 (fun _ => true) true Tryd.f4.params.toList args.toList ds p := hA0
  rw [Tryd.params4] at hA hval
  clear hA0 hfz hnd hV
  have hr : Readable Tryd.f4.params.toList := by
    rw [Tryd.params4]
    exact readable_of_all (by kernel_rfl)
  have fin : ∀ W', Below W.heap.size W W' → Rows.shaMacsSpec.post enc Tryd.prog Tryd.f4 false true false false W args (.bool true) W' := fun W' hb =>
    law_post rfl hW' hr (fun l hl => by
      rw [Tryd.params4] at hl
      match l, hl with
      | [d1, d2], _ => rfl) (by kernel_rfl) hb
  clear hW' hr
  have HT := cubes_of_laid hL
  obtain ⟨v0, v1, d0, d1, p0, p1, rfl, rfl, rfl, h0, h1⟩ := trodAll_two hA; obtain ⟨k, rfl, _, _, w0⟩ := open_string Tryd.underlying9 (hval 0 9 v0 rfl rfl) h0; obtain ⟨s, rfl, _, _, w1⟩ := open_string Tryd.underlying9 (hval 1 9 v1 rfl rfl) h1
  exact (walk k s W HT).mono fun e W' ⟨he, hb⟩ => ⟨_, he, fin W' hb⟩
theorem row_holds : Rows.ShaMacsSaid :=
  OpenClaim.holds_of_wide 4 Tryd.f4 rfl rfl rfl rfl rfl rfl rfl ⟨rfl, rfl, rfl, rfl, rfl⟩ rfl rfl rfl rfl rfl (by kernel_rfl) Tryd.func4 (by kernel_rfl)
    (of_decide_eq_true (by kernel_rfl)) (by unfold Func.isWrapper; first | (rw [if_pos (by decide +kernel)]; kernel_rfl) | (rw [if_neg (by decide +kernel)]; exact ⟨rfl, rfl⟩))
    (fun os started H enc _ => lifted os started H enc)
theorem proved : Rows.ShaMacsCardSaid :=
  Claim7.holds_tied_plain_at .later [] [.data] true _ false
    row_holds (fun _ h => by cases h) (by kernel_rfl) (fun _ h => by cases h) shaMacs_row_tie rfl ⟨rfl, rfl⟩ (by kernel_rfl) rfl
    (fun f fn hf hfn => by
      obtain rfl : f = 4 := Option.some.inj ((show Tryd.prog.funcNamed "chirograph/chirographlaw03.ShaMacs" = some 4 by kernel_rfl).symm.trans hf) |>.symm
      obtain rfl : fn = Tryd.f4 := (Option.some.inj (Tryd.func4.symm.trans hfn)).symm
      exact ⟨by kernel_rfl, fun j t ht => by
        rw [Tryd.params4] at ht
        have hm : t ∈ [9, 9] := by simpa using Array.mem_of_getElem? ht
        have hall : ([9, 9].all fun u => !Tryd.prog.wantsStandIn u) = true := by kernel_rfl
        exact (show Tryd.prog.wantsStandIn t = false by simpa using List.all_eq_true.1 hall t hm)⟩)
    (by kernel_rfl)
end Go.Proofs.YtgjhbfajonjhkaaDoor.macs
