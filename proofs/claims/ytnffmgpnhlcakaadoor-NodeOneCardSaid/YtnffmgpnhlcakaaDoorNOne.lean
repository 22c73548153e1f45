/- For any text the law NodeOne returns true. Conditions: the listed table is as the program lays it. -/
import Derived.Test.YtnffmgpnhlcakaaDoorNodeRM
import Derived.Test.YtnffmgpnhlcakaaDoorShaTabs
import Derived.Test.YtnffmgpnhlcakaaDoorTie
import Derived.Test.YtnffmgpnhlcakaaDoorCards
import Derived.SevenTiedAt
namespace Go.Proofs.YtnffmgpnhlcakaaDoor.none
open Go Go.ChangeShapes Go.WideShapes Go.ChangeAt Go.ChangeMaps Go.RowKit Go.Proofs.YtnffmgpnhlcakaaDoor

set_option maxRecDepth 100000 in
set_option maxHeartbeats 4000000 in
theorem walk (s : ByteArray) (w : World) (ht : Cubes w) (hs : s.size ≤ maxLen) : Calls Tryd.prog 6 #[.string s] w fun e w' => e = .returned (.bool true) ∧ Below w.heap.size w w' := by
  have HAW := Lib.hid (fun w (h : Cubes w) => awake15 w h)
  have HT := Lib.hid ht
  have hs2 : (s.size : Int) ≤ 9223372036854775807 := by unfold maxLen at hs; omega
  by_cases hz : s.size ≤ 400
  · have hz' : decide (400 < (s.size : Int)) = false := decide_eq_false (by omega)
    have hz2 : decide (400 < s.size) = false := decide_eq_false (by omega)
    have HR := Lib.hid (fun w => nRead_any s w hz)
    have HY := Lib.hid (fun w => nBytes_any (rdNd s) w)
    have hone := nd_one s.data.toList
    rw [show stx s.data.toList = s from rfl] at hone
    by_cases h0 : rdErr s = 0
    · obtain ⟨hc, hw⟩ := hone h0
      unfold BytesR at HY
      rw [if_pos hc, hw, show stx s.data.toList = s from rfl] at HY
      rw [h0] at HR
      have hq : (s.toList == s.toList) = true := beq_self_eq_true _
      clear hone h0 hc hw hz ht hs
      generalize (rdNd s).val = v at *
      go_enter Tryd.func6, Tryd.ntmps6
      go_wp2_with fail
      refine (HR.out _).mono ?_
      rintro e w1 ⟨rfl, b1⟩
      clear HR
      go_wp2_with fail
      refine (HY.out _).mono ?_
      rintro e w2 ⟨rfl, b2⟩
      have b3 := below_past b1 b2 b1.size
      have T3 := Lib.hid (HT.out.below b3)
      clear HY b1 b2
      go_wp2_with fail
      refine (HAW.out _ T3.out).mono ?_
      rintro e w3 ⟨rfl, b2⟩
      have b4 := below_past b3 b2 b3.size
      go_wp2_with fail
      go_ret
      exact ⟨rfl, b4⟩
    · have h1 : (rdErr s != 0) = true := by rw [bne_iff_ne]; exact h0
      clear hone h0 hz ht hs HY
      generalize (rdNd s).val = v at *
      generalize rdErr s = ER at *
      go_enter Tryd.func6, Tryd.ntmps6
      go_wp2_with fail
      refine (HR.out _).mono ?_
      rintro e w1 ⟨rfl, b1⟩
      have T3 := Lib.hid (HT.out.below b1)
      clear HR
      go_wp2_with fail
      refine (HAW.out _ T3.out).mono ?_
      rintro e w3 ⟨rfl, b2⟩
      have b4 := below_past b1 b2 b1.size
      go_wp2_with fail
      go_ret
      exact ⟨rfl, b4⟩
  · have hz' : decide (400 < (s.size : Int)) = true := decide_eq_true (by omega)
    have hz2 : decide (400 < s.size) = true := decide_eq_true (by omega)
    clear hz ht hs
    go_enter Tryd.func6, Tryd.ntmps6
    go_wp2_with fail
    refine (HAW.out _ HT.out).mono ?_
    rintro e w3 ⟨rfl, b2⟩
    go_wp2_with fail
    go_ret
    exact ⟨rfl, b2⟩
set_option maxRecDepth 100000 in
theorem lifted (os : Os) (started : os.Started) (H : Type) (enc : TypeId × Value → H) :
    ReturnsInHanded {} Tryd.checked os 6 .any (fun w args => (Rows.nodeOneSpec.pre enc Tryd.prog Tryd.f6 [] false w args ∧ laidMetH Tryd.prog laidSha w) ∧ sizedMet enc Tryd.prog Tryd.f6 (OpenSpec.ofChange Rows.nodeOneSpec) false w args) (Rows.nodeOneSpec.post enc Tryd.prog Tryd.f6 false true false false) := by
  refine returnsInHanded_of_change_and (C := Tryd.checked) (X := fun w _ => laidMetH Tryd.prog laidSha w) (fun _ _ _ hh h => h.of_heap hh) own started (by kernel_rfl) Tryd.func6
    (ChangeSpec.witness_shaped (enc := enc) (C := Tryd.checked) (os := os) (X := fun w _ => laidMetH Tryd.prog laidSha w) false (World.doorLaid Tryd.prog 2000 os) #[.string ⟨#[]⟩] 8 rfl (World.shaped_of_RefB (by kernel_rfl) (by kernel_rfl)) (by kernel_rfl) (by kernel_rfl) (by kernel_rfl) (door_sha os _)) ?_
  intro W base args ds gs before hval0 hW _ _ hL _
  have hval : ∀ (j : Nat) t v, Tryd.f6.params[j]? = some t → args[j]? = some v → Value.okWide Tryd.prog W .any base t v := hval0
  clear hval0
  have hW' := hW
  obtain ⟨p, q, hA0, hV, rfl, hfz, hnd⟩ := hW
  have hA : DataW.TrodAll enc Tryd.prog W 0 (fun _ => true) true Tryd.f6.params.toList args.toList ds p := hA0
  rw [Tryd.params6] at hA hval
  clear hA0 hfz hnd hV
  have hr : Readable Tryd.f6.params.toList := by
    rw [Tryd.params6]
    exact readable_of_all (by kernel_rfl)
  have fin : ∀ W', Below W.heap.size W W' → Rows.nodeOneSpec.post enc Tryd.prog Tryd.f6 false true false false W args (.bool true) W' := fun W' hb =>
    law_post rfl hW' hr (fun l hl => by
      rw [Tryd.params6] at hl
      match l, hl with
      | [d1], _ => rfl) (by kernel_rfl) hb
  clear hW' hr
  have HT := cubes_of_laid hL
  obtain ⟨v0, d0, rfl, rfl, h0⟩ := trodAll_one hA; obtain ⟨s, rfl, _, _, w0⟩ := open_string Tryd.underlying9 (hval 0 9 v0 rfl rfl) h0
  exact (walk s W HT w0).mono fun e W' ⟨he, hb⟩ => ⟨_, he, fin W' hb⟩
theorem row_holds : Rows.NodeOneSaid :=
  OpenClaim.holds_of_wide 6 Tryd.f6 rfl rfl rfl rfl rfl rfl rfl ⟨rfl, rfl, rfl, rfl, rfl⟩ rfl rfl rfl rfl rfl (by kernel_rfl) Tryd.func6 (by kernel_rfl)
    (of_decide_eq_true (by kernel_rfl)) (by unfold Func.isWrapper; first | (rw [if_pos (by decide +kernel)]; kernel_rfl) | (rw [if_neg (by decide +kernel)]; exact ⟨rfl, rfl⟩))
    (fun os started H enc _ => lifted os started H enc)
theorem proved : Rows.NodeOneCardSaid :=
  Claim7.holds_tied_plain_at .later [] [.data] true _ true
    row_holds (fun _ h => by cases h) (by kernel_rfl) (fun _ h => by cases h) nodeOne_row_tie rfl ⟨rfl, rfl⟩ (by kernel_rfl) rfl
    (fun f fn hf hfn => by
      obtain rfl : f = 6 := Option.some.inj ((show Tryd.prog.funcNamed "chirograph/chirographlaw15.NodeOne" = some 6 by kernel_rfl).symm.trans hf) |>.symm
      obtain rfl : fn = Tryd.f6 := (Option.some.inj (Tryd.func6.symm.trans hfn)).symm
      exact ⟨by kernel_rfl, fun j t ht => by
        rw [Tryd.params6] at ht
        have hm : t ∈ [9] := by simpa using Array.mem_of_getElem? ht
        have hall : ([9].all fun u => !Tryd.prog.wantsStandIn u) = true := by kernel_rfl
        exact (show Tryd.prog.wantsStandIn t = false by simpa using List.all_eq_true.1 hall t hm)⟩)
    (by kernel_rfl)
end Go.Proofs.YtnffmgpnhlcakaaDoor.none
