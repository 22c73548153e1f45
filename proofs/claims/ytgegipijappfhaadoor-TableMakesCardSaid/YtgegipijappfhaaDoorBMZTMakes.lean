/- For any entries and any number the law TableMakes returns true. Conditions: the listed tables are as the program lays them. -/
import Derived.Test.YtgegipijappfhaaDoorBM10
import Derived.Test.YtgegipijappfhaaDoorTie
import Derived.Test.YtgegipijappfhaaDoorCards
import Derived.SevenTiedAt
namespace Go.Proofs.YtgegipijappfhaaDoor.tmakes
open Go Go.ChangeShapes Go.WideShapes Go.ChangeAt Go.ChangeMaps Go.RowKit Go.Proofs.YtgegipijappfhaaDoor

set_option maxRecDepth 100000 in
set_option maxHeartbeats 4000000 in
theorem walk (v : Value) (es : List Ent) (size : Int) (w : World) (h : InEnts w v es) (ht : Tabs w) : Calls Tryd.prog 3 #[v, .int .i64 size] w fun e w' => e = .returned (.bool true) ∧ Below w.heap.size w w' := by
  have HF := Lib.hid (few9_any v es 300 w h (by decide))
  have hsm : smallB (fewE 300 es) := fun x hx => by have := fewE_small 300 es x hx; omega
  have hks : ∀ x ∈ fewE 300 es, x.key.length ≤ 1000 := fun x hx => by have := fewE_small 300 es x hx; omega
  have hll : (fewE 300 es).length ≤ 2048 := by rw [fewE_length]; omega
  obtain ⟨l, hl⟩ : ∃ l, fewE 300 es = l := ⟨_, rfl⟩
  rw [hl] at HF hsm hks hll
  have HT := Lib.hid ht
  have HM := Lib.hid (fun v w (h : EntsAt w v l) (ht : Tabs w) => tMake_any v l size w h ht hsm (fun x hx => by have := hks x hx; omega) hll)
  have HRM := Lib.hid (fun v w (h : EntsAt w v l) => r10Make_any v l size w h hsm hks hll)
  have HAW := Lib.hid (fun w (h : Tabs w) => awake10 w h)
  unfold MakeTR at HM HRM
  generalize stx (makeT l size).1 = S at *
  generalize (makeT l size).2 = F at *
  have q1 : (S.toList == S.toList) = true := beq_self_eq_true _
  have q2 : ((F : Int) == F) = true := beq_self_eq_true _
  clear ht h hl hsm hks hll
  go_enter Tryd.func3, Tryd.ntmps3
  go_wp2_with fail
  refine HF.out.mono ?_
  rintro e w1 ⟨v1, rfl, o1, b1⟩
  have T1 := Lib.hid (HT.out.below b1)
  have L1 := Lib.hid o1.lie
  have HM1 := Lib.hid (HM.out _ _ L1.out T1.out)
  clear HF o1 HT HM
  go_wp2_with fail
  refine HM1.out.mono ?_
  rintro e w2 ⟨rfl, b2⟩
  have b3 := below_past b1 b2 b1.size
  have T2 := Lib.hid (T1.out.below b2)
  have HR2 := Lib.hid (HRM.out _ _ (L1.out.below b2))
  clear HM1 b1 b2 T1 L1 HRM
  go_wp2_with fail
  refine HR2.out.mono ?_
  rintro e w3 ⟨rfl, b2⟩
  have b4 := below_past b3 b2 b3.size
  have T3 := Lib.hid (T2.out.below b2)
  clear HR2 b2 b3 T2
  go_wp2_with fail
  refine (HAW.out _ T3.out).mono ?_
  rintro e w4 ⟨rfl, b2⟩
  have b5 := below_past b4 b2 b4.size
  clear HAW b2 b4 T3
  go_wp2_with fail
  go_ret
  exact ⟨by simp, b5⟩
set_option maxRecDepth 100000 in
theorem lifted (os : Os) (started : os.Started) (H : Type) (enc : TypeId × Value → H) :
    ReturnsInHanded {} Tryd.checked os 3 .any (fun w args => (Rows.tableMakesSpec.pre enc Tryd.prog Tryd.f3 [] false w args ∧ laidMetH Tryd.prog laidSeal w) ∧ sizedMet enc Tryd.prog Tryd.f3 (OpenSpec.ofChange Rows.tableMakesSpec) false w args) (Rows.tableMakesSpec.post enc Tryd.prog Tryd.f3 false true false false) := by
  refine returnsInHanded_of_change_and (C := Tryd.checked) (X := fun w _ => laidMetH Tryd.prog laidSeal w) (fun _ _ _ hh h => h.of_heap hh) own started (by kernel_rfl) Tryd.func3
    (ChangeSpec.witness_shaped (enc := enc) (C := Tryd.checked) (os := os) (X := fun w _ => laidMetH Tryd.prog laidSeal w) false (World.doorLaid Tryd.prog 2000 os) #[.slice none 0 0, .int .i64 0] 8 rfl (World.shaped_of_RefB (by kernel_rfl) (by kernel_rfl)) (by kernel_rfl) (by kernel_rfl) (by kernel_rfl) (door_seal os _)) ?_
  intro W base args ds gs before hval0 hW _ _ hL _
  have hval : ∀ (j : Nat) t v, Tryd.f3.params[j]? = some t → args[j]? = some v → Value.okWide Tryd.prog W .any base t v := hval0
  clear hval0
  have hW' := hW
  obtain ⟨p, q, hA0, hV, rfl, hfz, hnd⟩ := hW
  have hA : DataW.TrodAll enc Tryd.prog W 0 (fun _ => true) true Tryd.f3.params.toList args.toList ds p := hA0
  rw [Tryd.params3] at hA hval
  clear hA0 hfz hnd hV
  have hr : Readable Tryd.f3.params.toList := by
    rw [Tryd.params3]
    exact readable_of_all (by kernel_rfl)
  have fin : ∀ W', Below W.heap.size W W' → Rows.tableMakesSpec.post enc Tryd.prog Tryd.f3 false true false false W args (.bool true) W' := fun W' hb =>
    law_post rfl hW' hr (fun l hl => by
      rw [Tryd.params3] at hl
      match l, hl with
      | [d1, d2], _ => rfl) (by kernel_rfl) hb
  clear hW' hr
  have HT := tabs_of_laid hL
  obtain ⟨v0, v1, d0, d1, p0, p1, rfl, rfl, rfl, h0, h1⟩ := trodAll_two hA; obtain ⟨l1, hs1, hs1b⟩ := in_ents_of Tryd.underlying22 Tryd.underlying36 (by kernel_rfl) rfl rfl rfl rfl rfl rfl Tryd.underlying9 (by kernel_rfl) Tryd.underlying4 (by kernel_rfl) (hval 0 22 v0 rfl rfl) h0; obtain ⟨n, rfl, _, _, w1⟩ := open_int Tryd.underlying3 (hval 1 3 v1 rfl rfl) h1
  exact (walk v0 l1 n W hs1 HT).mono fun e W' ⟨he, hb⟩ => ⟨_, he, fin W' hb⟩
theorem row_holds : Rows.TableMakesSaid :=
  OpenClaim.holds_of_wide 3 Tryd.f3 rfl rfl rfl rfl rfl rfl rfl ⟨rfl, rfl, rfl, rfl, rfl⟩ rfl rfl rfl rfl rfl (by kernel_rfl) Tryd.func3 (by kernel_rfl)
    (of_decide_eq_true (by kernel_rfl)) (by unfold Func.isWrapper; first | (rw [if_pos (by decide +kernel)]; kernel_rfl) | (rw [if_neg (by decide +kernel)]; exact ⟨rfl, rfl⟩))
    (fun os started H enc _ => lifted os started H enc)
theorem proved : Rows.TableMakesCardSaid :=
  Claim7.holds_tied_plain_at .later [] [.data, .data] true _ false
    row_holds (fun _ h => by cases h) (by kernel_rfl) (fun _ h => by cases h) tableMakes_row_tie rfl ⟨rfl, rfl⟩ (by kernel_rfl) rfl
    (fun f fn hf hfn => by
      obtain rfl : f = 3 := Option.some.inj ((show Tryd.prog.funcNamed "chirograph/chirographlaw10.TableMakes" = some 3 by kernel_rfl).symm.trans hf) |>.symm
      obtain rfl : fn = Tryd.f3 := (Option.some.inj (Tryd.func3.symm.trans hfn)).symm
      exact ⟨by kernel_rfl, fun j t ht => by
        rw [Tryd.params3] at ht
        have hm : t ∈ [22, 3] := by simpa using Array.mem_of_getElem? ht
        have hall : ([22, 3].all fun u => !Tryd.prog.wantsStandIn u) = true := by kernel_rfl
        exact (show Tryd.prog.wantsStandIn t = false by simpa using List.all_eq_true.1 hall t hm)⟩)
    (by kernel_rfl)
end Go.Proofs.YtgegipijappfhaaDoor.tmakes
