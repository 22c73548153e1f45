/- For any leaf and any two items the law NodeWrites returns true. Conditions: the listed table is as the program lays it. -/
import Derived.Test.YtnffmgpnhlcakaaDoorNodeC
import Derived.Test.YtnffmgpnhlcakaaDoorNodeIn
import Derived.Test.YtnffmgpnhlcakaaDoorShaTabs
import Derived.Test.YtnffmgpnhlcakaaDoorTie
import Derived.Test.YtnffmgpnhlcakaaDoorCards
import Derived.SevenTiedAt
namespace Go.Proofs.YtnffmgpnhlcakaaDoor.nwrites
open Go Go.ChangeShapes Go.WideShapes Go.ChangeAt Go.ChangeMaps Go.RowKit Go.Proofs.YtnffmgpnhlcakaaDoor

theorem chkI_good {x y : Itm} (hd : chkI x y = 0) : goodI x = true ∧ goodI y = true := by
  unfold chkI at hd
  split at hd
  · rename_i h; rwa [Bool.and_eq_true] at h
  · cases hd
def bytS (d : Nd) : ByteArray := if chkN d = 0 then stx (ndW d) else ⟨#[]⟩
theorem bytesR_is (d : Nd) : BytesR d = .tuple #[.string (bytS d), .int .i64 (chkN d)] := by
  unfold BytesR bytS
  by_cases h : chkN d = 0
  · rw [if_pos h, if_pos h, h]
  · rw [if_neg h, if_neg h]

set_option maxRecDepth 100000 in
set_option maxHeartbeats 4000000 in
theorem walk (x : Lf) (a b : Itm) (w : World) (ht : Cubes w) : Calls Tryd.prog 4 #[.agg (cellsF x), .agg (cellsI a), .agg (cellsI b)] w fun e w' => e = .returned (.bool true) ∧ Below w.heap.size w w' := by
  have HAW := Lib.hid (fun w (h : Cubes w) => awake15 w h)
  have HT := Lib.hid ht
  have HY1 : Hid (∀ w, Calls Tryd.prog 15 #[.iface 37 (.agg (cellsF x))] w fun e w' => e = .returned (.tuple #[.string (bytS (.leaf x)), .int .i64 (chkF x)]) ∧ Below w.heap.size w w') := Lib.hid fun w => by
    have := nBytes_any (.leaf x) w
    rwa [bytesR_is] at this
  have HY2 : Hid (∀ w, Calls Tryd.prog 15 #[.iface 45 (.agg (cellsN a b))] w fun e w' => e = .returned (.tuple #[.string (bytS (.inner a b)), .int .i64 (chkI a b)]) ∧ Below w.heap.size w w') := Lib.hid fun w => by
    have := nBytes_any (.inner a b) w
    rwa [bytesR_is] at this
  have HTA := Lib.hid (Told_any a)
  have HTB := Lib.hid (Told_any b)
  have HCK := Lib.hid (r15Check_any a b)
  have g64 := get_F64 x
  have HF := Lib.hid (fun w => r2Flag_any true w)
  rw [show [if true = true then (1 : UInt8) else 0] = [1] from rfl] at HF
  have b0 : Below w.heap.size w (((w.alloc (.cells (cellsF x) 37)).alloc (.cells (cellsI a) 43)).alloc (.cells (cellsI b) 43)) := (((Below.refl _ _).alloc (Nat.le_refl _) _).alloc (by simp only [World.size_alloc]; omega) _).alloc (by simp only [World.size_alloc]; omega) _
  have r0 : rowAt (((w.alloc (.cells (cellsF x) 37)).alloc (.cells (cellsI a) 43)).alloc (.cells (cellsI b) 43)) w.heap.size = some (cellsF x) := (rowAt_alloc_past _ _ _ (by simp only [World.size_alloc]; omega)).trans ((rowAt_alloc_past _ _ _ (by simp only [World.size_alloc]; omega)).trans (rowAt_alloc_at _ _ _ _ rfl))
  have r1 : rowAt (((w.alloc (.cells (cellsF x) 37)).alloc (.cells (cellsI a) 43)).alloc (.cells (cellsI b) 43)) (w.heap.size + 1) = some (cellsI a) := (rowAt_alloc_past _ _ _ (by simp only [World.size_alloc]; omega)).trans (rowAt_alloc_at _ _ _ _ (by simp only [World.size_alloc]))
  have r2 : rowAt (((w.alloc (.cells (cellsF x) 37)).alloc (.cells (cellsI a) 43)).alloc (.cells (cellsI b) 43)) (w.heap.size + 1 + 1) = some (cellsI b) := rowAt_alloc_at _ _ _ _ (by simp only [World.size_alloc])
  have HLT : chkF x = 0 → Hid (∀ w, Calls Tryd.prog 19 #[.agg (cellsF x)] w fun e w' => e = .returned (.string (bytS (.leaf x))) ∧ Below w.heap.size w w') := fun h => Lib.hid fun w => by
    have := r15LeafText_any x w h
    rwa [show bytS (.leaf x) = stx (ndW (.leaf x)) from if_pos h]
  have HWR : chkI a b = 0 → Hid (∀ w, Calls Tryd.prog 18 #[.agg (cellsI a)] w fun e w' => e = .returned (.string (stx (itW a))) ∧ Below w.heap.size w w') ∧ Hid (∀ w, Calls Tryd.prog 18 #[.agg (cellsI b)] w fun e w' => e = .returned (.string (stx (itW b))) ∧ Below w.heap.size w w') ∧ (stx (itW a)).size ≤ 82 ∧ (stx (itW b)).size ≤ 82 ∧ (txt [1] ++ stx (itW a) ++ stx (itW b)) = bytS (.inner a b) := fun h => by
    obtain ⟨ga, gb⟩ := chkI_good h
    refine ⟨Lib.hid fun w => r15Write_any a w ga, Lib.hid fun w => r15Write_any b w gb, by rw [stx_size]; exact itW_len ga, by rw [stx_size]; exact itW_len gb, ?_⟩
    rw [show bytS (.inner a b) = stx (ndW (.inner a b)) from if_pos h, show txt [1] = stx [1] from rfl, stx_append, stx_append, ndW, List.append_assoc]
    rfl
  have HES : chkI a b ≠ 0 → bytS (.inner a b) = ⟨#[]⟩ := fun h => if_neg h
  have HEF : chkF x ≠ 0 → bytS (.leaf x) = ⟨#[]⟩ := fun h => if_neg h
  have hF : chkF x = if epB x.e = true then 0 else 1 := rfl
  obtain ⟨m, hm⟩ : ∃ m, x.e = m := ⟨_, rfl⟩
  rw [hm] at g64 hF
  generalize bytS (.leaf x) = SY at *
  generalize bytS (.inner a b) = SI at *
  generalize chkF x = EF at *
  generalize chkI a b = EI at *
  have HHF := Lib.hid hF
  have HHLT := Lib.hid HLT
  have HHEF := Lib.hid HEF
  have HHWR := Lib.hid HWR
  have HHES := Lib.hid HES
  clear hm ht hF HLT HEF HWR HES
  go_enter Tryd.func4, Tryd.ntmps4
  go_wp2_with fail
  generalize ((w.alloc (.cells (cellsF x) 37)).alloc (.cells (cellsI a) 43)).alloc (.cells (cellsI b) 43) = W at *
  refine (HY1.out _).mono ?_
  rintro e w1 ⟨rfl, b1⟩
  have r3 := rowAt_past b1 r0
  have r4 := rowAt_past b1 r1
  have r5 := rowAt_past b1 r2
  have b2 := below_past b0 b1 b0.size
  clear b0 b1 r0 r1 r2 HY1
  go_wp2_with fail
  refine (HY2.out _).mono ?_
  rintro e w2 ⟨rfl, b1⟩
  have r0 := rowAt_past b1 r3
  have r1 := rowAt_past b1 r4
  have r2 := rowAt_past b1 r5
  have b3 := below_past b2 b1 b2.size
  clear b2 b1 r3 r4 r5 HY2
  go_wp2_with fail
  have f1 := fun y : Past w2 => rowAt_past y.h r1
  have f2 := fun y : Past w2 => rowAt_past y.h r2
  refine wp_region_past (by kernel_rfl) (by kernel_rfl) ?_
  iterate 1 go_big_quiet_step (fail)
  go_big_quiet_step (exact Past.call (HTA.out _))
  iterate 1 go_big_quiet_step (fail)
  go_big_quiet_step (exact Past.call (HTB.out _))
  go_big_quiet_step (exact Past.call (HCK.out _))
  iterate 1 go_big_quiet_step (fail)
  refine wpQuiet_nil ?_
  intro w3 hw3
  obtain ⟨⟨u, hn⟩, rfl⟩ := hw3
  try dsimp only
  clear f1 f2 HCK
  have r3 := rowAt_past hn r0
  have r4 := rowAt_past hn r1
  have r5 := rowAt_past hn r2
  have b4 := below_past b3 hn b3.size
  clear r0 r1 r2 b3 hn
  go_wp2_with fail
  have f1 := fun y : Past w3 => rowAt_past y.h r4
  have f2 := fun y : Past w3 => rowAt_past y.h r5
  have T3 := Lib.hid (HT.out.below b4)
  refine wp_region_past (by kernel_rfl) (by kernel_rfl) ?_
  by_cases hI : EI = 0
  · obtain ⟨HW1, HW2, z1, z2, hS⟩ := HHWR.out hI
    subst hI
    clear HHWR HHES
    generalize stx (itW a) = SA at *
    generalize stx (itW b) = SB at *
    have z0 : (txt [1]).size = 1 := rfl
    generalize txt [1] = S1 at *
    have y1 : (S1 ++ SA).size ≤ 83 := by rw [ByteArray.size_append]; omega
    have hq : (SI.toList == SI.toList) = true := beq_self_eq_true _
    go_big_quiet_step (exact Past.call (HAW.out _ (T3.out.below (Past.h _))))
    iterate 11 go_big_quiet_step (fail)
    go_big_quiet_step (exact Past.call (HF.out _))
    iterate 1 go_big_quiet_step (fail)
    go_big_quiet_step (exact Past.call (HTA.out _))
    go_big_quiet_step (exact Past.call (HW1.out _))
    iterate 2 go_big_quiet_step (fail)
    go_big_quiet_step (exact Past.call (HTB.out _))
    go_big_quiet_step (exact Past.call (HW2.out _))
    iterate 12 go_big_quiet_step (fail)
    refine wpQuiet_nil ?_
    intro w4 hw4
    obtain ⟨⟨u, hn⟩, rfl⟩ := hw4
    try dsimp only
    clear HW1 HW2 HTA HTB HF f1 f2 z0 z1 z2 hS hq y1
    have r0 := rowAt_past hn r3
    have c0 := (cell_of_rowAt r0 64).trans g64
    have b5 := below_past b4 hn b4.size
    clear r3 r4 r5 b4 hn T3
    by_cases h0 : 0 ≤ m
    · have h0' : decide (m < 0) = false := decide_eq_false (by omega)
      by_cases h1 : m ≤ 1073741824
      · have h1' : decide (1073741824 < m) = false := decide_eq_false (by omega)
        have hE : EF = 0 := by rw [HHF.out, epB, decide_eq_true h0, decide_eq_true h1]; rfl
        have HLX := HHLT.out hE
        have hq : (SY.toList == SY.toList) = true := beq_self_eq_true _
        subst hE
        clear HHF HHLT HHEF
        go_wp2_with fail
        refine (HLX.out _).mono ?_
        rintro e w5 ⟨rfl, b6⟩
        have b7 := below_past b5 b6 b5.size
        clear b5 b6 HLX r0 c0
        go_wp2_with fail
        go_ret
        exact ⟨rfl, b7⟩
      · have h1' : decide (1073741824 < m) = true := decide_eq_true (by omega)
        have hE : EF = 1 := by rw [HHF.out, epB, decide_eq_true h0, decide_eq_false h1]; rfl
        have hS := HHEF.out (by rw [hE]; decide)
        subst hE hS
        clear HHF HHLT HHEF
        go_wp2_with fail
        go_ret
        exact ⟨rfl, b5⟩
    · have h0' : decide (m < 0) = true := decide_eq_true (by omega)
      have hE : EF = 1 := by rw [HHF.out, epB, decide_eq_false h0]; rfl
      have hS := HHEF.out (by rw [hE]; decide)
      subst hE hS
      clear HHF HHLT HHEF
      go_wp2_with fail
      go_ret
      exact ⟨rfl, b5⟩
  · have hI1 : (EI == 0) = false := by rw [beq_eq_false_iff_ne]; exact hI
    have hI2 : (EI != 0) = true := by rw [bne_iff_ne]; exact hI
    have hSI := HHES.out hI
    subst hSI
    clear HHWR HHES hI
    go_big_quiet_step (exact Past.call (HAW.out _ (T3.out.below (Past.h _))))
    iterate 31 go_big_quiet_step (fail)
    refine wpQuiet_nil ?_
    intro w4 hw4
    obtain ⟨⟨u, hn⟩, rfl⟩ := hw4
    try dsimp only
    clear HTA HTB HF f1 f2 hI1 hI2
    have r0 := rowAt_past hn r3
    have c0 := (cell_of_rowAt r0 64).trans g64
    have b5 := below_past b4 hn b4.size
    clear r3 r4 r5 b4 hn T3
    by_cases h0 : 0 ≤ m
    · have h0' : decide (m < 0) = false := decide_eq_false (by omega)
      by_cases h1 : m ≤ 1073741824
      · have h1' : decide (1073741824 < m) = false := decide_eq_false (by omega)
        have hE : EF = 0 := by rw [HHF.out, epB, decide_eq_true h0, decide_eq_true h1]; rfl
        have HLX := HHLT.out hE
        have hq : (SY.toList == SY.toList) = true := beq_self_eq_true _
        subst hE
        clear HHF HHLT HHEF
        go_wp2_with fail
        refine (HLX.out _).mono ?_
        rintro e w5 ⟨rfl, b6⟩
        have b7 := below_past b5 b6 b5.size
        clear b5 b6 HLX r0 c0
        go_wp2_with fail
        go_ret
        exact ⟨rfl, b7⟩
      · have h1' : decide (1073741824 < m) = true := decide_eq_true (by omega)
        have hE : EF = 1 := by rw [HHF.out, epB, decide_eq_true h0, decide_eq_false h1]; rfl
        have hS := HHEF.out (by rw [hE]; decide)
        subst hE hS
        clear HHF HHLT HHEF
        go_wp2_with fail
        go_ret
        exact ⟨rfl, b5⟩
    · have h0' : decide (m < 0) = true := decide_eq_true (by omega)
      have hE : EF = 1 := by rw [HHF.out, epB, decide_eq_false h0]; rfl
      have hS := HHEF.out (by rw [hE]; decide)
      subst hE hS
      clear HHF HHLT HHEF
      go_wp2_with fail
      go_ret
      exact ⟨rfl, b5⟩
set_option maxRecDepth 100000 in
theorem lifted (os : Os) (started : os.Started) (H : Type) (enc : TypeId × Value → H) :
    ReturnsInHanded {} Tryd.checked os 4 .any (fun w args => (Rows.nodeWritesSpec.pre enc Tryd.prog Tryd.f4 [] false w args ∧ laidMetH Tryd.prog laidSha w) ∧ sizedMet enc Tryd.prog Tryd.f4 (OpenSpec.ofChange Rows.nodeWritesSpec) false w args) (Rows.nodeWritesSpec.post enc Tryd.prog Tryd.f4 false true false false) := by
  refine returnsInHanded_of_change_and (C := Tryd.checked) (X := fun w _ => laidMetH Tryd.prog laidSha w) (fun _ _ _ hh h => h.of_heap hh) own started (by kernel_rfl) Tryd.func4
    (ChangeSpec.witness_shaped (enc := enc) (C := Tryd.checked) (os := os) (X := fun w _ => laidMetH Tryd.prog laidSha w) false (World.doorLaid Tryd.prog 2000 os) #[.agg (cellsF zeroLf), .agg (cellsI zeroItm), .agg (cellsI zeroItm)] 8 rfl (World.shaped_of_RefB (by kernel_rfl) (by kernel_rfl)) (by kernel_rfl) (by kernel_rfl) (by kernel_rfl) (door_sha os _)) ?_
  intro W base args ds gs before hval0 hW _ _ hL _
  have hval : ∀ (j : Nat) t v, Tryd.f4.params[j]? = some t → args[j]? = some v → Value.okWide Tryd.prog W .any base t v := hval0
  clear hval0
  have hW' := hW
  obtain ⟨p, q, hA0, hV, rfl, hfz, hnd⟩ := hW
  have hA : DataW.TrodAll enc Tryd.prog W 0 (fun _ => true) true Tryd.f4.params.toList args.toList ds p := hA0
  rw [Tryd.params4] at hA hval
  clear hA0 hfz hnd hV
  have hr : Readable Tryd.f4.params.toList := by
    rw [Tryd.params4]
    exact readable_of_all (by kernel_rfl)
  have fin : ∀ W', Below W.heap.size W W' → Rows.nodeWritesSpec.post enc Tryd.prog Tryd.f4 false true false false W args (.bool true) W' := fun W' hb =>
    law_post rfl hW' hr (fun l hl => by
      rw [Tryd.params4] at hl
      match l, hl with
      | [d1, d2, d3], _ => rfl) (by kernel_rfl) hb
  clear hW' hr
  have HT := cubes_of_laid hL
  obtain ⟨v0, v1, v2, d0, d1, d2, p0, p1, p2, rfl, rfl, rfl, h0, h1, h2⟩ := trodAll_three hA; obtain ⟨x, rfl, wx⟩ := open_leaf Tryd.underlying37 rfl rfl rfl cellsOf_lab cellsOf_lab cellsOf_int cellsOf_leaf (fun _ _ _ h => lab_in h) (fun _ _ _ h => lab_in h) Tryd.underlying3 (hval 0 37 v0 rfl rfl) h0; obtain ⟨a, rfl, wa⟩ := open_item Tryd.underlying43 rfl rfl rfl cellsOf_pre cellsOf_lab cellsOf_int cellsOf_item (fun _ _ _ h => pre_in h) (fun _ _ _ h => lab_in h) Tryd.underlying3 (hval 1 43 v1 rfl rfl) h1; obtain ⟨b, rfl, wb⟩ := open_item Tryd.underlying43 rfl rfl rfl cellsOf_pre cellsOf_lab cellsOf_int cellsOf_item (fun _ _ _ h => pre_in h) (fun _ _ _ h => lab_in h) Tryd.underlying3 (hval 2 43 v2 rfl rfl) h2
  exact (walk x a b W HT).mono fun e W' ⟨he, hb⟩ => ⟨_, he, fin W' hb⟩
theorem row_holds : Rows.NodeWritesSaid :=
  OpenClaim.holds_of_wide 4 Tryd.f4 rfl rfl rfl rfl rfl rfl rfl ⟨rfl, rfl, rfl, rfl, rfl⟩ rfl rfl rfl rfl rfl (by kernel_rfl) Tryd.func4 (by kernel_rfl)
    (of_decide_eq_true (by kernel_rfl)) (by unfold Func.isWrapper; first | (rw [if_pos (by decide +kernel)]; kernel_rfl) | (rw [if_neg (by decide +kernel)]; exact ⟨rfl, rfl⟩))
    (fun os started H enc _ => lifted os started H enc)
theorem proved : Rows.NodeWritesCardSaid :=
  Claim7.holds_tied_plain_at .later [] [.data] true _ true
    row_holds (fun _ h => by cases h) (by kernel_rfl) (fun _ h => by cases h) nodeWrites_row_tie rfl ⟨rfl, rfl⟩ (by kernel_rfl) rfl
    (fun f fn hf hfn => by
      obtain rfl : f = 4 := Option.some.inj ((show Tryd.prog.funcNamed "chirograph/chirographlaw15.NodeWrites" = some 4 by kernel_rfl).symm.trans hf) |>.symm
      obtain rfl : fn = Tryd.f4 := (Option.some.inj (Tryd.func4.symm.trans hfn)).symm
      exact ⟨by kernel_rfl, fun j t ht => by
        rw [Tryd.params4] at ht
        have hm : t ∈ [37, 43, 43] := by simpa using Array.mem_of_getElem? ht
        have hall : ([37, 43, 43].all fun u => !Tryd.prog.wantsStandIn u) = true := by kernel_rfl
        exact (show Tryd.prog.wantsStandIn t = false by simpa using List.all_eq_true.1 hall t hm)⟩)
    (by kernel_rfl)
end Go.Proofs.YtnffmgpnhlcakaaDoor.nwrites
