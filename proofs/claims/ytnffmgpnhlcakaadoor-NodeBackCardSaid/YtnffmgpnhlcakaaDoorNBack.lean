/- For any leaf and any two items the law NodeBack returns true. Conditions: the listed table is as the program lays it. -/
import Derived.Test.YtnffmgpnhlcakaaDoorNodeRM
import Derived.Test.YtnffmgpnhlcakaaDoorNodeIn
import Derived.Test.YtnffmgpnhlcakaaDoorShaTabs
import Derived.Test.YtnffmgpnhlcakaaDoorTie
import Derived.Test.YtnffmgpnhlcakaaDoorCards
import Derived.SevenTiedAt
namespace Go.Proofs.YtnffmgpnhlcakaaDoor.nback
open Go Go.ChangeShapes Go.WideShapes Go.ChangeAt Go.ChangeMaps Go.RowKit Go.Proofs.YtnffmgpnhlcakaaDoor

def bytS (d : Nd) : ByteArray := if chkN d = 0 then stx (ndW d) else ⟨#[]⟩
theorem bytesR_is (d : Nd) : BytesR d = .tuple #[.string (bytS d), .int .i64 (chkN d)] := by
  unfold BytesR bytS
  by_cases h : chkN d = 0
  · rw [if_pos h, if_pos h, h]
  · rw [if_neg h, if_neg h]
theorem ndW_len {d : Nd} (h : chkN d = 0) : (ndW d).length ≤ 400 := by
  cases d with
  | leaf x =>
    obtain ⟨m, hm, hm2⟩ := chkF_num (show chkF x = 0 from h)
    have := numBytes_9 m (by omega)
    simp only [ndW, List.length_cons, List.length_append, x.a.h, x.v.h, hm, Int.toNat_natCast]
    omega
  | inner x y =>
    have h : chkI x y = 0 := h
    unfold chkI at h
    split at h
    · rename_i k
      rw [Bool.and_eq_true] at k
      have h1 := itW_len k.1
      have h2 := itW_len k.2
      simp only [ndW, List.length_cons, List.length_append]
      omega
    · cases h
  | none => simp [ndW]

set_option maxRecDepth 100000 in
set_option maxHeartbeats 4000000 in
theorem walk (x : Lf) (a b : Itm) (w : World) (ht : Cubes w) : Calls Tryd.prog 5 #[.agg (cellsF x), .agg (cellsI a), .agg (cellsI b)] w fun e w' => e = .returned (.bool true) ∧ Below w.heap.size w w' := by
  have HAW := Lib.hid (fun w (h : Cubes w) => awake15 w h)
  have HT := Lib.hid ht
  have HY1 : Hid (∀ w, Calls Tryd.prog 15 #[.iface 37 (.agg (cellsF x))] w fun e w' => e = .returned (.tuple #[.string (bytS (.leaf x)), .int .i64 (chkF x)]) ∧ Below w.heap.size w w') := Lib.hid fun w => by
    have := nBytes_any (.leaf x) w
    rwa [bytesR_is] at this
  have HY2 : Hid (∀ w, Calls Tryd.prog 15 #[.iface 45 (.agg (cellsN a b))] w fun e w' => e = .returned (.tuple #[.string (bytS (.inner a b)), .int .i64 (chkI a b)]) ∧ Below w.heap.size w w') := Lib.hid fun w => by
    have := nBytes_any (.inner a b) w
    rwa [bytesR_is] at this
  have b0 : Below w.heap.size w (((w.alloc (.cells (cellsF x) 37)).alloc (.cells (cellsI a) 43)).alloc (.cells (cellsI b) 43)) := (((Below.refl _ _).alloc (Nat.le_refl _) _).alloc (by simp only [World.size_alloc]; omega) _).alloc (by simp only [World.size_alloc]; omega) _
  have r0 : rowAt (((w.alloc (.cells (cellsF x) 37)).alloc (.cells (cellsI a) 43)).alloc (.cells (cellsI b) 43)) w.heap.size = some (cellsF x) := (rowAt_alloc_past _ _ _ (by simp only [World.size_alloc]; omega)).trans ((rowAt_alloc_past _ _ _ (by simp only [World.size_alloc]; omega)).trans (rowAt_alloc_at _ _ _ _ rfl))
  have r1 : rowAt (((w.alloc (.cells (cellsF x) 37)).alloc (.cells (cellsI a) 43)).alloc (.cells (cellsI b) 43)) (w.heap.size + 1) = some (cellsI a) := (rowAt_alloc_past _ _ _ (by simp only [World.size_alloc]; omega)).trans (rowAt_alloc_at _ _ _ _ (by simp only [World.size_alloc]))
  have r2 : rowAt (((w.alloc (.cells (cellsF x) 37)).alloc (.cells (cellsI a) 43)).alloc (.cells (cellsI b) 43)) (w.heap.size + 1 + 1) = some (cellsI b) := rowAt_alloc_at _ _ _ _ (by simp only [World.size_alloc])
  have HH1 : Hid (chkF x = 0 → Hid (∀ w, Calls Tryd.prog 9 #[.string (bytS (.leaf x))] w fun e w' => e = .returned (.tuple #[.iface 37 (.agg (cellsF x)), .int .i64 0]) ∧ Below w.heap.size w w') ∧ Hid (∀ w, Calls Tryd.prog 12 #[.iface 37 (.agg (cellsF x))] w fun e w' => e = .returned (.tuple #[.agg (cellsF x), .bool true]) ∧ Below w.heap.size w w')) := Lib.hid fun h => by
    obtain ⟨k1, k2⟩ := nd_back (.leaf x) h
    refine ⟨Lib.hid fun w => ?_, Lib.hid fun w => nAsLeaf_any (.leaf x) w⟩
    have := nRead_any (stx (ndW (.leaf x))) w (by rw [stx_size]; exact ndW_len h)
    rw [k1, k2] at this
    rwa [show bytS (.leaf x) = stx (ndW (.leaf x)) from if_pos h]
  have HH2 : Hid (chkI a b = 0 → Hid (∀ w, Calls Tryd.prog 9 #[.string (bytS (.inner a b))] w fun e w' => e = .returned (.tuple #[.iface 45 (.agg (cellsN a b)), .int .i64 0]) ∧ Below w.heap.size w w') ∧ Hid (∀ w, Calls Tryd.prog 13 #[.iface 45 (.agg (cellsN a b))] w fun e w' => e = .returned (.tuple #[.agg (cellsN a b), .bool true]) ∧ Below w.heap.size w w')) := Lib.hid fun h => by
    obtain ⟨k1, k2⟩ := nd_back (.inner a b) h
    refine ⟨Lib.hid fun w => ?_, Lib.hid fun w => nAsInner_any (.inner a b) w⟩
    have := nRead_any (stx (ndW (.inner a b))) w (by rw [stx_size]; exact ndW_len (d := .inner a b) h)
    rw [k1, k2] at this
    rwa [show bytS (.inner a b) = stx (ndW (.inner a b)) from if_pos h]
  have HNE : Hid (chkI a b = 0 → ((bytS (.inner a b)).toList == (bytS (.leaf x)).toList) = false) := Lib.hid fun h => by
    rw [show bytS (.inner a b) = stx (ndW (.inner a b)) from if_pos h]
    refine str_ne fun e => ?_
    unfold bytS at e
    split at e
    · have := stx_inj e
      simp only [ndW, List.cons.injEq] at this
      exact absurd this.1 (by decide)
    · have := congrArg ByteArray.size e
      rw [stx_size, show (ByteArray.mk #[]).size = 0 from rfl, ndW, List.length_cons] at this
      omega
  generalize bytS (.leaf x) = SY at *
  generalize bytS (.inner a b) = SI at *
  generalize chkF x = EF at *
  generalize chkI a b = EI at *
  clear ht
  go_enter Tryd.func5, Tryd.ntmps5
  go_wp2_with fail
  generalize ((w.alloc (.cells (cellsF x) 37)).alloc (.cells (cellsI a) 43)).alloc (.cells (cellsI b) 43) = W at *
  refine (HY1.out _).mono ?_
  rintro e w1 ⟨rfl, b1⟩
  have r3 := rowAt_past b1 r0
  have r4 := rowAt_past b1 r1
  have r5 := rowAt_past b1 r2
  have b2 := below_past b0 b1 b0.size
  clear b0 b1 r0 r1 r2 HY1
  by_cases hF : EF = 0
  · obtain ⟨HR1, HL1⟩ := HH1.out hF
    subst hF
    clear HH1
    have q1 : decide (x = x) = true := decide_eq_true rfl
    go_wp2_with fail
    refine (HR1.out _).mono ?_
    rintro e w2 ⟨rfl, b1⟩
    have r0 := rowAt_past b1 r3
    have r1 := rowAt_past b1 r4
    have r2 := rowAt_past b1 r5
    have b3 := below_past b2 b1 b2.size
    clear b2 b1 r3 r4 r5 HR1
    go_wp2_with fail
    refine (HL1.out _).mono ?_
    rintro e w9 ⟨rfl, b1⟩
    have bq := (Below.refl w9.heap.size w9).alloc (Nat.le_refl _) (.cells (cellsF x) 37)
    have r8 : rowAt (w9.alloc (.cells (cellsF x) 37)) w9.heap.size = some (cellsF x) := rowAt_alloc_at _ _ _ _ rfl
    have r3 := rowAt_past bq (rowAt_past b1 r0)
    have r4 := rowAt_past bq (rowAt_past b1 r1)
    have r5 := rowAt_past bq (rowAt_past b1 r2)
    have b2 := below_past (below_past b3 b1 b3.size) bq (below_past b3 b1 b3.size).size
    clear b3 b1 bq r0 r1 r2 HL1
    have r1 := r4
    have r2 := r5
    have b3 := b2
    clear r4 r5 b2
    have bq := (Below.refl (w9.alloc (.cells (cellsF x) 37)).heap.size (w9.alloc (.cells (cellsF x) 37))).alloc (Nat.le_refl _) (.cells (cellsN a b) 45)
    have r5 : rowAt ((w9.alloc (.cells (cellsF x) 37)).alloc (.cells (cellsN a b) 45)) (w9.heap.size + 1) = some (cellsN a b) := rowAt_alloc_at _ _ _ _ (by first | rfl | simp only [World.size_alloc])
    have b4 := below_past b3 bq b3.size
    clear b3 bq
    go_wp2_with fail
    generalize (w9.alloc (.cells (cellsF x) 37)).alloc (.cells (cellsN a b) 45) = W3 at *
    generalize w9.heap.size + 1 = g3 at *
    refine (HY2.out _).mono ?_
    rintro e w4 ⟨rfl, b1⟩
    have r6 := rowAt_past b1 r5
    have b5 := below_past b4 b1 b4.size
    clear b4 b1 r5 r1 r2 HY2
    by_cases hI : EI = 0
    · obtain ⟨HR2, HI2⟩ := HH2.out hI
      subst hI
      clear HH2
      have q2 : decide (a = a) = true := decide_eq_true rfl
      have q3 : decide (b = b) = true := decide_eq_true rfl
      have hne := HNE.out rfl
      go_wp2_with fail
      refine (HR2.out _).mono ?_
      rintro e w5 ⟨rfl, b1⟩
      have r7 := rowAt_past b1 r6
      have b6 := below_past b5 b1 b5.size
      clear b5 b1 r6 HR2
      go_wp2_with fail
      refine (HI2.out _).mono ?_
      rintro e w6 ⟨rfl, b1⟩
      have bq := (Below.refl w6.heap.size w6).alloc (Nat.le_refl _) (.cells (cellsN a b) 45)
      have r8 : rowAt (w6.alloc (.cells (cellsN a b) 45)) w6.heap.size = some (cellsN a b) := rowAt_alloc_at _ _ _ _ rfl
      have r9 := rowAt_past bq (rowAt_past b1 r7)
      have b7 := below_past (below_past b6 b1 b6.size) bq (below_past b6 b1 b6.size).size
      have T7 := Lib.hid (HT.out.below b7)
      clear b6 b1 r7 bq HI2
      go_wp2_with fail
      generalize w6.alloc (.cells (cellsN a b) 45) = W6 at *
      generalize w6.heap.size = g6 at *
      refine (HAW.out _ T7.out).mono ?_
      rintro e w7 ⟨rfl, b1⟩
      have q8 := rowAt_past b1 r8
      have q9 := rowAt_past b1 r9
      have b8 := below_past b7 b1 b7.size
      clear b7 b1 r8 r9 T7
      go_wp2_with fail
      go_ret
      exact ⟨rfl, b8⟩
    · have hI1 : (EI != 0) = true := by rw [bne_iff_ne]; exact hI
      have T7 := Lib.hid (HT.out.below b5)
      go_wp2_with fail
      refine (HAW.out _ T7.out).mono ?_
      rintro e w7 ⟨rfl, b1⟩
      have b8 := below_past b5 b1 b5.size
      go_wp2_with fail
      go_ret
      exact ⟨rfl, b8⟩
  · have hF1 : (EF == 0) = false := by rw [beq_eq_false_iff_ne]; exact hF
    have r1 := r4
    have r2 := r5
    have b3 := b2
    clear r3 r4 r5 b2 HH1
    have bq := (Below.refl (w1).heap.size (w1)).alloc (Nat.le_refl _) (.cells (cellsN a b) 45)
    have r5 : rowAt ((w1).alloc (.cells (cellsN a b) 45)) (w1.heap.size) = some (cellsN a b) := rowAt_alloc_at _ _ _ _ (by first | rfl | simp only [World.size_alloc])
    have b4 := below_past b3 bq b3.size
    clear b3 bq
    go_wp2_with fail
    generalize (w1).alloc (.cells (cellsN a b) 45) = W3 at *
    generalize w1.heap.size = g3 at *
    refine (HY2.out _).mono ?_
    rintro e w4 ⟨rfl, b1⟩
    have r6 := rowAt_past b1 r5
    have b5 := below_past b4 b1 b4.size
    clear b4 b1 r5 r1 r2 HY2
    by_cases hI : EI = 0
    · obtain ⟨HR2, HI2⟩ := HH2.out hI
      subst hI
      clear HH2
      have q2 : decide (a = a) = true := decide_eq_true rfl
      have q3 : decide (b = b) = true := decide_eq_true rfl
      have hne := HNE.out rfl
      go_wp2_with fail
      refine (HR2.out _).mono ?_
      rintro e w5 ⟨rfl, b1⟩
      have r7 := rowAt_past b1 r6
      have b6 := below_past b5 b1 b5.size
      clear b5 b1 r6 HR2
      go_wp2_with fail
      refine (HI2.out _).mono ?_
      rintro e w6 ⟨rfl, b1⟩
      have bq := (Below.refl w6.heap.size w6).alloc (Nat.le_refl _) (.cells (cellsN a b) 45)
      have r8 : rowAt (w6.alloc (.cells (cellsN a b) 45)) w6.heap.size = some (cellsN a b) := rowAt_alloc_at _ _ _ _ rfl
      have r9 := rowAt_past bq (rowAt_past b1 r7)
      have b7 := below_past (below_past b6 b1 b6.size) bq (below_past b6 b1 b6.size).size
      have T7 := Lib.hid (HT.out.below b7)
      clear b6 b1 r7 bq HI2
      go_wp2_with fail
      generalize w6.alloc (.cells (cellsN a b) 45) = W6 at *
      generalize w6.heap.size = g6 at *
      refine (HAW.out _ T7.out).mono ?_
      rintro e w7 ⟨rfl, b1⟩
      have q8 := rowAt_past b1 r8
      have q9 := rowAt_past b1 r9
      have b8 := below_past b7 b1 b7.size
      clear b7 b1 r8 r9 T7
      go_wp2_with fail
      go_ret
      exact ⟨rfl, b8⟩
    · have hI1 : (EI != 0) = true := by rw [bne_iff_ne]; exact hI
      have T7 := Lib.hid (HT.out.below b5)
      go_wp2_with fail
      refine (HAW.out _ T7.out).mono ?_
      rintro e w7 ⟨rfl, b1⟩
      have b8 := below_past b5 b1 b5.size
      go_wp2_with fail
      go_ret
      exact ⟨rfl, b8⟩
set_option maxRecDepth 100000 in
theorem lifted (os : Os) (started : os.Started) (H : Type) (enc : TypeId × Value → H) :
    ReturnsInHanded {} Tryd.checked os 5 .any (fun w args => (Rows.nodeBackSpec.pre enc Tryd.prog Tryd.f5 [] false w args ∧ laidMetH Tryd.prog laidSha w) ∧ sizedMet enc Tryd.prog Tryd.f5 (OpenSpec.ofChange Rows.nodeBackSpec) false w args) (Rows.nodeBackSpec.post enc Tryd.prog Tryd.f5 false true false false) := by
  refine returnsInHanded_of_change_and (C := Tryd.checked) (X := fun w _ => laidMetH Tryd.prog laidSha w) (fun _ _ _ hh h => h.of_heap hh) own started (by kernel_rfl) Tryd.func5
    (ChangeSpec.witness_shaped (enc := enc) (C := Tryd.checked) (os := os) (X := fun w _ => laidMetH Tryd.prog laidSha w) false (World.doorLaid Tryd.prog 2000 os) #[.agg (cellsF zeroLf), .agg (cellsI zeroItm), .agg (cellsI zeroItm)] 8 rfl (World.shaped_of_RefB (by kernel_rfl) (by kernel_rfl)) (by kernel_rfl) (by kernel_rfl) (by kernel_rfl) (door_sha os _)) ?_
  intro W base args ds gs before hval0 hW _ _ hL _
  have hval : ∀ (j : Nat) t v, Tryd.f5.params[j]? = some t → args[j]? = some v → Value.okWide Tryd.prog W .any base t v := hval0
  clear hval0
  have hW' := hW
  obtain ⟨p, q, hA0, hV, rfl, hfz, hnd⟩ := hW
  have hA : DataW.TrodAll enc Tryd.prog W 0 (fun _ => true) true Tryd.f5.params.toList args.toList ds p := hA0
  rw [Tryd.params5] at hA hval
  clear hA0 hfz hnd hV
  have hr : Readable Tryd.f5.params.toList := by
    rw [Tryd.params5]
    exact readable_of_all (by kernel_rfl)
  have fin : ∀ W', Below W.heap.size W W' → Rows.nodeBackSpec.post enc Tryd.prog Tryd.f5 false true false false W args (.bool true) W' := fun W' hb =>
    law_post rfl hW' hr (fun l hl => by
      rw [Tryd.params5] at hl
      match l, hl with
      | [d1, d2, d3], _ => rfl) (by kernel_rfl) hb
  clear hW' hr
  have HT := cubes_of_laid hL
  obtain ⟨v0, v1, v2, d0, d1, d2, p0, p1, p2, rfl, rfl, rfl, h0, h1, h2⟩ := trodAll_three hA; obtain ⟨x, rfl, wx⟩ := open_leaf Tryd.underlying37 rfl rfl rfl cellsOf_lab cellsOf_lab cellsOf_int cellsOf_leaf (fun _ _ _ h => lab_in h) (fun _ _ _ h => lab_in h) Tryd.underlying3 (hval 0 37 v0 rfl rfl) h0; obtain ⟨a, rfl, wa⟩ := open_item Tryd.underlying43 rfl rfl rfl cellsOf_pre cellsOf_lab cellsOf_int cellsOf_item (fun _ _ _ h => pre_in h) (fun _ _ _ h => lab_in h) Tryd.underlying3 (hval 1 43 v1 rfl rfl) h1; obtain ⟨b, rfl, wb⟩ := open_item Tryd.underlying43 rfl rfl rfl cellsOf_pre cellsOf_lab cellsOf_int cellsOf_item (fun _ _ _ h => pre_in h) (fun _ _ _ h => lab_in h) Tryd.underlying3 (hval 2 43 v2 rfl rfl) h2
  exact (walk x a b W HT).mono fun e W' ⟨he, hb⟩ => ⟨_, he, fin W' hb⟩
theorem row_holds : Rows.NodeBackSaid :=
  OpenClaim.holds_of_wide 5 Tryd.f5 rfl rfl rfl rfl rfl rfl rfl ⟨rfl, rfl, rfl, rfl, rfl⟩ rfl rfl rfl rfl rfl (by kernel_rfl) Tryd.func5 (by kernel_rfl)
    (of_decide_eq_true (by kernel_rfl)) (by unfold Func.isWrapper; first | (rw [if_pos (by decide +kernel)]; kernel_rfl) | (rw [if_neg (by decide +kernel)]; exact ⟨rfl, rfl⟩))
    (fun os started H enc _ => lifted os started H enc)
theorem proved : Rows.NodeBackCardSaid :=
  Claim7.holds_tied_plain_at .later [] [.data] true _ true
    row_holds (fun _ h => by cases h) (by kernel_rfl) (fun _ h => by cases h) nodeBack_row_tie rfl ⟨rfl, rfl⟩ (by kernel_rfl) rfl
    (fun f fn hf hfn => by
      obtain rfl : f = 5 := Option.some.inj ((show Tryd.prog.funcNamed "chirograph/chirographlaw15.NodeBack" = some 5 by kernel_rfl).symm.trans hf) |>.symm
      obtain rfl : fn = Tryd.f5 := (Option.some.inj (Tryd.func5.symm.trans hfn)).symm
      exact ⟨by kernel_rfl, fun j t ht => by
        rw [Tryd.params5] at ht
        have hm : t ∈ [37, 43, 43] := by simpa using Array.mem_of_getElem? ht
        have hall : ([37, 43, 43].all fun u => !Tryd.prog.wantsStandIn u) = true := by kernel_rfl
        exact (show Tryd.prog.wantsStandIn t = false by simpa using List.all_eq_true.1 hall t hm)⟩)
    (by kernel_rfl)
end Go.Proofs.YtnffmgpnhlcakaaDoor.nback
