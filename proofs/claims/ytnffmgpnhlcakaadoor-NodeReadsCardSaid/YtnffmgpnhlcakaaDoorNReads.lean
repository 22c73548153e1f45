/- For any text the law NodeReads returns true. Conditions: the listed table is as the program lays it. -/
import Derived.Test.YtnffmgpnhlcakaaDoorNodeR3
import Derived.Test.YtnffmgpnhlcakaaDoorShaTabs
import Derived.Test.YtnffmgpnhlcakaaDoorTie
import Derived.Test.YtnffmgpnhlcakaaDoorCards
import Derived.SevenTiedAt
namespace Go.Proofs.YtnffmgpnhlcakaaDoor.nreads
open Go Go.ChangeShapes Go.WideShapes Go.ChangeAt Go.ChangeMaps Go.RowKit Go.Proofs.YtnffmgpnhlcakaaDoor

theorem rd_cases (s : ByteArray) : (rdErr s ≠ 0 ∧ rdNd s = .none) ∨ (rdErr s = 0 ∧ ∃ x y, rdNd s = .inner x y) ∨ (rdErr s = 0 ∧ ∃ x, rdNd s = .leaf x) := by
  by_cases h : rdErr s = 0
  · have h2 : rdNd s = rdN s := if_pos h
    unfold rdN at h2
    split at h2
    · exact .inr (.inl ⟨h, _, _, h2⟩)
    · exact .inr (.inr ⟨h, _, h2⟩)
  · exact .inl ⟨h, if_neg h⟩
set_option maxRecDepth 100000 in
set_option maxHeartbeats 4000000 in
theorem walk (s0 : ByteArray) (w : World) (ht : Cubes w) : Calls Tryd.prog 3 #[.string s0] w fun e w' => e = .returned (.bool true) ∧ Below w.heap.size w w' := by
  have HC := Lib.hid (fun w => l3Cut_any s0 400 w (by decide))
  obtain ⟨T, hm⟩ : ∃ T, s0.data.toList.take 400 = T := ⟨_, rfl⟩
  have hT : T.length ≤ 400 := by rw [← hm]; exact List.length_take_le _ _
  rw [hm] at HC
  have hz : (stx T).size ≤ 400 := by rw [stx_size]; exact hT
  have HR := Lib.hid (fun w => nRead_any (stx T) w hz)
  have HRR := Lib.hid (fun w => r15Read_any (stx T) w hz)
  have HAL := Lib.hid (fun w => nAsLeaf_any (rdNd (stx T)) w)
  have HAI := Lib.hid (fun w => nAsInner_any (rdNd (stx T)) w)
  have hcs := rd_cases (stx T)
  have HAW := Lib.hid (fun w (h : Cubes w) => awake15 w h)
  have HT := Lib.hid ht
  clear ht hm hT hz
  generalize stx T = S at *
  generalize rdErr S = ER at *
  rcases hcs with ⟨h0, hd⟩ | ⟨h0, x, y, hd⟩ | ⟨h0, x, hd⟩
  · rw [hd] at HR HRR HAL HAI
    have q0 : (ER != 0) = true := by rw [bne_iff_ne]; exact h0
    clear h0 hd
    simp only [Nd.val, Nd.lf, Nd.fst, Nd.snd, Nd.isIn, Nd.isLf] at HR HRR HAL HAI
    go_enter Tryd.func3, Tryd.ntmps3
    go_wp2_with fail
    refine (HC.out _).mono ?_
    rintro e w1 ⟨rfl, rfl⟩
    clear HC
    go_wp2_with fail
    refine (HR.out _).mono ?_
    rintro e w2 ⟨rfl, b2⟩
    clear HR
    go_wp2_with fail
    refine (HRR.out _).mono ?_
    rintro e w3 ⟨rfl, b3⟩
    have b4 := below_past b2 b3 b2.size
    clear HRR b2 b3
    have bq := (((Below.refl w3.heap.size w3).alloc (Nat.le_refl _) (.cells (cellsF (zeroLf)) 31)).alloc (by simp only [World.size_alloc]; omega) (.cells (cellsI (zeroItm)) 33)).alloc (by simp only [World.size_alloc]; omega) (.cells (cellsI (zeroItm)) 33)
    have r0 : rowAt (((w3.alloc (.cells (cellsF (zeroLf)) 31)).alloc (.cells (cellsI (zeroItm)) 33)).alloc (.cells (cellsI (zeroItm)) 33)) w3.heap.size = some (cellsF (zeroLf)) := (rowAt_alloc_past _ _ _ (by simp only [World.size_alloc]; omega)).trans ((rowAt_alloc_past _ _ _ (by simp only [World.size_alloc]; omega)).trans (rowAt_alloc_at _ _ _ _ rfl))
    have r1 : rowAt (((w3.alloc (.cells (cellsF (zeroLf)) 31)).alloc (.cells (cellsI (zeroItm)) 33)).alloc (.cells (cellsI (zeroItm)) 33)) (w3.heap.size + 1) = some (cellsI (zeroItm)) := (rowAt_alloc_past _ _ _ (by simp only [World.size_alloc]; omega)).trans (rowAt_alloc_at _ _ _ _ (by simp only [World.size_alloc]))
    have r2 : rowAt (((w3.alloc (.cells (cellsF (zeroLf)) 31)).alloc (.cells (cellsI (zeroItm)) 33)).alloc (.cells (cellsI (zeroItm)) 33)) (w3.heap.size + 1 + 1) = some (cellsI (zeroItm)) := rowAt_alloc_at _ _ _ _ (by simp only [World.size_alloc])
    have b5 := below_past b4 bq b4.size
    have T5 := Lib.hid (HT.out.below b5)
    clear b4 bq
    go_wp2_with fail
    generalize ((w3.alloc (.cells (cellsF (zeroLf)) 31)).alloc (.cells (cellsI (zeroItm)) 33)).alloc (.cells (cellsI (zeroItm)) 33) = W3 at *
    generalize w3.heap.size = g at *
    refine (HAW.out _ T5.out).mono ?_
    rintro e w4 ⟨rfl, b1⟩
    have r3 := rowAt_past b1 r0
    have r4 := rowAt_past b1 r1
    have r5 := rowAt_past b1 r2
    have b6 := below_past b5 b1 b5.size
    clear b5 b1 r0 r1 r2 T5 HAW
    go_wp2_with fail
    refine (HAL.out _).mono ?_
    rintro e w5 ⟨rfl, b1⟩
    have r0 := rowAt_past b1 r3
    have r1 := rowAt_past b1 r4
    have r2 := rowAt_past b1 r5
    have b5 := below_past b6 b1 b6.size
    clear b6 b1 r3 r4 r5 HAL
    have bq := (Below.refl w5.heap.size w5).alloc (Nat.le_refl _) (.cells (cellsF (zeroLf)) 37)
    have r6 : rowAt (w5.alloc (.cells (cellsF (zeroLf)) 37)) w5.heap.size = some (cellsF (zeroLf)) := rowAt_alloc_at _ _ _ _ rfl
    have r3 := rowAt_past bq r0
    have r4 := rowAt_past bq r1
    have r5 := rowAt_past bq r2
    have b6 := below_past b5 bq b5.size
    clear b5 bq r0 r1 r2
    go_wp2_with fail
    generalize w5.alloc (.cells (cellsF (zeroLf)) 37) = W5 at *
    generalize w5.heap.size = g5 at *
    refine (HAI.out _).mono ?_
    rintro e w6 ⟨rfl, b1⟩
    have bq := (Below.refl w6.heap.size w6).alloc (Nat.le_refl _) (.cells (cellsN (zeroItm) (zeroItm)) 45)
    have r7 : rowAt (w6.alloc (.cells (cellsN (zeroItm) (zeroItm)) 45)) w6.heap.size = some (cellsN (zeroItm) (zeroItm)) := rowAt_alloc_at _ _ _ _ rfl
    have r0 := rowAt_past bq (rowAt_past b1 r3)
    have r1 := rowAt_past bq (rowAt_past b1 r4)
    have r2 := rowAt_past bq (rowAt_past b1 r5)
    have r8 := rowAt_past bq (rowAt_past b1 r6)
    have b5 := below_past (below_past b6 b1 b6.size) bq (below_past b6 b1 b6.size).size
    clear b6 b1 bq r3 r4 r5 r6 HAI
    go_wp2_with fail
    go_ret
    exact ⟨rfl, b5⟩
  · subst h0
    rw [hd] at HR HRR HAL HAI
    clear hd
    simp only [Nd.val, Nd.lf, Nd.fst, Nd.snd, Nd.isIn, Nd.isLf] at HR HRR HAL HAI
    have H1 := Lib.hid (Told_any x)
    have H2 := Lib.hid (Told_any y)
    have q1 : decide (x = x) = true := decide_eq_true rfl
    have q2 : decide (y = y) = true := decide_eq_true rfl
    go_enter Tryd.func3, Tryd.ntmps3
    go_wp2_with fail
    refine (HC.out _).mono ?_
    rintro e w1 ⟨rfl, rfl⟩
    clear HC
    go_wp2_with fail
    refine (HR.out _).mono ?_
    rintro e w2 ⟨rfl, b2⟩
    clear HR
    go_wp2_with fail
    refine (HRR.out _).mono ?_
    rintro e w3 ⟨rfl, b3⟩
    have b4 := below_past b2 b3 b2.size
    clear HRR b2 b3
    have bq := (((Below.refl w3.heap.size w3).alloc (Nat.le_refl _) (.cells (cellsF (zeroLf)) 31)).alloc (by simp only [World.size_alloc]; omega) (.cells (cellsI (x)) 33)).alloc (by simp only [World.size_alloc]; omega) (.cells (cellsI (y)) 33)
    have r0 : rowAt (((w3.alloc (.cells (cellsF (zeroLf)) 31)).alloc (.cells (cellsI (x)) 33)).alloc (.cells (cellsI (y)) 33)) w3.heap.size = some (cellsF (zeroLf)) := (rowAt_alloc_past _ _ _ (by simp only [World.size_alloc]; omega)).trans ((rowAt_alloc_past _ _ _ (by simp only [World.size_alloc]; omega)).trans (rowAt_alloc_at _ _ _ _ rfl))
    have r1 : rowAt (((w3.alloc (.cells (cellsF (zeroLf)) 31)).alloc (.cells (cellsI (x)) 33)).alloc (.cells (cellsI (y)) 33)) (w3.heap.size + 1) = some (cellsI (x)) := (rowAt_alloc_past _ _ _ (by simp only [World.size_alloc]; omega)).trans (rowAt_alloc_at _ _ _ _ (by simp only [World.size_alloc]))
    have r2 : rowAt (((w3.alloc (.cells (cellsF (zeroLf)) 31)).alloc (.cells (cellsI (x)) 33)).alloc (.cells (cellsI (y)) 33)) (w3.heap.size + 1 + 1) = some (cellsI (y)) := rowAt_alloc_at _ _ _ _ (by simp only [World.size_alloc])
    have b5 := below_past b4 bq b4.size
    have T5 := Lib.hid (HT.out.below b5)
    clear b4 bq
    go_wp2_with fail
    generalize ((w3.alloc (.cells (cellsF (zeroLf)) 31)).alloc (.cells (cellsI (x)) 33)).alloc (.cells (cellsI (y)) 33) = W3 at *
    generalize w3.heap.size = g at *
    refine (HAW.out _ T5.out).mono ?_
    rintro e w4 ⟨rfl, b1⟩
    have r3 := rowAt_past b1 r0
    have r4 := rowAt_past b1 r1
    have r5 := rowAt_past b1 r2
    have b6 := below_past b5 b1 b5.size
    clear b5 b1 r0 r1 r2 T5 HAW
    go_wp2_with fail
    refine (HAL.out _).mono ?_
    rintro e w5 ⟨rfl, b1⟩
    have r0 := rowAt_past b1 r3
    have r1 := rowAt_past b1 r4
    have r2 := rowAt_past b1 r5
    have b5 := below_past b6 b1 b6.size
    clear b6 b1 r3 r4 r5 HAL
    have bq := (Below.refl w5.heap.size w5).alloc (Nat.le_refl _) (.cells (cellsF (zeroLf)) 37)
    have r6 : rowAt (w5.alloc (.cells (cellsF (zeroLf)) 37)) w5.heap.size = some (cellsF (zeroLf)) := rowAt_alloc_at _ _ _ _ rfl
    have r3 := rowAt_past bq r0
    have r4 := rowAt_past bq r1
    have r5 := rowAt_past bq r2
    have b6 := below_past b5 bq b5.size
    clear b5 bq r0 r1 r2
    go_wp2_with fail
    generalize w5.alloc (.cells (cellsF (zeroLf)) 37) = W5 at *
    generalize w5.heap.size = g5 at *
    refine (HAI.out _).mono ?_
    rintro e w6 ⟨rfl, b1⟩
    have bq := (Below.refl w6.heap.size w6).alloc (Nat.le_refl _) (.cells (cellsN (x) (y)) 45)
    have r7 : rowAt (w6.alloc (.cells (cellsN (x) (y)) 45)) w6.heap.size = some (cellsN (x) (y)) := rowAt_alloc_at _ _ _ _ rfl
    have r0 := rowAt_past bq (rowAt_past b1 r3)
    have r1 := rowAt_past bq (rowAt_past b1 r4)
    have r2 := rowAt_past bq (rowAt_past b1 r5)
    have r8 := rowAt_past bq (rowAt_past b1 r6)
    have b5 := below_past (below_past b6 b1 b6.size) bq (below_past b6 b1 b6.size).size
    clear b6 b1 bq r3 r4 r5 r6 HAI
    go_wp2_with fail
    generalize w6.alloc (.cells (cellsN x y) 45) = W6 at *
    generalize w6.heap.size = g6 at *
    have f1 := fun z : Past W6 => rowAt_past z.h r1
    have f2 := fun z : Past W6 => rowAt_past z.h r2
    have f7 := fun z : Past W6 => rowAt_past z.h r7
    refine wp_region_past (by kernel_rfl) (by kernel_rfl) ?_
    iterate 8 go_big_quiet_step (fail)
    go_big_quiet_step (exact Past.call (H1.out _))
    iterate 6 go_big_quiet_step (fail)
    go_big_quiet_step (exact Past.call (H2.out _))
    iterate 4 go_big_quiet_step (fail)
    refine wpQuiet_nil ?_
    intro w7 hw7
    obtain ⟨⟨u, hn⟩, rfl⟩ := hw7
    try dsimp only
    have b6 := below_past b5 hn b5.size
    go_wp2_with fail
    go_ret
    exact ⟨rfl, b6⟩
  · subst h0
    rw [hd] at HR HRR HAL HAI
    clear hd
    simp only [Nd.val, Nd.lf, Nd.fst, Nd.snd, Nd.isIn, Nd.isLf] at HR HRR HAL HAI
    have q1 : decide (x = x) = true := decide_eq_true rfl
    go_enter Tryd.func3, Tryd.ntmps3
    go_wp2_with fail
    refine (HC.out _).mono ?_
    rintro e w1 ⟨rfl, rfl⟩
    clear HC
    go_wp2_with fail
    refine (HR.out _).mono ?_
    rintro e w2 ⟨rfl, b2⟩
    clear HR
    go_wp2_with fail
    refine (HRR.out _).mono ?_
    rintro e w3 ⟨rfl, b3⟩
    have b4 := below_past b2 b3 b2.size
    clear HRR b2 b3
    have bq := (((Below.refl w3.heap.size w3).alloc (Nat.le_refl _) (.cells (cellsF (x)) 31)).alloc (by simp only [World.size_alloc]; omega) (.cells (cellsI (zeroItm)) 33)).alloc (by simp only [World.size_alloc]; omega) (.cells (cellsI (zeroItm)) 33)
    have r0 : rowAt (((w3.alloc (.cells (cellsF (x)) 31)).alloc (.cells (cellsI (zeroItm)) 33)).alloc (.cells (cellsI (zeroItm)) 33)) w3.heap.size = some (cellsF (x)) := (rowAt_alloc_past _ _ _ (by simp only [World.size_alloc]; omega)).trans ((rowAt_alloc_past _ _ _ (by simp only [World.size_alloc]; omega)).trans (rowAt_alloc_at _ _ _ _ rfl))
    have r1 : rowAt (((w3.alloc (.cells (cellsF (x)) 31)).alloc (.cells (cellsI (zeroItm)) 33)).alloc (.cells (cellsI (zeroItm)) 33)) (w3.heap.size + 1) = some (cellsI (zeroItm)) := (rowAt_alloc_past _ _ _ (by simp only [World.size_alloc]; omega)).trans (rowAt_alloc_at _ _ _ _ (by simp only [World.size_alloc]))
    have r2 : rowAt (((w3.alloc (.cells (cellsF (x)) 31)).alloc (.cells (cellsI (zeroItm)) 33)).alloc (.cells (cellsI (zeroItm)) 33)) (w3.heap.size + 1 + 1) = some (cellsI (zeroItm)) := rowAt_alloc_at _ _ _ _ (by simp only [World.size_alloc])
    have b5 := below_past b4 bq b4.size
    have T5 := Lib.hid (HT.out.below b5)
    clear b4 bq
    go_wp2_with fail
    generalize ((w3.alloc (.cells (cellsF (x)) 31)).alloc (.cells (cellsI (zeroItm)) 33)).alloc (.cells (cellsI (zeroItm)) 33) = W3 at *
    generalize w3.heap.size = g at *
    refine (HAW.out _ T5.out).mono ?_
    rintro e w4 ⟨rfl, b1⟩
    have r3 := rowAt_past b1 r0
    have r4 := rowAt_past b1 r1
    have r5 := rowAt_past b1 r2
    have b6 := below_past b5 b1 b5.size
    clear b5 b1 r0 r1 r2 T5 HAW
    go_wp2_with fail
    refine (HAL.out _).mono ?_
    rintro e w5 ⟨rfl, b1⟩
    have r0 := rowAt_past b1 r3
    have r1 := rowAt_past b1 r4
    have r2 := rowAt_past b1 r5
    have b5 := below_past b6 b1 b6.size
    clear b6 b1 r3 r4 r5 HAL
    have bq := (Below.refl w5.heap.size w5).alloc (Nat.le_refl _) (.cells (cellsF (x)) 37)
    have r6 : rowAt (w5.alloc (.cells (cellsF (x)) 37)) w5.heap.size = some (cellsF (x)) := rowAt_alloc_at _ _ _ _ rfl
    have r3 := rowAt_past bq r0
    have r4 := rowAt_past bq r1
    have r5 := rowAt_past bq r2
    have b6 := below_past b5 bq b5.size
    clear b5 bq r0 r1 r2
    go_wp2_with fail
    generalize w5.alloc (.cells (cellsF (x)) 37) = W5 at *
    generalize w5.heap.size = g5 at *
    refine (HAI.out _).mono ?_
    rintro e w6 ⟨rfl, b1⟩
    have bq := (Below.refl w6.heap.size w6).alloc (Nat.le_refl _) (.cells (cellsN (zeroItm) (zeroItm)) 45)
    have r7 : rowAt (w6.alloc (.cells (cellsN (zeroItm) (zeroItm)) 45)) w6.heap.size = some (cellsN (zeroItm) (zeroItm)) := rowAt_alloc_at _ _ _ _ rfl
    have r0 := rowAt_past bq (rowAt_past b1 r3)
    have r1 := rowAt_past bq (rowAt_past b1 r4)
    have r2 := rowAt_past bq (rowAt_past b1 r5)
    have r8 := rowAt_past bq (rowAt_past b1 r6)
    have b5 := below_past (below_past b6 b1 b6.size) bq (below_past b6 b1 b6.size).size
    clear b6 b1 bq r3 r4 r5 r6 HAI
    go_wp2_with fail
    go_ret
    exact ⟨rfl, b5⟩
set_option maxRecDepth 100000 in
theorem lifted (os : Os) (started : os.Started) (H : Type) (enc : TypeId × Value → H) :
    ReturnsInHanded {} Tryd.checked os 3 .any (fun w args => (Rows.nodeReadsSpec.pre enc Tryd.prog Tryd.f3 [] false w args ∧ laidMetH Tryd.prog laidSha w) ∧ sizedMet enc Tryd.prog Tryd.f3 (OpenSpec.ofChange Rows.nodeReadsSpec) false w args) (Rows.nodeReadsSpec.post enc Tryd.prog Tryd.f3 false true false false) := by
  refine returnsInHanded_of_change_and (C := Tryd.checked) (X := fun w _ => laidMetH Tryd.prog laidSha w) (fun _ _ _ hh h => h.of_heap hh) own started (by kernel_rfl) Tryd.func3
    (ChangeSpec.witness_shaped (enc := enc) (C := Tryd.checked) (os := os) (X := fun w _ => laidMetH Tryd.prog laidSha w) false (World.doorLaid Tryd.prog 2000 os) #[.string ⟨#[]⟩] 8 rfl (World.shaped_of_RefB (by kernel_rfl) (by kernel_rfl)) (by kernel_rfl) (by kernel_rfl) (by kernel_rfl) (door_sha os _)) ?_
  intro W base args ds gs before hval0 hW _ _ hL _
  have hval : ∀ (j : Nat) t v, Tryd.f3.params[j]? = some t → args[j]? = some v → Value.okWide Tryd.prog W .any base t v := hval0
  clear hval0
  have hW' := hW
  obtain ⟨p, q, hA0, hV, rfl, hfz, hnd⟩ := hW
  have hA : DataW.TrodAll enc Tryd.prog W 0 (fun _ => true) true Tryd.f3.params.toList args.toList ds p := hA0
  rw [Tryd.params3] at hA hval
  clear hA0 hfz hnd hV
  have hr : Readable Tryd.f3.params.toList := by
    rw [Tryd.params3]
    exact readable_of_all (by kernel_rfl)
  have fin : ∀ W', Below W.heap.size W W' → Rows.nodeReadsSpec.post enc Tryd.prog Tryd.f3 false true false false W args (.bool true) W' := fun W' hb =>
    law_post rfl hW' hr (fun l hl => by
      rw [Tryd.params3] at hl
      match l, hl with
      | [d1], _ => rfl) (by kernel_rfl) hb
  clear hW' hr
  have HT := cubes_of_laid hL
  obtain ⟨v0, d0, rfl, rfl, h0⟩ := trodAll_one hA; obtain ⟨s, rfl, _, _, w0⟩ := open_string Tryd.underlying9 (hval 0 9 v0 rfl rfl) h0
  exact (walk s W HT).mono fun e W' ⟨he, hb⟩ => ⟨_, he, fin W' hb⟩
theorem row_holds : Rows.NodeReadsSaid :=
  OpenClaim.holds_of_wide 3 Tryd.f3 rfl rfl rfl rfl rfl rfl rfl ⟨rfl, rfl, rfl, rfl, rfl⟩ rfl rfl rfl rfl rfl (by kernel_rfl) Tryd.func3 (by kernel_rfl)
    (of_decide_eq_true (by kernel_rfl)) (by unfold Func.isWrapper; first | (rw [if_pos (by decide +kernel)]; kernel_rfl) | (rw [if_neg (by decide +kernel)]; exact ⟨rfl, rfl⟩))
    (fun os started H enc _ => lifted os started H enc)
theorem proved : Rows.NodeReadsCardSaid :=
  Claim7.holds_tied_plain_at .later [] [.data] true _ true
    row_holds (fun _ h => by cases h) (by kernel_rfl) (fun _ h => by cases h) nodeReads_row_tie rfl ⟨rfl, rfl⟩ (by kernel_rfl) rfl
    (fun f fn hf hfn => by
      obtain rfl : f = 3 := Option.some.inj ((show Tryd.prog.funcNamed "chirograph/chirographlaw15.NodeReads" = some 3 by kernel_rfl).symm.trans hf) |>.symm
      obtain rfl : fn = Tryd.f3 := (Option.some.inj (Tryd.func3.symm.trans hfn)).symm
      exact ⟨by kernel_rfl, fun j t ht => by
        rw [Tryd.params3] at ht
        have hm : t ∈ [9] := by simpa using Array.mem_of_getElem? ht
        have hall : ([9].all fun u => !Tryd.prog.wantsStandIn u) = true := by kernel_rfl
        exact (show Tryd.prog.wantsStandIn t = false by simpa using List.all_eq_true.1 hall t hm)⟩)
    (by kernel_rfl)
end Go.Proofs.YtnffmgpnhlcakaaDoor.nreads
