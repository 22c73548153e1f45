/- For every byte the law ShaTables returns true: the constants of the document are those that it reckons out of the primes, and the program's sums of nothing and of one byte are the document's. Conditions: the listed table is as the program lays it. -/
import Derived.Test.YthmhjojabalddaaDoorRoot6
import Derived.Test.YthmhjojabalddaaDoorToks
import Derived.Test.YthmhjojabalddaaDoorShaLaw
import Derived.Test.YthmhjojabalddaaDoorShaTabs
import Derived.Test.YthmhjojabalddaaDoorShaRef5
import Derived.Test.YthmhjojabalddaaDoorTie
import Derived.Test.YthmhjojabalddaaDoorCards
import Derived.SevenTiedAt
namespace Go.Proofs.YthmhjojabalddaaDoor.tables
open Go Go.ChangeShapes Go.WideShapes Go.ChangeAt Go.ChangeMaps Go.RowKit Go.Proofs.YthmhjojabalddaaDoor

theorem conv_kept (c : UInt8) (w w2 : World) (h : Below (w.alloc (.cells #[.int .u8 (c.toNat : Int)] 5)).heap.size (w.alloc (.cells #[.int .u8 (c.toNat : Int)] 5)) w2) : (convert 33 9 (.slice (some ⟨w.heap.size, 0, none⟩) 1 1)).run Tryd.prog w2 = .ok (.string (stx [c])) w2 := by
  have r := rowAt_past h (rowAt_alloc_at w #[.int .u8 (c.toNat : Int)] 5 _ rfl)
  refine run_convert_bytes_back _ _ _ _ ⟨w.heap.size, 0, none⟩ 1 [c] Tryd.underlying33 Tryd.underlying5 Tryd.underlying9 fun j hj => ?_
  rw [show (⟨w.heap.size, 0, none⟩ : Addr).add j = ⟨w.heap.size, j, none⟩ by simp [Addr.add]; exact fun e => e.symm, cell_of_rowAt r]
  match j, hj with
  | 0, _ => rfl
theorem begs_wv (i : Nat) (h : i < 8) : rcell (begN.getD i 0) = .int .u32 (wv (ivW.get i)) := by
  have : ((List.range 8).all fun i => begN.getD i 0 == (ivW.get i).toNat) = true := by decide +kernel
  have := List.all_eq_true.1 this i (List.mem_range.2 h)
  rw [beq_iff_eq] at this
  rw [rcell, this]
theorem steps_wv (i : Nat) (h : i < 64) : rcell (cubesL.getD i 0) = .int .u32 (wv (stepsK.get i)) := by
  rw [stepsK_get _ h, cubesL_wv i h, rcell]
/-- The two lists as cells. -/
theorem list_cells {w : World} {B : Nat} {e : TypeId} {v : Value} {L : List Nat} (h : OwnF w B e v (L.map rcell)) (hL : 0 < L.length) : ∃ g cap, v = .slice (some ⟨g, 0, none⟩) L.length cap ∧ L.length ≤ cap ∧ ∀ i, i < L.length → w.cell? ⟨g, i, none⟩ = some (rcell (L.getD i 0)) := by
  obtain ⟨g, cap, h1, h2, _, h3⟩ := h.cell (i := 0) (by rw [List.length_map]; exact hL)
  rw [List.length_map] at h1 h2
  refine ⟨g, cap, h1, h2, fun i hi => ?_⟩
  rw [h3 i (by rw [List.length_map]; exact hi), List.getElem?_map, List.getD_eq_getElem?_getD, List.getElem?_eq_getElem hi]
  rfl
set_option maxRecDepth 100000 in
set_option maxHeartbeats 4000000 in
theorem walk (c : UInt8) (w : World) (ht : Cubes w) : Calls Tryd.prog 6 #[.int .u8 (c.toNat : Int)] w fun e w' => e = .returned (.bool true) ∧ Below w.heap.size w w' := by
  have HT := Lib.hid ht
  have HTB := Lib.hid (Tables_any w)
  unfold TabsRet at HTB
  rw [begs_eval, steps_eval] at HTB
  clear ht
  go_enter Tryd.func6, Tryd.ntmps6
  go_wp2_with fail
  refine HTB.out.mono ?_
  rintro e w1 ⟨vh, vk, rfl, oh, ok, b1⟩
  obtain ⟨gh, ch, rfl, hch, hh⟩ := list_cells oh (by decide)
  obtain ⟨gk, ck, rfl, hck, hk⟩ := list_cells ok (by decide)
  rw [show begN.length = 8 from rfl] at hch hh ⊢
  rw [show cubesL.length = 64 from rfl] at hck hk ⊢
  have HH : Hid (∀ i, i < 8 → w1.cell? ⟨gh, i, none⟩ = some (.int .u32 (wv (ivW.get i)))) := Lib.hid fun i hi => by rw [hh i hi, begs_wv i hi]
  have HK : Hid (∀ i, i < 64 → w1.cell? ⟨gk, i, none⟩ = some (.int .u32 (wv (stepsK.get i)))) := Lib.hid fun i hi => by rw [hk i hi, steps_wv i hi]
  clear oh ok hh hk HTB
  go_wp2_with fail
  refine (r3Begin_any _).mono ?_
  rintro e w2 ⟨rfl, b2⟩
  have b3 := below_past b1 b2 b1.size
  have H2 : Hid (∀ i, i < 8 → w2.cell? ⟨gh, i, none⟩ = some (.int .u32 (wv (ivW.get i)))) := Lib.hid fun i hi => (b2.cell (p := ⟨gh, i, none⟩) (cellLt (HH.out i hi))).trans (HH.out i hi)
  have K2 : Hid (∀ i, i < 64 → w2.cell? ⟨gk, i, none⟩ = some (.int .u32 (wv (stepsK.get i)))) := Lib.hid fun i hi => (b2.cell (p := ⟨gk, i, none⟩) (cellLt (HK.out i hi))).trans (HK.out i hi)
  clear HH HK b1 b2
  go_wp2_with fail
  go_loopw [22] (fun x wr => ∃ i : Nat, i ≤ 8 ∧ x = .int .i64 i ∧ wr = w2) (fun x _ => (8 - intOf x).toNat)
  case atStart => exact ⟨0, by omega, rfl, rfl⟩
  case round =>
    obtain ⟨i, hi, rfl, rfl⟩ := hrel
    by_cases hlt : i < 8
    · have hlt' : (i : Int) < 8 := by omega
      have c1 := H2.out i hlt
      have hq : (wv (ivW.get i) != wv (ivW.get i)) = false := by simp
      go_wp2_with fail
      exact ⟨⟨i + 1, hlt, by go_num, trivial⟩, by simp [intOf]; omega⟩
    · obtain rfl : i = 8 := by omega
      rw [show ((8 : Nat) : Int) = 8 from rfl]
      go_wp2_with fail
      refine (r3Steps_any _).mono ?_
      rintro e w3 ⟨rfl, b2⟩
      have b4 := below_past b3 b2 b3.size
      have H3 : Hid (∀ i, i < 8 → w3.cell? ⟨gh, i, none⟩ = some (.int .u32 (wv (ivW.get i)))) := Lib.hid fun i hi => (b2.cell (p := ⟨gh, i, none⟩) (cellLt (H2.out i hi))).trans (H2.out i hi)
      have K3 : Hid (∀ i, i < 64 → w3.cell? ⟨gk, i, none⟩ = some (.int .u32 (wv (stepsK.get i)))) := Lib.hid fun i hi => (b2.cell (p := ⟨gk, i, none⟩) (cellLt (K2.out i hi))).trans (K2.out i hi)
      clear H2 K2 b2 b3
      go_wp2_with fail
      go_loopw [34] (fun x wr => ∃ i : Nat, i ≤ 64 ∧ x = .int .i64 i ∧ wr = w3) (fun x _ => (64 - intOf x).toNat)
      case atStart => exact ⟨0, by omega, rfl, rfl⟩
      case round =>
        obtain ⟨i, hi, rfl, rfl⟩ := hrel
        by_cases hlt : i < 64
        · have hlt' : (i : Int) < 64 := by omega
          have c1 := K3.out i hlt
          have hq : (wv (stepsK.get i) != wv (stepsK.get i)) = false := by simp
          go_wp2_with fail
          exact ⟨⟨i + 1, hlt, by go_num, trivial⟩, by simp [intOf]; omega⟩
        · obtain rfl : i = 64 := by omega
          rw [show ((64 : Nat) : Int) = 64 from rfl]
          have d0 : ∀ y : Past wr, y.w.cell? ⟨gh, 0, none⟩ = some (.int .u32 1779033703) := fun y => (y.h.cell (p := ⟨gh, 0, none⟩) (cellLt (H3.out 0 (by decide)))).trans (H3.out 0 (by decide))
          have d1 : ∀ y : Past wr, y.w.cell? ⟨gk, 0, none⟩ = some (.int .u32 1116352408) := fun y => (y.h.cell (p := ⟨gk, 0, none⟩) (cellLt (K3.out 0 (by decide)))).trans (K3.out 0 (by decide))
          have d2 : ∀ y : Past wr, y.w.cell? ⟨gk, 63, none⟩ = some (.int .u32 3329325298) := fun y => (y.h.cell (p := ⟨gk, 63, none⟩) (cellLt (K3.out 63 (by decide)))).trans (K3.out 63 (by decide))
          have hc0 : (0 : Int) ≤ c.toNat := by omega
          have hc1 : (c.toNat : Int) < 256 := by have := c.toNat_lt; omega
          have HB : Hid (w.heap.size ≤ wr.heap.size) := Lib.hid b4.size
          have T0 : Hid (Cubes wr) := Lib.hid (HT.out.below b4)
          have HA : Hid (∀ w', Below wr.heap.size wr w' → Calls Tryd.prog 12 #[] w' fun e w'' => e = .returned (.bool true) ∧ Below w'.heap.size w' w'') := Lib.hid fun w' hr => awake3 w' (T0.out.below hr)
          have HS0 : Hid (∀ w', Below wr.heap.size wr w' → Calls Tryd.prog 13 #[.string ⟨#[]⟩] w' fun e w'' => e = .returned (.agg (cellsL (shaLab []))) ∧ Below w'.heap.size w' w'') := Lib.hid fun w' hr => Sum_any ⟨#[]⟩ w' (T0.out.below hr) (by decide)
          have HR0 : Hid (∀ w', Calls Tryd.prog 14 #[.string ⟨#[]⟩] w' fun e w'' => e = .returned (.agg (cellsL (shaLab []))) ∧ Below w'.heap.size w' w'') := Lib.hid fun w' => r3Sum_any ⟨#[]⟩ w' (by decide)
          have HS1 : Hid (∀ w', Below wr.heap.size wr w' → Calls Tryd.prog 13 #[.string (stx [c])] w' fun e w'' => e = .returned (.agg (cellsL (shaLab [c]))) ∧ Below w'.heap.size w' w'') := Lib.hid fun w' hr => Sum_any (stx [c]) w' (T0.out.below hr) (by rw [stx_size, List.length_singleton]; omega)
          have HR1 : Hid (∀ w', Calls Tryd.prog 14 #[.string (stx [c])] w' fun e w'' => e = .returned (.agg (cellsL (shaLab [c]))) ∧ Below w'.heap.size w' w'') := Lib.hid fun w' => r3Sum_any (stx [c]) w' (by rw [stx_size, List.length_singleton]; omega)
          have HC0 : ∀ w w2 : World, Below (w.alloc (.cells #[.int .u8 (c.toNat : Int)] 5)).heap.size (w.alloc (.cells #[.int .u8 (c.toNat : Int)] 5)) w2 → Hid ((convert 33 9 (.slice (some ⟨w.heap.size, 0, none⟩) 1 1)).run Tryd.prog w2 = .ok (.string (stx [c])) w2) := fun w w2 h => Lib.hid (conv_kept c w w2 h)
          have HC := Lib.hid HC0
          clear HC0 H3 K3
          generalize shaLab [] = L0 at *
          generalize shaLab [c] = L1 at *
          generalize stx [c] = B1 at *
          have hl0 : decide (L0 = L0) = true := decide_eq_true rfl
          have hl1 : decide (L1 = L1) = true := decide_eq_true rfl
          clear HT hck hch
          have RA : ∃ R : Nat → Value → World → Prop, R 26 = (fun v W' => ∃ g, v = .slice (some ⟨g, 0, none⟩) 1 1 ∧ ∀ y : Past W', (convert 33 9 v).run Tryd.prog y.w = .ok (.string B1) y.w) ∧ R 30 = (fun v W' => ∃ g, v = .slice (some ⟨g, 0, none⟩) 1 1 ∧ ∀ y : Past W', (convert 33 9 v).run Tryd.prog y.w = .ok (.string B1) y.w) := ⟨fun _ => _, rfl, rfl⟩
          obtain ⟨R, hR1, hR2⟩ := RA
          have HS : Hid (∀ i ∈ [26, 30], ∃ v W', Below wr.heap.size wr W' ∧ R i v W') := Lib.hid (by
            have : ∃ v W', Below wr.heap.size wr W' ∧ ∃ g, v = .slice (some ⟨g, 0, none⟩) 1 1 ∧ ∀ y : Past W', (convert 33 9 v).run Tryd.prog y.w = .ok (.string B1) y.w :=
              ⟨_, wr.alloc (.cells #[.int .u8 (c.toNat : Int)] 5), (Below.refl _ _).alloc (Nat.le_refl _) _, wr.heap.size, rfl, fun y => (HC.out wr y.w y.h).out⟩
            intro i hi
            rcases List.mem_cons.1 hi with rfl | hi
            · rw [hR1]; exact this
            · rcases List.mem_cons.1 hi with rfl | hi
              · rw [hR2]; exact this
              · cases hi)
          as_aux_lemma =>
            go_wp2_with fail
            refine wp_region_tok [26, 30] 36 R (by kernel_rfl) (by kernel_rfl) HS.out ?_
            intro τ hτ
            rcases e1 : τ 26 with ⟨v1, W1⟩
            rcases e2 : τ 30 with ⟨v2, W2⟩
            have t1 := hτ 26 (by simp)
            have t2 := hτ 30 (by simp)
            rw [e1, hR1] at t1
            rw [e2, hR2] at t2
            dsimp only at t1 t2
            obtain ⟨hb1, g1, rfl, hc1⟩ := t1
            obtain ⟨hb2, g2, rfl, hc2⟩ := t2
            clear HS hτ
            simp only [List.take_succ_cons, List.take_nil]
            refine tokL_call (by decide) (by kernel_rfl) (by kernel_rfl) ?_
            apply Exists.intro
            refine And.intro ?_ ?_
            focus
              intro x hg
              unfold Oper.quietAt
              go_simp
              (exact call_yields (HA.out _ x.h))
            simp only [Act.put, List.setIfInBounds_toArray, List.set_cons_succ, List.set_cons_zero]
            iterate 19 (refine tokL_val (by decide) (by kernel_rfl) rfl ?_; intro K hK; go_big_quiet_op; go_big_quiet_on)
            refine tokL_call (by decide) (by kernel_rfl) (by kernel_rfl) ?_
            apply Exists.intro
            refine And.intro ?_ ?_
            focus
              intro x hg
              unfold Oper.quietAt
              go_simp
              (exact call_yields (HS0.out _ x.h))
            simp only [Act.put, List.setIfInBounds_toArray, List.set_cons_succ, List.set_cons_zero]
            refine tokL_call (by decide) (by kernel_rfl) (by kernel_rfl) ?_
            apply Exists.intro
            refine And.intro ?_ ?_
            focus
              intro x hg
              unfold Oper.quietAt
              go_simp
              (exact call_yields (HR0.out _))
            simp only [Act.put, List.setIfInBounds_toArray, List.set_cons_succ, List.set_cons_zero]
            iterate 4 (refine tokL_val (by decide) (by kernel_rfl) rfl ?_; intro K hK; go_big_quiet_op; go_big_quiet_on)
            refine tokL_tok e1 (by decide) (by kernel_rfl) ?_ ?_
            focus
              intro x hg
              unfold wildAt
              go_simp
              (exact ⟨(Below.refl _ _).alloc (Nat.le_refl _) _, fun y => (HC.out _ _ y.h).out⟩)
            simp only [Act.put, List.setIfInBounds_toArray, List.set_cons_succ, List.set_cons_zero]
            refine tokL_val1 26 e1 (by decide) (by kernel_rfl) (by decide) (by kernel_rfl) rfl ?_; intro K hK; go_big_quiet_op; go_big_quiet_on
            refine tokL_call (by decide) (by kernel_rfl) (by kernel_rfl) ?_
            apply Exists.intro
            refine And.intro ?_ ?_
            focus
              intro x hg
              unfold Oper.quietAt
              go_simp
              (exact call_yields (HS1.out _ x.h))
            simp only [Act.put, List.setIfInBounds_toArray, List.set_cons_succ, List.set_cons_zero]
            iterate 1 (refine tokL_val (by decide) (by kernel_rfl) rfl ?_; intro K hK; go_big_quiet_op; go_big_quiet_on)
            refine tokL_tok e2 (by decide) (by kernel_rfl) ?_ ?_
            focus
              intro x hg
              unfold wildAt
              go_simp
              (exact ⟨(Below.refl _ _).alloc (Nat.le_refl _) _, fun y => (HC.out _ _ y.h).out⟩)
            simp only [Act.put, List.setIfInBounds_toArray, List.set_cons_succ, List.set_cons_zero]
            refine tokL_val1 30 e2 (by decide) (by kernel_rfl) (by decide) (by kernel_rfl) rfl ?_; intro K hK; go_big_quiet_op; go_big_quiet_on
            refine tokL_call (by decide) (by kernel_rfl) (by kernel_rfl) ?_
            apply Exists.intro
            refine And.intro ?_ ?_
            focus
              intro x hg
              unfold Oper.quietAt
              go_simp
              (exact call_yields (HR1.out _))
            simp only [Act.put, List.setIfInBounds_toArray, List.set_cons_succ, List.set_cons_zero]
            iterate 3 (refine tokL_val (by decide) (by kernel_rfl) rfl ?_; intro K hK; go_big_quiet_op; go_big_quiet_on)
            refine tokL_nil ?_
            simp only [List.drop_succ_cons, List.drop_nil]
            intro z hz
            have bZ := hz.1
            go_wp2_with fail
            go_ret
            exact ⟨rfl, below_past b4 bZ HB.out⟩
set_option maxRecDepth 100000 in
theorem lifted (os : Os) (started : os.Started) (H : Type) (enc : TypeId × Value → H) :
    ReturnsInHanded {} Tryd.checked os 6 .any (fun w args => (Rows.shaTablesSpec.pre enc Tryd.prog Tryd.f6 [] false w args ∧ laidMetH Tryd.prog laidSha w) ∧ sizedMet enc Tryd.prog Tryd.f6 (OpenSpec.ofChange Rows.shaTablesSpec) false w args) (Rows.shaTablesSpec.post enc Tryd.prog Tryd.f6 false true false false) := by
  refine returnsInHanded_of_change_and (C := Tryd.checked) (X := fun w _ => laidMetH Tryd.prog laidSha w) (fun _ _ _ hh h => h.of_heap hh) own started (by kernel_rfl) Tryd.func6
    (ChangeSpec.witness_shaped (enc := enc) (C := Tryd.checked) (os := os) (X := fun w _ => laidMetH Tryd.prog laidSha w) false (World.doorLaid Tryd.prog 2000 os) #[.int .u8 0] 8 rfl (World.shaped_of_RefB (by kernel_rfl) (by kernel_rfl)) (by kernel_rfl) (by kernel_rfl) (by kernel_rfl) (door_sha os _)) ?_
  intro W base args ds gs before hval0 hW _ _ hL _
  have hval : ∀ (j : Nat) t v, Tryd.f6.params[j]? = some t → args[j]? = some v → Value.okWide Tryd.prog W .any base t v := hval0
  clear hval0
  have hW' := hW
  obtain ⟨p, q, hA0, hV, rfl, hfz, hnd⟩ := hW
  have hA : DataW.TrodAll enc Tryd.prog W 0 (fun _ => true) true Tryd.f6.params.toList args.toList ds p := hA0
  rw [Tryd.params6] at hA hval
  clear hA0 hfz hnd hV
  have hr : Readable Tryd.f6.params.toList := by
    rw [Tryd.params6]
    exact readable_of_all (by kernel_rfl)
  have fin : ∀ W', Below W.heap.size W W' → Rows.shaTablesSpec.post enc Tryd.prog Tryd.f6 false true false false W args (.bool true) W' := fun W' hb =>
    law_post rfl hW' hr (fun l hl => by
      rw [Tryd.params6] at hl
      match l, hl with
      | [d1], _ => rfl) (by kernel_rfl) hb
  clear hW' hr
  have HT := cubes_of_laid hL
  obtain ⟨v0, d0, rfl, rfl, h0⟩ := trodAll_one hA; obtain ⟨p8, rfl⟩ := in_byte Tryd.underlying5 (hval 0 5 v0 rfl rfl) h0
  exact (walk p8 W HT).mono fun e W' ⟨he, hb⟩ => ⟨_, he, fin W' hb⟩
theorem row_holds : Rows.ShaTablesSaid :=
  OpenClaim.holds_of_wide 6 Tryd.f6 rfl rfl rfl rfl rfl rfl rfl ⟨rfl, rfl, rfl, rfl, rfl⟩ rfl rfl rfl rfl rfl (by kernel_rfl) Tryd.func6 (by kernel_rfl)
    (of_decide_eq_true (by kernel_rfl)) (by unfold Func.isWrapper; first | (rw [if_pos (by decide +kernel)]; kernel_rfl) | (rw [if_neg (by decide +kernel)]; exact ⟨rfl, rfl⟩))
    (fun os started H enc _ => lifted os started H enc)
theorem proved : Rows.ShaTablesCardSaid :=
  Claim7.holds_tied_plain_at .later [] [.data] true _ false
    row_holds (fun _ h => by cases h) (by kernel_rfl) (fun _ h => by cases h) shaTables_row_tie rfl ⟨rfl, rfl⟩ (by kernel_rfl) rfl
    (fun f fn hf hfn => by
      obtain rfl : f = 6 := Option.some.inj ((show Tryd.prog.funcNamed "chirograph/chirographlaw03.ShaTables" = some 6 by kernel_rfl).symm.trans hf) |>.symm
      obtain rfl : fn = Tryd.f6 := (Option.some.inj (Tryd.func6.symm.trans hfn)).symm
      exact ⟨by kernel_rfl, fun j t ht => by
        rw [Tryd.params6] at ht
        have hm : t ∈ [5] := by simpa using Array.mem_of_getElem? ht
        have hall : ([5].all fun u => !Tryd.prog.wantsStandIn u) = true := by kernel_rfl
        exact (show Tryd.prog.wantsStandIn t = false by simpa using List.all_eq_true.1 hall t hm)⟩)
    (by kernel_rfl)
end Go.Proofs.YthmhjojabalddaaDoor.tables
