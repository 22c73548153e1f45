/- For every label and number the law BitsGrown returns true. Conditions: none. -/
import Derived.Test.YtlahepdfhfknfaaLaw1
import Derived.Test.YtlahepdfhfknfaaRow
import Derived.Test.YtlahepdfhfknfaaFree
import Derived.Test.YtlahepdfhfknfaaMath3
namespace Go.Proofs.Ytlahepdfhfknfaa.grown
open Go Go.ChangeShapes Go.WideShapes Go.ChangeAt Go.RowKit Go.Proofs.Ytlahepdfhfknfaa

set_option maxRecDepth 100000 in
set_option maxHeartbeats 1000000 in
theorem walk_out (a : Lab) (n : Int) (w : World) (h : n < 0 ∨ 256 < n) : Calls Try.prog 8 #[.agg (cellsL a), .int .i64 n] w fun e w' => e = .returned (.bool true) ∧ Below w.heap.size w w' := by
  have b0 : Below w.heap.size w (w.alloc (.cells (cellsL a) 23)) := (Below.refl _ _).alloc (Nat.le_refl _) _
  go_enter Try.func8, Try.ntmps8
  by_cases h0 : n < 0
  · clear h
    go_wp2_with fail
    refine (awake1 _).mono ?_
    rintro e w6 ⟨rfl, hb3⟩
    have b6 := below_past b0 hb3 b0.size
    go_wp2_with fail
    go_ret
    exact ⟨rfl, b6⟩
  · have h1 : 256 < n := by omega
    clear h
    go_wp2_with fail
    refine (awake1 _).mono ?_
    rintro e w6 ⟨rfl, hb3⟩
    have b6 := below_past b0 hb3 b0.size
    go_wp2_with fail
    go_ret
    exact ⟨rfl, b6⟩

set_option maxRecDepth 100000 in
set_option maxHeartbeats 1000000 in
theorem walk_in (a : Lab) (n : Nat) (w : World) (h : n ≤ 256) : Calls Try.prog 8 #[.agg (cellsL a), .int .i64 n] w fun e w' => e = .returned (.bool true) ∧ Below w.heap.size w w' := by
  have b0 : Below w.heap.size w ((w.alloc (.cells (cellsL a) 23)).alloc (.cells (cellsP 0 zeroLab) 29)) := ((Below.refl _ _).alloc (Nat.le_refl _) _).alloc (by simp only [World.size_alloc]; omega) _
  have r0 : rowAt ((w.alloc (.cells (cellsL a) 23)).alloc (.cells (cellsP 0 zeroLab) 29)) w.heap.size = some (cellsL a) := (rowAt_alloc_past _ _ _ (by simp only [World.size_alloc]; omega)).trans (rowAt_alloc_at _ _ _ _ rfl)
  have r1 : rowAt ((w.alloc (.cells (cellsL a) 23)).alloc (.cells (cellsP 0 zeroLab) 29)) (w.heap.size + 1) = some (cellsP 0 zeroLab) := rowAt_alloc_at _ _ _ _ (by simp only [World.size_alloc])
  have hh : (n : Int) ≤ 256 := by omega
  go_enter Try.func8, Try.ntmps8
  go_wp2_with fail
  generalize (w.alloc (.cells (cellsL a) 23)).alloc (.cells (cellsP 0 zeroLab) 29) = W at *
  go_loopw [6] (fun k wr => ∃ i : Nat, i ≤ n ∧ k = .int .i64 i ∧ rowAt wr w.heap.size = some (cellsL a) ∧ rowAt wr (w.heap.size + 1) = some (cellsP i (cut a i)) ∧ Below w.heap.size w wr) (fun k _ => (n - intOf k).toNat)
  case atStart => exact ⟨0, by omega, rfl, r0, by rw [cut_zero]; exact r1, b0⟩
  case round =>
    obtain ⟨i, hi, rfl, k0, k1, b5⟩ := hrel
    clear r0 r1 b0
    by_cases hlt : i < n
    · have hi256 : i < 256 := by omega
      have hlt' : (i : Int) < n := by omega
      have B1 : ∀ w : World, Calls Try.prog 16 #[.agg (cellsL a), .int .i64 i] w fun e w' => e = .returned (.int .i64 (bit a i)) ∧ Below w.heap.size w w' := fun w => by
        have := Bit_any a i w
        rwa [bitI_nat a i hi256] at this
      have N1 : ∀ w : World, Calls Try.prog 28 #[.agg (cellsP i (cut a i)), .int .i64 (bit a i)] w fun e w' => e = .returned (.tuple #[.agg (cellsP (i + 1) (cut a (i + 1))), .int .i64 0]) ∧ Below w.heap.size w w' := fun w => by
        have := Next_yes i (cut a i) (bit a i) (good_cut a i (by omega)) hi256 (by have := bit_lt a i; omega) w
        rwa [grown_cut a i hi256] at this
      have O1 : ∀ w : World, Calls Try.prog 27 #[.agg (cellsP i (cut a i)), .agg (cellsP (i + 1) (cut a (i + 1)))] w fun e w' => e = .returned (.bool true) ∧ Below w.heap.size w w' := fun w => by
        have := Over_any i (cut a i) (i + 1) (cut a (i + 1)) w
        rwa [show over (i : Int) (cut a i) ((i : Int) + 1) (cut a (i + 1)) = true from over_yes a i (i + 1) (by omega) (by omega)] at this
      have O2 : ∀ w : World, Calls Try.prog 27 #[.agg (cellsP (i + 1) (cut a (i + 1))), .agg (cellsP i (cut a i))] w fun e w' => e = .returned (.bool false) ∧ Below w.heap.size w w' := fun w => by
        have := Over_any (i + 1) (cut a (i + 1)) i (cut a i) w
        rwa [show over ((i : Int) + 1) (cut a (i + 1)) (i : Int) (cut a i) = false from over_no a (i + 1) i (by omega)] at this
      obtain ⟨m, hm⟩ : ∃ m : Int, m = (i : Int) + 1 := ⟨_, rfl⟩
      have HM := Lib.hid hm
      have HL := Lib.hid hlt
      generalize hc : cut a i = c at *
      generalize hca : cut a (i + 1) = ca at *
      rw [← hm] at N1 O1 O2
      clear hm hc hlt
      generalize (bit a i : Int) = x at *
      go_upto_region 7 with fail
      have fa := fun x : Past wr => x.row k0
      have fb := fun x : Past wr => x.row k1
      refine wp_region_late (n := 8) (m := 9) (k := 7) (z := fun _ => cellsP 0 zeroLab) (atS ?lit [some 7]) (by kernel_rfl) (by kernel_rfl) ?hal ?hh ?hT
      case hal =>
        intro j h1 h2
        obtain rfl : j = 8 := by omega
        exact ⟨_, _, 29, rfl, rfl, rfl, by simp, fun a w => by go_simp⟩
      case hh =>
        show wpHead _ _ _ _ [0, 1, 2, 3, 4, 5, 6, 7] _
        repeat (refine wpHead_step rfl (fun K hK => ?_); go_simp; first | (refine hK _ ?_; clear hK K) | (apply Exists.intro; refine ⟨fun _ => ?_, hK _ ?_⟩; (first | (go_at_call 16; exact call_yields (B1 _)) | (go_at_call 28; exact call_yields (N1 _))); clear hK K))
        exact slots_atS _ _
      intro a' w' bs st o2 hst ho2 hb hv hq
      simp only [List.getElem?_toArray, List.getElem?_cons_succ, List.getElem?_cons_zero, Option.some.injEq] at hst ho2
      subst hst ho2
      clear fa fb
      obtain ⟨v8, rfl⟩ := hq
      obtain ⟨o8, ho8, d8, hd8, s8⟩ := hv.slot 8 (by decide) (by decide) (by simp)
      cases ho8
      cases hd8
      obtain ⟨t8, u8⟩ := hv.row 8 (by decide) (by decide) (by simp)
      clear hv
      simp [Act.put] at s8
      subst s8
      generalize bs 8 = h8 at *
      have r0 := rowAt_past hb k0
      have r1 := rowAt_past hb k1
      have b6 := below_past b5 hb b5.size
      have l0 := lt_of_rowAt k0
      have l1 := lt_of_rowAt k1
      have b5s := b5.size
      have c6 := Below.setRow b6 (Nat.le_trans b5s u8) (cellsP m ca)
      have s8 := rowAt_setRow_same t8 (cellsP m ca)
      have s0 := (rowAt_setRow_other w' h8 w.heap.size (cellsP m ca) (Nat.ne_of_lt (Nat.lt_of_lt_of_le l0 u8))).trans r0
      have s1 := (rowAt_setRow_other w' h8 (w.heap.size + 1) (cellsP m ca) (Nat.ne_of_lt (Nat.lt_of_lt_of_le l1 u8))).trans r1
      have n18 := Nat.ne_of_lt (Nat.lt_of_lt_of_le l1 u8)
      refine ⟨w'.setRow h8 (cellsP m ca), ?_, Below.setRow (Below.refl _ _) u8 _, fun w5 hb5 => ?_⟩
      · dsimp only [Act.put, List.setIfInBounds_toArray, List.set_cons_succ, List.set_cons_zero]
        clear B1 N1 O1 O2
        go_simp
      have q0 := rowAt_past hb5 s0
      have q1 := rowAt_past hb5 s1
      have q8 := rowAt_past hb5 s8
      have b7 := below_past c6 hb5 c6.size
      clear hb5 s0 s1 s8 c6 b5s b6 r0 r1 t8 u8 hb k0 k1 b5 l0 l1
      dsimp only [Act.put, List.setIfInBounds_toArray, List.set_cons_succ, List.set_cons_zero]
      go_wp2_with fail
      refine (O1 _).mono ?_
      rintro e w6 ⟨rfl, hb3⟩
      have k0 := rowAt_past hb3 q0
      have k1 := rowAt_past hb3 q1
      have k8 := rowAt_past hb3 q8
      have b8 := below_past b7 hb3 b7.size
      clear q0 q1 q8 hb3 b7
      go_wp2_with fail
      refine (O2 _).mono ?_
      rintro e w7 ⟨rfl, hb3⟩
      have q0 := rowAt_past hb3 k0
      have q1 := rowAt_past hb3 k1
      have q8 := rowAt_past hb3 k8
      have b9 := below_past b8 hb3 b8.size
      clear k0 k1 k8 hb3 b8
      go_wp2_with fail
      go_roundw
      case rel => exact ⟨i + 1, HL.out, by go_num, (rowAt_setRow_other _ _ _ _ (Nat.ne_of_lt (Nat.lt_succ_self _))).trans q0, by rw [hca, show ((i + 1 : Nat) : Int) = m from HM.out.symm]; exact rowAt_setRow_same q1 _, Below.setRow b9 (Nat.le_succ _) _⟩
      case measure => simp [intOf]; omega
    · have hin : i = n := by omega
      subst hin
      have CU : ∀ w : World, Calls Try.prog 22 #[.agg (cellsL a), .int .i64 i] w fun e w' => e = .returned (.agg (cellsP i (cut a i))) ∧ Below w.heap.size w w' := fun w => Cut_nat a i h w
      have H1 : ∀ w : World, Calls Try.prog 26 #[.agg (cellsP i (cut a i)), .agg (cellsL a)] w fun e w' => e = .returned (.bool true) ∧ Below w.heap.size w w' := fun w => by
        have := Has_any i (cut a i) a w
        rwa [has_yes a a i h rfl] at this
      generalize cut a i = c at *
      go_upto_region 11 with fail
      have f0 := fun x : Past wr => x.row k0
      have f1 := fun x : Past wr => x.row k1
      refine wp_region_past (by kernel_rfl) (by kernel_rfl) ?_
      repeat (go_big_quiet_step (first | (go_at_call 15; exact Past.call (awake1 _)) | (go_at_call 22; exact Past.call (CU _)) | (go_at_call 26; exact Past.call (H1 _))))
      refine wpQuiet_nil ?_
      intro w2 hw2
      obtain ⟨⟨wn, hn⟩, rfl⟩ := hw2
      try dsimp only
      have b10 := below_past b5 hn b5.size
      go_wp2_with fail
      go_ret
      exact ⟨rfl, b10⟩

theorem walk (a : Lab) (n : Int) (w : World) : Calls Try.prog 8 #[.agg (cellsL a), .int .i64 n] w fun e w' => e = .returned (.bool true) ∧ Below w.heap.size w w' := by
  by_cases h : n < 0 ∨ 256 < n
  · exact walk_out a n w h
  · obtain ⟨m, rfl⟩ : ∃ m : Nat, n = m := ⟨n.toNat, by omega⟩
    exact walk_in a m w (by omega)

set_option maxRecDepth 100000 in
theorem lifted (os : Os) (started : os.Started) (H : Type) (enc : TypeId × Value → H) :
    ReturnsInHanded {} Try.checked os 8 .any (Rows.bitsGrownSpec.pre6 enc Try.prog Try.f8 Rows.bitsGrownRow.domain false) (Rows.bitsGrownSpec.post enc Try.prog Try.f8 false true false false) := by
  refine returnsInHanded_of_change (C := Try.checked) own started (by kernel_rfl) Try.func8
    (ChangeSpec.witness6 (enc := enc) (C := Try.checked) false ⟨#[], #[.agg (cellsL zeroLab), .int .i64 0], []⟩ 8 (by kernel_rfl) (by kernel_rfl) (by kernel_rfl) (by kernel_rfl)) ?_
  intro W base args ds gs before hval0 hW _ _
  have hval : ∀ (j : Nat) t v, Try.f8.params[j]? = some t → args[j]? = some v → Value.okWide Try.prog W .any base t v := hval0
  clear hval0
  have hW' := hW
  obtain ⟨p, q, hA0, hV, rfl, hfz, hnd⟩ := hW
  have hA : DataW.TrodAll enc Try.prog W 0 (fun _ => true) true Try.f8.params.toList args.toList ds p := hA0
  rw [Try.params8] at hA hval
  clear hA0 hfz hnd hV
  have hr : Readable Try.f8.params.toList := by
    rw [Try.params8]
    exact readable_of_all (by kernel_rfl)
  have fin : ∀ W', Below W.heap.size W W' → Rows.bitsGrownSpec.post enc Try.prog Try.f8 false true false false W args (.bool true) W' := fun W' hb =>
    law_post rfl hW' hr (fun l hl => by
      rw [Try.params8] at hl
      match l, hl with
      | [d1, d2], _ => rfl) (by kernel_rfl) hb
  clear hW' hr
  obtain ⟨v0, v1, d0, d1, p0, p1, rfl, rfl, rfl, h0, h1⟩ := trodAll_two hA; obtain ⟨a, rfl⟩ := open_lab Try.underlying23 Try.underlying5 cellsOf_u8 cellsOf_lab (hval 0 23 v0 rfl rfl) h0; obtain ⟨n, rfl, _, _, w1⟩ := open_int Try.underlying3 (hval 1 3 v1 rfl rfl) h1
  exact (walk a n W).mono fun e W' ⟨he, hb⟩ => ⟨_, he, fin W' hb⟩
theorem proved : Rows.BitsGrownSaid :=
  OpenClaim.holds_of_wide 8 Try.f8 rfl rfl rfl rfl rfl rfl rfl ⟨rfl, rfl, rfl, rfl, rfl⟩ rfl rfl rfl rfl rfl (by kernel_rfl) Try.func8 (by kernel_rfl)
    (of_decide_eq_true (by kernel_rfl)) (by unfold Func.isWrapper; first | (rw [if_pos (by decide +kernel)]; kernel_rfl) | (rw [if_neg (by decide +kernel)]; exact ⟨rfl, rfl⟩))
    (fun os started H enc _ => lifted os started H enc)
end Go.Proofs.Ytlahepdfhfknfaa.grown
