/- For every label and text the law BitsHex returns true. Conditions: none. -/
import Derived.Test.YtlahepdfhfknfaaLaw1
import Derived.Test.YtlahepdfhfknfaaRow
import Derived.Test.YtlahepdfhfknfaaBuilder
import Derived.Test.YtlahepdfhfknfaaFree
import Derived.ChangeMaps5
namespace Go.Proofs.Ytlahepdfhfknfaa.hex
open Go Go.ChangeMaps Go.ChangeShapes Go.WideShapes Go.ChangeAt Go.RowKit Go.Proofs.Ytlahepdfhfknfaa

set_option maxRecDepth 100000 in
set_option maxHeartbeats 1000000 in
theorem yes (a x : Lab) (s t : ByteArray) (w : World)
    (RD : ∀ w : World, Calls Try.prog 30 #[.string s] w fun e w' => e = .returned (.tuple #[.agg (cellsL x), .int .i64 0]) ∧ Below w.heap.size w w')
    (RR : ∀ w : World, Calls Try.prog 31 #[.string s] w fun e w' => e = .returned (.tuple #[.agg (cellsL x), .bool true]) ∧ Below w.heap.size w w')
    (HX : ∀ w : World, Calls Try.prog 32 #[.agg (cellsL a)] w fun e w' => e = .returned (.string t) ∧ Below w.heap.size w w')
    (RX : ∀ w : World, Calls Try.prog 33 #[.agg (cellsL a)] w fun e w' => e = .returned (.string t) ∧ Below w.heap.size w w') :
    Calls Try.prog 6 #[.agg (cellsL a), .string s] w fun e w' => e = .returned (.bool true) ∧ Below w.heap.size w w' := by
  have b0 : Below w.heap.size w (w.alloc (.cells (cellsL a) 23)) := (Below.refl _ _).alloc (Nat.le_refl _) _
  have r0 : rowAt (w.alloc (.cells (cellsL a) 23)) w.heap.size = some (cellsL a) := rowAt_alloc_at _ _ _ _ rfl
  go_enter Try.func6, Try.ntmps6
  go_wp2_with fail
  generalize w.alloc (.cells (cellsL a) 23) = W at *
  refine (RD _).mono ?_
  rintro e w1 ⟨rfl, hb1⟩
  have q0 := rowAt_past hb1 r0
  have l0 := lt_of_rowAt q0
  have b1 := below_past b0 hb1 b0.size
  have q1 := (rowAt_alloc_past w1 (.cells (cellsL x) 23) _ l0).trans q0
  have q2 := rowAt_alloc_at w1 (cellsL x) 23 _ rfl
  have b2 := b1.alloc b1.size (.cells (cellsL x) 23)
  clear hb1 b0 r0
  go_wp2_with fail
  clear b1 q0 l0
  generalize w1.heap.size = h1 at *
  generalize w1.alloc (.cells (cellsL x) 23) = W1 at *
  refine (RR _).mono ?_
  rintro e w2 ⟨rfl, hb2⟩
  have r0 := rowAt_past hb2 q1
  have r1 := rowAt_past hb2 q2
  have b3 := below_past b2 hb2 b2.size
  have l0 := lt_of_rowAt r0
  have l1 := lt_of_rowAt r1
  have q3 := (rowAt_alloc_past w2 (.cells (cellsL x) 23) _ l0).trans r0
  have q4 := (rowAt_alloc_past w2 (.cells (cellsL x) 23) _ l1).trans r1
  have q5 := rowAt_alloc_at w2 (cellsL x) 23 _ rfl
  have b4 := b3.alloc b3.size (.cells (cellsL x) 23)
  clear hb2 b2 q1 q2
  go_upto_region 3 with fail
  clear b3 r0 r1 l0 l1
  generalize w2.heap.size = h2 at *
  generalize w2.alloc (.cells (cellsL x) 23) = W2 at *
  have fa := fun y : Past W2 => y.row q3
  have fb := fun y : Past W2 => y.row q4
  have fc := fun y : Past W2 => y.row q5
  refine wp_region_past (by kernel_rfl) (by kernel_rfl) ?_
  repeat (go_big_quiet_step (first | (go_at_call 15; exact Past.call (awake1 _)) | (go_at_call 32; exact Past.call (HX _)) | (go_at_call 33; exact Past.call (RX _))))
  refine wpQuiet_nil ?_
  intro w2 hw2
  obtain ⟨⟨wn, hn⟩, rfl⟩ := hw2
  try dsimp only
  have b5 := below_past b4 hn b4.size
  go_wp2_with fail
  go_ret
  exact ⟨rfl, b5⟩
set_option maxRecDepth 100000 in
set_option maxHeartbeats 1000000 in
theorem no (a x : Lab) (s t : ByteArray) (w : World)
    (RD : ∀ w : World, Calls Try.prog 30 #[.string s] w fun e w' => e = .returned (.tuple #[.agg (cellsL x), .int .i64 4]) ∧ Below w.heap.size w w')
    (RR : ∀ w : World, Calls Try.prog 31 #[.string s] w fun e w' => e = .returned (.tuple #[.agg (cellsL x), .bool false]) ∧ Below w.heap.size w w')
    (HX : ∀ w : World, Calls Try.prog 32 #[.agg (cellsL a)] w fun e w' => e = .returned (.string t) ∧ Below w.heap.size w w')
    (RX : ∀ w : World, Calls Try.prog 33 #[.agg (cellsL a)] w fun e w' => e = .returned (.string t) ∧ Below w.heap.size w w') :
    Calls Try.prog 6 #[.agg (cellsL a), .string s] w fun e w' => e = .returned (.bool true) ∧ Below w.heap.size w w' := by
  have b0 : Below w.heap.size w (w.alloc (.cells (cellsL a) 23)) := (Below.refl _ _).alloc (Nat.le_refl _) _
  have r0 : rowAt (w.alloc (.cells (cellsL a) 23)) w.heap.size = some (cellsL a) := rowAt_alloc_at _ _ _ _ rfl
  go_enter Try.func6, Try.ntmps6
  go_wp2_with fail
  generalize w.alloc (.cells (cellsL a) 23) = W at *
  refine (RD _).mono ?_
  rintro e w1 ⟨rfl, hb1⟩
  have q0 := rowAt_past hb1 r0
  have l0 := lt_of_rowAt q0
  have b1 := below_past b0 hb1 b0.size
  have q1 := (rowAt_alloc_past w1 (.cells (cellsL x) 23) _ l0).trans q0
  have q2 := rowAt_alloc_at w1 (cellsL x) 23 _ rfl
  have b2 := b1.alloc b1.size (.cells (cellsL x) 23)
  clear hb1 b0 r0
  go_wp2_with fail
  clear b1 q0 l0
  generalize w1.heap.size = h1 at *
  generalize w1.alloc (.cells (cellsL x) 23) = W1 at *
  refine (RR _).mono ?_
  rintro e w2 ⟨rfl, hb2⟩
  have r0 := rowAt_past hb2 q1
  have r1 := rowAt_past hb2 q2
  have b3 := below_past b2 hb2 b2.size
  have l0 := lt_of_rowAt r0
  have l1 := lt_of_rowAt r1
  have q3 := (rowAt_alloc_past w2 (.cells (cellsL x) 23) _ l0).trans r0
  have q4 := (rowAt_alloc_past w2 (.cells (cellsL x) 23) _ l1).trans r1
  have q5 := rowAt_alloc_at w2 (cellsL x) 23 _ rfl
  have b4 := b3.alloc b3.size (.cells (cellsL x) 23)
  clear hb2 b2 q1 q2
  go_upto_region 3 with fail
  clear b3 r0 r1 l0 l1
  generalize w2.heap.size = h2 at *
  generalize w2.alloc (.cells (cellsL x) 23) = W2 at *
  have fa := fun y : Past W2 => y.row q3
  have fb := fun y : Past W2 => y.row q4
  have fc := fun y : Past W2 => y.row q5
  refine wp_region_past (by kernel_rfl) (by kernel_rfl) ?_
  repeat (go_big_quiet_step (first | (go_at_call 15; exact Past.call (awake1 _)) | (go_at_call 32; exact Past.call (HX _)) | (go_at_call 33; exact Past.call (RX _))))
  refine wpQuiet_nil ?_
  intro w2 hw2
  obtain ⟨⟨wn, hn⟩, rfl⟩ := hw2
  try dsimp only
  have b5 := below_past b4 hn b4.size
  go_wp2_with fail
  go_ret
  exact ⟨rfl, b5⟩
theorem walk (a : Lab) (s : ByteArray) (w : World) : Calls Try.prog 6 #[.agg (cellsL a), .string s] w fun e w' => e = .returned (.bool true) ∧ Below w.heap.size w w' := by
  by_cases h : s.size = 64
  · by_cases ho : okTo s 32
    · exact yes a (readTo s 32) s _ w (fun w => by have := Read_yes s h w; rwa [if_pos ho] at this) (fun w => by have := rRead_yes s h w; rwa [if_pos ho] at this) (fun w => Hex_any a w) (fun w => rHex_any a w)
    · exact no a zeroLab s _ w (fun w => by have := Read_yes s h w; rwa [if_neg ho] at this) (fun w => by have := rRead_yes s h w; rwa [if_neg ho] at this) (fun w => Hex_any a w) (fun w => rHex_any a w)
  · exact no a zeroLab s _ w (fun w => Read_no s h w) (fun w => rRead_no s h w) (fun w => Hex_any a w) (fun w => rHex_any a w)

set_option maxRecDepth 100000 in
theorem lifted (os : Os) (started : os.Started) (H : Type) (enc : TypeId × Value → H) :
    ReturnsInHanded {} Try.checked os 6 .any (Rows.bitsHexSpec.pre6 enc Try.prog Try.f6 Rows.bitsHexRow.domain false) (Rows.bitsHexSpec.post enc Try.prog Try.f6 false true false false) := by
  refine returnsInHanded_of_change (C := Try.checked) own started (by kernel_rfl) Try.func6
    (ChangeSpec.witness6 (enc := enc) (C := Try.checked) false ⟨#[], #[.agg (cellsL zeroLab), .string ⟨#[]⟩], []⟩ 8 (by kernel_rfl) (by kernel_rfl) (by kernel_rfl) (by kernel_rfl)) ?_
  intro W base args ds gs before hval0 hW _ _
  have hval : ∀ (j : Nat) t v, Try.f6.params[j]? = some t → args[j]? = some v → Value.okWide Try.prog W .any base t v := hval0
  clear hval0
  have hW' := hW
  obtain ⟨p, q, hA0, hV, rfl, hfz, hnd⟩ := hW
  have hA : DataW.TrodAll enc Try.prog W 0 (fun _ => true) true Try.f6.params.toList args.toList ds p := hA0
  rw [Try.params6] at hA hval
  clear hA0 hfz hnd hV
  have hr : Readable Try.f6.params.toList := by
    rw [Try.params6]
    exact readable_of_all (by kernel_rfl)
  have fin : ∀ W', Below W.heap.size W W' → Rows.bitsHexSpec.post enc Try.prog Try.f6 false true false false W args (.bool true) W' := fun W' hb =>
    law_post rfl hW' hr (fun l hl => by
      rw [Try.params6] at hl
      match l, hl with
      | [d1, d2], _ => rfl) (by kernel_rfl) hb
  clear hW' hr
  obtain ⟨v0, v1, d0, d1, p0, p1, rfl, rfl, rfl, h0, h1⟩ := trodAll_two hA; obtain ⟨a, rfl⟩ := open_lab Try.underlying23 Try.underlying5 cellsOf_u8 cellsOf_lab (hval 0 23 v0 rfl rfl) h0; obtain ⟨s, rfl, _, _, w1⟩ := open_string Try.underlying9 (hval 1 9 v1 rfl rfl) h1
  exact (walk a s W).mono fun e W' ⟨he, hb⟩ => ⟨_, he, fin W' hb⟩
theorem proved : Rows.BitsHexSaid :=
  OpenClaim.holds_of_wide 6 Try.f6 rfl rfl rfl rfl rfl rfl rfl ⟨rfl, rfl, rfl, rfl, rfl⟩ rfl rfl rfl rfl rfl (by kernel_rfl) Try.func6 (by kernel_rfl)
    (of_decide_eq_true (by kernel_rfl)) (by unfold Func.isWrapper; first | (rw [if_pos (by decide +kernel)]; kernel_rfl) | (rw [if_neg (by decide +kernel)]; exact ⟨rfl, rfl⟩))
    (fun os started H enc _ => lifted os started H enc)
end Go.Proofs.Ytlahepdfhfknfaa.hex
