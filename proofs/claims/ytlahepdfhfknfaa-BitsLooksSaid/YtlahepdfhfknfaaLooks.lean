/- For every two labels and every number the law BitsLooks returns true. Conditions: none. -/
import Derived.Test.YtlahepdfhfknfaaLaw1
import Derived.Test.YtlahepdfhfknfaaRow
namespace Go.Proofs.Ytlahepdfhfknfaa.looks
open Go Go.ChangeShapes Go.WideShapes Go.ChangeAt Go.RowKit Go.Proofs.Ytlahepdfhfknfaa

theorem walk (a b : Lab) (i : Int) (w : World) : Calls Try.prog 3 #[.agg (cellsL a), .agg (cellsL b), .int .i64 i] w fun e w' => e = .returned (.bool true) ∧ Below w.heap.size w w' := by
  have b0 : Below w.heap.size w ((w.alloc (.cells (cellsL a) 23)).alloc (.cells (cellsL b) 23)) := ((Below.refl _ _).alloc (Nat.le_refl _) _).alloc (by simp only [World.size_alloc]; omega) _
  have r0 : rowAt ((w.alloc (.cells (cellsL a) 23)).alloc (.cells (cellsL b) 23)) w.heap.size = some (cellsL a) := (rowAt_alloc_past _ _ _ (by simp only [World.size_alloc]; omega)).trans (rowAt_alloc_at _ _ _ _ rfl)
  have r1 : rowAt ((w.alloc (.cells (cellsL a) 23)).alloc (.cells (cellsL b) 23)) (w.heap.size + 1) = some (cellsL b) := rowAt_alloc_at _ _ _ _ (by simp only [World.size_alloc])
  go_enter Try.func3, Try.ntmps3
  go_wp2_with fail
  generalize (w.alloc (.cells (cellsL a) 23)).alloc (.cells (cellsL b) 23) = W at *
  have fa := fun x : Past W => x.row r0
  have fb := fun x : Past W => x.row r1
  refine wp_region_past (by kernel_rfl) (by kernel_rfl) ?_
  repeat (go_big_quiet_step (first | (go_at_call 15; exact Past.call (awake1 _)) | (go_at_call 16; exact Past.call (Bit_any _ _ _)) | (go_at_call 17; exact Past.call (rBit_any _ _ _)) | (go_at_call 18; exact Past.call (Order_any _ _ _)) | (go_at_call 19; exact Past.call (rOrder_any _ _ _)) | (go_at_call 20; exact Past.call (Common_any _ _ _)) | (go_at_call 21; exact Past.call (rCommon_any _ _ _))))
  refine wpQuiet_nil ?_
  intro w2 hw2
  obtain ⟨⟨wn, hn⟩, rfl⟩ := hw2
  try dsimp only
  go_wp2_with fail
  go_ret
  exact ⟨rfl, below_past b0 hn b0.size⟩

set_option maxRecDepth 100000 in
theorem lifted (os : Os) (started : os.Started) (H : Type) (enc : TypeId × Value → H) :
    ReturnsInHanded {} Try.checked os 3 .any (Rows.bitsLooksSpec.pre6 enc Try.prog Try.f3 Rows.bitsLooksRow.domain false) (Rows.bitsLooksSpec.post enc Try.prog Try.f3 false true false false) := by
  refine returnsInHanded_of_change (C := Try.checked) own started (by kernel_rfl) Try.func3
    (ChangeSpec.witness6 (enc := enc) (C := Try.checked) false ⟨#[], #[.agg (cellsL zeroLab), .agg (cellsL zeroLab), .int .i64 0], []⟩ 8 (by kernel_rfl) (by kernel_rfl) (by kernel_rfl) (by kernel_rfl)) ?_
  intro W base args ds gs before hval0 hW _ _
  have hval : ∀ (j : Nat) t v, Try.f3.params[j]? = some t → args[j]? = some v → Value.okWide Try.prog W .any base t v := hval0
  clear hval0
  have hW' := hW
  obtain ⟨p, q, hA0, hV, rfl, hfz, hnd⟩ := hW
  have hA : DataW.TrodAll enc Try.prog W 0 (fun _ => true) true Try.f3.params.toList args.toList ds p := hA0
  rw [Try.params3] at hA hval
  clear hA0 hfz hnd hV
  have hr : Readable Try.f3.params.toList := by
    rw [Try.params3]
    exact readable_of_all (by kernel_rfl)
  have fin : ∀ W', Below W.heap.size W W' → Rows.bitsLooksSpec.post enc Try.prog Try.f3 false true false false W args (.bool true) W' := fun W' hb =>
    law_post rfl hW' hr (fun l hl => by
      rw [Try.params3] at hl
      match l, hl with
      | [d1, d2, d3], _ => rfl) (by kernel_rfl) hb
  clear hW' hr
  obtain ⟨v0, v1, v2, d0, d1, d2, p0, p1, p2, rfl, rfl, rfl, h0, h1, h2⟩ := trodAll_three hA; obtain ⟨a, rfl⟩ := open_lab Try.underlying23 Try.underlying5 cellsOf_u8 cellsOf_lab (hval 0 23 v0 rfl rfl) h0; obtain ⟨b, rfl⟩ := open_lab Try.underlying23 Try.underlying5 cellsOf_u8 cellsOf_lab (hval 1 23 v1 rfl rfl) h1; obtain ⟨i, rfl, _, _, wi⟩ := open_int Try.underlying3 (hval 2 3 v2 rfl rfl) h2
  exact (walk a b i W).mono fun e W' ⟨he, hb⟩ => ⟨_, he, fin W' hb⟩
theorem proved : Rows.BitsLooksSaid :=
  OpenClaim.holds_of_wide 3 Try.f3 rfl rfl rfl rfl rfl rfl rfl ⟨rfl, rfl, rfl, rfl, rfl⟩ rfl rfl rfl rfl rfl (by kernel_rfl) Try.func3 (by kernel_rfl)
    (of_decide_eq_true (by kernel_rfl)) (by unfold Func.isWrapper; first | (rw [if_pos (by decide +kernel)]; kernel_rfl) | (rw [if_neg (by decide +kernel)]; exact ⟨rfl, rfl⟩))
    (fun os started H enc _ => lifted os started H enc)
end Go.Proofs.Ytlahepdfhfknfaa.looks
