/- For every two labels the law BitsRead returns true. Conditions: none. -/
import Derived.Test.YtlahepdfhfknfaaLaw1
import Derived.Test.YtlahepdfhfknfaaRow
import Derived.Test.YtlahepdfhfknfaaHexMath
namespace Go.Proofs.Ytlahepdfhfknfaa.back
open Go Go.ChangeShapes Go.WideShapes Go.ChangeAt Go.RowKit Go.Proofs.Ytlahepdfhfknfaa

set_option maxRecDepth 100000 in
set_option maxHeartbeats 1000000 in
theorem piece (a b : Lab) (s t : ByteArray) (o : Int) (v : Bool) (w : World)
    (HX : ∀ l u, (l = a ∧ u = s ∨ l = b ∧ u = t) → ∀ w : World, Calls Try.prog 32 #[.agg (cellsL l)] w fun e w' => e = .returned (.string u) ∧ Below w.heap.size w w')
    (RD : ∀ w : World, Calls Try.prog 30 #[.string s] w fun e w' => e = .returned (.tuple #[.agg (cellsL a), .int .i64 0]) ∧ Below w.heap.size w w')
    (OR : ∀ w : World, Calls Try.prog 18 #[.agg (cellsL a), .agg (cellsL b)] w fun e w' => e = .returned (.int .i64 o) ∧ Below w.heap.size w w')
    (hs : s.size = 64) (hl : Op.bytesLess s.toList t.toList = v) (ho : decide (o < 0) = v) :
    Calls Try.prog 9 #[.agg (cellsL a), .agg (cellsL b)] w fun e w' => e = .returned (.bool true) ∧ Below w.heap.size w w' := by
  have b0 : Below w.heap.size w ((w.alloc (.cells (cellsL a) 23)).alloc (.cells (cellsL b) 23)) := ((Below.refl _ _).alloc (Nat.le_refl _) _).alloc (by simp only [World.size_alloc]; omega) _
  have r0 : rowAt ((w.alloc (.cells (cellsL a) 23)).alloc (.cells (cellsL b) 23)) w.heap.size = some (cellsL a) := (rowAt_alloc_past _ _ _ (by simp only [World.size_alloc]; omega)).trans (rowAt_alloc_at _ _ _ _ rfl)
  have r1 : rowAt ((w.alloc (.cells (cellsL a) 23)).alloc (.cells (cellsL b) 23)) (w.heap.size + 1) = some (cellsL b) := rowAt_alloc_at _ _ _ _ (by simp only [World.size_alloc])
  go_enter Try.func9, Try.ntmps9
  go_upto_region 1 with fail
  generalize (w.alloc (.cells (cellsL a) 23)).alloc (.cells (cellsL b) 23) = W at *
  have fa := fun y : Past W => y.row r0
  have fb := fun y : Past W => y.row r1
  refine wp_region_past (by kernel_rfl) (by kernel_rfl) ?_
  repeat (go_big_quiet_step ((go_at_call 32; exact Past.call (HX _ _ (by first | exact .inl ⟨rfl, rfl⟩ | exact .inr ⟨rfl, rfl⟩) _))))
  refine wpQuiet_nil ?_
  intro w2 hw2
  obtain ⟨⟨wn, hn⟩, rfl⟩ := hw2
  try dsimp only
  have b1 := below_past b0 hn b0.size
  have q0 := rowAt_past hn r0
  have q1 := rowAt_past hn r1
  clear fa fb hn r0 r1 b0
  go_wp2_with fail
  refine (RD _).mono ?_
  rintro e w3 ⟨rfl, hb2⟩
  have r0 := rowAt_past hb2 q0
  have r1 := rowAt_past hb2 q1
  have l0 := lt_of_rowAt r0
  have l1 := lt_of_rowAt r1
  have b3 := below_past b1 hb2 b1.size
  have q3 := (rowAt_alloc_past w3 (.cells (cellsL a) 23) _ l0).trans r0
  have q4 := (rowAt_alloc_past w3 (.cells (cellsL a) 23) _ l1).trans r1
  have q5 := rowAt_alloc_at w3 (cellsL a) 23 _ rfl
  have b4 := b3.alloc b3.size (.cells (cellsL a) 23)
  clear hb2 b1 q0 q1
  go_upto_region 3 with fail
  clear b3 r0 r1 l0 l1
  generalize w3.heap.size = h3 at *
  generalize w3.alloc (.cells (cellsL a) 23) = W3 at *
  go_wp2_with fail
  refine (OR _).mono ?_
  rintro e w4 ⟨rfl, hb2⟩
  have r0 := rowAt_past hb2 q3
  have r1 := rowAt_past hb2 q4
  have r2 := rowAt_past hb2 q5
  have b5 := below_past b4 hb2 b4.size
  clear hb2 q3 q4 q5 b4
  go_wp2_with fail
  refine (awake1 _).mono ?_
  rintro e w5 ⟨rfl, hb2⟩
  have q0 := rowAt_past hb2 r0
  have q1 := rowAt_past hb2 r1
  have q2 := rowAt_past hb2 r2
  have b6 := below_past b5 hb2 b5.size
  clear hb2 r0 r1 r2 b5
  go_wp2_with fail
  go_ret
  exact ⟨rfl, b6⟩

theorem walk (a b : Lab) (w : World) : Calls Try.prog 9 #[.agg (cellsL a), .agg (cellsL b)] w fun e w' => e = .returned (.bool true) ∧ Below w.heap.size w w' := by
  refine piece a b (hexOf a) (hexOf b) (order a b) (decide (order a b < 0)) w ?_ ?_ (fun w => Order_any a b w) (hexOf_size a) (hexOf_less a b) rfl
  · rintro l u (⟨rfl, rfl⟩ | ⟨rfl, rfl⟩) w
    · exact Hex_any _ w
    · exact Hex_any _ w
  · intro w
    have := Read_yes (hexOf a) (hexOf_size a) w
    rwa [if_pos (hexOf_ok a), hexOf_read] at this

set_option maxRecDepth 100000 in
theorem lifted (os : Os) (started : os.Started) (H : Type) (enc : TypeId × Value → H) :
    ReturnsInHanded {} Try.checked os 9 .any (Rows.bitsReadSpec.pre6 enc Try.prog Try.f9 Rows.bitsReadRow.domain false) (Rows.bitsReadSpec.post enc Try.prog Try.f9 false true false false) := by
  refine returnsInHanded_of_change (C := Try.checked) own started (by kernel_rfl) Try.func9
    (ChangeSpec.witness6 (enc := enc) (C := Try.checked) false ⟨#[], #[.agg (cellsL zeroLab), .agg (cellsL zeroLab)], []⟩ 8 (by kernel_rfl) (by kernel_rfl) (by kernel_rfl) (by kernel_rfl)) ?_
  intro W base args ds gs before hval0 hW _ _
  have hval : ∀ (j : Nat) t v, Try.f9.params[j]? = some t → args[j]? = some v → Value.okWide Try.prog W .any base t v := hval0
  clear hval0
  have hW' := hW
  obtain ⟨p, q, hA0, hV, rfl, hfz, hnd⟩ := hW
  have hA : DataW.TrodAll enc Try.prog W 0 (fun _ => true) true Try.f9.params.toList args.toList ds p := hA0
  rw [Try.params9] at hA hval
  clear hA0 hfz hnd hV
  have hr : Readable Try.f9.params.toList := by
    rw [Try.params9]
    exact readable_of_all (by kernel_rfl)
  have fin : ∀ W', Below W.heap.size W W' → Rows.bitsReadSpec.post enc Try.prog Try.f9 false true false false W args (.bool true) W' := fun W' hb =>
    law_post rfl hW' hr (fun l hl => by
      rw [Try.params9] at hl
      match l, hl with
      | [d1, d2], _ => rfl) (by kernel_rfl) hb
  clear hW' hr
  obtain ⟨v0, v1, d0, d1, p0, p1, rfl, rfl, rfl, h0, h1⟩ := trodAll_two hA; obtain ⟨a, rfl⟩ := open_lab Try.underlying23 Try.underlying5 cellsOf_u8 cellsOf_lab (hval 0 23 v0 rfl rfl) h0; obtain ⟨b, rfl⟩ := open_lab Try.underlying23 Try.underlying5 cellsOf_u8 cellsOf_lab (hval 1 23 v1 rfl rfl) h1
  exact (walk a b W).mono fun e W' ⟨he, hb⟩ => ⟨_, he, fin W' hb⟩
theorem proved : Rows.BitsReadSaid :=
  OpenClaim.holds_of_wide 9 Try.f9 rfl rfl rfl rfl rfl rfl rfl ⟨rfl, rfl, rfl, rfl, rfl⟩ rfl rfl rfl rfl rfl (by kernel_rfl) Try.func9 (by kernel_rfl)
    (of_decide_eq_true (by kernel_rfl)) (by unfold Func.isWrapper; first | (rw [if_pos (by decide +kernel)]; kernel_rfl) | (rw [if_neg (by decide +kernel)]; exact ⟨rfl, rfl⟩))
    (fun os started H enc _ => lifted os started H enc)
end Go.Proofs.Ytlahepdfhfknfaa.back
