/- What the document fixes of a journal. Conditions: the tables lie where the program lays them. -/
import Derived.Test.YtlhdnkfnhdkbkaaGreatDoorJour5
namespace Go.Proofs.YtlhdnkfnhdkbkaaGreatDoor
open Go Go.RowKit
attribute [local go_sem] Oper.semAt_some

theorem max1000 : max (1000 : Int) 0 = 1000 := by decide
theorem nm_seven : stx (nm 7) = ⟨#[108, 111, 103, 45, 48, 48, 48, 48, 48, 48, 48, 48, 48, 55]⟩ := by decide +kernel
set_option maxRecDepth 100000 in
set_option maxHeartbeats 1000000 in
theorem awake7 (w : World) (ht : Tabs w) : Calls Tryz.prog 8 #[] w fun e w' => e = .returned (.bool true) ∧ Below w.heap.size w w' := by
  have H0 := Lib.hid (dNew_any 1000 w ⟨by decide, by decide⟩)
  rw [max1000] at H0
  have HNM := Lib.hid (fun w => jName_any 7 w (by decide))
  rw [nm_seven] at HNM
  have HT := Lib.hid ht
  obtain ⟨B, hB⟩ : ∃ B, w.heap.size = B := ⟨_, rfl⟩
  have HB := Lib.hid hB
  rw [hB] at H0 ⊢
  clear ht hB
  go_enter Tryz.func8, Tryz.ntmps8
  go_wp2_with fail
  refine H0.out.mono ?_
  rintro e w1 ⟨q, rfl, hq, d0, b0⟩
  have H1 := Lib.hid (jw_first 1000 (by decide) (by decide) d0 b0 HT.out HB.out)
  clear H0 d0 b0 hq
  go_wp2_with fail
  refine H1.out.mono ?_
  rintro e w2 ⟨j, v, rfl, ov, j0⟩
  obtain ⟨ao, cap, rfl⟩ := own_shape ov
  have H2 := Lib.hid (jw_add j0 [97] (by decide) (by decide))
  clear H1 ov j0
  go_wp2_with fail
  refine H2.out.mono ?_
  rintro e w3 ⟨rfl, j1, u1, s1⟩
  have H3 := Lib.hid (jw_turn j1 (by decide))
  clear H2 s1 j1
  go_wp2_with fail
  refine H3.out.mono ?_
  rintro e w4 ⟨rfl, j2, -⟩
  have H4 := Lib.hid (jw_add j2 [99] (by decide) (by rw [u1]; decide))
  clear H3 j2
  go_wp2_with fail
  refine H4.out.mono ?_
  rintro e w5 ⟨rfl, j3, u2, -⟩
  have H5 := Lib.hid (jw_open j3 (by rw [u2, u1]; decide) (by decide))
  clear H4 j3
  go_wp2_with fail
  refine H5.out.mono ?_
  rintro e w6 ⟨k, v, m, rfl, hm, os, jk, j4, -⟩
  obtain rfl := hm (by simp)
  have H6 := Lib.hid (fun w' (b : Below w6.heap.size w6 w') => jNow_any B k q _ w' (jk.kept b))
  have B6 := Lib.hid j4.bel
  have Z6 := Lib.hid j4.low
  have OS := Lib.hid os
  clear H5 j4 os hm jk
  go_wp2_with fail
  refine (H6.out _ (Below.refl _ _)).mono ?_
  rintro e w7 ⟨rfl, rfl⟩
  have a7 : Below w7.heap.size w7 (w7.alloc (.cells #[.string ⟨#[97]⟩, .string ⟨#[99]⟩] 9)) := (Below.refl _ _).alloc (Nat.le_refl _) _
  have SL : StrsAt (w7.alloc (.cells #[.string ⟨#[97]⟩, .string ⟨#[99]⟩] 9)) (.slice (some ⟨w7.heap.size, 0, none⟩) 2 2) [[97], [99]] := by
    refine ⟨_, _, rfl, fun i hi => ⟨_, rfl, ?_⟩⟩
    have hr := rowAt_alloc_at w7 #[.string ⟨#[97]⟩, .string ⟨#[99]⟩] 9 _ rfl
    match i, hi with
    | 0, _ => exact cell_of_rowAt hr 0
    | 1, _ => exact cell_of_rowAt hr 1
  have HS := Lib.hid (same_any _ _ _ _ ((OS.out.below a7).lie) SL (by decide))
  have B7 := Lib.hid (below_past B6.out a7 Z6.out)
  have Z7 := Lib.hid (Nat.le_trans Z6.out a7.size)
  clear H6 B6 Z6 OS a7 SL
  go_wp2_with fail
  generalize (w7.alloc (.cells #[.string ⟨#[97]⟩, .string ⟨#[99]⟩] 9)) = W7 at *
  refine HS.out.mono ?_
  rintro e w8 ⟨rfl, b8⟩
  have B8 := Lib.hid (below_past B7.out b8 Z7.out)
  have Z8 := Lib.hid (Nat.le_trans Z7.out b8.size)
  clear HS B7 Z7 b8
  go_wp2_with fail
  refine (HNM.out _).mono ?_
  rintro e w9 ⟨rfl, b9⟩
  have B9 := below_past B8.out b9 Z8.out
  clear HNM B8 Z8 b9
  go_wp2_with fail
  go_ret
  exact ⟨rfl, B9⟩
end Go.Proofs.YtlhdnkfnhdkbkaaGreatDoor
