/- The calls whose answers the document fixes, at the head of layer 6's statements: true. Conditions: none. -/
import Derived.Test.YtklbpnbnopiabaaName8
namespace Go.Proofs.Ytklbpnbnopiabaa
open Go Go.RowKit

theorem aw6_1 : chk [97, 46, 46, 98] = (2, 3) := by decide +kernel
theorem aw6_2 : chk [97, 110, 110, 46, 98, 64, 120, 49] = (0, 0) := by decide +kernel
theorem aw6_3 : foldL [195, 132, 66] = [195, 164, 98] := by decide +kernel
theorem aw6_4 : (runesL [195, 164, 98]).length = 2 := by decide +kernel
set_option maxRecDepth 100000 in
theorem awake6 (w : World) : Calls Try.prog 35 #[] w fun e w' => e = .returned (.bool true) ∧ Below w.heap.size w w' := by
  have H1 := Lib.hid (fun w => Check_any ⟨#[97, 46, 46, 98]⟩ w (by decide))
  rw [show (⟨#[97, 46, 46, 98]⟩ : ByteArray).data.toList = [97, 46, 46, 98] from rfl, aw6_1] at H1
  have H2 := Lib.hid (fun w => Check_any ⟨#[97, 110, 110, 46, 98, 64, 120, 49]⟩ w (by decide))
  rw [show (⟨#[97, 110, 110, 46, 98, 64, 120, 49]⟩ : ByteArray).data.toList = [97, 110, 110, 46, 98, 64, 120, 49] from rfl, aw6_2] at H2
  have H3 := Lib.hid (fun w => Fold_any ⟨#[195, 132, 66]⟩ w (by decide))
  rw [show (⟨#[195, 132, 66]⟩ : ByteArray).data.toList = [195, 132, 66] from rfl, aw6_3] at H3
  have H4 := Lib.hid (fun w => Runes_any ⟨#[195, 164, 98]⟩ w (by decide))
  rw [show (⟨#[195, 164, 98]⟩ : ByteArray).data.toList = [195, 164, 98] from rfl, aw6_4] at H4
  unfold ChkR at H1 H2
  go_enter Try.func35, Try.ntmps35
  go_wp2_with fail
  refine (H1.out _).mono ?_
  rintro e w1 ⟨rfl, b1⟩
  go_wp2_with fail
  refine (H2.out _).mono ?_
  rintro e w2 ⟨rfl, b2⟩
  have b3 := below_past b1 b2 b1.size
  clear b1 b2 H1 H2
  go_wp2_with fail
  refine (H3.out _).mono ?_
  rintro e w3 ⟨rfl, b2⟩
  have b4 := below_past b3 b2 b3.size
  clear b3 b2 H3
  go_wp2_with fail
  refine (H4.out _).mono ?_
  rintro e w4 ⟨rfl, b2⟩
  have b5 := below_past b4 b2 b4.size
  clear b4 b2 H4
  go_wp2_with fail
  go_ret
  exact ⟨rfl, b5⟩
end Go.Proofs.Ytklbpnbnopiabaa
