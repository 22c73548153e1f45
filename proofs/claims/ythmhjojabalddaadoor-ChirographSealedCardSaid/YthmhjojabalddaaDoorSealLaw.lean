/- The calls whose answers the document fixes, at the head of layer 4's statements: true. Conditions: the tables lie where the program lays them. -/
import Derived.Test.YthmhjojabalddaaDoorSeal4
namespace Go.Proofs.YthmhjojabalddaaDoor
open Go Go.RowKit

theorem aw4_f : frame [] = [94, 0, 0, 0] ++ (be4 (crc [94, 0, 0, 0]) ++ []) := rfl
theorem aw4_all : allR (frame [] ++ frame [] ++ [120]) = ([[], []], 16) := by decide +kernel
theorem aw4_crc : crc [49, 50, 51, 52, 53, 54, 55, 56, 57] = 3421780262 := by decide +kernel
set_option maxRecDepth 100000 in
theorem awake4 (w : World) (ht : Tabs w) : Calls Tryd.prog 27 #[] w fun e w' => e = .returned (.bool true) ∧ Below w.heap.size w w' := by
  have HW := Lib.hid (Wrap_any ⟨#[]⟩ w (Nat.zero_le _) ht)
  rw [show (⟨#[]⟩ : ByteArray).data.toList = [] from rfl] at HW
  have HA : Hid (∀ w, Tabs w → Calls Tryd.prog 25 #[.string (stx (frame [] ++ frame [] ++ [120]))] w (AllRet w (frame [] ++ frame [] ++ [120]))) := Lib.hid fun w ht => All_any (stx (frame [] ++ frame [] ++ [120])) w (by rw [stx_size]; decide) ht
  have HC : Hid (∀ w, Tabs w → Calls Tryd.prog 32 #[.string ⟨#[49, 50, 51, 52, 53, 54, 55, 56, 57]⟩] w fun e w' => e = .returned (.int .u32 3421780262) ∧ Below w.heap.size w w') := Lib.hid fun w ht => by
    have := Check_any ⟨#[49, 50, 51, 52, 53, 54, 55, 56, 57]⟩ w (by decide) ht
    rw [show (⟨#[49, 50, 51, 52, 53, 54, 55, 56, 57]⟩ : ByteArray).data.toList = [49, 50, 51, 52, 53, 54, 55, 56, 57] from rfl, aw4_crc] at this
    exact this
  have HT := Lib.hid ht
  have z1 : (stx (frame [])).size = 8 := by rw [stx_size]; rfl
  have z2 : (stx (frame []) ++ stx (frame [])).size = 16 := by rw [ByteArray.size_append, z1]
  have hcat : Hid (stx (frame []) ++ stx (frame []) ++ ⟨#[120]⟩ = stx (frame [] ++ frame [] ++ [120])) := Lib.hid ((congrArg (· ++ stx [120]) (stx_append (frame []) (frame []))).trans (stx_append _ [120]))
  clear ht
  generalize hF : stx (frame []) = F at *
  clear hF
  go_enter Tryd.func27, Tryd.ntmps27
  go_wp2_with fail
  refine HW.out.mono ?_
  rintro e w1 ⟨rfl, b1⟩
  have T1 := Lib.hid (HT.out.below b1)
  clear HW
  go_wp2_with fail
  rw [hcat.out]
  refine (HA.out _ T1.out).mono ?_
  rintro e w2 ⟨v, rfl, ow, b2⟩
  rw [aw4_all] at ow ⊢
  obtain ⟨ao, cap, rfl⟩ := ow.shape
  have b3 := below_past b1 b2 b1.size
  have T2 := Lib.hid (HT.out.below b3)
  clear HA ow b1 b2 T1
  go_wp2_with fail
  refine (HC.out _ T2.out).mono ?_
  rintro e w3 ⟨rfl, b4⟩
  have b5 := below_past b3 b4 b3.size
  clear HC b3 b4
  go_wp2_with fail
  go_ret
  exact ⟨rfl, b5⟩

end Go.Proofs.YthmhjojabalddaaDoor
