/- Frames are made and opened. Conditions: the tables lie where the program lays them. -/
import Derived.Test.YtlhdnkfnhdkbkaaGreatDoorSeal1
namespace Go.Proofs.YtlhdnkfnhdkbkaaGreatDoor
open Go Go.RowKit

set_option maxRecDepth 100000 in
theorem Wrap_big (s : ByteArray) (w : World) (hs : 65536 < s.size) :
    Calls Tryz.prog 30 #[.string s] w fun e w' => e = .returned (.tuple #[.string ⟨#[]⟩, .int .i64 2]) ∧ Below w.heap.size w w' := by
  have hs' : decide (65536 < (s.size : Int)) = true := decide_eq_true (by omega)
  clear hs
  go_enter Tryz.func30, Tryz.ntmps30
  go_wp2_with fail
  go_ret2
  exact ⟨rfl, Below.refl _ _⟩
set_option maxRecDepth 100000 in
theorem Wrap_any (s : ByteArray) (w : World) (hs : s.size ≤ 65536) (ht : Tabs w) :
    Calls Tryz.prog 30 #[.string s] w fun e w' => e = .returned (.tuple #[.string (stx (frame s.data.toList)), .int .i64 0]) ∧ Below w.heap.size w w' := by
  have hs' : decide (65536 < (s.size : Int)) = false := decide_eq_false (by omega)
  obtain ⟨n, hn⟩ : ∃ n, s.size = n := ⟨_, rfl⟩
  rw [hn] at hs'
  have hor : bits .or .u32 1577058304 (n : Int) = ((1577058304 + n : Nat) : Int) := by
    have h := u32_or_nat 1577058304 n (by decide) (by omega)
    rw [show ((1577058304 : Nat) : Int) = 1577058304 from rfl] at h
    rw [h]
    exact congrArg Nat.cast (or_add 94 n 24 (by omega))
  have H1 : ∀ w, Hid (Calls Tryz.prog 45 #[.int .u32 (1577058304 + (n : Int))] w fun e w' => e = .returned (.string (stx (sizeB n))) ∧ Below w.heap.size w w') := fun w => Lib.hid (by
    have := spelled_any (1577058304 + n) w (by omega)
    rwa [show ((1577058304 + n : Nat) : Int) = 1577058304 + (n : Int) by omega] at this)
  have H2 : ∀ w, Tabs w → Hid (Calls Tryz.prog 46 #[.string (stx (sizeB n)), .string s] w fun e w' => e = .returned (.int .u32 (crc (sizeB n ++ s.data.toList))) ∧ Below w.heap.size w w') := fun w ht => Lib.hid (joint_any _ s w (by rw [stx_size]; show 4 ≤ _; decide) (by omega) ht)
  have H3 : ∀ w, Hid (Calls Tryz.prog 45 #[.int .u32 (crc (sizeB n ++ s.data.toList))] w fun e w' => e = .returned (.string (stx (be4 (crc (sizeB n ++ s.data.toList))))) ∧ Below w.heap.size w w') := fun w => Lib.hid (spelled_any _ w (crc_lt _))
  have HF : Hid (stx (sizeB n) ++ stx (be4 (crc (sizeB n ++ s.data.toList))) ++ s = stx (frame s.data.toList)) := Lib.hid (by
    rw [show s = stx s.data.toList from rfl, stx_append, stx_append, frame, List.append_assoc]
    rw [show s.data.toList.length = s.size from rfl, hn])
  have hn1 : (n : Int) ≤ 65536 := by omega
  have z1 : (stx (sizeB n)).size = 4 := by rw [stx_size]; rfl
  have z2 : (stx (be4 (crc (sizeB n ++ s.data.toList)))).size = 4 := by rw [stx_size]; rfl
  have HT := Lib.hid ht
  generalize crc (sizeB n ++ s.data.toList) = k at *
  generalize stx (be4 k) = B at *
  generalize stx (sizeB n) = A at *
  have hs2 : s.size ≤ 65536 := hs
  clear hs ht
  go_enter Tryz.func30, Tryz.ntmps30
  go_wp2_with fail
  refine (H1 _).out.mono ?_
  rintro e w1 ⟨rfl, b1⟩
  have T1 := Lib.hid (HT.out.below b1)
  go_wp2_with fail
  refine (H2 _ T1.out).out.mono ?_
  rintro e w2 ⟨rfl, b2⟩
  have b3 := below_past b1 b2 b1.size
  clear b1 b2 T1
  go_wp2_with fail
  refine (H3 _).out.mono ?_
  rintro e w3 ⟨rfl, b1⟩
  have b4 := below_past b3 b1 b3.size
  clear b1 b3
  have hz : (A ++ B).size = 8 := by rw [ByteArray.size_append, z1, z2]
  have hz2 : (A ++ B ++ s).size = 8 + n := by rw [ByteArray.size_append, hz, hn]
  go_wp2_with fail
  go_ret2
  exact ⟨by rw [← HF.out]; rfl, b4⟩
end Go.Proofs.YtlhdnkfnhdkbkaaGreatDoor
