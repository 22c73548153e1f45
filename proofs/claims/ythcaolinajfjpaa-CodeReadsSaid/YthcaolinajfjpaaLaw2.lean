/- The calls whose answers the document fixes, at the head of layer 2's statements: true. Conditions: none. -/
import Derived.Test.YthcaolinajfjpaaCode6
namespace Go.Proofs.Ythcaolinajfjpaa
open Go Go.RowKit

theorem aw_n : added [] 0 (numBytes 300) = [2, 1, 44] := by decide +kernel
theorem aw_t : added (added [2, 1, 44] 0 (numBytes 2)) 0 [97, 98] = [2, 1, 44, 1, 2, 97, 98] := by decide +kernel
theorem aw_s : numS ⟨#[2, 0, 44]⟩ 0 = ⟨#[]⟩ := by decide +kernel
theorem aw_e : numE ⟨#[2, 0, 44]⟩ 0 = 4 := by decide +kernel
theorem aw_v : numV ⟨#[2, 0, 44]⟩ 0 = 0 := by decide +kernel

set_option maxRecDepth 100000 in
theorem awake2 (w : World) : Calls Try.prog 34 #[] w fun e w' => e = .returned (.bool true) ∧ Below w.heap.size w w' := by
  have k0 : WriterAt w.heap.size w.heap.size [] 0 (w.alloc (.cells #[.slice none 0 0, .int .i64 0] 44)) :=
    ⟨none, 0, heap_alloc_new w _, World.ownsRow_nil _ _ _ _, by simp [Value.ownBlock]⟩
  have b0 : Below w.heap.size w (w.alloc (.cells #[.slice none 0 0, .int .i64 0] 44)) := (Below.refl _ _).alloc (Nat.le_refl _) _
  have HN := Lib.hid (Number_any _ _ _ _ 300 _ k0 (by decide) b0.size)
  rw [aw_n, show ((300 : Nat) : Int) = 300 from rfl] at HN
  clear k0
  go_enter Try.func34, Try.ntmps34
  go_wp2_with fail
  refine HN.out.mono ?_
  rintro e w1 ⟨rfl, k1, b1⟩
  have b2 := b0.trans (b1.below (Nat.le_refl _) (Nat.le_refl _))
  have HT := Lib.hid (Text_any _ _ _ _ ⟨#[97, 98]⟩ _ k1 (by decide) b2.size)
  rw [show (ByteArray.mk #[97, 98]).size = 2 from rfl, show (ByteArray.mk #[97, 98]).data.toList = [97, 98] from rfl, aw_t] at HT
  clear HN k1 b0 b1
  go_wp2_with fail
  refine HT.out.mono ?_
  rintro e w2 ⟨rfl, k1, b1⟩
  have b3 := b2.trans (b1.below (Nat.le_refl _) (Nat.le_refl _))
  have HD := Lib.hid (Done_any _ _ _ _ _ k1)
  rw [if_neg (by decide), if_neg (by decide)] at HD
  clear HT k1 b2 b1
  go_wp2_with fail
  refine HD.out.mono ?_
  rintro e w3 ⟨rfl, b1⟩
  have b4 := below_past b3 b1 b3.size
  have HO := Lib.hid (Open_any ⟨#[2, 0, 44]⟩ w3)
  rw [if_pos (by decide)] at HO
  clear HD b3 b1
  go_wp2_with fail
  refine HO.out.mono ?_
  rintro e w4 ⟨rfl, k1, b1⟩
  have b5 := below_past b4 b1 b4.size
  have HR := Lib.hid (RNumber_all _ _ _ _ _ k1)
  rw [aw_s, aw_e, aw_v] at HR
  have s4 := b4.size
  clear HO b4 k1
  generalize w3.heap.size = g at *
  go_wp2_with fail
  refine HR.out.mono ?_
  rintro e w5 ⟨rfl, k1, b6⟩
  have b7 := b5.trans (b6.below s4 s4)
  have HD := Lib.hid (RDone_any _ _ _ _ _ k1)
  rw [if_neg (by decide)] at HD
  clear HR b5 b6 k1
  go_wp2_with fail
  refine HD.out.mono ?_
  rintro e w6 ⟨rfl, b1⟩
  have b8 := below_past b7 b1 b7.size
  go_wp2_with fail
  go_ret
  exact ⟨rfl, b8⟩
end Go.Proofs.Ythcaolinajfjpaa
