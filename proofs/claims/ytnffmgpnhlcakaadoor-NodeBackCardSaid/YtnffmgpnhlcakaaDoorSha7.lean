/- The sum of a text. Conditions: the table lies where the program lays it. -/
import Derived.Test.YtnffmgpnhlcakaaDoorSha6
namespace Go.Proofs.YtnffmgpnhlcakaaDoor
open Go Go.RowKit

theorem sums_new {w : World} {b : Nat} (h : rowAt w b = some (cellsR ivW zeroB 0)) : Sums w b [] := ⟨zeroB, h, rfl⟩
set_option maxRecDepth 100000 in
set_option maxHeartbeats 1000000 in
theorem Sum_any (s : ByteArray) (w : World) (ht : Cubes w) (hs : s.size ≤ 900000) :
    Calls Tryd.prog 37 #[.string s] w fun e w' => e = .returned (.agg (cellsL (shaLab s.data.toList))) ∧ Below w.heap.size w w' := by
  have hg := ht.global
  have hn1 : w.heap.size + 1 ≠ 0 := by omega
  have b0 : Below w.heap.size w (w.alloc (.cells (cellsL zeroLab) 29)) := (Below.refl _ _).alloc (Nat.le_refl _) _
  have r0 := rowAt_alloc_at w (cellsL zeroLab) 29 _ rfl
  have HB := Lib.hid (begin_any (w.alloc (.cells (cellsL zeroLab) 29)))
  have HT := Lib.hid ht
  have HA := Lib.hid (fun b w hs ht hb => add_any b [] s.data.toList w hs ht hb (by show 0 + s.size ≤ _; omega))
  have HD := Lib.hid (fun b w hs' ht hb => done_any b s.data.toList w hs' ht hb (by show s.size ≤ _; exact hs))
  rw [show stx s.data.toList = s from rfl] at HA
  rw [List.nil_append] at HA
  generalize s.data.toList = L at *
  clear ht hs hg
  go_enter Tryd.func37, Tryd.ntmps37
  go_wp2_with fail
  refine HB.out.mono ?_
  rintro e w1 ⟨rfl, b1⟩
  have hz1 : w.heap.size < w1.heap.size := by have := b1.size; simp only [World.size_alloc] at this; omega
  have b2 := below_past b0 b1 b0.size
  have r1 := rowAt_past b1 r0
  have r2 := rowAt_alloc_at w1 (cellsR ivW zeroB 0) 113 _ rfl
  have r3 := rowAt_past ((Below.refl _ _).alloc (Nat.le_refl _) (.cells (cellsR ivW zeroB 0) 113)) r1
  have b3 := b2.alloc b2.size (.cells (cellsR ivW zeroB 0) 113)
  have S1 := Lib.hid (sums_new r2)
  have T1 := Lib.hid (HT.out.below b3)
  have hne : w1.heap.size ≠ 0 := by have := HT.out.global; omega
  clear HB b0 b1 b2 r0 r1 r2
  go_wp2_with fail
  refine (HA.out _ _ S1.out T1.out hne).mono ?_
  rintro e w2 ⟨rfl, s2, k2⟩
  have b4 := k2.below b3 (Nat.le_of_lt hz1) b3.size
  have r4 := k2.row r3 (Nat.ne_of_lt hz1)
  have S2 := Lib.hid s2
  have T2 := Lib.hid (T1.out.but k2 hne)
  clear s2 k2 r3 b3 S1 T1
  go_wp2_with fail
  refine (HD.out _ _ S2.out T2.out hne).mono ?_
  rintro e w3 ⟨rfl, k3⟩
  have b5 := k3.below b4 (Nat.le_of_lt hz1) b4.size
  have r5 := k3.row r4 (Nat.ne_of_lt hz1)
  clear k3 r4 b4 S2 T2
  go_wp2_with fail
  exact row_ret_labS rfl rfl rfl (rowAt_setRow_same r5 _) ⟨rfl, Below.setRow b5 (Nat.le_refl _) _⟩
end Go.Proofs.YtnffmgpnhlcakaaDoor
