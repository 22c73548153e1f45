/- What stands for seeds and values; the document's bytes of them. Conditions: the table of the rounds' constants lies where the program lays it. -/
import Derived.Test.YtlldcgofjibdjaaDoorLabel1
import Derived.Test.YtlldcgofjibdjaaDoorShaRef1
import Derived.Test.YtlldcgofjibdjaaDoorPuts
import Derived.Test.YtlldcgofjibdjaaDoorLabs
namespace Go.Proofs.YtlldcgofjibdjaaDoor
open Go Go.RowKit

theorem strs_at1 (w : World) (t : List UInt8) (n : Nat) (hn : n = w.heap.size) : StrsAt (w.alloc (.cells #[.string (stx t)] 9)) (.slice (some ⟨n, 0, none⟩) 1 1) [t] := by
  subst hn
  refine ⟨_, _, rfl, fun i hi => ⟨w.heap.size, rfl, ?_⟩⟩
  obtain rfl : i = 0 := by simpa using hi
  exact cell_of_rowAt (rowAt_alloc_at w _ 9 _ rfl) 0
theorem strs_at2 (w : World) (t u : List UInt8) (n : Nat) (hn : n = w.heap.size) : StrsAt (w.alloc (.cells #[.string (stx t), .string (stx u)] 9)) (.slice (some ⟨n, 0, none⟩) 2 2) [t, u] := by
  subst hn
  refine ⟨_, _, rfl, fun i hi => ⟨w.heap.size, rfl, ?_⟩⟩
  have hi : i < 2 := hi
  rcases (by omega : i = 0 ∨ i = 1) with rfl | rfl
  · exact cell_of_rowAt (rowAt_alloc_at w _ 9 _ rfl) 0
  · exact cell_of_rowAt (rowAt_alloc_at w _ 9 _ rfl) 1
theorem strs_at0 (w : World) : StrsAt w (.slice none 0 0) [] := ⟨none, 0, rfl, fun i hi => absurd hi (Nat.not_lt_zero i)⟩
/-- What stands for a tag and texts. -/
def tagL (c : UInt8) (ts : List (List UInt8)) : Lab := shaLab (joinL c ts)

set_option maxRecDepth 100000 in
set_option maxHeartbeats 1000000 in
theorem Fresh_any (a : Lab) (w : World) (ht : Cubes w) : Calls Tryd.prog 18 #[.agg (cellsL a)] w fun e w' => e = .returned (.agg (cellsL (tagL 2 [a.l]))) ∧ Below w.heap.size w w' := by
  have b0 : Below w.heap.size w ((w.alloc (.cells (cellsL a) 23)).alloc (.cells (cellsL zeroLab) 23)) := ((Below.refl _ _).alloc (Nat.le_refl _) _).alloc (by simp only [World.size_alloc]; omega) _
  have r0 : rowAt ((w.alloc (.cells (cellsL a) 23)).alloc (.cells (cellsL zeroLab) 23)) w.heap.size = some (cellsL a) := (rowAt_alloc_past _ _ _ (by simp only [World.size_alloc]; omega)).trans (rowAt_alloc_at _ _ _ _ rfl)
  have r1 : rowAt ((w.alloc (.cells (cellsL a) 23)).alloc (.cells (cellsL zeroLab) 23)) (w.heap.size + 1) = some (cellsL zeroLab) := rowAt_alloc_at _ _ _ _ (by simp only [World.size_alloc])
  have T0 := Lib.hid (ht.below b0)
  have HJ := Lib.hid (fun v w hv ht => Joined_any 2 v [a.l] w hv ht (by simp) (by intro t h; obtain rfl := List.mem_singleton.1 h; rw [a.h]; decide))
  have HC := Lib.hid (conv_lab a _ _ r0)
  rw [show (((2 : UInt8).toNat : Nat) : Int) = 2 from rfl] at HJ
  unfold tagL
  clear ht
  go_enter Tryd.func18, Tryd.ntmps18
  go_wp2_with fail
  try rw [HC.out]
  try simp only [Result.andThen]
  try rw [Oper.upon_value]
  generalize (w.alloc (.cells (cellsL a) 23)).alloc (.cells (cellsL zeroLab) 23) = W at *
  have hst := strs_at1 W a.l _ rfl
  have bq : Below W.heap.size W (W.alloc (.cells #[.string (stx a.l)] 9)) := (Below.refl _ _).alloc (Nat.le_refl _) _
  have HJ2 := Lib.hid (HJ.out _ _ hst (T0.out.below bq))
  have r2 := rowAt_past bq r1
  have b2 := below_past b0 bq b0.size
  clear hst bq T0 r0 r1 b0 HC HJ
  go_wp2_with fail
  refine HJ2.out.mono ?_
  rintro e w1 ⟨rfl, b1⟩
  have r3 := rowAt_past b1 r2
  have b3 := below_past b2 b1 b2.size
  clear HJ2 b1 b2 r2
  go_wp2_with fail
  exact row_ret_labS rfl rfl rfl (rowAt_setRow_same r3 _) ⟨rfl, Below.setRow b3 (Nat.le_succ _) _⟩
set_option maxRecDepth 100000 in
set_option maxHeartbeats 1000000 in
theorem Stale_any (a : Lab) (w : World) (ht : Cubes w) : Calls Tryd.prog 19 #[.agg (cellsL a)] w fun e w' => e = .returned (.agg (cellsL (tagL 3 [a.l]))) ∧ Below w.heap.size w w' := by
  have b0 : Below w.heap.size w ((w.alloc (.cells (cellsL a) 23)).alloc (.cells (cellsL zeroLab) 23)) := ((Below.refl _ _).alloc (Nat.le_refl _) _).alloc (by simp only [World.size_alloc]; omega) _
  have r0 : rowAt ((w.alloc (.cells (cellsL a) 23)).alloc (.cells (cellsL zeroLab) 23)) w.heap.size = some (cellsL a) := (rowAt_alloc_past _ _ _ (by simp only [World.size_alloc]; omega)).trans (rowAt_alloc_at _ _ _ _ rfl)
  have r1 : rowAt ((w.alloc (.cells (cellsL a) 23)).alloc (.cells (cellsL zeroLab) 23)) (w.heap.size + 1) = some (cellsL zeroLab) := rowAt_alloc_at _ _ _ _ (by simp only [World.size_alloc])
  have T0 := Lib.hid (ht.below b0)
  have HJ := Lib.hid (fun v w hv ht => Joined_any 3 v [a.l] w hv ht (by simp) (by intro t h; obtain rfl := List.mem_singleton.1 h; rw [a.h]; decide))
  have HC := Lib.hid (conv_lab a _ _ r0)
  rw [show (((3 : UInt8).toNat : Nat) : Int) = 3 from rfl] at HJ
  unfold tagL
  clear ht
  go_enter Tryd.func19, Tryd.ntmps19
  go_wp2_with fail
  try rw [HC.out]
  try simp only [Result.andThen]
  try rw [Oper.upon_value]
  generalize (w.alloc (.cells (cellsL a) 23)).alloc (.cells (cellsL zeroLab) 23) = W at *
  have hst := strs_at1 W a.l _ rfl
  have bq : Below W.heap.size W (W.alloc (.cells #[.string (stx a.l)] 9)) := (Below.refl _ _).alloc (Nat.le_refl _) _
  have HJ2 := Lib.hid (HJ.out _ _ hst (T0.out.below bq))
  have r2 := rowAt_past bq r1
  have b2 := below_past b0 bq b0.size
  clear hst bq T0 r0 r1 b0 HC HJ
  go_wp2_with fail
  refine HJ2.out.mono ?_
  rintro e w1 ⟨rfl, b1⟩
  have r3 := rowAt_past b1 r2
  have b3 := below_past b2 b1 b2.size
  clear HJ2 b1 b2 r2
  go_wp2_with fail
  exact row_ret_labS rfl rfl rfl (rowAt_setRow_same r3 _) ⟨rfl, Below.setRow b3 (Nat.le_succ _) _⟩
set_option maxRecDepth 100000 in
set_option maxHeartbeats 1000000 in
theorem Public_any (k : List UInt8) (w : World) (ht : Cubes w) (hk : k.length ≤ 100) : Calls Tryd.prog 17 #[.string (stx k)] w fun e w' => e = .returned (.agg (cellsL (tagL 1 [k]))) ∧ Below w.heap.size w w' := by
  have b0 : Below w.heap.size w (w.alloc (.cells (cellsL zeroLab) 23)) := (Below.refl _ _).alloc (Nat.le_refl _) _
  have r0 : rowAt (w.alloc (.cells (cellsL zeroLab) 23)) w.heap.size = some (cellsL zeroLab) := rowAt_alloc_at _ _ _ _ rfl
  have T0 := Lib.hid (ht.below b0)
  have HJ := Lib.hid (fun v w hv ht => Joined_any 1 v [k] w hv ht (by simp) (by intro t h; obtain rfl := List.mem_singleton.1 h; exact hk))
  rw [show (((1 : UInt8).toNat : Nat) : Int) = 1 from rfl] at HJ
  unfold tagL
  clear ht hk
  have hst := strs_at1 (w.alloc (.cells (cellsL zeroLab) 23)) k (w.heap.size + 1) (by simp only [World.size_alloc])
  have bq : Below (w.alloc (.cells (cellsL zeroLab) 23)).heap.size (w.alloc (.cells (cellsL zeroLab) 23)) ((w.alloc (.cells (cellsL zeroLab) 23)).alloc (.cells #[.string (stx k)] 9)) := (Below.refl _ _).alloc (Nat.le_refl _) _
  have HJ2 := Lib.hid (HJ.out _ _ hst (T0.out.below bq))
  have r2 := rowAt_past bq r0
  have b2 := below_past b0 bq b0.size
  clear hst bq T0 r0 b0 HJ
  go_enter Tryd.func17, Tryd.ntmps17
  go_wp2_with fail
  refine HJ2.out.mono ?_
  rintro e w1 ⟨rfl, b1⟩
  have r3 := rowAt_past b1 r2
  have b3 := below_past b2 b1 b2.size
  clear HJ2 b1 b2 r2
  go_wp2_with fail
  exact row_ret_labS rfl rfl rfl (rowAt_setRow_same r3 _) ⟨rfl, Below.setRow b3 (Nat.le_refl _) _⟩
set_option maxRecDepth 100000 in
set_option maxHeartbeats 1000000 in
theorem Tomb_any (w : World) (ht : Cubes w) : Calls Tryd.prog 22 #[] w fun e w' => e = .returned (.agg (cellsL (tagL 5 []))) ∧ Below w.heap.size w w' := by
  have b0 : Below w.heap.size w (w.alloc (.cells (cellsL zeroLab) 23)) := (Below.refl _ _).alloc (Nat.le_refl _) _
  have r0 : rowAt (w.alloc (.cells (cellsL zeroLab) 23)) w.heap.size = some (cellsL zeroLab) := rowAt_alloc_at _ _ _ _ rfl
  have HJ := Lib.hid (Joined_any 5 _ [] _ (strs_at0 _) (ht.below b0) (by simp) (by simp))
  rw [show (((5 : UInt8).toNat : Nat) : Int) = 5 from rfl] at HJ
  unfold tagL
  clear ht
  go_enter Tryd.func22, Tryd.ntmps22
  go_wp2_with fail
  generalize w.alloc (.cells (cellsL zeroLab) 23) = W at *
  refine HJ.out.mono ?_
  rintro e w1 ⟨rfl, b1⟩
  have r3 := rowAt_past b1 r0
  have b3 := below_past b0 b1 b0.size
  clear HJ b1 b0 r0
  go_wp2_with fail
  exact row_ret_labS rfl rfl rfl (rowAt_setRow_same r3 _) ⟨rfl, Below.setRow b3 (Nat.le_refl _) _⟩
set_option maxRecDepth 100000 in
set_option maxHeartbeats 1000000 in
theorem Mark_any (w : World) (ht : Cubes w) : Calls Tryd.prog 23 #[] w fun e w' => e = .returned (.agg (cellsL (tagL 6 []))) ∧ Below w.heap.size w w' := by
  have b0 : Below w.heap.size w (w.alloc (.cells (cellsL zeroLab) 23)) := (Below.refl _ _).alloc (Nat.le_refl _) _
  have r0 : rowAt (w.alloc (.cells (cellsL zeroLab) 23)) w.heap.size = some (cellsL zeroLab) := rowAt_alloc_at _ _ _ _ rfl
  have HJ := Lib.hid (Joined_any 6 _ [] _ (strs_at0 _) (ht.below b0) (by simp) (by simp))
  rw [show (((6 : UInt8).toNat : Nat) : Int) = 6 from rfl] at HJ
  unfold tagL
  clear ht
  go_enter Tryd.func23, Tryd.ntmps23
  go_wp2_with fail
  generalize w.alloc (.cells (cellsL zeroLab) 23) = W at *
  refine HJ.out.mono ?_
  rintro e w1 ⟨rfl, b1⟩
  have r3 := rowAt_past b1 r0
  have b3 := below_past b0 b1 b0.size
  clear HJ b1 b0 r0
  go_wp2_with fail
  exact row_ret_labS rfl rfl rfl (rowAt_setRow_same r3 _) ⟨rfl, Below.setRow b3 (Nat.le_refl _) _⟩
set_option maxRecDepth 100000 in
set_option maxHeartbeats 1000000 in
theorem Commit_any (v : List UInt8) (a : Lab) (w : World) (ht : Cubes w) (hv : v.length ≤ 100) : Calls Tryd.prog 21 #[.string (stx v), .agg (cellsL a)] w fun e w' => e = .returned (.agg (cellsL (tagL 4 [a.l, v]))) ∧ Below w.heap.size w w' := by
  have b0 : Below w.heap.size w ((w.alloc (.cells (cellsL a) 23)).alloc (.cells (cellsL zeroLab) 23)) := ((Below.refl _ _).alloc (Nat.le_refl _) _).alloc (by simp only [World.size_alloc]; omega) _
  have r0 : rowAt ((w.alloc (.cells (cellsL a) 23)).alloc (.cells (cellsL zeroLab) 23)) w.heap.size = some (cellsL a) := (rowAt_alloc_past _ _ _ (by simp only [World.size_alloc]; omega)).trans (rowAt_alloc_at _ _ _ _ rfl)
  have r1 : rowAt ((w.alloc (.cells (cellsL a) 23)).alloc (.cells (cellsL zeroLab) 23)) (w.heap.size + 1) = some (cellsL zeroLab) := rowAt_alloc_at _ _ _ _ (by simp only [World.size_alloc])
  have T0 := Lib.hid (ht.below b0)
  have HJ := Lib.hid (fun u w hu ht => Joined_any 4 u [a.l, v] w hu ht (by simp) (by
    intro t h
    rcases List.mem_cons.1 h with rfl | h
    · rw [a.h]; decide
    · obtain rfl := List.mem_singleton.1 h
      exact hv))
  have HC := Lib.hid (conv_lab a _ _ r0)
  rw [show (((4 : UInt8).toNat : Nat) : Int) = 4 from rfl] at HJ
  unfold tagL
  clear ht hv
  go_enter Tryd.func21, Tryd.ntmps21
  go_wp2_with fail
  try rw [HC.out]
  try simp only [Result.andThen]
  try rw [Oper.upon_value]
  generalize (w.alloc (.cells (cellsL a) 23)).alloc (.cells (cellsL zeroLab) 23) = W at *
  have hst := strs_at2 W a.l v _ rfl
  have bq : Below W.heap.size W (W.alloc (.cells #[.string (stx a.l), .string (stx v)] 9)) := (Below.refl _ _).alloc (Nat.le_refl _) _
  have HJ2 := Lib.hid (HJ.out _ _ hst (T0.out.below bq))
  have r2 := rowAt_past bq r1
  have b2 := below_past b0 bq b0.size
  clear hst bq T0 r0 r1 b0 HC HJ
  go_wp2_with fail
  refine HJ2.out.mono ?_
  rintro e w1 ⟨rfl, b1⟩
  have r3 := rowAt_past b1 r2
  have b3 := below_past b2 b1 b2.size
  clear HJ2 b1 b2 r2
  go_wp2_with fail
  exact row_ret_labS rfl rfl rfl (rowAt_setRow_same r3 _) ⟨rfl, Below.setRow b3 (Nat.le_succ _) _⟩
def nonceL (k : List UInt8) (a : Lab) : Lab := macL k ([110, 111, 110, 99, 101] ++ a.l)
set_option maxRecDepth 100000 in
set_option maxHeartbeats 1000000 in
theorem Nonce_any (k : List UInt8) (a : Lab) (w : World) (ht : Cubes w) (hk : k.length ≤ 100) : Calls Tryd.prog 20 #[.string (stx k), .agg (cellsL a)] w fun e w' => e = .returned (.agg (cellsL (nonceL k a))) ∧ Below w.heap.size w w' := by
  have b0 : Below w.heap.size w ((w.alloc (.cells (cellsL a) 23)).alloc (.cells (cellsL zeroLab) 23)) := ((Below.refl _ _).alloc (Nat.le_refl _) _).alloc (by simp only [World.size_alloc]; omega) _
  have r0 : rowAt ((w.alloc (.cells (cellsL a) 23)).alloc (.cells (cellsL zeroLab) 23)) w.heap.size = some (cellsL a) := (rowAt_alloc_past _ _ _ (by simp only [World.size_alloc]; omega)).trans (rowAt_alloc_at _ _ _ _ rfl)
  have r1 : rowAt ((w.alloc (.cells (cellsL a) 23)).alloc (.cells (cellsL zeroLab) 23)) (w.heap.size + 1) = some (cellsL zeroLab) := rowAt_alloc_at _ _ _ _ (by simp only [World.size_alloc])
  have T0 := Lib.hid (ht.below b0)
  have HM := Lib.hid (Mac_any k ([110, 111, 110, 99, 101] ++ a.l) _ T0.out (by omega) (by rw [List.length_append, a.h]; decide))
  have HC := Lib.hid (conv_lab a _ _ r0)
  have HA : Hid ((⟨#[110, 111, 110, 99, 101]⟩ : ByteArray) ++ stx a.l = stx ([110, 111, 110, 99, 101] ++ a.l)) := Lib.hid (stx_append [110, 111, 110, 99, 101] a.l)
  have hsz : (stx a.l).size = 32 := by rw [stx_size, a.h]
  unfold nonceL
  clear ht hk
  generalize stx ([110, 111, 110, 99, 101] ++ a.l) = NS at *
  generalize macL k ([110, 111, 110, 99, 101] ++ a.l) = R at *
  go_enter Tryd.func20, Tryd.ntmps20
  go_wp2_with fail
  try rw [HC.out]
  try simp only [Result.andThen]
  try rw [Oper.upon_value]
  go_wp2_with fail
  rw [HA.out]
  refine HM.out.mono ?_
  rintro e w1 ⟨rfl, b1⟩
  have r3 := rowAt_past b1 r1
  have b3 := below_past b0 b1 b0.size
  clear HM b1 b0 r0 r1
  go_wp2_with fail
  exact row_ret_labS rfl rfl rfl (rowAt_setRow_same r3 _) ⟨rfl, Below.setRow b3 (Nat.le_succ _) _⟩
end Go.Proofs.YtlldcgofjibdjaaDoor
