/- The document's turned words and padded texts. Conditions: none. -/
import Derived.Test.YthmhjojabalddaaDoorSha6
import Derived.Test.YthmhjojabalddaaDoorOwnF
namespace Go.Proofs.YthmhjojabalddaaDoor
open Go Go.RowKit

theorem or_comm32 (a b : UInt32) : bits .or .u32 (wv a) (wv b) = bits .or .u32 (wv b) (wv a) := by
  rw [w_or, w_or, UInt32.or_comm]
theorem w_right (x : UInt32) (n : Nat) (h0 : 0 < n) (h : n < 32) : bits .or .u32 (wv x / (2 ^ n : Nat)) (wv x * (2 ^ (32 - n) : Nat) % 4294967296) = wv (rotr x n) := by
  rw [w_shl x (32 - n) (by omega), w_shr x n h, or_comm32, w_or]
  rfl
set_option maxRecDepth 100000 in
theorem right_2 (x : UInt32) (w : World) : Calls Tryd.prog 41 #[.int .u32 (wv x), .int .i64 2] w fun e w' => e = .returned (.int .u32 (wv (rotr x 2))) ∧ Below w.heap.size w w' := by
  have h0 := w_ge x
  have h1 := w_lt x
  have HW := Lib.hid (w_right x 2 (by decide) (by decide))
  rw [show ((2 ^ (32 - 2) : Nat) : Int) = 1073741824 from rfl, show ((2 ^ 2 : Nat) : Int) = 4 from rfl] at HW
  generalize wv (rotr x 2) = v at *
  generalize wv x = z at *
  go_enter Tryd.func41, Tryd.ntmps41
  go_wp2_with fail
  refine wp_region_past (by kernel_rfl) (by kernel_rfl) ?_
  repeat (go_big_quiet_step (fail))
  refine wpQuiet_nil ?_
  intro w2 hw2
  obtain ⟨⟨wn, hn⟩, rfl⟩ := hw2
  try dsimp only
  go_wp2_with fail
  go_ret
  exact ⟨congrArg (fun q => Ending.returned (Value.int .u32 q)) HW.out, hn⟩
set_option maxRecDepth 100000 in
theorem right_6 (x : UInt32) (w : World) : Calls Tryd.prog 41 #[.int .u32 (wv x), .int .i64 6] w fun e w' => e = .returned (.int .u32 (wv (rotr x 6))) ∧ Below w.heap.size w w' := by
  have h0 := w_ge x
  have h1 := w_lt x
  have HW := Lib.hid (w_right x 6 (by decide) (by decide))
  rw [show ((2 ^ (32 - 6) : Nat) : Int) = 67108864 from rfl, show ((2 ^ 6 : Nat) : Int) = 64 from rfl] at HW
  generalize wv (rotr x 6) = v at *
  generalize wv x = z at *
  go_enter Tryd.func41, Tryd.ntmps41
  go_wp2_with fail
  refine wp_region_past (by kernel_rfl) (by kernel_rfl) ?_
  repeat (go_big_quiet_step (fail))
  refine wpQuiet_nil ?_
  intro w2 hw2
  obtain ⟨⟨wn, hn⟩, rfl⟩ := hw2
  try dsimp only
  go_wp2_with fail
  go_ret
  exact ⟨congrArg (fun q => Ending.returned (Value.int .u32 q)) HW.out, hn⟩
set_option maxRecDepth 100000 in
theorem right_7 (x : UInt32) (w : World) : Calls Tryd.prog 41 #[.int .u32 (wv x), .int .i64 7] w fun e w' => e = .returned (.int .u32 (wv (rotr x 7))) ∧ Below w.heap.size w w' := by
  have h0 := w_ge x
  have h1 := w_lt x
  have HW := Lib.hid (w_right x 7 (by decide) (by decide))
  rw [show ((2 ^ (32 - 7) : Nat) : Int) = 33554432 from rfl, show ((2 ^ 7 : Nat) : Int) = 128 from rfl] at HW
  generalize wv (rotr x 7) = v at *
  generalize wv x = z at *
  go_enter Tryd.func41, Tryd.ntmps41
  go_wp2_with fail
  refine wp_region_past (by kernel_rfl) (by kernel_rfl) ?_
  repeat (go_big_quiet_step (fail))
  refine wpQuiet_nil ?_
  intro w2 hw2
  obtain ⟨⟨wn, hn⟩, rfl⟩ := hw2
  try dsimp only
  go_wp2_with fail
  go_ret
  exact ⟨congrArg (fun q => Ending.returned (Value.int .u32 q)) HW.out, hn⟩
set_option maxRecDepth 100000 in
theorem right_11 (x : UInt32) (w : World) : Calls Tryd.prog 41 #[.int .u32 (wv x), .int .i64 11] w fun e w' => e = .returned (.int .u32 (wv (rotr x 11))) ∧ Below w.heap.size w w' := by
  have h0 := w_ge x
  have h1 := w_lt x
  have HW := Lib.hid (w_right x 11 (by decide) (by decide))
  rw [show ((2 ^ (32 - 11) : Nat) : Int) = 2097152 from rfl, show ((2 ^ 11 : Nat) : Int) = 2048 from rfl] at HW
  generalize wv (rotr x 11) = v at *
  generalize wv x = z at *
  go_enter Tryd.func41, Tryd.ntmps41
  go_wp2_with fail
  refine wp_region_past (by kernel_rfl) (by kernel_rfl) ?_
  repeat (go_big_quiet_step (fail))
  refine wpQuiet_nil ?_
  intro w2 hw2
  obtain ⟨⟨wn, hn⟩, rfl⟩ := hw2
  try dsimp only
  go_wp2_with fail
  go_ret
  exact ⟨congrArg (fun q => Ending.returned (Value.int .u32 q)) HW.out, hn⟩
set_option maxRecDepth 100000 in
theorem right_13 (x : UInt32) (w : World) : Calls Tryd.prog 41 #[.int .u32 (wv x), .int .i64 13] w fun e w' => e = .returned (.int .u32 (wv (rotr x 13))) ∧ Below w.heap.size w w' := by
  have h0 := w_ge x
  have h1 := w_lt x
  have HW := Lib.hid (w_right x 13 (by decide) (by decide))
  rw [show ((2 ^ (32 - 13) : Nat) : Int) = 524288 from rfl, show ((2 ^ 13 : Nat) : Int) = 8192 from rfl] at HW
  generalize wv (rotr x 13) = v at *
  generalize wv x = z at *
  go_enter Tryd.func41, Tryd.ntmps41
  go_wp2_with fail
  refine wp_region_past (by kernel_rfl) (by kernel_rfl) ?_
  repeat (go_big_quiet_step (fail))
  refine wpQuiet_nil ?_
  intro w2 hw2
  obtain ⟨⟨wn, hn⟩, rfl⟩ := hw2
  try dsimp only
  go_wp2_with fail
  go_ret
  exact ⟨congrArg (fun q => Ending.returned (Value.int .u32 q)) HW.out, hn⟩
set_option maxRecDepth 100000 in
theorem right_17 (x : UInt32) (w : World) : Calls Tryd.prog 41 #[.int .u32 (wv x), .int .i64 17] w fun e w' => e = .returned (.int .u32 (wv (rotr x 17))) ∧ Below w.heap.size w w' := by
  have h0 := w_ge x
  have h1 := w_lt x
  have HW := Lib.hid (w_right x 17 (by decide) (by decide))
  rw [show ((2 ^ (32 - 17) : Nat) : Int) = 32768 from rfl, show ((2 ^ 17 : Nat) : Int) = 131072 from rfl] at HW
  generalize wv (rotr x 17) = v at *
  generalize wv x = z at *
  go_enter Tryd.func41, Tryd.ntmps41
  go_wp2_with fail
  refine wp_region_past (by kernel_rfl) (by kernel_rfl) ?_
  repeat (go_big_quiet_step (fail))
  refine wpQuiet_nil ?_
  intro w2 hw2
  obtain ⟨⟨wn, hn⟩, rfl⟩ := hw2
  try dsimp only
  go_wp2_with fail
  go_ret
  exact ⟨congrArg (fun q => Ending.returned (Value.int .u32 q)) HW.out, hn⟩
set_option maxRecDepth 100000 in
theorem right_18 (x : UInt32) (w : World) : Calls Tryd.prog 41 #[.int .u32 (wv x), .int .i64 18] w fun e w' => e = .returned (.int .u32 (wv (rotr x 18))) ∧ Below w.heap.size w w' := by
  have h0 := w_ge x
  have h1 := w_lt x
  have HW := Lib.hid (w_right x 18 (by decide) (by decide))
  rw [show ((2 ^ (32 - 18) : Nat) : Int) = 16384 from rfl, show ((2 ^ 18 : Nat) : Int) = 262144 from rfl] at HW
  generalize wv (rotr x 18) = v at *
  generalize wv x = z at *
  go_enter Tryd.func41, Tryd.ntmps41
  go_wp2_with fail
  refine wp_region_past (by kernel_rfl) (by kernel_rfl) ?_
  repeat (go_big_quiet_step (fail))
  refine wpQuiet_nil ?_
  intro w2 hw2
  obtain ⟨⟨wn, hn⟩, rfl⟩ := hw2
  try dsimp only
  go_wp2_with fail
  go_ret
  exact ⟨congrArg (fun q => Ending.returned (Value.int .u32 q)) HW.out, hn⟩
set_option maxRecDepth 100000 in
theorem right_19 (x : UInt32) (w : World) : Calls Tryd.prog 41 #[.int .u32 (wv x), .int .i64 19] w fun e w' => e = .returned (.int .u32 (wv (rotr x 19))) ∧ Below w.heap.size w w' := by
  have h0 := w_ge x
  have h1 := w_lt x
  have HW := Lib.hid (w_right x 19 (by decide) (by decide))
  rw [show ((2 ^ (32 - 19) : Nat) : Int) = 8192 from rfl, show ((2 ^ 19 : Nat) : Int) = 524288 from rfl] at HW
  generalize wv (rotr x 19) = v at *
  generalize wv x = z at *
  go_enter Tryd.func41, Tryd.ntmps41
  go_wp2_with fail
  refine wp_region_past (by kernel_rfl) (by kernel_rfl) ?_
  repeat (go_big_quiet_step (fail))
  refine wpQuiet_nil ?_
  intro w2 hw2
  obtain ⟨⟨wn, hn⟩, rfl⟩ := hw2
  try dsimp only
  go_wp2_with fail
  go_ret
  exact ⟨congrArg (fun q => Ending.returned (Value.int .u32 q)) HW.out, hn⟩
set_option maxRecDepth 100000 in
theorem right_22 (x : UInt32) (w : World) : Calls Tryd.prog 41 #[.int .u32 (wv x), .int .i64 22] w fun e w' => e = .returned (.int .u32 (wv (rotr x 22))) ∧ Below w.heap.size w w' := by
  have h0 := w_ge x
  have h1 := w_lt x
  have HW := Lib.hid (w_right x 22 (by decide) (by decide))
  rw [show ((2 ^ (32 - 22) : Nat) : Int) = 1024 from rfl, show ((2 ^ 22 : Nat) : Int) = 4194304 from rfl] at HW
  generalize wv (rotr x 22) = v at *
  generalize wv x = z at *
  go_enter Tryd.func41, Tryd.ntmps41
  go_wp2_with fail
  refine wp_region_past (by kernel_rfl) (by kernel_rfl) ?_
  repeat (go_big_quiet_step (fail))
  refine wpQuiet_nil ?_
  intro w2 hw2
  obtain ⟨⟨wn, hn⟩, rfl⟩ := hw2
  try dsimp only
  go_wp2_with fail
  go_ret
  exact ⟨congrArg (fun q => Ending.returned (Value.int .u32 q)) HW.out, hn⟩
set_option maxRecDepth 100000 in
theorem right_25 (x : UInt32) (w : World) : Calls Tryd.prog 41 #[.int .u32 (wv x), .int .i64 25] w fun e w' => e = .returned (.int .u32 (wv (rotr x 25))) ∧ Below w.heap.size w w' := by
  have h0 := w_ge x
  have h1 := w_lt x
  have HW := Lib.hid (w_right x 25 (by decide) (by decide))
  rw [show ((2 ^ (32 - 25) : Nat) : Int) = 128 from rfl, show ((2 ^ 25 : Nat) : Int) = 33554432 from rfl] at HW
  generalize wv (rotr x 25) = v at *
  generalize wv x = z at *
  go_enter Tryd.func41, Tryd.ntmps41
  go_wp2_with fail
  refine wp_region_past (by kernel_rfl) (by kernel_rfl) ?_
  repeat (go_big_quiet_step (fail))
  refine wpQuiet_nil ?_
  intro w2 hw2
  obtain ⟨⟨wn, hn⟩, rfl⟩ := hw2
  try dsimp only
  go_wp2_with fail
  go_ret
  exact ⟨congrArg (fun q => Ending.returned (Value.int .u32 q)) HW.out, hn⟩

def lenOf : Value → Nat
  | .slice _ n _ => n
  | _ => 0
/-- A new list of bytes is handed back. -/
def BytesRet (w : World) (l : List UInt8) (e : Ending) (w' : World) : Prop := ∃ v, e = .returned v ∧ OwnF w' w.heap.size 5 v (l.map Extern.Stop.cell) ∧ Below w.heap.size w w'
theorem info_u8 : ∃ i : TypeInfo, Tryd.prog.info? 5 = some i ∧ i.zero = some (.int .u8 0) ∧ i.size = 1 ∧ i.bytes = 1 := by
  have h : (Tryd.prog.info? 5).map (fun i => (i.zero, i.size, i.bytes)) = some (some (.int .u8 0), 1, 1) := by kernel_rfl
  cases hq : Tryd.prog.info? 5 with
  | none => rw [hq] at h; cases h
  | some i =>
    rw [hq] at h
    simp only [Option.map_some, Option.some.injEq, Prod.mk.injEq] at h
    exact ⟨i, rfl, h.1, h.2.1, h.2.2⟩
theorem map_snoc (l : List UInt8) (x : UInt8) : l.map Extern.Stop.cell ++ [Value.int .u8 (x.toNat : Int)] = (l ++ [x]).map Extern.Stop.cell := by
  rw [List.map_append]; rfl
/-- How many noughts stand behind the first byte of the filling. -/
def noughts (n : Nat) : Nat := 63 - (n + 8) % 64
theorem fill_is (n : Nat) : (128 :: List.replicate 63 0).take (64 - (n + 8) % 64) = (128 : UInt8) :: List.replicate (noughts n) 0 := by
  rw [show 64 - (n + 8) % 64 = noughts n + 1 by unfold noughts; omega, List.take_succ_cons, List.take_replicate]
  congr 2
  unfold noughts
  omega
def padJ (l : List UInt8) (j : Nat) : List UInt8 := l ++ 128 :: List.replicate j 0
theorem padJ_succ (l : List UInt8) (j : Nat) : padJ l j ++ [0] = padJ l (j + 1) := by
  unfold padJ
  rw [List.append_assoc, List.cons_append, ← List.replicate_succ']
theorem padJ_len (l : List UInt8) (j : Nat) : (padJ l j).length = l.length + 1 + j := by
  unfold padJ
  rw [List.length_append, List.length_cons, List.length_replicate]
  omega
/-- The last eight bytes, as many as there are. -/
def padI (l : List UInt8) (i : Nat) : List UInt8 := padJ l (noughts l.length) ++ (be8 (8 * l.length)).take i
theorem padI_8 (l : List UInt8) : padI l 8 = padded l := by
  unfold padI padJ padded padL
  rw [fill_is, List.take_of_length_le (show (be8 (8 * l.length)).length ≤ 8 from Nat.le_refl _)]
  simp only [List.append_assoc, List.cons_append]
theorem padI_len (l : List UInt8) (i : Nat) (hi : i ≤ 8) : (padI l i).length = l.length + 1 + noughts l.length + i := by
  unfold padI
  rw [List.length_append, padJ_len, List.length_take, show (be8 (8 * l.length)).length = 8 from rfl]
  omega
theorem padI_succ (l : List UInt8) (i : Nat) (hi : i < 8) (hl : l.length ≤ 10000) : padI l i ++ [UInt8.ofNat (8 * l.length / 256 ^ (7 - i))] = padI l (i + 1) := by
  unfold padI
  rw [List.append_assoc]
  congr 1
  have hb : (be8 (8 * l.length))[i]? = some (UInt8.ofNat (8 * l.length / 256 ^ (7 - i))) := by
    rw [be8_small _ (by omega)]
    obtain ⟨n, hn⟩ : ∃ n, 8 * l.length = n := ⟨_, rfl⟩
    have hn2 : n ≤ 80000 := by omega
    rw [hn]
    have e : (UInt32.ofNat n).toNat = n := by rw [UInt32.toNat_ofNat', Nat.mod_eq_of_lt (by omega)]
    match i, hi with
    | 0, _ => rw [Nat.div_eq_of_lt (by omega)]; rfl
    | 1, _ => rw [Nat.div_eq_of_lt (by omega)]; rfl
    | 2, _ => rw [Nat.div_eq_of_lt (by omega)]; rfl
    | 3, _ => rw [Nat.div_eq_of_lt (by omega)]; rfl
    | 4, _ => simp [oct, e]
    | 5, _ => simp [oct, e]
    | 6, _ => simp [oct, e]
    | 7, _ => simp [oct, e]
  rw [List.take_add_one, hb]
  rfl

set_option maxRecDepth 100000 in
set_option maxHeartbeats 2000000 in
theorem Padded_any (s : ByteArray) (w : World) (hs : s.size ≤ 10000) : Calls Tryd.prog 39 #[.string s] w (BytesRet w (padded s.data.toList)) := by
  obtain ⟨i0, hi, hz0, hz1, hz2⟩ := info_u8
  obtain ⟨l, hl⟩ : ∃ l, s.data.toList = l := ⟨_, rfl⟩
  obtain ⟨n, hn⟩ : ∃ n, s.size = n := ⟨_, rfl⟩
  have hln : l.length = n := by rw [← hl]; exact hn
  rw [hl]
  have hc1 := grownCap_ge w n 0 5
  have hc2 := grownCap_le_maxLen w n 0 5 (by unfold maxLen; omega)
  have o0 := ownF_bytes w s (grownCap w n 0 5) w.heap.size (Nat.le_refl _) (by omega) hc2
  rw [hl] at o0
  have hcv := run_bytes_of_string (P := Tryd.prog) w 9 33 5 s Tryd.underlying9 Tryd.underlying33 Tryd.underlying5
  rw [hn] at o0 hcv
  generalize grownCap w n 0 5 = cap at *
  generalize (Obj.cells (bytesRow s cap) 5 ((bytesRow s cap).size, (bytesRow s cap).size + 1)) = O at *
  have HCV := Lib.hid hcv
  have HLN := Lib.hid hln
  have HL := Lib.hid hl
  have hn1 : n ≤ 10000 := by omega
  have hn2 : (n : Int) ≤ 10000 := by omega
  have O0 := Lib.hid o0
  have b0 : Below w.heap.size w (w.drew.alloc O) := ((Below.refl _ _).drew).alloc (Nat.le_refl _) O
  clear hcv hln hl o0 hc1 hc2 hs
  go_enter Tryd.func39, Tryd.ntmps39
  go_wp2_with fail
  rw [HCV.out]
  simp only [Result.andThen]
  rw [Oper.upon_value]
  have b1 : Below w.heap.size w (((w.alloc O).alloc (.cells #[.int .u8 128] 5)).drew) := b0.alloc b0.size (.cells #[.int .u8 128] 5)
  have o1 : OwnF (((w.alloc O).alloc (.cells #[.int .u8 128] 5)).drew) w.heap.size 5 (.slice (some ⟨w.heap.size, 0, none⟩) n cap) (l.map Extern.Stop.cell) := O0.out.below ((Below.refl _ _).alloc (Nat.le_refl _) (.cells #[.int .u8 128] 5))
  have hcell : (((w.alloc O).alloc (.cells #[.int .u8 128] 5)).drew).cell? ⟨w.heap.size + 1, 0, none⟩ = some (.int .u8 128) := cell_of_rowAt (rowAt_alloc_at (w.alloc O) #[.int .u8 128] 5 _ (by simp)) 0
  go_wp2_with (at_builtin; refine wpList_put_one rfl _ _ 33 rfl 5 i0 _ 1 Tryd.underlying33 hi hz0 hz1 hz2 rfl w.heap.size _ _ rfl o1 (.int .u8 128) ⟨w.heap.size + 1, 0, none⟩ 1 rfl hcell rfl b1.size (by rw [List.length_map, HLN.out]; unfold maxLen; omega) (by rw [List.length_map, HLN.out]; omega) ?_)
  intro v2 w2 o2 hg2 _
  have b2 := b1.grown hg2 b1.size (fun k hk => (o1.lt k hk).1)
  have o3 : OwnF w2 w.heap.size 5 v2 ((padJ l 0).map Extern.Stop.cell) := by
    have := map_snoc l 128
    rw [show (((128 : UInt8).toNat : Nat) : Int) = 128 from rfl] at this
    rw [this] at o2
    exact o2
  have hK : noughts n ≤ 63 := by unfold noughts; omega
  have hKm : (n + 1 + noughts n) % 64 = 56 := by unfold noughts; omega
  obtain ⟨K, hKK⟩ : ∃ K, noughts n = K := ⟨_, rfl⟩
  rw [hKK] at hK hKm
  have HKK := Lib.hid hKK
  have HKM := Lib.hid hKm
  clear hKK hKm O0 b0 b1 o1 o2 hg2 hcell HCV
  go_wp2_with fail
  go_loopw [3] (fun v wr => ∃ j : Nat, j ≤ K ∧ OwnF wr w.heap.size 5 v ((padJ l j).map Extern.Stop.cell) ∧ Below w.heap.size w wr) (fun v _ => 11000 - lenOf v)
  case atStart => exact ⟨0, Nat.zero_le _, o3, b2⟩
  case round =>
    obtain ⟨j, hj, ow, b3⟩ := hrel
    clear o3 b2
    obtain ⟨ao, cp, hv⟩ := ow.shape
    rw [List.length_map, padJ_len, HLN.out] at hv
    subst hv
    have hm0 : (0 : Int) ≤ ((n + 1 + j : Nat) : Int) := by omega
    have hm1 : ((n + 1 + j : Nat) : Int) ≤ 10100 := by omega
    by_cases hjK : j < K
    · have hq : ((((n + 1 + j : Nat) : Int) % 64) != 56) = true := by
        rw [bne_iff_ne]
        have := HKM.out
        omega
      have b4 : Below w.heap.size w (wr.alloc (.cells #[.int .u8 0] 5)) := b3.alloc b3.size _
      have o4 := ow.below ((Below.refl _ _).alloc (Nat.le_refl _) (.cells #[.int .u8 0] 5))
      have hcell : (wr.alloc (.cells #[.int .u8 0] 5)).cell? ⟨wr.heap.size, 0, none⟩ = some (.int .u8 0) := cell_of_rowAt (rowAt_alloc_at wr #[.int .u8 0] 5 _ rfl) 0
      have hlen : (List.map Extern.Stop.cell (padJ l j)).length = n + 1 + j := by rw [List.length_map, padJ_len, HLN.out]
      obtain ⟨m, hm⟩ : ∃ m, n + 1 + j = m := ⟨_, rfl⟩
      rw [hm] at hq hm0 hm1 o4 hlen ⊢
      have HLEN := Lib.hid hlen
      clear ow b3 hlen
      go_wp2_with (at_builtin; refine wpList_put_one rfl _ _ 33 rfl 5 i0 _ 1 Tryd.underlying33 hi hz0 hz1 hz2 rfl w.heap.size _ _ rfl o4 (.int .u8 0) ⟨wr.heap.size, 0, none⟩ 1 rfl hcell rfl b4.size (by rw [HLEN.out]; unfold maxLen; omega) (by rw [HLEN.out]; omega) ?_)
      intro v5 w5 o5 hg5 _
      have b5 := b4.grown hg5 b4.size (fun k hk => (o4.lt k hk).1)
      have o6 : OwnF w5 w.heap.size 5 v5 ((padJ l (j + 1)).map Extern.Stop.cell) := by
        have := map_snoc (padJ l j) 0
        rw [show (((0 : UInt8).toNat : Nat) : Int) = 0 from rfl, padJ_succ] at this
        rw [this] at o5
        exact o5
      have hv5 : lenOf v5 = m + 1 := by
        obtain ⟨ao5, cp5, rfl⟩ := o6.shape
        rw [List.length_map, padJ_len, HLN.out]
        show n + 1 + (j + 1) = _
        omega
      clear o4 o5 hg5 hcell b4
      have HV5 := Lib.hid hv5
      clear hv5
      go_wp2_with fail
      exact ⟨⟨j + 1, hjK, o6, b5⟩, by rw [show lenOf (.slice ao m cp) = m from rfl, HV5.out]; omega⟩
    · obtain rfl : j = K := by omega
      have hq : ((((n + 1 + j : Nat) : Int) % 64) != 56) = false := by
        rw [bne_eq_false_iff_eq]
        have := HKM.out
        omega
      have hz : s.size = n := hn
      have hq2 : (((n : Int) + 1 + j) % 64 != 56) = false := by
        rw [bne_eq_false_iff_eq]
        have := HKM.out
        omega
      have ow2 : OwnF wr w.heap.size 5 (.slice ao (n + 1 + j) cp) ((padI l 0).map Extern.Stop.cell) := by
        unfold padI
        rw [HLN.out, HKK.out, List.take_zero, List.append_nil]
        exact ow
      clear ow
      go_wp2_with fail
      generalize Value.slice ao (n + 1 + j) cp = v0 at *
      go_loopw [3, 5] (fun v x wr => ∃ i : Nat, i ≤ 8 ∧ x = .int .i64 i ∧ OwnF wr w.heap.size 5 v ((padI l i).map Extern.Stop.cell) ∧ Below w.heap.size w wr) (fun _ x _ => (8 - intOf x).toNat)
      case atStart => exact ⟨0, by omega, rfl, ow2, b3⟩
      case round =>
        obtain ⟨i, hi8, rfl, ow, b3⟩ := hrel
        clear ow2
        by_cases hlt : i < 8
        · rcases (by omega : i = 0 ∨ i = 1 ∨ i = 2 ∨ i = 3 ∨ i = 4 ∨ i = 5 ∨ i = 6 ∨ i = 7) with rfl | rfl | rfl | rfl | rfl | rfl | rfl | rfl
          · rw [show ((0 : Nat) : Int) = 0 from rfl]
            have hby : (n : Int) * 8 / 72057594037927936 = ((UInt8.ofNat (8 * n / 256 ^ (7 - 0))).toNat : Int) := by
              rw [UInt8.toNat_ofNat', show (256 : Nat) ^ (7 - 0) = 72057594037927936 from rfl]
              omega
            have HBY := Lib.hid hby
            clear hby
            have b4 : Below w.heap.size w (wr.alloc (.cells #[.int .u8 ((n : Int) * 8 / 72057594037927936)] 5)) := b3.alloc b3.size _
            have o4 := ow.below ((Below.refl _ _).alloc (Nat.le_refl _) (.cells #[.int .u8 ((n : Int) * 8 / 72057594037927936)] 5))
            have hcell : (wr.alloc (.cells #[.int .u8 ((n : Int) * 8 / 72057594037927936)] 5)).cell? ⟨wr.heap.size, 0, none⟩ = some (.int .u8 ((n : Int) * 8 / 72057594037927936)) := cell_of_rowAt (rowAt_alloc_at wr #[.int .u8 ((n : Int) * 8 / 72057594037927936)] 5 _ rfl) 0
            have HLEN : Hid ((List.map Extern.Stop.cell (padI l 0)).length ≤ 20000) := Lib.hid (by rw [List.length_map, padI_len _ _ (by decide), HLN.out, HKK.out]; omega)
            clear ow b3
            go_wp2_with (at_builtin; refine wpList_put_one rfl _ _ 33 rfl 5 i0 _ 1 Tryd.underlying33 hi hz0 hz1 hz2 rfl w.heap.size _ _ rfl o4 (.int .u8 ((n : Int) * 8 / 72057594037927936)) ⟨wr.heap.size, 0, none⟩ 1 rfl hcell rfl b4.size (by have := HLEN.out; unfold maxLen; omega) (by have := HLEN.out; omega) ?_)
            intro v5 w5 o5 hg5 _
            have b5 := b4.grown hg5 b4.size (fun k hk => (o4.lt k hk).1)
            have o6 : OwnF w5 w.heap.size 5 v5 ((padI l (0 + 1)).map Extern.Stop.cell) := by
              rw [HBY.out, map_snoc, ← HLN.out, padI_succ l 0 (by decide) (by rw [HLN.out]; exact hn1)] at o5
              exact o5
            clear o4 o5 hg5 hcell b4
            go_wp2_with fail
            exact ⟨⟨0 + 1, by decide, rfl, o6, b5⟩, by simp [intOf]⟩
          · rw [show ((1 : Nat) : Int) = 1 from rfl]
            have hby : (n : Int) * 8 / 281474976710656 = ((UInt8.ofNat (8 * n / 256 ^ (7 - 1))).toNat : Int) := by
              rw [UInt8.toNat_ofNat', show (256 : Nat) ^ (7 - 1) = 281474976710656 from rfl]
              omega
            have HBY := Lib.hid hby
            clear hby
            have b4 : Below w.heap.size w (wr.alloc (.cells #[.int .u8 ((n : Int) * 8 / 281474976710656)] 5)) := b3.alloc b3.size _
            have o4 := ow.below ((Below.refl _ _).alloc (Nat.le_refl _) (.cells #[.int .u8 ((n : Int) * 8 / 281474976710656)] 5))
            have hcell : (wr.alloc (.cells #[.int .u8 ((n : Int) * 8 / 281474976710656)] 5)).cell? ⟨wr.heap.size, 0, none⟩ = some (.int .u8 ((n : Int) * 8 / 281474976710656)) := cell_of_rowAt (rowAt_alloc_at wr #[.int .u8 ((n : Int) * 8 / 281474976710656)] 5 _ rfl) 0
            have HLEN : Hid ((List.map Extern.Stop.cell (padI l 1)).length ≤ 20000) := Lib.hid (by rw [List.length_map, padI_len _ _ (by decide), HLN.out, HKK.out]; omega)
            clear ow b3
            go_wp2_with (at_builtin; refine wpList_put_one rfl _ _ 33 rfl 5 i0 _ 1 Tryd.underlying33 hi hz0 hz1 hz2 rfl w.heap.size _ _ rfl o4 (.int .u8 ((n : Int) * 8 / 281474976710656)) ⟨wr.heap.size, 0, none⟩ 1 rfl hcell rfl b4.size (by have := HLEN.out; unfold maxLen; omega) (by have := HLEN.out; omega) ?_)
            intro v5 w5 o5 hg5 _
            have b5 := b4.grown hg5 b4.size (fun k hk => (o4.lt k hk).1)
            have o6 : OwnF w5 w.heap.size 5 v5 ((padI l (1 + 1)).map Extern.Stop.cell) := by
              rw [HBY.out, map_snoc, ← HLN.out, padI_succ l 1 (by decide) (by rw [HLN.out]; exact hn1)] at o5
              exact o5
            clear o4 o5 hg5 hcell b4
            go_wp2_with fail
            exact ⟨⟨1 + 1, by decide, rfl, o6, b5⟩, by simp [intOf]⟩
          · rw [show ((2 : Nat) : Int) = 2 from rfl]
            have hby : (n : Int) * 8 / 1099511627776 = ((UInt8.ofNat (8 * n / 256 ^ (7 - 2))).toNat : Int) := by
              rw [UInt8.toNat_ofNat', show (256 : Nat) ^ (7 - 2) = 1099511627776 from rfl]
              omega
            have HBY := Lib.hid hby
            clear hby
            have b4 : Below w.heap.size w (wr.alloc (.cells #[.int .u8 ((n : Int) * 8 / 1099511627776)] 5)) := b3.alloc b3.size _
            have o4 := ow.below ((Below.refl _ _).alloc (Nat.le_refl _) (.cells #[.int .u8 ((n : Int) * 8 / 1099511627776)] 5))
            have hcell : (wr.alloc (.cells #[.int .u8 ((n : Int) * 8 / 1099511627776)] 5)).cell? ⟨wr.heap.size, 0, none⟩ = some (.int .u8 ((n : Int) * 8 / 1099511627776)) := cell_of_rowAt (rowAt_alloc_at wr #[.int .u8 ((n : Int) * 8 / 1099511627776)] 5 _ rfl) 0
            have HLEN : Hid ((List.map Extern.Stop.cell (padI l 2)).length ≤ 20000) := Lib.hid (by rw [List.length_map, padI_len _ _ (by decide), HLN.out, HKK.out]; omega)
            clear ow b3
            go_wp2_with (at_builtin; refine wpList_put_one rfl _ _ 33 rfl 5 i0 _ 1 Tryd.underlying33 hi hz0 hz1 hz2 rfl w.heap.size _ _ rfl o4 (.int .u8 ((n : Int) * 8 / 1099511627776)) ⟨wr.heap.size, 0, none⟩ 1 rfl hcell rfl b4.size (by have := HLEN.out; unfold maxLen; omega) (by have := HLEN.out; omega) ?_)
            intro v5 w5 o5 hg5 _
            have b5 := b4.grown hg5 b4.size (fun k hk => (o4.lt k hk).1)
            have o6 : OwnF w5 w.heap.size 5 v5 ((padI l (2 + 1)).map Extern.Stop.cell) := by
              rw [HBY.out, map_snoc, ← HLN.out, padI_succ l 2 (by decide) (by rw [HLN.out]; exact hn1)] at o5
              exact o5
            clear o4 o5 hg5 hcell b4
            go_wp2_with fail
            exact ⟨⟨2 + 1, by decide, rfl, o6, b5⟩, by simp [intOf]⟩
          · rw [show ((3 : Nat) : Int) = 3 from rfl]
            have hby : (n : Int) * 8 / 4294967296 = ((UInt8.ofNat (8 * n / 256 ^ (7 - 3))).toNat : Int) := by
              rw [UInt8.toNat_ofNat', show (256 : Nat) ^ (7 - 3) = 4294967296 from rfl]
              omega
            have HBY := Lib.hid hby
            clear hby
            have b4 : Below w.heap.size w (wr.alloc (.cells #[.int .u8 ((n : Int) * 8 / 4294967296)] 5)) := b3.alloc b3.size _
            have o4 := ow.below ((Below.refl _ _).alloc (Nat.le_refl _) (.cells #[.int .u8 ((n : Int) * 8 / 4294967296)] 5))
            have hcell : (wr.alloc (.cells #[.int .u8 ((n : Int) * 8 / 4294967296)] 5)).cell? ⟨wr.heap.size, 0, none⟩ = some (.int .u8 ((n : Int) * 8 / 4294967296)) := cell_of_rowAt (rowAt_alloc_at wr #[.int .u8 ((n : Int) * 8 / 4294967296)] 5 _ rfl) 0
            have HLEN : Hid ((List.map Extern.Stop.cell (padI l 3)).length ≤ 20000) := Lib.hid (by rw [List.length_map, padI_len _ _ (by decide), HLN.out, HKK.out]; omega)
            clear ow b3
            go_wp2_with (at_builtin; refine wpList_put_one rfl _ _ 33 rfl 5 i0 _ 1 Tryd.underlying33 hi hz0 hz1 hz2 rfl w.heap.size _ _ rfl o4 (.int .u8 ((n : Int) * 8 / 4294967296)) ⟨wr.heap.size, 0, none⟩ 1 rfl hcell rfl b4.size (by have := HLEN.out; unfold maxLen; omega) (by have := HLEN.out; omega) ?_)
            intro v5 w5 o5 hg5 _
            have b5 := b4.grown hg5 b4.size (fun k hk => (o4.lt k hk).1)
            have o6 : OwnF w5 w.heap.size 5 v5 ((padI l (3 + 1)).map Extern.Stop.cell) := by
              rw [HBY.out, map_snoc, ← HLN.out, padI_succ l 3 (by decide) (by rw [HLN.out]; exact hn1)] at o5
              exact o5
            clear o4 o5 hg5 hcell b4
            go_wp2_with fail
            exact ⟨⟨3 + 1, by decide, rfl, o6, b5⟩, by simp [intOf]⟩
          · rw [show ((4 : Nat) : Int) = 4 from rfl]
            have hby : (n : Int) * 8 / 16777216 = ((UInt8.ofNat (8 * n / 256 ^ (7 - 4))).toNat : Int) := by
              rw [UInt8.toNat_ofNat', show (256 : Nat) ^ (7 - 4) = 16777216 from rfl]
              omega
            have HBY := Lib.hid hby
            clear hby
            have b4 : Below w.heap.size w (wr.alloc (.cells #[.int .u8 ((n : Int) * 8 / 16777216)] 5)) := b3.alloc b3.size _
            have o4 := ow.below ((Below.refl _ _).alloc (Nat.le_refl _) (.cells #[.int .u8 ((n : Int) * 8 / 16777216)] 5))
            have hcell : (wr.alloc (.cells #[.int .u8 ((n : Int) * 8 / 16777216)] 5)).cell? ⟨wr.heap.size, 0, none⟩ = some (.int .u8 ((n : Int) * 8 / 16777216)) := cell_of_rowAt (rowAt_alloc_at wr #[.int .u8 ((n : Int) * 8 / 16777216)] 5 _ rfl) 0
            have HLEN : Hid ((List.map Extern.Stop.cell (padI l 4)).length ≤ 20000) := Lib.hid (by rw [List.length_map, padI_len _ _ (by decide), HLN.out, HKK.out]; omega)
            clear ow b3
            go_wp2_with (at_builtin; refine wpList_put_one rfl _ _ 33 rfl 5 i0 _ 1 Tryd.underlying33 hi hz0 hz1 hz2 rfl w.heap.size _ _ rfl o4 (.int .u8 ((n : Int) * 8 / 16777216)) ⟨wr.heap.size, 0, none⟩ 1 rfl hcell rfl b4.size (by have := HLEN.out; unfold maxLen; omega) (by have := HLEN.out; omega) ?_)
            intro v5 w5 o5 hg5 _
            have b5 := b4.grown hg5 b4.size (fun k hk => (o4.lt k hk).1)
            have o6 : OwnF w5 w.heap.size 5 v5 ((padI l (4 + 1)).map Extern.Stop.cell) := by
              rw [HBY.out, map_snoc, ← HLN.out, padI_succ l 4 (by decide) (by rw [HLN.out]; exact hn1)] at o5
              exact o5
            clear o4 o5 hg5 hcell b4
            go_wp2_with fail
            exact ⟨⟨4 + 1, by decide, rfl, o6, b5⟩, by simp [intOf]⟩
          · rw [show ((5 : Nat) : Int) = 5 from rfl]
            have hby : (n : Int) * 8 / 65536 = ((UInt8.ofNat (8 * n / 256 ^ (7 - 5))).toNat : Int) := by
              rw [UInt8.toNat_ofNat', show (256 : Nat) ^ (7 - 5) = 65536 from rfl]
              omega
            have HBY := Lib.hid hby
            clear hby
            have b4 : Below w.heap.size w (wr.alloc (.cells #[.int .u8 ((n : Int) * 8 / 65536)] 5)) := b3.alloc b3.size _
            have o4 := ow.below ((Below.refl _ _).alloc (Nat.le_refl _) (.cells #[.int .u8 ((n : Int) * 8 / 65536)] 5))
            have hcell : (wr.alloc (.cells #[.int .u8 ((n : Int) * 8 / 65536)] 5)).cell? ⟨wr.heap.size, 0, none⟩ = some (.int .u8 ((n : Int) * 8 / 65536)) := cell_of_rowAt (rowAt_alloc_at wr #[.int .u8 ((n : Int) * 8 / 65536)] 5 _ rfl) 0
            have HLEN : Hid ((List.map Extern.Stop.cell (padI l 5)).length ≤ 20000) := Lib.hid (by rw [List.length_map, padI_len _ _ (by decide), HLN.out, HKK.out]; omega)
            clear ow b3
            go_wp2_with (at_builtin; refine wpList_put_one rfl _ _ 33 rfl 5 i0 _ 1 Tryd.underlying33 hi hz0 hz1 hz2 rfl w.heap.size _ _ rfl o4 (.int .u8 ((n : Int) * 8 / 65536)) ⟨wr.heap.size, 0, none⟩ 1 rfl hcell rfl b4.size (by have := HLEN.out; unfold maxLen; omega) (by have := HLEN.out; omega) ?_)
            intro v5 w5 o5 hg5 _
            have b5 := b4.grown hg5 b4.size (fun k hk => (o4.lt k hk).1)
            have o6 : OwnF w5 w.heap.size 5 v5 ((padI l (5 + 1)).map Extern.Stop.cell) := by
              rw [HBY.out, map_snoc, ← HLN.out, padI_succ l 5 (by decide) (by rw [HLN.out]; exact hn1)] at o5
              exact o5
            clear o4 o5 hg5 hcell b4
            go_wp2_with fail
            exact ⟨⟨5 + 1, by decide, rfl, o6, b5⟩, by simp [intOf]⟩
          · rw [show ((6 : Nat) : Int) = 6 from rfl]
            have hby : (n : Int) * 8 / 256 % 256 = ((UInt8.ofNat (8 * n / 256 ^ (7 - 6))).toNat : Int) := by
              rw [UInt8.toNat_ofNat', show (256 : Nat) ^ (7 - 6) = 256 from rfl]
              omega
            have HBY := Lib.hid hby
            clear hby
            have b4 : Below w.heap.size w (wr.alloc (.cells #[.int .u8 ((n : Int) * 8 / 256 % 256)] 5)) := b3.alloc b3.size _
            have o4 := ow.below ((Below.refl _ _).alloc (Nat.le_refl _) (.cells #[.int .u8 ((n : Int) * 8 / 256 % 256)] 5))
            have hcell : (wr.alloc (.cells #[.int .u8 ((n : Int) * 8 / 256 % 256)] 5)).cell? ⟨wr.heap.size, 0, none⟩ = some (.int .u8 ((n : Int) * 8 / 256 % 256)) := cell_of_rowAt (rowAt_alloc_at wr #[.int .u8 ((n : Int) * 8 / 256 % 256)] 5 _ rfl) 0
            have HLEN : Hid ((List.map Extern.Stop.cell (padI l 6)).length ≤ 20000) := Lib.hid (by rw [List.length_map, padI_len _ _ (by decide), HLN.out, HKK.out]; omega)
            clear ow b3
            go_wp2_with (at_builtin; refine wpList_put_one rfl _ _ 33 rfl 5 i0 _ 1 Tryd.underlying33 hi hz0 hz1 hz2 rfl w.heap.size _ _ rfl o4 (.int .u8 ((n : Int) * 8 / 256 % 256)) ⟨wr.heap.size, 0, none⟩ 1 rfl hcell rfl b4.size (by have := HLEN.out; unfold maxLen; omega) (by have := HLEN.out; omega) ?_)
            intro v5 w5 o5 hg5 _
            have b5 := b4.grown hg5 b4.size (fun k hk => (o4.lt k hk).1)
            have o6 : OwnF w5 w.heap.size 5 v5 ((padI l (6 + 1)).map Extern.Stop.cell) := by
              rw [HBY.out, map_snoc, ← HLN.out, padI_succ l 6 (by decide) (by rw [HLN.out]; exact hn1)] at o5
              exact o5
            clear o4 o5 hg5 hcell b4
            go_wp2_with fail
            exact ⟨⟨6 + 1, by decide, rfl, o6, b5⟩, by simp [intOf]⟩
          · rw [show ((7 : Nat) : Int) = 7 from rfl]
            have hby : (n : Int) * 8 % 256 = ((UInt8.ofNat (8 * n / 256 ^ (7 - 7))).toNat : Int) := by
              rw [UInt8.toNat_ofNat', show (256 : Nat) ^ (7 - 7) = 1 from rfl]
              omega
            have HBY := Lib.hid hby
            clear hby
            have b4 : Below w.heap.size w (wr.alloc (.cells #[.int .u8 ((n : Int) * 8 % 256)] 5)) := b3.alloc b3.size _
            have o4 := ow.below ((Below.refl _ _).alloc (Nat.le_refl _) (.cells #[.int .u8 ((n : Int) * 8 % 256)] 5))
            have hcell : (wr.alloc (.cells #[.int .u8 ((n : Int) * 8 % 256)] 5)).cell? ⟨wr.heap.size, 0, none⟩ = some (.int .u8 ((n : Int) * 8 % 256)) := cell_of_rowAt (rowAt_alloc_at wr #[.int .u8 ((n : Int) * 8 % 256)] 5 _ rfl) 0
            have HLEN : Hid ((List.map Extern.Stop.cell (padI l 7)).length ≤ 20000) := Lib.hid (by rw [List.length_map, padI_len _ _ (by decide), HLN.out, HKK.out]; omega)
            clear ow b3
            go_wp2_with (at_builtin; refine wpList_put_one rfl _ _ 33 rfl 5 i0 _ 1 Tryd.underlying33 hi hz0 hz1 hz2 rfl w.heap.size _ _ rfl o4 (.int .u8 ((n : Int) * 8 % 256)) ⟨wr.heap.size, 0, none⟩ 1 rfl hcell rfl b4.size (by have := HLEN.out; unfold maxLen; omega) (by have := HLEN.out; omega) ?_)
            intro v5 w5 o5 hg5 _
            have b5 := b4.grown hg5 b4.size (fun k hk => (o4.lt k hk).1)
            have o6 : OwnF w5 w.heap.size 5 v5 ((padI l (7 + 1)).map Extern.Stop.cell) := by
              rw [HBY.out, map_snoc, ← HLN.out, padI_succ l 7 (by decide) (by rw [HLN.out]; exact hn1)] at o5
              exact o5
            clear o4 o5 hg5 hcell b4
            go_wp2_with fail
            exact ⟨⟨7 + 1, by decide, rfl, o6, b5⟩, by simp [intOf]⟩
        · obtain rfl : i = 8 := by omega
          rw [padI_8] at ow
          rw [show ((8 : Nat) : Int) = 8 from rfl]
          go_wp2_with fail
          go_ret
          exact ⟨_, rfl, ow, b3⟩
end Go.Proofs.YthmhjojabalddaaDoor
