/- Sums by keys. Conditions: the table lies where the program lays it. -/
import Derived.Test.YtlldcgofjibdjaaDoorShaLaw
namespace Go.Proofs.YtlldcgofjibdjaaDoor
open Go Go.RowKit

/-- A key filled up to a block. -/
def fillB (key : List UInt8) : Blk := ⟨(key ++ List.replicate 64 0).take 64, by rw [List.length_take, List.length_append, List.length_replicate]; omega⟩
/-- Its first i bytes turned. -/
def turnB (b : Blk) (x : UInt8) (i : Nat) : Blk := ⟨(b.l.take i).map (· ^^^ x) ++ b.l.drop i, by rw [List.length_append, List.length_map, List.length_take, List.length_drop, b.h]; omega⟩
/-- What a key is turned to. -/
def keyL (key : List UInt8) (x : UInt8) : List UInt8 := (fillB key).l.map (· ^^^ x)
theorem keyL_len (key : List UInt8) (x : UInt8) : (keyL key x).length = 64 := by rw [keyL, List.length_map, (fillB key).h]
theorem turnB_0 (b : Blk) (x : UInt8) : turnB b x 0 = b := by
  obtain ⟨l, h⟩ := b
  rfl
theorem turnB_64 (b : Blk) (x : UInt8) : (turnB b x 64).l = b.l.map (· ^^^ x) := by
  unfold turnB
  simp only
  rw [List.take_of_length_le (Nat.le_of_eq b.h), List.drop_eq_nil_of_le (Nat.le_of_eq b.h), List.append_nil]
theorem turnB_get (b : Blk) (x : UInt8) (i : Nat) (h : i < 64) : (turnB b x i).get i = b.get i := by
  unfold turnB Blk.get
  have hb := b.h
  simp only
  rw [List.getD_eq_getElem?_getD, List.getD_eq_getElem?_getD, List.getElem?_append_right (by rw [List.length_map, List.length_take]; omega), List.getElem?_drop, List.length_map, List.length_take]
  congr 2
  omega
theorem turnB_set (b : Blk) (x : UInt8) (i : Nat) (h : i < 64) : (cellsB (turnB b x i)).setIfInBounds i (.int .u8 ((b.get i ^^^ x).toNat : Int)) = cellsB (turnB b x (i + 1)) := by
  have hb := b.h
  have hg : b.l[i]? = some (b.get i) := by
    unfold Blk.get
    rw [List.getD_eq_getElem?_getD, List.getElem?_eq_getElem (by omega)]
    rfl
  simp only [cellsB, bcells, turnB]
  rw [List.setIfInBounds_toArray]
  congr 1
  rw [show Value.int .u8 ((b.get i ^^^ x).toNat : Int) = Extern.Stop.cell (b.get i ^^^ x) from rfl, ← List.map_set]
  congr 1
  rw [List.set_append_right _ _ (by rw [List.length_map, List.length_take]; omega), List.length_map, List.length_take, show i - min i b.l.length = 0 by omega]
  rw [show b.l.drop i = b.get i :: b.l.drop (i + 1) from by
    rw [List.drop_eq_getElem_cons (by omega)]
    congr 1
    rw [List.getElem?_eq_getElem (by omega)] at hg
    exact Option.some.inj hg]
  rw [List.set_cons_zero, List.take_add_one, hg]
  simp
theorem get_cellsB (a : Blk) (i : Nat) (h : i < 64) : (cellsB a)[i]? = some (.int .u8 ((a.get i).toNat : Int)) := by
  have := getD_some (d := 0) (show i < a.l.length by rw [a.h]; exact h)
  simp only [cellsB, bcells, List.getElem?_toArray]
  rw [List.getElem?_map, this]
  rfl
theorem splice_fill (t : List UInt8) (h : t.length ≤ 64) : splice (cellsB zeroB) 0 (t.map Extern.Stop.cell) = cellsB (fillB t) := by
  simp only [splice, cellsB, bcells, zeroB, fillB, List.toList_toArray, List.take_zero, List.nil_append, List.length_map, Nat.zero_add]
  congr 1
  rw [← List.map_drop, ← List.map_append]
  congr 1
  rw [List.drop_replicate, List.take_append, List.take_of_length_le h, List.take_replicate]
  congr 2
  omega
theorem copy_key (w : World) (ty : TypeId) (b : Nat) (t : List UInt8) (h : rowAt w b = some (cellsB zeroB)) (hlen : t.length ≤ 64) :
    (Builtin.copy_ #[40, 9] ty #[.slice (some ⟨b, 0, none⟩) 64 64, .string (stx t)]).run Tryd.prog w = .ok (goInt t.length) (w.setRow b (cellsB (fillB t))) := by
  have hsz : (sizeOf 5).run Tryd.prog w = .ok 1 w := by
    have : (Tryd.prog.info? 5).map (·.size) = some 1 := by kernel_rfl
    cases hq : Tryd.prog.info? 5 with
    | none => simp [hq] at this
    | some i => simp [sizeOf, typeInfo, hq] at this ⊢; exact this
  have hmin : (stx t).size.min 64 = t.length := by
    rw [stx_size]
    exact Nat.min_eq_left hlen
  have hext : ((stx t).extract 0 t.length).data.map (fun b => Value.int .u8 b.toNat) = (t.map Extern.Stop.cell).toArray := by
    rw [show (stx t).extract 0 t.length = stx t from by have := stx_extract t 0 t.length; rwa [List.drop_zero, List.take_of_length_le (Nat.le_refl _)] at this]
    simp only [List.map_toArray]
    rfl
  have hst := run_storeCells_cells (P := Tryd.prog) b 0 (t.map Extern.Stop.cell) 0 w (fun j hj => by rw [cell_of_rowAt h]; simp; simp at hj; omega) (fun j hj => frozen_of_rowAt h _) (fun v hv => by
    obtain ⟨x, _, rfl⟩ := List.mem_map.1 hv
    rfl)
  rw [Nat.add_zero, setCells_eq_setRow b _ 0 w _ h (by simp; omega), splice_fill _ hlen] at hst
  simp only [Builtin.copy_, Sem.run_bind, run_underlying Tryd.underlying40, Result.andThen_ok, Builtin.lenOf, Sem.run_pure, hmin, hsz, Builtin.firstCells, hext, hst, List.getElem?_toArray, List.getElem?_cons_zero, List.getElem?_cons_succ]
theorem conv_blk (x : Blk) (w : World) (b : Nat) (h : rowAt w b = some (cellsB x)) : (convert 40 9 (.slice (some ⟨b, 0, none⟩) 64 64)).run Tryd.prog w = .ok (.string (stx x.l)) w := by
  have hl := x.h
  have q := run_convert_bytes_back (P := Tryd.prog) w 40 9 5 ⟨b, 0, none⟩ 64 x.l Tryd.underlying40 Tryd.underlying5 Tryd.underlying9 ?_
  · rw [hl] at q
    exact q
  intro j hj
  rw [show (⟨b, 0, none⟩ : Addr).add j = ⟨b, j, none⟩ by simp [Addr.add]; exact fun e => e.symm, cell_of_rowAt h]
  simp only [cellsB, bcells, List.getElem?_toArray]
  rw [List.getElem?_map, List.getElem?_eq_getElem hj]
  rfl
theorem conv_lab (x : Lab) (w : World) (b : Nat) (h : rowAt w b = some (cellsL x)) : (convert 40 9 (.slice (some ⟨b, 0, none⟩) 32 32)).run Tryd.prog w = .ok (.string (stx x.l)) w := by
  have hl := x.h
  have q := run_convert_bytes_back (P := Tryd.prog) w 40 9 5 ⟨b, 0, none⟩ 32 x.l Tryd.underlying40 Tryd.underlying5 Tryd.underlying9 ?_
  · rw [hl] at q
    exact q
  intro j hj
  rw [show (⟨b, 0, none⟩ : Addr).add j = ⟨b, j, none⟩ by simp [Addr.add]; exact fun e => e.symm, cell_of_rowAt h]
  simp only [cellsL, List.getElem?_toArray]
  rw [List.getElem?_map, List.getElem?_eq_getElem hj]
  rfl
theorem xor_u8 (a b : UInt8) : bits .xor .u8 (a.toNat : Int) (b.toNat : Int) = ((a ^^^ b).toNat : Int) := by
  rw [u8_xor_nat _ _ a.toNat_lt b.toNat_lt, UInt8.toNat_xor]

set_option maxRecDepth 100000 in
set_option maxHeartbeats 2000000 in
theorem keyed_any (key : List UInt8) (x : UInt8) (t : List UInt8) (w : World) (ht : Cubes w) (hk : key.length ≤ 64) (hl : t.length ≤ 500000) :
    Calls Tryd.prog 33 #[.string (stx key), .int .u8 (x.toNat : Int), .string (stx t)] w fun e w' => e = .returned (.agg (cellsL (shaLab (keyL key x ++ t)))) ∧ Below w.heap.size w w' := by
  have b0 : Below w.heap.size w (w.alloc (.cells (cellsL zeroLab) 23)) := (Below.refl _ _).alloc (Nat.le_refl _) _
  have r0 := rowAt_alloc_at w (cellsL zeroLab) 23 _ rfl
  have b1 := b0.alloc b0.size (.cells (cellsB zeroB) 57)
  have r1 : rowAt ((w.alloc (.cells (cellsL zeroLab) 23)).alloc (.cells (cellsB zeroB) 57)) w.heap.size = some (cellsL zeroLab) := rowAt_past ((Below.refl _ _).alloc (Nat.le_refl _) _) r0
  have r2 : rowAt ((w.alloc (.cells (cellsL zeroLab) 23)).alloc (.cells (cellsB zeroB) 57)) (w.heap.size + 1) = some (cellsB zeroB) := rowAt_alloc_at _ _ _ _ (by simp)
  have hcp := copy_key _ 3 _ key r2 hk
  have HT := Lib.hid ht
  have x0 : (0 : Int) ≤ x.toNat := by omega
  have x1 : (x.toNat : Int) < 256 := by have := x.toNat_lt; omega
  have HL := Lib.hid hl
  have HXX := Lib.hid (fun a : UInt8 => xor_u8 a x)
  clear ht hl hk
  go_enter Tryd.func33, Tryd.ntmps33
  go_wp2_with fail
  have r3 : rowAt ((w.alloc (.cells (cellsL zeroLab) 23)).alloc (.cells (cellsB (fillB key)) 57)) (w.heap.size + 1) = some (cellsB (turnB (fillB key) x 0)) := by rw [turnB_0]; exact rowAt_alloc_at _ _ _ _ (by simp)
  have r4 : rowAt ((w.alloc (.cells (cellsL zeroLab) 23)).alloc (.cells (cellsB (fillB key)) 57)) w.heap.size = some (cellsL zeroLab) := rowAt_past ((Below.refl _ _).alloc (Nat.le_refl _) _) r0
  have b2 := b0.alloc b0.size (.cells (cellsB (fillB key)) 57)
  have hg : 0 < w.heap.size := HT.out.global
  clear hcp r0 r1 r2 b0 b1
  generalize ((w.alloc (.cells (cellsL zeroLab) 23)).alloc (.cells (cellsB (fillB key)) 57)) = W at *
  go_loopw [8, 13] (fun _ y wr => ∃ i : Nat, i ≤ 64 ∧ y = .int .i64 i ∧ rowAt wr (w.heap.size + 1) = some (cellsB (turnB (fillB key) x i)) ∧ rowAt wr w.heap.size = some (cellsL zeroLab) ∧ Below w.heap.size w wr) (fun _ y _ => (64 - intOf y).toNat)
  case atStart => exact ⟨0, by omega, rfl, r3, r4, b2⟩
  case round =>
    obtain ⟨i, hi, rfl, q1, q2, b3⟩ := hrel
    clear r3 r4 b2
    by_cases hlt : i < 64
    · have hlt' : (i : Int) < 64 := by omega
      have c0 : wr.cell? ⟨w.heap.size + 1, i, none⟩ = some (.int .u8 (((fillB key).get i).toNat : Int)) := by rw [cell_of_rowAt q1, get_cellsB _ _ hlt, turnB_get _ _ _ hlt]
      have f0 := frozen_of_rowAt q1 i
      have HX := Lib.hid (HXX.out ((fillB key).get i))
      have Q1 : Hid (rowAt (wr.setCell ⟨w.heap.size + 1, i, none⟩ (.int .u8 (((fillB key).get i ^^^ x).toNat : Int))) (w.heap.size + 1) = some (cellsB (turnB (fillB key) x (i + 1)))) := Lib.hid (by rw [rowAt_setCell_same q1, turnB_set _ _ _ hlt])
      have Q2 : Hid (rowAt (wr.setCell ⟨w.heap.size + 1, i, none⟩ (.int .u8 (((fillB key).get i ^^^ x).toNat : Int))) w.heap.size = some (cellsL zeroLab)) := Lib.hid (by rw [rowAt_setCell_other _ _ _ _ (by simp)]; exact q2)
      have B3 : Hid (Below w.heap.size w (wr.setCell ⟨w.heap.size + 1, i, none⟩ (.int .u8 (((fillB key).get i ^^^ x).toNat : Int)))) := Lib.hid (b3.setCell (by simp) _)
      have z0 : (0 : Int) ≤ ((fillB key).get i).toNat := by omega
      have z1 : (((fillB key).get i).toNat : Int) < 256 := by have := ((fillB key).get i).toNat_lt; omega
      clear q1 q2 b3
      generalize (fillB key).get i = c at *
      go_wp2_with fail
      rw [HX.out]
      exact ⟨⟨i + 1, hlt, by go_num, Q1.out, Q2.out, B3.out⟩, by simp [intOf]; omega⟩
    · obtain rfl : i = 64 := by omega
      rw [show ((64 : Nat) : Int) = 64 from rfl]
      have HK : Hid ((turnB (fillB key) x 64).l = keyL key x) := Lib.hid (turnB_64 _ _)
      generalize turnB (fillB key) x 64 = K at *
      have HB := Lib.hid (begin_any wr)
      have HA := Lib.hid (fun b w hs ht hb => add_any b [] (keyL key x) w hs ht hb (by rw [keyL_len]; show 0 + 64 ≤ _; omega))
      have HA2 := Lib.hid (fun b w hs ht hb => add_any b (keyL key x) t w hs ht hb (by rw [keyL_len]; have := HL.out; omega))
      have HD := Lib.hid (fun b w hs' ht hb => done_any b (keyL key x ++ t) w hs' ht hb (by rw [List.length_append, keyL_len]; have := HL.out; omega))
      rw [List.nil_append] at HA
      go_wp2_with fail
      refine HB.out.mono ?_
      rintro e w1 ⟨rfl, b4⟩
      have hz1 : w.heap.size + 1 < w1.heap.size := by have := lt_of_rowAt (rowAt_past b4 q1); omega
      have b5 := below_past b3 b4 b3.size
      have b6 := b5.alloc b5.size (.cells (cellsR ivW zeroB 0) 59)
      have bst : Below w1.heap.size w1 (w1.alloc (.cells (cellsR ivW zeroB 0) 59)) := (Below.refl _ _).alloc (Nat.le_refl _) _
      have p1 := rowAt_past bst (rowAt_past b4 q1)
      have p2 := rowAt_past bst (rowAt_past b4 q2)
      have S1 := Lib.hid (sums_new (rowAt_alloc_at w1 (cellsR ivW zeroB 0) 59 _ rfl))
      have T1 := Lib.hid (HT.out.below b6)
      have hne : w1.heap.size ≠ 0 := by omega
      have hconv := conv_blk K _ _ p1
      rw [HK.out] at hconv
      have P2 := Lib.hid p2
      clear q1 q2 b3 b4 b5 p1 p2 bst HB
      go_wp2_with fail
      clear hconv
      refine (HA.out _ _ S1.out T1.out hne).mono ?_
      rintro e w2 ⟨rfl, s2, k2⟩
      have b7 := k2.below b6 (by omega) b6.size
      have r4 := k2.row P2.out (by omega)
      have S2 := Lib.hid s2
      have T2 := Lib.hid (T1.out.but k2 hne)
      clear s2 k2 b6 S1 T1
      go_wp2_with fail
      refine (HA2.out _ _ S2.out T2.out hne).mono ?_
      rintro e w3 ⟨rfl, s3, k3⟩
      have b8 := k3.below b7 (by omega) b7.size
      have r5 := k3.row r4 (by omega)
      have S3 := Lib.hid s3
      have T3 := Lib.hid (T2.out.but k3 hne)
      clear s3 k3 r4 b7 S2 T2
      go_wp2_with fail
      refine (HD.out _ _ S3.out T3.out hne).mono ?_
      rintro e w4 ⟨rfl, k4⟩
      have b9 := k4.below b8 (by omega) b8.size
      have r6 := k4.row r5 (by omega)
      clear k4 r5 b8 S3 T3
      go_wp2_with fail
      exact row_ret_labS rfl rfl rfl (rowAt_setRow_same r6 _) ⟨rfl, Below.setRow b9 (Nat.le_refl _) _⟩

/-- A sum by a key. -/
def macK (key : List UInt8) : List UInt8 := if 64 < key.length then shaL key else key
def macL (key t : List UInt8) : Lab := shaLab (keyL (macK key) 92 ++ (shaLab (keyL (macK key) 54 ++ t)).l)
theorem macK_len (key : List UInt8) : (macK key).length ≤ 64 := by
  unfold macK
  split
  · rw [← shaLab_l, (shaLab key).h]; omega
  · omega
theorem macK_long (key : List UInt8) (h : 64 < key.length) : macK key = (shaLab key).l := by rw [macK, if_pos h, shaLab_l]
theorem macK_short (key : List UInt8) (h : ¬ 64 < key.length) : macK key = key := by rw [macK, if_neg h]
set_option maxRecDepth 100000 in
set_option maxHeartbeats 2000000 in
theorem Mac_any (key t : List UInt8) (w : World) (ht : Cubes w) (hk : key.length ≤ 500000) (hl : t.length ≤ 400000) :
    Calls Tryd.prog 15 #[.string (stx key), .string (stx t)] w fun e w' => e = .returned (.agg (cellsL (macL key t))) ∧ Below w.heap.size w w' := by
  have b0 : Below w.heap.size w (w.alloc (.cells (cellsL zeroLab) 23)) := (Below.refl _ _).alloc (Nat.le_refl _) _
  have r0 := rowAt_alloc_at w (cellsL zeroLab) 23 _ rfl
  have T0 := Lib.hid (ht.below b0)
  have hz : (stx key).size = key.length := stx_size key
  have H1 := Lib.hid (fun w ht => keyed_any (macK key) 54 t w ht (macK_len key) (by omega))
  have H2 := Lib.hid (fun w ht => keyed_any (macK key) 92 (shaLab (keyL (macK key) 54 ++ t)).l w ht (macK_len key) (by rw [(shaLab (keyL (macK key) 54 ++ t)).h]; omega))
  have HM : Hid (macL key t = shaLab (keyL (macK key) 92 ++ (shaLab (keyL (macK key) 54 ++ t)).l)) := Lib.hid rfl
  rw [show (((54 : UInt8).toNat : Nat) : Int) = 54 from rfl] at H1
  rw [show (((92 : UInt8).toNat : Nat) : Int) = 92 from rfl] at H2
  generalize shaLab (keyL (macK key) 92 ++ (shaLab (keyL (macK key) 54 ++ t)).l) = R at *
  generalize shaLab (keyL (macK key) 54 ++ t) = I at *
  by_cases h64 : 64 < key.length
  · have h64' : decide ((64 : Int) < key.length) = true := decide_eq_true (by omega)
    have h64'' : decide (64 < key.length) = true := decide_eq_true (by omega)
    have HS := Lib.hid (fun w ht => Sum_any (stx key) w ht (by rw [stx_size]; omega))
    rw [show (stx key).data.toList = key from rfl] at HS
    rw [macK_long key h64] at H1 H2
    generalize shaLab key = L at *
    clear ht
    go_enter Tryd.func15, Tryd.ntmps15
    go_wp2_with fail
    refine (HS.out _ T0.out).mono ?_
    rintro e w1 ⟨rfl, b1⟩
    have r1 := rowAt_alloc_at w1 (cellsL L) 23 _ rfl
    have hc1 := conv_lab L _ _ r1
    have b2 := below_past b0 b1 b0.size
    have bn : Below w1.heap.size w1 (w1.alloc (.cells (cellsL L) 23)) := (Below.refl _ _).alloc (Nat.le_refl _) _
    have b3 := below_past b2 bn b2.size
    have T1 := Lib.hid ((T0.out.below b1).below bn)
    have r2 := rowAt_past bn (rowAt_past b1 r0)
    clear HS b1 b2 bn r0 r1 b0
    go_wp2_with fail
    clear hc1
    refine (H1.out _ T1.out).mono ?_
    rintro e w2 ⟨rfl, b4⟩
    have b5 := below_past b3 b4 b3.size
    have bm : Below w2.heap.size w2 (w2.alloc (.cells (cellsL I) 23)) := (Below.refl _ _).alloc (Nat.le_refl _) _
    have b6 := below_past b5 bm b5.size
    have T2 := Lib.hid ((T1.out.below b4).below bm)
    have r3 := rowAt_past bm (rowAt_past b4 r2)
    have hc2 := conv_lab I _ _ (rowAt_alloc_at w2 (cellsL I) 23 _ rfl)
    clear H1 b4 b5 bm r2 T1 b3
    go_wp2_with fail
    clear hc2
    refine (H2.out _ T2.out).mono ?_
    rintro e w3 ⟨rfl, b7⟩
    have b8 := below_past b6 b7 b6.size
    have r4 := rowAt_past b7 r3
    clear H2 b7 r3 T2 b6
    go_wp2_with fail
    exact row_ret_labS rfl rfl rfl (rowAt_setRow_same r4 _) ⟨by rw [HM.out], Below.setRow b8 (Nat.le_refl _) _⟩
  · have h64' : decide ((64 : Int) < key.length) = false := decide_eq_false (by omega)
    have h64'' : decide (64 < key.length) = false := decide_eq_false (by omega)
    have b3 := b0
    have T1 := T0
    have r2 := r0
    rw [macK_short key h64] at H1 H2
    clear ht b0 T0 r0
    go_enter Tryd.func15, Tryd.ntmps15
    go_wp2_with fail
    refine (H1.out _ T1.out).mono ?_
    rintro e w2 ⟨rfl, b4⟩
    have b5 := below_past b3 b4 b3.size
    have bm : Below w2.heap.size w2 (w2.alloc (.cells (cellsL I) 23)) := (Below.refl _ _).alloc (Nat.le_refl _) _
    have b6 := below_past b5 bm b5.size
    have T2 := Lib.hid ((T1.out.below b4).below bm)
    have r3 := rowAt_past bm (rowAt_past b4 r2)
    have hc2 := conv_lab I _ _ (rowAt_alloc_at w2 (cellsL I) 23 _ rfl)
    clear H1 b4 b5 bm r2 T1 b3
    go_wp2_with fail
    clear hc2
    refine (H2.out _ T2.out).mono ?_
    rintro e w3 ⟨rfl, b7⟩
    have b8 := below_past b6 b7 b6.size
    have r4 := rowAt_past b7 r3
    clear H2 b7 r3 T2 b6
    go_wp2_with fail
    exact row_ret_labS rfl rfl rfl (rowAt_setRow_same r4 _) ⟨by rw [HM.out], Below.setRow b8 (Nat.le_refl _) _⟩
end Go.Proofs.YtlldcgofjibdjaaDoor
