/- What the document's Common, Order, Set, Cut and Good answer. Conditions: none. -/
import Derived.Test.YtnffmgpnhlcakaaDoorBits1
import Derived.Test.YtnffmgpnhlcakaaDoorQuiet
import Derived.Test.YtnffmgpnhlcakaaDoorMath2
namespace Go.Proofs.YtnffmgpnhlcakaaDoor
open Go Go.RowKit

theorem bitI_nat (a : Lab) (i : Nat) (h : i < 256) : bitI a (i : Int) = (bit a i : Int) := by
  rw [bitI, if_pos ⟨by omega, by omega⟩, Int.toNat_natCast]

theorem rCommon_any (a b : Lab) (w : World) :
    Calls Tryd.prog 46 #[.agg (cellsL a), .agg (cellsL b)] w fun e w' => e = .returned (.int .i64 (common a b)) ∧ Below w.heap.size w w' := by
  go_enter Tryd.func46, Tryd.ntmps46
  go_wp2_with fail
  go_loopw [5] (fun k wr => ∃ i : Nat, i ≤ 256 ∧ k = .int .i64 i ∧ Hid (∀ j, j < i → bit a j = bit b j) ∧ rowAt wr w.heap.size = some (cellsL a) ∧ rowAt wr (w.heap.size + 1) = some (cellsL b) ∧ Below w.heap.size w wr) (fun k _ => (256 - intOf k).toNat)
  case atStart => exact ⟨0, by omega, rfl, Lib.hid (by omega), by simp [rowAt_alloc_past, rowAt_alloc_at], by simp [rowAt_alloc_at], (((Below.refl _ _).alloc (Nat.le_refl _) _).alloc (by simp) _)⟩
  case round =>
    obtain ⟨i, hi, rfl, hs, ha, hb, hw⟩ := hrel
    have fa := fun x : Past wr => x.row ha
    have fb := fun x : Past wr => x.row hb
    by_cases hlt : i < 256
    · have hltI : (i : Int) < 256 := by omega
      by_cases he : bit a i = bit b i
      · have he' : (bitI a ↑i == bitI b ↑i) = true := by rw [bitI_nat a i hlt, bitI_nat b i hlt, he]; simp
        have HE := Lib.hid he
        clear he
        go_wp2_with fail
        refine wp_region_past (by kernel_rfl) (by kernel_rfl) ?_
        repeat (go_big_quiet_step ((go_at_call 72; exact Past.call (rBit_any _ _ _))))
        refine wpQuiet_nil ?_
        intro w2 hw2
        obtain ⟨⟨wn, hn⟩, rfl⟩ := hw2
        try dsimp only
        go_wp2_with fail
        go_roundw
        case rel => exact ⟨i + 1, by omega, by go_num, Lib.hid (fun j hj => by
            by_cases e : j = i
            · subst e; exact HE.out
            · exact hs.out j (by omega)), rowAt_past hn ha, rowAt_past hn hb, below_past hw hn hw.size⟩
        case measure => simp [intOf]; omega
      · have he' : (bitI a ↑i == bitI b ↑i) = false := by rw [bitI_nat a i hlt, bitI_nat b i hlt, beq_eq_false_iff_ne]; omega
        have HE := Lib.hid he
        clear he
        go_wp2_with fail
        refine wp_region_past (by kernel_rfl) (by kernel_rfl) ?_
        repeat (go_big_quiet_step ((go_at_call 72; exact Past.call (rBit_any _ _ _))))
        refine wpQuiet_nil ?_
        intro w2 hw2
        obtain ⟨⟨wn, hn⟩, rfl⟩ := hw2
        try dsimp only
        go_wp2_with fail
        go_ret
        exact ⟨ret_int (by rw [common_of ⟨hi, hs.out, fun _ => HE.out⟩]), below_past hw hn hw.size⟩
    · obtain rfl : i = 256 := by omega
      go_wp2_with fail
      refine wp_region_past (by kernel_rfl) (by kernel_rfl) ?_
      repeat (go_big_quiet_step (fail))
      refine wpQuiet_nil ?_
      intro w2 hw2
      obtain ⟨⟨wn, hn⟩, rfl⟩ := hw2
      try dsimp only
      go_wp2_with fail
      go_ret
      exact ⟨ret_int (by rw [common_of ⟨hi, hs.out, by omega⟩]), below_past hw hn hw.size⟩

theorem rOrder_any (a b : Lab) (w : World) :
    Calls Tryd.prog 47 #[.agg (cellsL a), .agg (cellsL b)] w fun e w' => e = .returned (.int .i64 (order a b)) ∧ Below w.heap.size w w' := by
  have hle := common_le a b
  have b0 : Below w.heap.size w ((w.alloc (.cells (cellsL a) 29)).alloc (.cells (cellsL b) 29)) := (((Below.refl _ _).alloc (Nat.le_refl _) _).alloc (by simp) _)
  by_cases h : common a b = 256
  · have h' : ((common a b : Int) == 256) = true := by rw [h]; rfl
    have H := Lib.hid h
    clear h
    go_enter Tryd.func47, Tryd.ntmps47
    go_wp2_with fail
    refine (rCommon_any _ _ _).mono ?_
    rintro e w1 ⟨rfl, hb1⟩
    go_wp2_with fail
    go_ret
    exact ⟨ret_int (by rw [order, if_pos H.out]), below_past b0 hb1 b0.size⟩
  · have h' : ((common a b : Int) == 256) = false := by rw [beq_eq_false_iff_ne]; omega
    have H := Lib.hid h
    have hlt : common a b < 256 := by omega
    clear h
    have hb2 := bit_lt a (common a b)
    go_enter Tryd.func47, Tryd.ntmps47
    go_wp2_with fail
    refine (rCommon_any _ _ _).mono ?_
    rintro e w1 ⟨rfl, hb1⟩
    have f1 : rowAt w1 w.heap.size = some (cellsL a) := rowAt_past hb1 (by simp [rowAt_alloc_past, rowAt_alloc_at])
    go_wp2_with fail
    refine (rBit_any _ _ _).mono ?_
    rintro e w2 ⟨rfl, hb3⟩
    rw [bitI_nat a _ hlt]
    go_wp2_with fail
    go_ret
    exact ⟨ret_int (by rw [order, if_neg H.out]), below_past (below_past b0 hb1 b0.size) hb3 (below_past b0 hb1 b0.size).size⟩

set_option maxRecDepth 100000 in
theorem rSet_any (a : Lab) (i : Int) (h0 : 0 ≤ i) (h1 : i < 256) (w : World) :
    Calls Tryd.prog 89 #[.agg (cellsL a), .int .i64 i] w fun e w' => e = .returned (.agg (cellsL (setBit a i.toNat))) ∧ Below w.heap.size w w' := by
  have b0 : Below w.heap.size w ((w.alloc (.cells (cellsL a) 29)).alloc (.cells (cellsL zeroLab) 29)) := (((Below.refl _ _).alloc (Nat.le_refl _) _).alloc (by simp) _)
  go_enter Tryd.func89, Tryd.ntmps89
  go_wp2_with fail
  go_loop [5, 6] (fun x k => ∃ r q : Nat, i % 8 + r ≤ 7 ∧ q ≤ 128 ∧ Hid (q = 2 ^ r) ∧ k = .int .i64 (i % 8 + r) ∧ x = .int .u8 (q : Int)) (fun _ k => (7 - intOf k).toNat)
  case atStart => exact ⟨0, 1, by omega, by omega, Lib.hid (by simp), by simp, rfl⟩
  case round =>
    obtain ⟨r, q, hr, hq, HQ, rfl, rfl⟩ := hrel
    by_cases hlt : i % 8 + r < 7
    · have hq2 : q ≤ 64 := by
        have : 2 ^ r ≤ 2 ^ 6 := Nat.pow_le_pow_right (by decide) (by omega)
        rw [HQ.out]; omega
      go_wp2_with fail
      go_round
      case rel => exact ⟨r + 1, 2 * q, by omega, by omega, Lib.hid (by rw [HQ.out, Nat.pow_succ, Nat.mul_comm]), by go_num, by go_num⟩
      case measure => simp [intOf]; omega
    · have hr2 : 7 - i.toNat % 8 = r := by omega
      have hi8 : i.toNat / 8 = (i / 8).toNat := by omega
      by_cases hbit : bit a i.toNat = 0
      · obtain ⟨hs1, hs2⟩ := setBit_add a i.toNat hbit
        rw [hr2, ← HQ.out, hi8] at hs1 hs2
        have hI : bitI a i = 0 := by rw [bitI, if_pos ⟨h0, h1⟩, hbit]; rfl
        have HI := Lib.hid hI
        clear hI hbit
        go_wp2_with fail
        refine (rBit_any _ _ _).mono ?_
        rintro e w1 ⟨rfl, hb1⟩
        rw [HI.out]
        have f1 : rowAt w1 w.heap.size = some (cellsL a) := rowAt_past hb1 (by simp [rowAt_alloc_past, rowAt_alloc_at])
        have f2 : rowAt w1 (w.heap.size + 1) = some (cellsL zeroLab) := rowAt_past hb1 (by simp [rowAt_alloc_at])
        have f3 := (cell_of_rowAt f1 (i / 8).toNat).trans (get_cellsL a _ (by omega))
        have f4 := frozen_of_rowAt f1 (i / 8).toNat
        have hset := set_cellsL a (i / 8).toNat (((a.get (i / 8).toNat).toNat : Int) + q) (by omega) (by omega)
        rw [show (((a.get (i / 8).toNat).toNat : Int) + q).toNat = (a.get (i / 8).toNat).toNat + q by omega, hs2] at hset
        have f5 := rowAt_setCell_same f1 (i / 8).toNat (.int .u8 (((a.get (i / 8).toNat).toNat : Int) + q))
        rw [hset] at f5
        have f6 := (rowAt_setCell_other w1 ⟨w.heap.size, (i / 8).toNat, none⟩ (w.heap.size + 1) (.int .u8 (((a.get (i / 8).toNat).toNat : Int) + q)) (by simp)).trans f2
        clear hset hs2 f2
        go_wp2_with fail
        exact row_ret_lab rfl rfl rfl (rowAt_setRow_same f6 _) ⟨rfl, Below.setRow (Below.setCell (below_past b0 hb1 b0.size) (Nat.le_refl _) _) (Nat.le_succ _) _⟩
      · have hb2 := bit_lt a i.toNat
        have hb3 : bit a i.toNat = 1 := by omega
        have hI : bitI a i = 1 := by rw [bitI, if_pos ⟨h0, h1⟩, hb3]; rfl
        have HI := Lib.hid hI
        have HS := Lib.hid (setBit_same a i.toNat hb3)
        clear hI hbit hb3
        go_wp2_with fail
        refine (rBit_any _ _ _).mono ?_
        rintro e w1 ⟨rfl, hb1⟩
        rw [HI.out]
        have f1 : rowAt w1 w.heap.size = some (cellsL a) := rowAt_past hb1 (by simp [rowAt_alloc_past, rowAt_alloc_at])
        have f2 : rowAt w1 (w.heap.size + 1) = some (cellsL zeroLab) := rowAt_past hb1 (by simp [rowAt_alloc_at])
        go_wp2_with fail
        exact row_ret_lab rfl rfl rfl (rowAt_setRow_same f2 _) ⟨by rw [HS.out], Below.setRow (below_past b0 hb1 b0.size) (Nat.le_succ _) _⟩

theorem rCut_any (a : Lab) (n : Int) (w : World) :
    Calls Tryd.prog 81 #[.agg (cellsL a), .int .i64 n] w fun e w' => e = .returned (.agg (cellsL (cut a n.toNat))) ∧ Below w.heap.size w w' := by
  have b0 : Below w.heap.size w (((w.alloc (.cells (cellsL a) 29)).alloc (.cells (cellsL zeroLab) 29)).alloc (.cells (cellsL zeroLab) 29)) := (((Below.refl _ _).alloc (Nat.le_refl _) _).alloc (by simp) _).alloc (by simp only [World.size_alloc]; omega) _
  go_enter Tryd.func81, Tryd.ntmps81
  go_wp2_with fail
  go_loopw [6] (fun k wr => ∃ i : Nat, i ≤ 256 ∧ (i : Int) ≤ max n 0 ∧ k = .int .i64 i ∧ rowAt wr w.heap.size = some (cellsL a) ∧ rowAt wr (w.heap.size + 1) = some (cellsL zeroLab) ∧ rowAt wr (w.heap.size + 2) = some (cellsL (cut a i)) ∧ Below w.heap.size w wr) (fun k _ => (256 - intOf k).toNat)
  case atStart => exact ⟨0, by omega, by omega, rfl, (rowAt_alloc_past _ _ _ (by simp only [World.size_alloc]; omega)).trans ((rowAt_alloc_past _ _ _ (by simp only [World.size_alloc]; omega)).trans (rowAt_alloc_at _ _ _ _ rfl)),
      (rowAt_alloc_past _ _ _ (by simp only [World.size_alloc]; omega)).trans (rowAt_alloc_at _ _ _ _ (by simp only [World.size_alloc])), by rw [cut_zero]; exact rowAt_alloc_at _ _ _ _ (by simp only [World.size_alloc]), b0⟩
  case round =>
    obtain ⟨i, hi, hin, rfl, ha, hz, hc, hw⟩ := hrel
    by_cases hlt : (i : Int) < n ∧ (i : Int) < 256
    · obtain ⟨hl1, hl2⟩ := hlt
      have hl3 : i < 256 := by omega
      have hI := bitI_nat a i hl3
      have HC := Lib.hid (cut_succ a i hl3)
      have HI := Lib.hid hI
      have hb2 := bit_lt a i
      clear hI
      by_cases hbit : bit a i = 1
      · have hq : ((bit a i : Int) == 1) = true := by rw [hbit]; rfl
        have HB := Lib.hid hbit
        clear hbit
        go_wp2_with fail
        refine (rBit_any _ _ _).mono ?_
        rintro e w1 ⟨rfl, hb1⟩
        rw [HI.out]
        have ha1 := rowAt_past hb1 ha
        have hz1 := rowAt_past hb1 hz
        have hc1 := rowAt_past hb1 hc
        go_wp2_with fail
        refine (rSet_any _ _ (by omega) (by omega) _).mono ?_
        rintro e w2 ⟨rfl, hb3⟩
        rw [Int.toNat_natCast]
        have ha2 := rowAt_past hb3 ha1
        have hz2 := rowAt_past hb3 hz1
        have hc2 := rowAt_past hb3 hc1
        go_wp2_with fail
        go_roundw
        case rel => exact ⟨i + 1, by omega, by omega, by go_num, (rowAt_setRow_other _ _ _ _ (by omega)).trans ha2, (rowAt_setRow_other _ _ _ _ (by omega)).trans hz2, by rw [HC.out, if_pos HB.out]; exact rowAt_setRow_same hc2 _, Below.setRow (below_past (below_past hw hb1 hw.size) hb3 (below_past hw hb1 hw.size).size) (by omega) _⟩
        case measure => simp [intOf]; omega
      · have hq : ((bit a i : Int) == 1) = false := by rw [beq_eq_false_iff_ne]; omega
        have HB := Lib.hid hbit
        clear hbit
        go_wp2_with fail
        refine (rBit_any _ _ _).mono ?_
        rintro e w1 ⟨rfl, hb1⟩
        rw [HI.out]
        go_wp2_with fail
        go_roundw
        case rel => exact ⟨i + 1, by omega, by omega, by go_num, rowAt_past hb1 ha, rowAt_past hb1 hz, by rw [HC.out, if_neg HB.out]; exact rowAt_past hb1 hc, below_past hw hb1 hw.size⟩
        case measure => simp [intOf]; omega
    · have HE : Hid (cut a i = cut a n.toNat) := Lib.hid (by
        by_cases h : (i : Int) < n
        · rw [cut_256 a i (by omega), cut_256 a n.toNat (by omega)]
        · rw [show i = n.toNat by omega])
      have hfin : ∀ c, rowAt (wr.setRow (w.heap.size + 1) c) (w.heap.size + 1) = some c := fun c => rowAt_setRow_same hz c
      by_cases h : (i : Int) < n
      · have h2 : ¬ (i : Int) < 256 := fun e => hlt ⟨h, e⟩
        clear hlt
        go_wp2_with fail
        exact row_ret_lab rfl rfl rfl (hfin _) ⟨by rw [HE.out], Below.setRow hw (Nat.le_succ _) _⟩
      · clear hlt
        go_wp2_with fail
        exact row_ret_lab rfl rfl rfl (hfin _) ⟨by rw [HE.out], Below.setRow hw (Nat.le_succ _) _⟩

theorem rGood_any (n : Int) (a : Lab) (w : World) :
    Calls Tryd.prog 71 #[.int .i64 n, .agg (cellsL a)] w fun e w' => e = .returned (.bool (good n a)) ∧ Below w.heap.size w w' := by
  have b0 : Below w.heap.size w (w.alloc (.cells (cellsL a) 29)) := (Below.refl _ _).alloc (Nat.le_refl _) _
  have fa := fun x : Past (w.alloc (.cells (cellsL a) 29)) => x.row (b := w.heap.size) (c := cellsL a) (by simp [rowAt_alloc_at])
  by_cases h : 0 ≤ n ∧ n ≤ 256
  · obtain ⟨h0, h1⟩ := h
    have HG : Hid (good n a = decide (cut a n.toNat = a)) := Lib.hid (by simp [good, h0, h1])
    go_enter Tryd.func71, Tryd.ntmps71
    go_wp2_with fail
    refine wp_region_past (by kernel_rfl) (by kernel_rfl) ?_
    repeat (go_big_quiet_step ((go_at_call 81; exact Past.call (rCut_any _ _ _))))
    refine wpQuiet_nil ?_
    intro w2 hw2
    obtain ⟨⟨wn, hn⟩, rfl⟩ := hw2
    try dsimp only
    go_wp2_with fail
    go_ret
    exact ⟨by rw [HG.out]; rfl, below_past b0 hn b0.size⟩
  · have HG : Hid (good n a = false) := Lib.hid (by simp [good]; omega)
    by_cases h0 : 0 ≤ n
    · have h1 : ¬ n ≤ 256 := fun e => h ⟨h0, e⟩
      have hd : decide (n ≤ 256) = false := by simpa using h1
      clear h
      go_enter Tryd.func71, Tryd.ntmps71
      go_wp2_with fail
      refine wp_region_past (by kernel_rfl) (by kernel_rfl) ?_
      repeat (go_big_quiet_step (fail))
      refine wpQuiet_nil ?_
      intro w2 hw2
      obtain ⟨⟨wn, hn⟩, rfl⟩ := hw2
      try dsimp only
      go_wp2_with fail
      go_ret
      exact ⟨by rw [HG.out]; rfl, below_past b0 hn b0.size⟩
    · have hd : decide (0 ≤ n) = false := by simpa using h0
      clear h
      go_enter Tryd.func71, Tryd.ntmps71
      go_wp2_with fail
      refine wp_region_past (by kernel_rfl) (by kernel_rfl) ?_
      repeat (go_big_quiet_step (fail))
      refine wpQuiet_nil ?_
      intro w2 hw2
      obtain ⟨⟨wn, hn⟩, rfl⟩ := hw2
      try dsimp only
      go_wp2_with fail
      go_ret
      exact ⟨by rw [HG.out]; rfl, below_past b0 hn b0.size⟩
end Go.Proofs.YtnffmgpnhlcakaaDoor
