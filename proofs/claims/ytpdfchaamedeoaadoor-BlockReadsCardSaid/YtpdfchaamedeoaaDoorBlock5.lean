/- Blocks are made. Conditions: the tables lie where the program lays them. -/
import Derived.Test.YtpdfchaamedeoaaDoorBlock4
namespace Go.Proofs.YtpdfchaamedeoaaDoor
open Go Go.RowKit

set_option maxRecDepth 100000 in
set_option maxHeartbeats 2000000 in
theorem kMake_bad (v : Value) (l : List Ent) (w : World) (h : EntsAt w v l) (hs : smallB l) (hc : checkB l ≠ 0) : Calls Tryd.prog 14 #[v] w fun e w' => e = .returned (MakeR l) ∧ Below w.heap.size w w' := by
  have HC := Lib.hid (kCheck_any v l w h hs)
  unfold MakeR makeB
  rw [if_pos hc]
  generalize checkB l = E at *
  have e1 : ((E : Int) != 0) = true := by rw [bne_iff_ne]; omega
  have e2 : (E != 0) = true := by rw [bne_iff_ne]; exact hc
  clear h hc
  go_enter Tryd.func14, Tryd.ntmps14
  go_wp2_with fail
  refine HC.out.mono ?_
  rintro e w1 ⟨rfl, b1⟩
  clear HC
  go_wp2_with fail
  go_ret2
  exact ⟨rfl, b1⟩
set_option maxRecDepth 100000 in
set_option maxHeartbeats 4000000 in
theorem kMake_good (v : Value) (l : List Ent) (w : World) (h : EntsAt w v l) (ht : Tabs w) (hs : smallB l) (hc : checkB l = 0) : Calls Tryd.prog 14 #[v] w fun e w' => e = .returned (MakeR l) ∧ Below w.heap.size w w' := by
  have HC := Lib.hid (kCheck_any v l w h hs)
  obtain ⟨hl, hk⟩ := checkB_len hc
  have HR : Hid (MakeR l = if (textB l).length ≤ 65536 then .tuple #[.string (stx (frame (textB l))), .int .i64 0] else .tuple #[.string ⟨#[]⟩, .int .i64 2]) := Lib.hid (by
    unfold MakeR makeB
    rw [if_neg (by rw [hc]; simp)]
    split <;> rfl)
  rw [hc] at HC
  obtain ⟨ao, cap, rfl, hc1, hc2, h3⟩ := h
  have H3 := Lib.hid h3
  have HK := Lib.hid hk
  have HT := Lib.hid ht
  obtain ⟨n, hn⟩ : ∃ n, l.length = n := ⟨_, rfl⟩
  have HN := Lib.hid hn
  have HTX : Hid (numBytes n ++ encB [] (l.take n) = textB l) := Lib.hid (by rw [← hn, List.take_of_length_le (Nat.le_refl _)]; rfl)
  rw [hn] at hl HC ⊢
  have hn2 : (n : Int) ≤ 256 := by omega
  have hnn : n < 9223372036854775808 := by omega
  have HF0 : Hid (([] ++ numBytes n : List UInt8) = numBytes n ++ encB [] (l.take 0)) := Lib.hid (by simp [encB])
  obtain ⟨T, hT⟩ : ∃ T, textB l = T := ⟨_, rfl⟩
  rw [hT] at HR HTX
  obtain ⟨RR, hRR⟩ : ∃ RR, MakeR l = RR := ⟨_, rfl⟩
  rw [hRR] at HR ⊢
  clear h3 hk hn hT hRR hc hs ht hc1 hc2
  go_enter Tryd.func14, Tryd.ntmps14
  go_wp2_with fail
  refine HC.out.mono ?_
  rintro e w1 ⟨rfl, b1⟩
  have bq : Below w1.heap.size w1 (w1.alloc (.cells #[.slice none 0 0, .int .i64 0] 63)) := (Below.refl _ _).alloc (Nat.le_refl _) _
  have k0 := wrAt_new w1 _ rfl
  have HNU := Lib.hid (WNum_at k0 n hnn bq.size)
  have hw1 := b1.size
  clear HC k0
  go_wp2_with fail
  generalize hB : w1.heap.size = B at *
  generalize (w1.alloc (.cells #[.slice none 0 0, .int .i64 0] 63)) = W1 at *
  refine HNU.out.mono ?_
  rintro e w2 ⟨rfl, k2, n2⟩
  rw [HF0.out] at k2
  have b2 : Below B w1 w2 := bq.trans (n2.below (Nat.le_refl _) (Nat.le_refl _))
  have b3 : Below w.heap.size w w2 := below_past b1 (by rw [hB]; exact b2) b1.size
  have hB2 : B ≤ w2.heap.size := by rw [← hB]; exact b2.size
  have HB := Lib.hid hB
  clear HNU n2 bq b2 HF0 hB b1
  go_wp2_with fail
  go_loopw [6, 21] (fun u x wr => ∃ (i : Nat) (K : List UInt8), i ≤ n ∧ x = .int .i64 i ∧ u = .string (stx K) ∧ Hid (∀ y : Ent, K = if 0 < i then (l.getD (i - 1) y).key else []) ∧ Hid (K.length ≤ 100) ∧ WrAt B B (numBytes n ++ encB [] (l.take i)) wr ∧ Below w.heap.size w wr ∧ B ≤ wr.heap.size) (fun _ x _ => (n - intOf x).toNat)
  case atStart => exact ⟨0, [], Nat.zero_le _, rfl, rfl, Lib.hid (fun y => rfl), Lib.hid (by decide), k2, b3, hB2⟩
  case round =>
    obtain ⟨i, K, hi, rfl, rfl, HKK, HKL, kr, b4, hBr⟩ := hrel
    clear k2 b3 hB2
    by_cases hlt : i < n
    · have hlt' : (i : Int) < n := by omega
      obtain ⟨x, hx⟩ : ∃ x, l[i]? = some x := ⟨_, List.getElem?_eq_getElem (by rw [HN.out]; exact hlt)⟩
      obtain ⟨g, o, rfl, hat⟩ := H3.out i x hx
      obtain ⟨c1, c2, c3⟩ := hat.below b4
      have hkx := HK.out x (List.mem_of_getElem? hx)
      have HST := Lib.hid (encB_step hx (HKK.out x))
      have HLS := Lib.hid (fun y => lastK_step (y := y) hx)
      have bq : Below wr.heap.size wr (wr.alloc (.cells #[.string (stx x.key), .string (stx x.val), .bool x.gone] 42)) := (Below.refl _ _).alloc (Nat.le_refl _) _
      have h2 : (wr.alloc (.cells #[.string (stx x.key), .string (stx x.val), .bool x.gone] 42)).heap[wr.heap.size]? = some (.cells #[.string (stx x.key), .string (stx x.val), .bool x.gone] 42) := heap_alloc_new wr _
      have hne : wr.heap.size ≠ B := Nat.ne_of_gt kr.lt
      have k4 := kr.below bq
      have hB4 := Nat.le_trans hBr bq.size
      have HW := Lib.hid (kwrite_any B B _ x K _ k4 hB4 (by omega) (by omega) (by have := HKL.out; omega))
      unfold entA at HW
      rw [List.append_assoc, ← HST.out] at HW
      have HX100 := Lib.hid hkx.1
      have b5 := below_past b4 bq b4.size
      clear hx hat hkx HKK HKL kr bq k4 HST b4
      go_wp2_with fail
      generalize (wr.alloc (.cells #[.string (stx x.key), .string (stx x.val), .bool x.gone] 42)) = W at *
      refine HW.out.mono ?_
      rintro e w5 ⟨rfl, k5, n5⟩
      have h5 := near_cells n5 h2 ent_ne_u8 hne
      have c0 := (Lib.cell_of_heap h5 0).trans (rfl : _ = some (Value.string (stx x.key)))
      have b6 : Below w.heap.size w w5 := b5.trans (n5.below hw1 hw1)
      have hB5 := Nat.le_trans hB4 n5.size
      clear HW n5 h2 h5 b5 hB4 c1 c2 c3 hBr
      go_wp2_with fail
      exact ⟨⟨i + 1, x.key, hlt, by go_num, rfl, HLS, HX100, k5, b6, hB5⟩, by simp [intOf]; omega⟩
    · obtain rfl : i = n := by omega
      rw [HTX.out] at kr
      have HD := Lib.hid (WDone_at kr)
      clear kr HKK HKL
      by_cases hlen : T.length ≤ 65536
      · rw [if_pos hlen] at HD HR
        have HWR := Lib.hid (fun w ht => Wrap_any (stx T) w (by rw [stx_size]; exact hlen) ht)
        rw [show (stx T).data.toList = T from rfl] at HWR
        have HT5 := Lib.hid (HT.out.below b4)
        clear HT hlen
        go_wp2_with fail
        refine HD.out.mono ?_
        rintro e w6 ⟨rfl, b6⟩
        have T6 := HT5.out.below b6
        have b7 := below_past b4 b6 b4.size
        have HW6 := Lib.hid (HWR.out _ T6)
        clear HD b4 b6 T6 HWR HT5
        go_wp2_with fail
        refine HW6.out.mono ?_
        rintro e w7 ⟨rfl, b8⟩
        have b9 := below_past b7 b8 b7.size
        clear HW6 b7 b8
        go_wp2_with fail
        go_ret2
        exact ⟨by rw [HR.out]; rfl, b9⟩
      · rw [if_neg hlen] at HD HR
        clear HT hlen
        go_wp2_with fail
        refine HD.out.mono ?_
        rintro e w6 ⟨rfl, b6⟩
        have b7 := below_past b4 b6 b4.size
        clear HD b4 b6
        go_wp2_with fail
        go_ret2
        exact ⟨by rw [HR.out]; rfl, b7⟩
theorem kMake_any (v : Value) (l : List Ent) (w : World) (h : EntsAt w v l) (ht : Tabs w) (hs : smallB l) : Calls Tryd.prog 14 #[v] w fun e w' => e = .returned (MakeR l) ∧ Below w.heap.size w w' := by
  by_cases hc : checkB l = 0
  · exact kMake_good v l w h ht hs hc
  · exact kMake_bad v l w h hs hc
end Go.Proofs.YtpdfchaamedeoaaDoor
