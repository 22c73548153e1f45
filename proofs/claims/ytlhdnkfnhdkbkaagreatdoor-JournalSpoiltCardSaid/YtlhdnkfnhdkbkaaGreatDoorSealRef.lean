/- The document's own frames: the check, wrapping, opening. Conditions: texts of the sizes that each statement names. -/
import Derived.Test.YtlhdnkfnhdkbkaaGreatDoorSeal2
import Derived.Test.YtlhdnkfnhdkbkaaGreatDoorSealBits
import Derived.Test.YtlhdnkfnhdkbkaaGreatDoorSealLaw
namespace Go.Proofs.YtlhdnkfnhdkbkaaGreatDoor
open Go Go.RowKit

set_option maxRecDepth 100000 in
theorem four_any (n : Nat) (w : World) (hn : n < 4294967296) :
    Calls Tryz.prog 72 #[.int .u32 n] w fun e w' => e = .returned (.string (stx (be4 n))) ∧ Below w.heap.size w w' := by
  have hc := cells_be4 n w
  have b0 : Below w.heap.size w (w.alloc (.cells #[.int .u8 ((n : Int) / 16777216), .int .u8 ((n : Int) / 65536 % 256), .int .u8 ((n : Int) / 256 % 256), .int .u8 ((n : Int) % 256)] 5)) := (Below.refl _ _).alloc (Nat.le_refl _) _
  go_enter Tryz.func72, Tryz.ntmps72
  go_wp2_with fail
  try rw [hc hn]
  try simp only [Result.andThen]
  try rw [Oper.upon_value]
  go_wp2_with fail
  go_ret
  exact ⟨rfl, b0⟩

theorem refB_bit (c b k : Nat) (hc : c < 4294967296) (hb : b < 256) : bits .and .u32 (bits .xor .u32 (c : Int) ((b / 2 ^ k : Nat) : Int)) 1 = (((c ^^^ b / 2 ^ k) % 2 : Nat) : Int) := by
  have hd : b / 2 ^ k < 4294967296 := Nat.lt_of_le_of_lt (Nat.div_le_self _ _) (by omega)
  rw [u32_xor_nat _ _ hc hd]
  have h := u32_and_nat (c ^^^ b / 2 ^ k) 1 (Nat.xor_lt_two_pow (n := 32) hc hd) (by decide)
  rw [show ((1 : Nat) : Int) = 1 from rfl] at h
  rw [h, Nat.and_one_is_mod]
set_option maxRecDepth 100000 in
set_option maxHeartbeats 1000000 in
theorem r4Check_any (s : ByteArray) (w : World) (hs : s.size ≤ 1000000) :
    Calls Tryz.prog 73 #[.string s] w fun e w' => e = .returned (.int .u32 (crc s.data.toList)) ∧ w' = w := by
  have hs' : (s.size : Int) ≤ 1000000 := by omega
  clear hs
  go_enter Tryz.func73, Tryz.ntmps73
  go_wp2_with fail
  go_loop [3, 4] (fun x t => ∃ i : Nat, i ≤ s.size ∧ t = .int .i64 i ∧ Hid (x = .int .u32 (crcF 4294967295 (s.data.toList.take i)))) (fun _ t => (s.size - intOf t).toNat)
  case atStart => exact ⟨0, Nat.zero_le _, rfl, Lib.hid rfl⟩
  case round =>
    obtain ⟨i, hi, rfl, HX⟩ := hrel
    obtain ⟨n, hn⟩ : ∃ n, crcF 4294967295 (s.data.toList.take i) = n := ⟨_, rfl⟩
    have hx := HX.out
    rw [hn] at hx
    subst hx
    have hn32 : n < 4294967296 := by rw [← hn]; exact crcF_lt _ _ (by decide)
    by_cases hlt : i < s.size
    · have hlt' : (i : Int) < s.size := by omega
      have hat := atB_get s i hlt
      obtain ⟨y, hy⟩ : ∃ y, atB s i = y := ⟨_, rfl⟩
      rw [hy] at hat
      have hyb := y.toNat_lt
      have HS : Hid (crcF 4294967295 (s.data.toList.take (i + 1)) = refB n y.toNat 8) := Lib.hid (by
        have hl : i < s.data.toList.length := hlt
        have hy2 : s.data.toList[i] = y := by
          rw [← hy, atB, List.getD_eq_getElem?_getD, List.getElem?_eq_getElem hl]
          rfl
        rw [List.take_succ_eq_append_getElem hl, crcF_put, hn, hy2, refB_step])
      clear hn hy HX
      go_wp2_with fail
      go_loop [3, 5] (fun x t => ∃ k : Nat, k ≤ 8 ∧ t = .int .i64 k ∧ Hid (x = .int .u32 (refB n y.toNat k))) (fun _ t => (8 - intOf t).toNat)
      case atStart => exact ⟨0, Nat.zero_le _, rfl, Lib.hid rfl⟩
      case round =>
        obtain ⟨k, hk, rfl, HY⟩ := hrel
        obtain ⟨c, hc⟩ : ∃ c, refB n y.toNat k = c := ⟨_, rfl⟩
        have hx := HY.out
        rw [hc] at hx
        subst hx
        have hc32 : c < 4294967296 := by rw [← hc]; exact refB_lt _ _ hn32 k
        by_cases hlt3 : k < 8
        · have hlt3' : (k : Int) < 8 := by omega
          have hdv : (y.toNat : Int) / 2 ^ k = ((y.toNat / 2 ^ k : Nat) : Int) := by
            rw [Int.natCast_ediv, Int.natCast_pow]
            rfl
          have hand := refB_bit c y.toNat k hc32 hyb
          rw [← hdv] at hand
          have hxp : bits .xor .u32 ((c : Int) / 2) 3988292384 = ((c / 2 ^^^ 3988292384 : Nat) : Int) := by
            have h := u32_xor_nat (c / 2) 3988292384 (by omega) (by decide)
            rw [show ((3988292384 : Nat) : Int) = 3988292384 from rfl, show ((c / 2 : Nat) : Int) = (c : Int) / 2 by omega] at h
            exact h
          rcases Nat.mod_two_eq_zero_or_one (c ^^^ y.toNat / 2 ^ k) with hm | hm
          · rw [hm, show ((0 : Nat) : Int) = 0 from rfl] at hand
            have HS2 : Hid (refB n y.toNat (k + 1) = c / 2) := Lib.hid (by rw [refB, hc, if_neg (by omega)])
            clear hm hdv hxp hc HY
            go_wp2_with fail
            exact ⟨⟨k + 1, hlt3, by go_num, Lib.hid (by rw [HS2.out]; rfl)⟩, by simp [intOf]; omega⟩
          · rw [hm, show ((1 : Nat) : Int) = 1 from rfl] at hand
            have HS2 : Hid (refB n y.toNat (k + 1) = c / 2 ^^^ 3988292384) := Lib.hid (by rw [refB, hc, if_pos hm])
            clear hm hdv hc HY
            generalize c / 2 ^^^ 3988292384 = d at *
            go_wp2_with fail
            exact ⟨⟨k + 1, hlt3, by go_num, Lib.hid (by rw [HS2.out])⟩, by simp [intOf]; omega⟩
        · obtain rfl : k = 8 := by omega
          have HS3 : Hid (crcF 4294967295 (s.data.toList.take (i + 1)) = c) := Lib.hid (by rw [HS.out, hc])
          clear hc HY
          go_wp2_with fail
          exact ⟨⟨i + 1, hlt, by go_num, Lib.hid (by rw [HS3.out])⟩, by simp [intOf]; omega⟩
    · obtain rfl : i = s.size := by omega
      have HN : Hid (crc s.data.toList = 4294967295 - n) := Lib.hid (by rw [crc, ← hn, List.take_of_length_le (show s.data.toList.length ≤ s.size from Nat.le_refl _)])
      clear hn HX
      go_wp2_with fail
      go_ret
      exact ⟨by rw [HN.out, show ((4294967295 - n : Nat) : Int) = 4294967295 - (n : Int) by omega]; rfl, rfl⟩

theorem sizeB_eq (n : Nat) (h : n ≤ 65536) : stx [94] ++ (stx (be4 n)).extract 1 4 = stx (sizeB n) := by
  rw [stx_extract, stx_append]
  congr 2
  show (94 :: (be4 n).drop 1) = be4 (1577058304 + n)
  rw [be4, be4]
  have h1 : UInt8.ofNat ((1577058304 + n) / 16777216) = 94 := by apply UInt8.toNat_inj.1; rw [UInt8.toNat_ofNat']; show _ = 94; omega
  have h2 : UInt8.ofNat ((1577058304 + n) / 65536) = UInt8.ofNat (n / 65536) := by apply UInt8.toNat_inj.1; rw [UInt8.toNat_ofNat', UInt8.toNat_ofNat']; omega
  have h3 : UInt8.ofNat ((1577058304 + n) / 256) = UInt8.ofNat (n / 256) := by apply UInt8.toNat_inj.1; rw [UInt8.toNat_ofNat', UInt8.toNat_ofNat']; omega
  have h4 : UInt8.ofNat (1577058304 + n) = UInt8.ofNat n := by apply UInt8.toNat_inj.1; rw [UInt8.toNat_ofNat', UInt8.toNat_ofNat']; omega
  rw [h1, h2, h3, h4]
  rfl
end Go.Proofs.YtlhdnkfnhdkbkaaGreatDoor
namespace Go.Proofs.YtlhdnkfnhdkbkaaGreatDoor
open Go Go.RowKit

theorem be4_num4 (l : List UInt8) (h : 4 ≤ l.length) : l.take 4 = be4 (num4 l) := by
  match l, h with
  | a :: b :: c :: d :: r, _ =>
    have ha := a.toNat_lt
    have hb := b.toNat_lt
    have hc := c.toNat_lt
    have hd := d.toNat_lt
    show [a, b, c, d] = be4 (a.toNat * 16777216 + b.toNat * 65536 + c.toNat * 256 + d.toNat)
    have h1 : UInt8.ofNat ((a.toNat * 16777216 + b.toNat * 65536 + c.toNat * 256 + d.toNat) / 16777216) = a := by apply UInt8.toNat_inj.1; rw [UInt8.toNat_ofNat']; omega
    have h2 : UInt8.ofNat ((a.toNat * 16777216 + b.toNat * 65536 + c.toNat * 256 + d.toNat) / 65536) = b := by apply UInt8.toNat_inj.1; rw [UInt8.toNat_ofNat']; omega
    have h3 : UInt8.ofNat ((a.toNat * 16777216 + b.toNat * 65536 + c.toNat * 256 + d.toNat) / 256) = c := by apply UInt8.toNat_inj.1; rw [UInt8.toNat_ofNat']; omega
    have h4 : UInt8.ofNat (a.toNat * 16777216 + b.toNat * 65536 + c.toNat * 256 + d.toNat) = d := by apply UInt8.toNat_inj.1; rw [UInt8.toNat_ofNat']; omega
    rw [be4, h1, h2, h3, h4]
theorem be4_inj {a b : Nat} (ha : a < 4294967296) (hb : b < 4294967296) (h : be4 a = be4 b) : a = b := by
  have h1 := num4_be4 a ha []
  have h2 := num4_be4 b hb []
  rw [← h1, ← h2, h]
set_option maxRecDepth 100000 in
set_option maxHeartbeats 1000000 in
theorem r4Open_any (s : ByteArray) (w : World) (hs : s.size ≤ 1000000) :
    Calls Tryz.prog 54 #[.string s] w fun e w' => e = .returned (OpenR s.data.toList) ∧ Below w.heap.size w w' := by
  obtain ⟨n, hn⟩ : ∃ n, s.size = n := ⟨_, rfl⟩
  have hl : s.data.toList.length = n := hn
  obtain ⟨R, hR⟩ : ∃ R, OpenR s.data.toList = R := ⟨_, rfl⟩
  have hn48 : (n : Int) ≤ 1000000 := by omega
  rw [hR]
  by_cases h8 : n < 8
  · have h8' : decide ((n : Int) < 8) = true := decide_eq_true (by omega)
    have hE : opE s.data.toList = 5 := by rw [opE, if_pos (by omega)]
    have HR := Lib.hid (hR.symm.trans (OpenR_err _ 5 hE (by decide)))
    clear hR hE h8 hs hl
    go_enter Tryz.func54, Tryz.ntmps54
    go_wp2_with fail
    go_ret3
    exact ⟨by rw [HR.out]; rfl, Below.refl _ _⟩
  · have h8' : decide ((n : Int) < 8) = false := decide_eq_false (by omega)
    have h8n : (8 : Int) ≤ n := by omega
    have hs0 : 0 < s.size := by omega
    have hs1 : 1 < s.size := by omega
    have hs2 : 2 < s.size := by omega
    have hs3 : 3 < s.size := by omega
    have g0 := atB_get s 0 hs0
    have g1 := atB_get s 1 hs1
    have g2 := atB_get s 2 hs2
    have g3 := atB_get s 3 hs3
    obtain ⟨m, hm⟩ : ∃ m, num4 s.data.toList % 16777216 = m := ⟨_, rfl⟩
    have hx2 : s.data.toList.getD 0 0 = atB s 0 := rfl
    have l0 := (atB s 0).toNat_lt
    have l1 := (atB s 1).toNat_lt
    have l2 := (atB s 2).toNat_lt
    have l3 := (atB s 3).toNat_lt
    have hmv : (atB s 1).toNat * 65536 + (atB s 2).toNat * 256 + (atB s 3).toNat = m := by
      have : num4 s.data.toList = (atB s 0).toNat * 16777216 + (atB s 1).toNat * 65536 + (atB s 2).toNat * 256 + (atB s 3).toNat := rfl
      omega
    generalize atB s 0 = x at *
    generalize atB s 1 = x1 at *
    generalize atB s 2 = x2 at *
    generalize atB s 3 = x3 at *
    have HM : Hid ((x1.toNat : Int) * 65536 + (x2.toNat : Int) * 256 + (x3.toNat : Int) = (m : Int)) := Lib.hid (by omega)
    have hm1 : (m : Int) < 16777216 := by omega
    by_cases hx94 : x.toNat = 94
    · have hx' : ((x.toNat : Int) != 94) = false := by simp; omega
      by_cases hbig : 65536 < m
      · have hb' : decide (65536 < (m : Int)) = true := decide_eq_true (by omega)
        have hE : opE s.data.toList = 4 := by rw [opE, if_neg (by omega), if_pos (.inr (by rw [hm]; exact hbig))]
        have HR := Lib.hid (hR.symm.trans (OpenR_err _ 4 hE (by decide)))
        clear hR hE h8 hs hl hm hx2 hx94 hbig hmv
        go_enter Tryz.func54, Tryz.ntmps54
        go_wp2_with fail
        go_region
        try rw [HM.out]
        have b1 : Below w.heap.size w w.drew := (Below.refl _ _).drew
        have hs1 : w.heap.size ≤ w.drew.heap.size := Nat.le_refl _
        generalize w.drew = w1 at *
        go_wp2_with fail
        go_ret3
        exact ⟨by rw [HR.out]; rfl, b1⟩
      · have hb' : decide (65536 < (m : Int)) = false := decide_eq_false (by omega)
        have hno : ¬ ((s.data.toList.getD 0 0).toNat ≠ 94 ∨ 65536 < num4 s.data.toList % 16777216) := by
          rw [hx2, hm]
          omega
        by_cases hsh : n - 8 < m
        · have hq : decide ((n : Int) - 8 < m) = true := decide_eq_true (by omega)
          have hE : opE s.data.toList = 5 := by rw [opE, if_neg (by omega), if_neg hno, if_pos (by rw [hl, hm]; exact hsh)]
          have HR := Lib.hid (hR.symm.trans (OpenR_err _ 5 hE (by decide)))
          clear hR hE h8 hs hl hm hx2 hx94 hbig hno hsh hmv
          go_enter Tryz.func54, Tryz.ntmps54
          go_wp2_with fail
          go_region
          try rw [HM.out]
          have b1 : Below w.heap.size w w.drew := (Below.refl _ _).drew
          have hs1 : w.heap.size ≤ w.drew.heap.size := Nat.le_refl _
          generalize w.drew = w1 at *
          go_wp2_with fail
          go_ret3
          exact ⟨by rw [HR.out]; rfl, b1⟩
        · have hq : decide ((n : Int) - 8 < m) = false := decide_eq_false (by omega)
          have x1e : s.extract 8 (8 + m) = stx ((s.data.toList.drop 8).take m) := by
            have := stx_extract s.data.toList 8 (8 + m)
            rwa [List.drop_take, show 8 + m - 8 = m by omega] at this
          have x2e : s.extract 4 8 = stx (be4 (num4 (s.data.toList.drop 4))) := by
            have := stx_extract s.data.toList 4 8
            rwa [List.drop_take, be4_num4 _ (by rw [List.length_drop]; omega)] at this
          have x3e : s.extract 0 4 = stx (s.data.toList.take 4) := stx_extract s.data.toList 0 4
          have y1 : (stx ((s.data.toList.drop 8).take m)).size = m := by rw [stx_size, List.length_take, List.length_drop]; omega
          have y3 : (stx (s.data.toList.take 4)).size = 4 := by rw [stx_size, List.length_take]; omega
          have hcat : Hid (stx (s.data.toList.take 4) ++ stx ((s.data.toList.drop 8).take m) = stx (s.data.toList.take 4 ++ (s.data.toList.drop 8).take m)) := Lib.hid (stx_append _ _)
          obtain ⟨k, hk⟩ : ∃ k, num4 (s.data.toList.drop 4) = k := ⟨_, rfl⟩
          obtain ⟨j, hjj⟩ : ∃ j, crc (s.data.toList.take 4 ++ (s.data.toList.drop 8).take m) = j := ⟨_, rfl⟩
          have H5 : Hid (∀ w, Calls Tryz.prog 73 #[.string (stx (s.data.toList.take 4) ++ stx ((s.data.toList.drop 8).take m))] w fun e w' => e = .returned (.int .u32 j) ∧ w' = w) := Lib.hid fun w => by
            rw [hcat.out, ← hjj]
            refine r4Check_any _ w ?_
            rw [← hcat.out, ByteArray.size_append, y1, y3]
            omega
          have H6 : Hid (∀ w, Calls Tryz.prog 72 #[.int .u32 j] w fun e w' => e = .returned (.string (stx (be4 j))) ∧ Below w.heap.size w w') := Lib.hid fun w => four_any j w (by rw [← hjj]; exact crc_lt _)
          have hk32 : k < 4294967296 := by rw [← hk]; exact num4_lt _
          have hj32 : j < 4294967296 := by rw [← hjj]; exact crc_lt _
          rw [hk] at x2e
          have hj : (8 : Int) + m ≤ n := by omega
          have hj0 : (0 : Int) ≤ 8 + m := by omega
          have hj1 : (8 : Int) ≤ 8 + m := by omega
          have hj2 : ((8 : Int) + m).toNat = 8 + m := by omega
          have hm0 : (0 : Int) ≤ m := by omega
          have hEE : opE s.data.toList = if k ≠ j then 6 else 0 := by
            rw [opE, if_neg (by omega), if_neg hno, if_neg (by rw [hl, hm]; exact hsh), hm, hk, hjj]
          have hSS : opE s.data.toList = 0 → OpenR s.data.toList = .tuple #[.string (stx ((s.data.toList.drop 8).take m)), .int .i64 (8 + (m : Int)), .int .i64 0] := fun e => by
            rw [OpenR, opS, opN, if_pos e, if_pos e, e, hm]
            rfl
          by_cases hkj : k = j
          · subst hkj
            rw [if_neg (fun e => e rfl)] at hEE
            have HR := Lib.hid (hR.symm.trans (hSS hEE))
            clear hR hEE hSS h8 hs hl hm hx2 hx94 hbig hno hsh hk hjj hmv
            generalize stx (s.data.toList.take 4) = A at *
            generalize stx (be4 k) = B at *
            generalize stx ((s.data.toList.drop 8).take m) = C at *
            go_enter Tryz.func54, Tryz.ntmps54
            go_wp2_with fail
            go_region
            try rw [HM.out]
            have b1 : Below w.heap.size w w.drew := (Below.refl _ _).drew
            have hs1 : w.heap.size ≤ w.drew.heap.size := Nat.le_refl _
            generalize w.drew = w1 at *
            go_wp2_with fail
            refine wp_region_past (by kernel_rfl) (by kernel_rfl) ?_
            repeat (go_big_quiet_step (first | (go_at_call 73; exact Past.call_same (H5.out _)) | (go_at_call 72; exact Past.call (H6.out _))))
            refine wpQuiet_nil ?_
            intro w2 hw2
            obtain ⟨⟨wn, hn⟩, rfl⟩ := hw2
            try dsimp only
            have b3 := below_past b1 hn hs1
            clear b1 hn
            go_wp2_with fail
            go_ret3
            exact ⟨by rw [HR.out]; rfl, b3⟩
          · rw [if_pos hkj] at hEE
            have HR := Lib.hid (hR.symm.trans (OpenR_err _ 6 hEE (by decide)))
            have hne := str_ne (fun e => hkj (be4_inj hk32 hj32 (stx_inj e)))
            clear hR hEE hSS h8 hs hl hm hx2 hx94 hbig hno hsh hk hjj hmv
            generalize stx (s.data.toList.take 4) = A at *
            generalize stx (be4 k) = B at *
            generalize stx (be4 j) = D at *
            generalize stx ((s.data.toList.drop 8).take m) = C at *
            go_enter Tryz.func54, Tryz.ntmps54
            go_wp2_with fail
            go_region
            try rw [HM.out]
            have b1 : Below w.heap.size w w.drew := (Below.refl _ _).drew
            have hs1 : w.heap.size ≤ w.drew.heap.size := Nat.le_refl _
            generalize w.drew = w1 at *
            go_wp2_with fail
            refine wp_region_past (by kernel_rfl) (by kernel_rfl) ?_
            repeat (go_big_quiet_step (first | (go_at_call 73; exact Past.call_same (H5.out _)) | (go_at_call 72; exact Past.call (H6.out _))))
            refine wpQuiet_nil ?_
            intro w2 hw2
            obtain ⟨⟨wn, hn⟩, rfl⟩ := hw2
            try dsimp only
            have b3 := below_past b1 hn hs1
            clear b1 hn
            go_wp2_with fail
            go_ret3
            exact ⟨by rw [HR.out]; rfl, b3⟩
    · have hx' : ((x.toNat : Int) != 94) = true := by simp; omega
      have hE : opE s.data.toList = 4 := by rw [opE, if_neg (by omega), if_pos (.inl (by rw [hx2]; exact hx94))]
      have HR := Lib.hid (hR.symm.trans (OpenR_err _ 4 hE (by decide)))
      clear hR hE h8 hs hl hm hx2 hx94 hmv
      go_enter Tryz.func54, Tryz.ntmps54
      go_wp2_with fail
      go_region
      try rw [HM.out]
      have b1 : Below w.heap.size w w.drew := (Below.refl _ _).drew
      have hs1 : w.heap.size ≤ w.drew.heap.size := Nat.le_refl _
      generalize w.drew = w1 at *
      go_wp2_with fail
      go_ret3
      exact ⟨by rw [HR.out]; rfl, b1⟩
end Go.Proofs.YtlhdnkfnhdkbkaaGreatDoor
