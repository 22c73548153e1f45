/- A frame at the beginning is opened. Conditions: the tables lie where the program lays them. -/
import Derived.Test.YtlhdnkfnhdkbkaaGreatDoorSeal2
namespace Go.Proofs.YtlhdnkfnhdkbkaaGreatDoor
open Go Go.RowKit

theorem Past.tabs {W : World} (h : Tabs W) (x : Past W) : Tabs x.w := h.below x.h
/-- What Open answers. -/
def OpenR (l : List UInt8) : Value := .tuple #[.string (stx (opS l)), .int .i64 (opN l), .int .i64 (opE l)]
theorem OpenR_err (l : List UInt8) (e : Int) (h : opE l = e) (h0 : e ≠ 0) : OpenR l = .tuple #[.string ⟨#[]⟩, .int .i64 0, .int .i64 e] := by
  rw [OpenR, opS, opN, if_neg (by omega), if_neg (by omega), h]
  rfl

set_option maxRecDepth 100000 in
set_option maxHeartbeats 1000000 in
theorem sOpen_any (s : ByteArray) (w : World) (hs : s.size ≤ 281474976710656) (ht : Tabs w) :
    Calls Tryz.prog 66 #[.string s] w fun e w' => e = .returned (OpenR s.data.toList) ∧ Below w.heap.size w w' := by
  obtain ⟨n, hn⟩ : ∃ n, s.size = n := ⟨_, rfl⟩
  have hl : s.data.toList.length = n := hn
  obtain ⟨R, hR⟩ : ∃ R, OpenR s.data.toList = R := ⟨_, rfl⟩
  have HT := Lib.hid ht
  have hn48 : (n : Int) ≤ 281474976710656 := by omega
  rw [hR]
  by_cases h8 : n < 8
  · have h8' : decide ((n : Int) < 8) = true := decide_eq_true (by omega)
    have hE : opE s.data.toList = 5 := by rw [opE, if_pos (by omega)]
    have HR := Lib.hid (hR.symm.trans (OpenR_err _ 5 hE (by decide)))
    clear hR hE h8 hs ht hl
    go_enter Tryz.func66, Tryz.ntmps66
    go_wp2_with fail
    go_ret3
    exact ⟨by rw [HR.out]; rfl, Below.refl _ _⟩
  · have h8' : decide ((n : Int) < 8) = false := decide_eq_false (by omega)
    have h8n : (8 : Int) ≤ n := by omega
    obtain ⟨N, hN⟩ : ∃ N, num4 s.data.toList = N := ⟨_, rfl⟩
    have hN32 : N < 4294967296 := by rw [← hN]; exact num4_lt _
    have HN : Hid (∀ w, Calls Tryz.prog 83 #[.string s] w fun e w' => e = .returned (.int .u32 N) ∧ Below w.heap.size w w') := Lib.hid fun w => by
      have := number_any s w (by omega)
      rwa [hN] at this
    obtain ⟨m, hm⟩ : ∃ m, N % 16777216 = m := ⟨_, rfl⟩
    have hm24 : m < 16777216 := by omega
    have hand : bits .andNot .u32 (N : Int) 4278190080 = (m : Int) := by
      have h := u32_andNot_nat N 4278190080 hN32 (by decide)
      rw [show ((4278190080 : Nat) : Int) = 4278190080 from rfl] at h
      rw [h, ← hm]
      exact congrArg Nat.cast (Nat.and_two_pow_sub_one_eq_mod N 24)
    have hs0 : 0 < s.size := by omega
    have g0 := atB_get s 0 hs0
    obtain ⟨x, hx⟩ : ∃ x, atB s 0 = x := ⟨_, rfl⟩
    rw [hx] at g0
    have hx2 : s.data.toList.getD 0 0 = x := hx
    have hm1 : (m : Int) < 16777216 := by omega
    by_cases hx94 : x.toNat = 94
    · have hx' : ((x.toNat : Int) != 94) = false := by simp; omega
      by_cases hbig : 65536 < m
      · have hb' : decide (65536 < (m : Int)) = true := decide_eq_true (by omega)
        have hE : opE s.data.toList = 4 := by rw [opE, if_neg (by omega), if_pos (.inr (by rw [hN, hm]; exact hbig))]
        have HR := Lib.hid (hR.symm.trans (OpenR_err _ 4 hE (by decide)))
        clear hR hE h8 hs ht hl hN hm hx hx2 hx94 hbig
        go_enter Tryz.func66, Tryz.ntmps66
        go_wp2_with fail
        refine (HN.out _).mono ?_
        rintro e w1 ⟨rfl, b1⟩
        go_wp2_with fail
        go_ret3
        exact ⟨by rw [HR.out]; rfl, b1⟩
      · have hb' : decide (65536 < (m : Int)) = false := decide_eq_false (by omega)
        have hno : ¬ ((s.data.toList.getD 0 0).toNat ≠ 94 ∨ 65536 < num4 s.data.toList % 16777216) := by
          rw [hx2, hN, hm]
          omega
        by_cases hsh : n - 8 < m
        · have hq : decide ((n : Int) - 8 < m) = true := decide_eq_true (by omega)
          have hE : opE s.data.toList = 5 := by rw [opE, if_neg (by omega), if_neg hno, if_pos (by rw [hl, hN, hm]; exact hsh)]
          have HR := Lib.hid (hR.symm.trans (OpenR_err _ 5 hE (by decide)))
          clear hR hE h8 hs ht hl hN hm hx hx2 hx94 hbig hno hsh
          go_enter Tryz.func66, Tryz.ntmps66
          go_wp2_with fail
          refine (HN.out _).mono ?_
          rintro e w1 ⟨rfl, b1⟩
          go_wp2_with fail
          go_ret3
          exact ⟨by rw [HR.out]; rfl, b1⟩
        · have hq : decide ((n : Int) - 8 < m) = false := decide_eq_false (by omega)
          have x1 : s.extract 8 (8 + m) = stx ((s.data.toList.drop 8).take m) := by
            have := stx_extract s.data.toList 8 (8 + m)
            rwa [List.drop_take, show 8 + m - 8 = m by omega] at this
          have x2 : s.extract 4 n = stx (s.data.toList.drop 4) := by
            have := stx_extract s.data.toList 4 n
            rwa [List.take_of_length_le (by omega)] at this
          have x3 : s.extract 0 4 = stx (s.data.toList.take 4) := stx_extract s.data.toList 0 4
          have y1 : (stx ((s.data.toList.drop 8).take m)).size ≤ 65536 := by rw [stx_size, List.length_take]; omega
          have y2 : 4 ≤ (stx (s.data.toList.drop 4)).size := by rw [stx_size, List.length_drop]; omega
          have y3 : (stx (s.data.toList.take 4)).size ≤ 65536 := by rw [stx_size, List.length_take]; omega
          have H4 : Hid (∀ w, Calls Tryz.prog 83 #[.string (stx (s.data.toList.drop 4))] w fun e w' => e = .returned (.int .u32 (num4 (s.data.toList.drop 4))) ∧ Below w.heap.size w w') := Lib.hid fun w => number_any _ w y2
          have H5 : Hid (∀ w, Tabs w → Calls Tryz.prog 46 #[.string (stx (s.data.toList.take 4)), .string (stx ((s.data.toList.drop 8).take m))] w fun e w' => e = .returned (.int .u32 (crc (s.data.toList.take 4 ++ (s.data.toList.drop 8).take m))) ∧ Below w.heap.size w w') := Lib.hid fun w ht => joint_any _ _ w (by omega) (by omega) ht
          have H6 : Hid (∀ w, Calls Tryz.prog 48 #[.string (stx ((s.data.toList.drop 8).take m))] w fun e w' => e = .returned (.string (stx ((s.data.toList.drop 8).take m))) ∧ Below w.heap.size w w') := Lib.hid fun w => sClone_any _ w (by omega)
          have hj : (8 : Int) + m ≤ n := by omega
          have hj0 : (0 : Int) ≤ 8 + m := by omega
          have hj1 : (8 : Int) ≤ 8 + m := by omega
          have hj2 : ((8 : Int) + m).toNat = 8 + m := by omega
          have hm0 : (0 : Int) ≤ m := by omega
          have HL : Hid (s.data.toList.length - 8 = n - 8) := Lib.hid (by rw [hl])
          obtain ⟨k, hk⟩ : ∃ k, num4 (s.data.toList.drop 4) = k := ⟨_, rfl⟩
          obtain ⟨j, hjj⟩ : ∃ j, crc (s.data.toList.take 4 ++ (s.data.toList.drop 8).take m) = j := ⟨_, rfl⟩
          have hEE : opE s.data.toList = if k ≠ j then 6 else 0 := by
            rw [opE, if_neg (by omega), if_neg hno, if_neg (by rw [hl, hN, hm]; exact hsh), hN, hm, hk, hjj]
          have hSS : opE s.data.toList = 0 → OpenR s.data.toList = .tuple #[.string (stx ((s.data.toList.drop 8).take m)), .int .i64 (8 + (m : Int)), .int .i64 0] := fun e => by
            rw [OpenR, opS, opN, if_pos e, if_pos e, e, hN, hm]
            rfl
          rw [hk] at H4
          rw [hjj] at H5
          by_cases hkj : k = j
          · subst hkj
            rw [if_neg (fun e => e rfl)] at hEE
            have HR := Lib.hid (hR.symm.trans (hSS hEE))
            have X1 := Lib.hid x1
            clear hR hEE hSS h8 hs ht hl hN hm hx hx2 hx94 hbig hno hsh y1 y2 y3 hk hjj
            generalize stx (s.data.toList.take 4) = A at *
            generalize stx (s.data.toList.drop 4) = B at *
            generalize stx ((s.data.toList.drop 8).take m) = C at *
            go_enter Tryz.func66, Tryz.ntmps66
            go_wp2_with fail
            refine (HN.out _).mono ?_
            rintro e w1 ⟨rfl, b1⟩
            go_wp2_with fail
            have TW := Lib.hid (HT.out.below b1)
            refine wp_region_past (by kernel_rfl) (by kernel_rfl) ?_
            repeat (go_big_quiet_step (first | (go_at_call 83; exact Past.call (H4.out _)) | (go_at_call 46; exact Past.call (H5.out _ (Past.tabs TW.out _)))))
            refine wpQuiet_nil ?_
            intro w2 hw2
            obtain ⟨⟨wn, hn⟩, rfl⟩ := hw2
            try dsimp only
            have b3 := below_past b1 hn b1.size
            clear b1 hn TW
            go_wp2_with fail
            refine (H6.out _).mono ?_
            rintro e w3 ⟨rfl, b4⟩
            have b5 := below_past b3 b4 b3.size
            clear b3 b4
            go_wp2_with fail
            go_ret3
            exact ⟨by rw [HR.out]; rfl, b5⟩
          · rw [if_pos hkj] at hEE
            have HR := Lib.hid (hR.symm.trans (OpenR_err _ 6 hEE (by decide)))
            have hkj' : ((k : Int) != j) = true := by simp; omega
            clear hR hEE hSS h8 hs ht hl hN hm hx hx2 hx94 hbig hno hsh y1 y2 y3 hk hjj
            generalize stx (s.data.toList.take 4) = A at *
            generalize stx (s.data.toList.drop 4) = B at *
            generalize stx ((s.data.toList.drop 8).take m) = C at *
            go_enter Tryz.func66, Tryz.ntmps66
            go_wp2_with fail
            refine (HN.out _).mono ?_
            rintro e w1 ⟨rfl, b1⟩
            go_wp2_with fail
            have TW := Lib.hid (HT.out.below b1)
            refine wp_region_past (by kernel_rfl) (by kernel_rfl) ?_
            repeat (go_big_quiet_step (first | (go_at_call 83; exact Past.call (H4.out _)) | (go_at_call 46; exact Past.call (H5.out _ (Past.tabs TW.out _)))))
            refine wpQuiet_nil ?_
            intro w2 hw2
            obtain ⟨⟨wn, hn⟩, rfl⟩ := hw2
            try dsimp only
            have b3 := below_past b1 hn b1.size
            clear b1 hn TW
            go_wp2_with fail
            go_ret3
            exact ⟨by rw [HR.out]; rfl, b3⟩
    · have hx' : ((x.toNat : Int) != 94) = true := by simp; omega
      have hE : opE s.data.toList = 4 := by rw [opE, if_neg (by omega), if_pos (.inl (by rw [hx2]; exact hx94))]
      have HR := Lib.hid (hR.symm.trans (OpenR_err _ 4 hE (by decide)))
      clear hR hE h8 hs ht hl hN hm hx hx2 hx94
      go_enter Tryz.func66, Tryz.ntmps66
      go_wp2_with fail
      refine (HN.out _).mono ?_
      rintro e w1 ⟨rfl, b1⟩
      go_wp2_with fail
      go_ret3
      exact ⟨by rw [HR.out]; rfl, b1⟩
end Go.Proofs.YtlhdnkfnhdkbkaaGreatDoor
