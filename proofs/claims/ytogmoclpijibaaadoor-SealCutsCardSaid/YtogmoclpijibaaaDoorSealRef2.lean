/- The document's own opening of frames. Conditions: none. -/
import Derived.Test.YtogmoclpijibaaaDoorSealRef
import Derived.Test.YtogmoclpijibaaaDoorSealLaw
namespace Go.Proofs.YtogmoclpijibaaaDoor
open Go Go.RowKit

theorem be4_num4 (l : List UInt8) (h : 4 ≤ l.length) : l.take 4 = be4 (num4 l) := by
  match l, h with
  | a :: b :: c :: d :: r, _ =>
    have ha := a.toNat_lt
    have hb := b.toNat_lt
    have hc := c.toNat_lt
    have hd := d.toNat_lt
    show [a, b, c, d] = be4 (a.toNat * 16777216 + b.toNat * 65536 + c.toNat * 256 + d.toNat)
    have h1 : UInt8.ofNat ((a.toNat * 16777216 + b.toNat * 65536 + c.toNat * 256 + d.toNat) / 16777216) = a := by apply UInt8.toNat_inj.1; rw [UInt8.toNat_ofNat']; omega
    have h2 : UInt8.ofNat ((a.toNat * 16777216 + b.toNat * 65536 + c.toNat * 256 + d.toNat) / 65536) = b := by apply UInt8.toNat_inj.1; rw [UInt8.toNat_ofNat']; omega
    have h3 : UInt8.ofNat ((a.toNat * 16777216 + b.toNat * 65536 + c.toNat * 256 + d.toNat) / 256) = c := by apply UInt8.toNat_inj.1; rw [UInt8.toNat_ofNat']; omega
    have h4 : UInt8.ofNat (a.toNat * 16777216 + b.toNat * 65536 + c.toNat * 256 + d.toNat) = d := by apply UInt8.toNat_inj.1; rw [UInt8.toNat_ofNat']; omega
    rw [be4, h1, h2, h3, h4]
theorem be4_inj {a b : Nat} (ha : a < 4294967296) (hb : b < 4294967296) (h : be4 a = be4 b) : a = b := by
  have h1 := num4_be4 a ha []
  have h2 := num4_be4 b hb []
  rw [← h1, ← h2, h]
theorem stx_inj {a b : List UInt8} (h : stx a = stx b) : a = b := congrArg (fun x : ByteArray => x.data.toList) h

theorem str_ne {a b : ByteArray} (h : a ≠ b) : (a.toList == b.toList) = false := by
  rw [beq_eq_false_iff_ne, ByteArray.toList_eq, ByteArray.toList_eq]
  exact fun e => h (ByteArray.ext (Array.toList_inj.1 e))
set_option maxRecDepth 100000 in
set_option maxHeartbeats 1000000 in
theorem r4Open_any (s : ByteArray) (w : World) (hs : s.size ≤ 1000000) :
    Calls Tryd.prog 33 #[.string s] w fun e w' => e = .returned (OpenR s.data.toList) ∧ Below w.heap.size w w' := by
  obtain ⟨n, hn⟩ : ∃ n, s.size = n := ⟨_, rfl⟩
  have hl : s.data.toList.length = n := hn
  obtain ⟨R, hR⟩ : ∃ R, OpenR s.data.toList = R := ⟨_, rfl⟩
  have hn48 : (n : Int) ≤ 1000000 := by omega
  rw [hR]
  by_cases h8 : n < 8
  · have h8' : decide ((n : Int) < 8) = true := decide_eq_true (by omega)
    have hE : opE s.data.toList = 5 := by rw [opE, if_pos (by omega)]
    have HR := Lib.hid (hR.symm.trans (OpenR_err _ 5 hE (by decide)))
    clear hR hE h8 hs hl
    go_enter Tryd.func33, Tryd.ntmps33
    go_wp2_with fail
    go_ret3
    exact ⟨by rw [HR.out]; rfl, Below.refl _ _⟩
  · have h8' : decide ((n : Int) < 8) = false := decide_eq_false (by omega)
    have h8n : (8 : Int) ≤ n := by omega
    have hs0 : 0 < s.size := by omega
    have hs1 : 1 < s.size := by omega
    have hs2 : 2 < s.size := by omega
    have hs3 : 3 < s.size := by omega
    have g0 := atB_get s 0 hs0
    have g1 := atB_get s 1 hs1
    have g2 := atB_get s 2 hs2
    have g3 := atB_get s 3 hs3
    obtain ⟨m, hm⟩ : ∃ m, num4 s.data.toList % 16777216 = m := ⟨_, rfl⟩
    have hx2 : s.data.toList.getD 0 0 = atB s 0 := rfl
    have l0 := (atB s 0).toNat_lt
    have l1 := (atB s 1).toNat_lt
    have l2 := (atB s 2).toNat_lt
    have l3 := (atB s 3).toNat_lt
    have hmv : (atB s 1).toNat * 65536 + (atB s 2).toNat * 256 + (atB s 3).toNat = m := by
      have : num4 s.data.toList = (atB s 0).toNat * 16777216 + (atB s 1).toNat * 65536 + (atB s 2).toNat * 256 + (atB s 3).toNat := rfl
      omega
    generalize atB s 0 = x at *
    generalize atB s 1 = x1 at *
    generalize atB s 2 = x2 at *
    generalize atB s 3 = x3 at *
    have HM : Hid ((x1.toNat : Int) * 65536 + (x2.toNat : Int) * 256 + (x3.toNat : Int) = (m : Int)) := Lib.hid (by omega)
    have hm1 : (m : Int) < 16777216 := by omega
    by_cases hx94 : x.toNat = 94
    · have hx' : ((x.toNat : Int) != 94) = false := by simp; omega
      by_cases hbig : 65536 < m
      · have hb' : decide (65536 < (m : Int)) = true := decide_eq_true (by omega)
        have hE : opE s.data.toList = 4 := by rw [opE, if_neg (by omega), if_pos (.inr (by rw [hm]; exact hbig))]
        have HR := Lib.hid (hR.symm.trans (OpenR_err _ 4 hE (by decide)))
        clear hR hE h8 hs hl hm hx2 hx94 hbig hmv
        go_enter Tryd.func33, Tryd.ntmps33
        go_wp2_with fail
        go_region
        try rw [HM.out]
        have b1 : Below w.heap.size w w.drew := (Below.refl _ _).drew
        have hs1 : w.heap.size ≤ w.drew.heap.size := Nat.le_refl _
        generalize w.drew = w1 at *
        go_wp2_with fail
        go_ret3
        exact ⟨by rw [HR.out]; rfl, b1⟩
      · have hb' : decide (65536 < (m : Int)) = false := decide_eq_false (by omega)
        have hno : ¬ ((s.data.toList.getD 0 0).toNat ≠ 94 ∨ 65536 < num4 s.data.toList % 16777216) := by
          rw [hx2, hm]
          omega
        by_cases hsh : n - 8 < m
        · have hq : decide ((n : Int) - 8 < m) = true := decide_eq_true (by omega)
          have hE : opE s.data.toList = 5 := by rw [opE, if_neg (by omega), if_neg hno, if_pos (by rw [hl, hm]; exact hsh)]
          have HR := Lib.hid (hR.symm.trans (OpenR_err _ 5 hE (by decide)))
          clear hR hE h8 hs hl hm hx2 hx94 hbig hno hsh hmv
          go_enter Tryd.func33, Tryd.ntmps33
          go_wp2_with fail
          go_region
          try rw [HM.out]
          have b1 : Below w.heap.size w w.drew := (Below.refl _ _).drew
          have hs1 : w.heap.size ≤ w.drew.heap.size := Nat.le_refl _
          generalize w.drew = w1 at *
          go_wp2_with fail
          go_ret3
          exact ⟨by rw [HR.out]; rfl, b1⟩
        · have hq : decide ((n : Int) - 8 < m) = false := decide_eq_false (by omega)
          have x1e : s.extract 8 (8 + m) = stx ((s.data.toList.drop 8).take m) := by
            have := stx_extract s.data.toList 8 (8 + m)
            rwa [List.drop_take, show 8 + m - 8 = m by omega] at this
          have x2e : s.extract 4 8 = stx (be4 (num4 (s.data.toList.drop 4))) := by
            have := stx_extract s.data.toList 4 8
            rwa [List.drop_take, be4_num4 _ (by rw [List.length_drop]; omega)] at this
          have x3e : s.extract 0 4 = stx (s.data.toList.take 4) := stx_extract s.data.toList 0 4
          have y1 : (stx ((s.data.toList.drop 8).take m)).size = m := by rw [stx_size, List.length_take, List.length_drop]; omega
          have y3 : (stx (s.data.toList.take 4)).size = 4 := by rw [stx_size, List.length_take]; omega
          have hcat : Hid (stx (s.data.toList.take 4) ++ stx ((s.data.toList.drop 8).take m) = stx (s.data.toList.take 4 ++ (s.data.toList.drop 8).take m)) := Lib.hid (stx_append _ _)
          obtain ⟨k, hk⟩ : ∃ k, num4 (s.data.toList.drop 4) = k := ⟨_, rfl⟩
          obtain ⟨j, hjj⟩ : ∃ j, crc (s.data.toList.take 4 ++ (s.data.toList.drop 8).take m) = j := ⟨_, rfl⟩
          have H5 : Hid (∀ w, Calls Tryd.prog 30 #[.string (stx (s.data.toList.take 4) ++ stx ((s.data.toList.drop 8).take m))] w fun e w' => e = .returned (.int .u32 j) ∧ w' = w) := Lib.hid fun w => by
            rw [hcat.out, ← hjj]
            refine r4Check_any _ w ?_
            rw [← hcat.out, ByteArray.size_append, y1, y3]
            omega
          have H6 : Hid (∀ w, Calls Tryd.prog 54 #[.int .u32 j] w fun e w' => e = .returned (.string (stx (be4 j))) ∧ Below w.heap.size w w') := Lib.hid fun w => four_any j w (by rw [← hjj]; exact crc_lt _)
          have hk32 : k < 4294967296 := by rw [← hk]; exact num4_lt _
          have hj32 : j < 4294967296 := by rw [← hjj]; exact crc_lt _
          rw [hk] at x2e
          have hj : (8 : Int) + m ≤ n := by omega
          have hj0 : (0 : Int) ≤ 8 + m := by omega
          have hj1 : (8 : Int) ≤ 8 + m := by omega
          have hj2 : ((8 : Int) + m).toNat = 8 + m := by omega
          have hm0 : (0 : Int) ≤ m := by omega
          have hEE : opE s.data.toList = if k ≠ j then 6 else 0 := by
            rw [opE, if_neg (by omega), if_neg hno, if_neg (by rw [hl, hm]; exact hsh), hm, hk, hjj]
          have hSS : opE s.data.toList = 0 → OpenR s.data.toList = .tuple #[.string (stx ((s.data.toList.drop 8).take m)), .int .i64 (8 + (m : Int)), .int .i64 0] := fun e => by
            rw [OpenR, opS, opN, if_pos e, if_pos e, e, hm]
            rfl
          by_cases hkj : k = j
          · subst hkj
            rw [if_neg (fun e => e rfl)] at hEE
            have HR := Lib.hid (hR.symm.trans (hSS hEE))
            clear hR hEE hSS h8 hs hl hm hx2 hx94 hbig hno hsh hk hjj hmv
            generalize stx (s.data.toList.take 4) = A at *
            generalize stx (be4 k) = B at *
            generalize stx ((s.data.toList.drop 8).take m) = C at *
            go_enter Tryd.func33, Tryd.ntmps33
            go_wp2_with fail
            go_region
            try rw [HM.out]
            have b1 : Below w.heap.size w w.drew := (Below.refl _ _).drew
            have hs1 : w.heap.size ≤ w.drew.heap.size := Nat.le_refl _
            generalize w.drew = w1 at *
            go_wp2_with fail
            refine wp_region_past (by kernel_rfl) (by kernel_rfl) ?_
            repeat (go_big_quiet_step (first | (go_at_call 30; exact Past.call_same (H5.out _)) | (go_at_call 54; exact Past.call (H6.out _))))
            refine wpQuiet_nil ?_
            intro w2 hw2
            obtain ⟨⟨wn, hn⟩, rfl⟩ := hw2
            try dsimp only
            have b3 := below_past b1 hn hs1
            clear b1 hn
            go_wp2_with fail
            go_ret3
            exact ⟨by rw [HR.out]; rfl, b3⟩
          · rw [if_pos hkj] at hEE
            have HR := Lib.hid (hR.symm.trans (OpenR_err _ 6 hEE (by decide)))
            have hne := str_ne (fun e => hkj (be4_inj hk32 hj32 (stx_inj e)))
            clear hR hEE hSS h8 hs hl hm hx2 hx94 hbig hno hsh hk hjj hmv
            generalize stx (s.data.toList.take 4) = A at *
            generalize stx (be4 k) = B at *
            generalize stx (be4 j) = D at *
            generalize stx ((s.data.toList.drop 8).take m) = C at *
            go_enter Tryd.func33, Tryd.ntmps33
            go_wp2_with fail
            go_region
            try rw [HM.out]
            have b1 : Below w.heap.size w w.drew := (Below.refl _ _).drew
            have hs1 : w.heap.size ≤ w.drew.heap.size := Nat.le_refl _
            generalize w.drew = w1 at *
            go_wp2_with fail
            refine wp_region_past (by kernel_rfl) (by kernel_rfl) ?_
            repeat (go_big_quiet_step (first | (go_at_call 30; exact Past.call_same (H5.out _)) | (go_at_call 54; exact Past.call (H6.out _))))
            refine wpQuiet_nil ?_
            intro w2 hw2
            obtain ⟨⟨wn, hn⟩, rfl⟩ := hw2
            try dsimp only
            have b3 := below_past b1 hn hs1
            clear b1 hn
            go_wp2_with fail
            go_ret3
            exact ⟨by rw [HR.out]; rfl, b3⟩
    · have hx' : ((x.toNat : Int) != 94) = true := by simp; omega
      have hE : opE s.data.toList = 4 := by rw [opE, if_neg (by omega), if_pos (.inl (by rw [hx2]; exact hx94))]
      have HR := Lib.hid (hR.symm.trans (OpenR_err _ 4 hE (by decide)))
      clear hR hE h8 hs hl hm hx2 hx94 hmv
      go_enter Tryd.func33, Tryd.ntmps33
      go_wp2_with fail
      go_region
      try rw [HM.out]
      have b1 : Below w.heap.size w w.drew := (Below.refl _ _).drew
      have hs1 : w.heap.size ≤ w.drew.heap.size := Nat.le_refl _
      generalize w.drew = w1 at *
      go_wp2_with fail
      go_ret3
      exact ⟨by rw [HR.out]; rfl, b1⟩
end Go.Proofs.YtogmoclpijibaaaDoor
