/- For any two tags and lists of texts the law ShaApart returns true. Conditions: the listed table is as the program lays it. -/
import Derived.Test.YtgjhbfajonjhkaaDoorShaLaw
import Derived.Test.YtgjhbfajonjhkaaDoorShaRef1
import Derived.Test.YtgjhbfajonjhkaaDoorShaTabs
import Derived.Test.YtgjhbfajonjhkaaDoorTie
import Derived.Test.YtgjhbfajonjhkaaDoorCards
import Derived.SevenTiedAt
namespace Go.Proofs.YtgjhbfajonjhkaaDoor.apart
open Go Go.ChangeShapes Go.WideShapes Go.ChangeAt Go.ChangeMaps Go.RowKit Go.Proofs.YtgjhbfajonjhkaaDoor

theorem oct_len {a b : Nat} (ha : a ≤ 100) (hb : b ≤ 100) (h : oct (UInt32.ofNat a) = oct (UInt32.ofNat b)) : a = b := by
  unfold oct at h
  simp only [List.cons.injEq, and_true] at h
  have h4 := h.2.2.2
  rw [UInt32.toNat_ofNat', UInt32.toNat_ofNat', Nat.mod_eq_of_lt (by omega), Nat.mod_eq_of_lt (by omega)] at h4
  have := congrArg UInt8.toNat h4
  rw [UInt8.toNat_ofNat', UInt8.toNat_ofNat'] at this
  omega
theorem flat_inj : ∀ {x y : List (List UInt8)}, (∀ t ∈ x, t.length ≤ 100) → (∀ t ∈ y, t.length ≤ 100) → x.flatMap textL = y.flatMap textL → x = y
  | [], [], _, _, _ => rfl
  | [], t :: y, _, _, h => by
    rw [List.flatMap_nil, List.flatMap_cons, textL] at h
    exact absurd (congrArg List.length h) (by rw [List.length_append, List.length_append, show (oct (UInt32.ofNat t.length)).length = 4 from rfl, List.length_nil]; omega)
  | t :: x, [], _, _, h => by
    rw [List.flatMap_nil, List.flatMap_cons, textL] at h
    exact absurd (congrArg List.length h) (by rw [List.length_append, List.length_append, show (oct (UInt32.ofNat t.length)).length = 4 from rfl, List.length_nil]; omega)
  | t :: x, u :: y, hx, hy, h => by
    rw [List.flatMap_cons, List.flatMap_cons, textL, textL, List.append_assoc, List.append_assoc] at h
    obtain ⟨h1, h2⟩ := List.append_inj h rfl
    have hl := oct_len (hx t (by simp)) (hy u (by simp)) h1
    obtain ⟨h3, h4⟩ := List.append_inj h2 hl
    rw [h3, flat_inj (fun q hq => hx q (by simp [hq])) (fun q hq => hy q (by simp [hq])) h4]
theorem joinL_inj {p q : UInt8} {x y : List (List UInt8)} (hx : ∀ t ∈ x, t.length ≤ 100) (hy : ∀ t ∈ y, t.length ≤ 100) (h : joinL p x = joinL q y) : p = q ∧ x = y := by
  unfold joinL at h
  injection h with h1 h2
  exact ⟨h1, flat_inj hx hy h2⟩

set_option maxRecDepth 100000 in
set_option maxHeartbeats 4000000 in
theorem walk (p q : UInt8) (v u : Value) (len1 len2 : Nat) (S1 S2 : Nat → ByteArray) (w : World) (h1 : InStrs w v len1 S1) (h2 : InStrs w u len2 S2) (ht : Cubes w) : Calls Tryd.prog 7 #[.int .u8 (p.toNat : Int), .int .u8 (q.toNat : Int), v, u] w fun e w' => e = .returned (.bool true) ∧ Below w.heap.size w w' := by
  obtain ⟨ao1, cap1, rfl, hS1⟩ := h1
  obtain ⟨ao2, cap2, rfl, hS2⟩ := h2
  have HS1 := Lib.hid hS1
  have HS2 := Lib.hid hS2
  have HT := Lib.hid ht
  have a0 : Below w.heap.size w (w.alloc (.cells #[] 9)) := (Below.refl _ _).alloc (Nat.le_refl _) _
  have a1 := a0.alloc a0.size (.cells #[] 9)
  have o1 : OwnStrs ((w.alloc (.cells #[] 9)).alloc (.cells #[] 9)) w.heap.size (.slice (some ⟨w.heap.size, 0, none⟩) 0 0) (cutsL S1 100 0) := (ownStrs_new w _ _ rfl (Nat.le_refl _)).below ((Below.refl _ _).alloc (Nat.le_refl _) _)
  have o2 : OwnStrs ((w.alloc (.cells #[] 9)).alloc (.cells #[] 9)) w.heap.size (.slice (some ⟨w.heap.size + 1, 0, none⟩) 0 0) [] := ownStrs_new _ _ _ (by simp) (by omega)
  have ap : Hid (Apart (.slice (some ⟨w.heap.size, 0, none⟩) 0 0) (.slice (some ⟨w.heap.size + 1, 0, none⟩) 0 0)) := Lib.hid (by
    intro g e1 e2
    simp only [Value.ownBlock, Option.some.injEq] at e1 e2
    omega)
  clear hS1 hS2 ht a0
  go_enter Tryd.func7, Tryd.ntmps7
  go_wp2_with fail
  generalize (w.alloc (.cells #[] 9)).alloc (.cells #[] 9) = W0 at *
  generalize hU : Value.slice (some ⟨w.heap.size + 1, 0, none⟩) 0 0 = U at *
  clear hU
  generalize hB : w.heap.size = B at *
  have HB := Lib.hid hB
  clear hB
  go_loopw [9, 11] (fun v x wr => ∃ i : Nat, i ≤ len1 ∧ i ≤ 8 ∧ x = .int .i64 i ∧ OwnStrs wr B v (cutsL S1 100 i) ∧ OwnStrs wr B U [] ∧ Hid (Apart v U) ∧ Below B w wr) (fun _ x _ => (8 - intOf x).toNat)
  case atStart => exact ⟨0, Nat.zero_le _, Nat.zero_le _, rfl, o1, o2, ap, a1⟩
  case round =>
    obtain ⟨i, hi1, hi2, rfl, ow, ou, HAP, b0⟩ := hrel
    clear o1 o2 ap a1
    by_cases hgo : i < len1 ∧ i < 8
    · obtain ⟨gg1, gg2⟩ := hgo
      have g1' : decide (i < len1) = true := decide_eq_true gg1
      have g2' : decide ((i : Int) < 8) = true := decide_eq_true (by omega)
      have g1n : (i : Int) < len1 := by omega
      obtain ⟨ad, hao, hc⟩ := HS1.out i gg1
      subst hao
      have c1 := (b0.cell (p := ad.add i) (by rw [← HB.out]; exact cellLt hc)).trans hc
      obtain ⟨L, hL⟩ : ∃ L, (S1 i).data.toList.take 100 = L := ⟨_, rfl⟩
      have HK : Hid (∀ w, Calls Tryd.prog 11 #[.string (S1 i), .int .i64 100] w fun e w' => e = .returned (.string (stx L)) ∧ w' = w) := Lib.hid fun w => by
        have := l3Cut_any (S1 i) 100 w (by decide)
        rwa [hL] at this
      have HTX : Hid (cutsL S1 100 (i + 1) = cutsL S1 100 i ++ [L]) := Lib.hid (by rw [cutsL_succ, hL])
      have hll : (cutsL S1 100 i).length ≤ 1000000 := by rw [cutsL_length]; omega
      have HLL := Lib.hid hll
      have hBr : B ≤ wr.heap.size := by rw [← HB.out]; exact b0.size
      have hi8 : (i : Int) ≤ 8 := by omega
      clear hL hll hc
      go_wp2_with fail
      refine (HK.out _).mono ?_
      rintro e w1 ⟨rfl, rfl⟩
      have bq : Below w1.heap.size w1 (w1.alloc (.cells #[.string (stx L)] 9)) := (Below.refl _ _).alloc (Nat.le_refl _) _
      have ow2 := ow.below bq
      have ou2 := ou.below bq
      have b1 := below_past b0 bq hBr
      have hcell := cell_of_rowAt (rowAt_alloc_at w1 #[.string (stx L)] 9 _ rfl) 0
      go_wp2_with (at_builtin; refine wpList_put_text rfl _ _ rfl B _ _ rfl ow2 L ⟨w1.heap.size, 0, none⟩ 1 rfl hcell (by simp; omega) HLL.out ?_)
      intro v' w' hown hgrow hat
      have ou3 := ou2.apart HAP.out hgrow
      have HAP2 := Lib.hid (HAP.out.grow ou2 hat (by simp))
      have b2 := ow2.grown hgrow b1 (by simp; omega)
      rw [← HTX.out] at hown
      clear ow ou ow2 ou2 hgrow hat b0 b1 bq hcell c1
      go_wp2_with fail
      exact ⟨⟨i + 1, gg1, gg2, by go_num, hown, ou3, HAP2, b2⟩, by simp [intOf]; omega⟩
    · by_cases hg1 : i < len1
      · obtain rfl : i = 8 := by omega
        have g1' : decide ((8 : Nat) < len1) = true := decide_eq_true hg1
        have g1n : ((8 : Nat) : Int) < len1 := by omega
        have g1m : (8 : Int) < len1 := by omega
        rw [show ((8 : Nat) : Int) = 8 from rfl]
        obtain ⟨m, hm⟩ : ∃ m, m = 8 := ⟨_, rfl⟩
        rw [← hm] at ow
        have HM : Hid (m ≤ 8) := Lib.hid (by omega)
        clear hm hgo
        go_wp2_with fail
        have ap2 := HAP.out.symm
        obtain ⟨X, hX⟩ : ∃ X, u9 = X := ⟨_, rfl⟩
        rw [hX] at ow ap2
        subst hX
        have AP2 := Lib.hid ap2
        have hMB : B ≤ wr.heap.size := by rw [← HB.out]; exact b0.size
        obtain ⟨tx, htx⟩ : ∃ tx, cutsL S1 100 m = tx := ⟨_, rfl⟩
        have HTX8 : Hid (tx.length ≤ 8) := Lib.hid (by rw [← htx, cutsL_length]; exact HM.out)
        have HT100 : Hid (∀ t ∈ tx, t.length ≤ 100) := Lib.hid (by rw [← htx]; exact cutsL_short _ _ _)
        rw [htx] at ow
        clear ap2 htx HM HAP HS1 hi1 hi2
        go_loopw [10, 12] (fun y x wr => ∃ i : Nat, i ≤ len2 ∧ i ≤ 8 ∧ x = .int .i64 i ∧ OwnStrs wr B y (cutsL S2 100 i) ∧ OwnStrs wr B u9 tx ∧ Hid (Apart y u9) ∧ Below B w wr) (fun _ x _ => (8 - intOf x).toNat)
        case atStart => exact ⟨0, Nat.zero_le _, Nat.zero_le _, rfl, ou, ow, AP2, b0⟩
        case round =>
          obtain ⟨i, hi1, hi2, rfl, oy, ox, HAP, b0⟩ := hrel
          clear ou ow AP2
          by_cases hgo : i < len2 ∧ i < 8
          · obtain ⟨gg1, gg2⟩ := hgo
            have g1' : decide (i < len2) = true := decide_eq_true gg1
            have g2' : decide ((i : Int) < 8) = true := decide_eq_true (by omega)
            have g1n : (i : Int) < len2 := by omega
            obtain ⟨ad, hao, hc⟩ := HS2.out i gg1
            subst hao
            have c1 := (b0.cell (p := ad.add i) (by rw [← HB.out]; exact cellLt hc)).trans hc
            obtain ⟨L, hL⟩ : ∃ L, (S2 i).data.toList.take 100 = L := ⟨_, rfl⟩
            have HK : Hid (∀ w, Calls Tryd.prog 11 #[.string (S2 i), .int .i64 100] w fun e w' => e = .returned (.string (stx L)) ∧ w' = w) := Lib.hid fun w => by
              have := l3Cut_any (S2 i) 100 w (by decide)
              rwa [hL] at this
            have HTX : Hid (cutsL S2 100 (i + 1) = cutsL S2 100 i ++ [L]) := Lib.hid (by rw [cutsL_succ, hL])
            have hll : (cutsL S2 100 i).length ≤ 1000000 := by rw [cutsL_length]; omega
            have HLL := Lib.hid hll
            have hBr : B ≤ wr.heap.size := by rw [← HB.out]; exact b0.size
            have hi8 : (i : Int) ≤ 8 := by omega
            clear hL hll hc
            go_wp2_with fail
            refine (HK.out _).mono ?_
            rintro e w1 ⟨rfl, rfl⟩
            have bq : Below w1.heap.size w1 (w1.alloc (.cells #[.string (stx L)] 9)) := (Below.refl _ _).alloc (Nat.le_refl _) _
            have oy2 := oy.below bq
            have ox2 := ox.below bq
            have b1 := below_past b0 bq hBr
            have hcell := cell_of_rowAt (rowAt_alloc_at w1 #[.string (stx L)] 9 _ rfl) 0
            go_wp2_with (at_builtin; refine wpList_put_text rfl _ _ rfl B _ _ rfl oy2 L ⟨w1.heap.size, 0, none⟩ 1 rfl hcell (by simp; omega) HLL.out ?_)
            intro v' w' hown hgrow hat
            have ox3 := ox2.apart HAP.out hgrow
            have HAP2 := Lib.hid (HAP.out.grow ox2 hat (by simp))
            have b2 := oy2.grown hgrow b1 (by simp; omega)
            rw [← HTX.out] at hown
            clear oy ox oy2 ox2 hgrow hat b0 b1 bq hcell c1
            go_wp2_with fail
            exact ⟨⟨i + 1, gg1, gg2, by go_num, hown, ox3, HAP2, b2⟩, by simp [intOf]; omega⟩
          · by_cases hg2 : i < len2
            · obtain rfl : i = 8 := by omega
              have g1' : decide ((8 : Nat) < len2) = true := decide_eq_true hg2
              have g1n : ((8 : Nat) : Int) < len2 := by omega
              have g1m : (8 : Int) < len2 := by omega
              rw [show ((8 : Nat) : Int) = 8 from rfl]
              obtain ⟨k, hk⟩ : ∃ k, k = 8 := ⟨_, rfl⟩
              rw [← hk] at oy
              have HK8 : Hid (k ≤ 8) := Lib.hid (by omega)
              clear hk hgo HAP
              have SX := Lib.hid ox.lie
              have SY := Lib.hid oy.lie
              obtain ⟨ty, hty⟩ : ∃ ty, cutsL S2 100 k = ty := ⟨_, rfl⟩
              have HTY8 : Hid (ty.length ≤ 8) := Lib.hid (by rw [← hty, cutsL_length]; exact HK8.out)
              have HY100 : Hid (∀ t ∈ ty, t.length ≤ 100) := Lib.hid (by rw [← hty]; exact cutsL_short _ _ _)
              rw [hty] at SY
              have T0 : Hid (Cubes wr) := Lib.hid (HT.out.below (by rw [HB.out]; exact b0))
              have hBr : B ≤ wr.heap.size := by rw [← HB.out]; exact b0.size
              clear oy ox hty HK8 hi1 hi2
              by_cases hpq : p = q
              · subst hpq
                have hq1 : ((p.toNat : Int) == p.toNat) = true := by rw [beq_iff_eq]
                have HSM : Hid (Calls Tryd.prog 22 #[u9, u10] wr fun e w' => e = .returned (.bool (decide (tx = ty))) ∧ Below wr.heap.size wr w') := Lib.hid (law3same_any _ _ _ _ _ SX.out SY.out (by have := HTX8.out; omega))
                by_cases hxy : tx = ty
                · subst hxy
                  rw [decide_eq_true (rfl : tx = tx)] at HSM
                  clear hq1
                  go_wp2_with fail
                  refine HSM.out.mono ?_
                  rintro e w2 ⟨rfl, b1⟩
                  have b2 := below_past b0 b1 hBr
                  have T1 := T0.out.below b1
                  have SX1 := SX.out.below b1
                  have SY1 := SY.out.below b1
                  have hB2 := Nat.le_trans hBr b1.size
                  have HJ := Lib.hid (Joined_any p u9 tx w2 SX1 T1 HTX8.out HT100.out)
                  have TT := Lib.hid T1
                  have SX2 := Lib.hid SX1
                  have SY2 := Lib.hid SY1
                  clear b0 b1 T1 SX1 SY1 HSM SX SY T0 hBr
                  go_wp2_with fail
                  refine HJ.out.mono ?_
                  rintro e w3 ⟨rfl, b1⟩
                  have b3 := below_past b2 b1 hB2
                  have T1 := TT.out.below b1
                  have SX1 := SX2.out.below b1
                  have SY1 := SY2.out.below b1
                  have hB3 := Nat.le_trans hB2 b1.size
                  have HJ2 := Lib.hid (Joined_any p u10 tx w3 SY1 T1 HTX8.out HT100.out)
                  have TT2 := Lib.hid T1
                  have SX3 := Lib.hid SX1
                  have SY3 := Lib.hid SY1
                  clear b2 b1 T1 SX1 SY1 SX2 SY2 TT HJ hB2
                  generalize shaLab (joinL p tx) = LJ at *
                  go_wp2_with fail
                  refine HJ2.out.mono ?_
                  rintro e w4 ⟨rfl, b1⟩
                  have b4 := below_past b3 b1 hB3
                  have hB4 := Nat.le_trans hB3 b1.size
                  have T1 := TT2.out.below b1
                  have SX4 := Lib.hid (SX3.out.below b1)
                  have SY4 := Lib.hid (SY3.out.below b1)
                  have HA := Lib.hid (awake3 w4 T1)
                  have hlj : decide (LJ = LJ) = true := decide_eq_true rfl
                  clear b3 b1 T1 TT2 SX3 SY3 HJ2 hB3
                  go_wp2_with fail
                  refine HA.out.mono ?_
                  rintro e w5 ⟨rfl, b1⟩
                  have b5 := below_past b4 b1 hB4
                  have hB5 := Nat.le_trans hB4 b1.size
                  have SX5 := SX4.out.below b1
                  have SY5 := Lib.hid (SY4.out.below b1)
                  have HB1 := Lib.hid (r3Bytes_any p u9 tx w5 SX5 HTX8.out HT100.out)
                  clear b4 b1 HA hB4 SX4 SX5
                  go_wp2_with fail
                  refine HB1.out.mono ?_
                  rintro e w6 ⟨rfl, b1⟩
                  have b6 := below_past b5 b1 hB5
                  have hB6 := Nat.le_trans hB5 b1.size
                  have SY6 := SY5.out.below b1
                  have HB2 := Lib.hid (r3Bytes_any p u10 tx w6 SY6 HTX8.out HT100.out)
                  clear b5 b1 HB1 hB5 SY5 SY6
                  generalize stx (joinL p tx) = BJ at *
                  go_wp2_with fail
                  refine HB2.out.mono ?_
                  rintro e w7 ⟨rfl, b1⟩
                  have b7 := below_past b6 b1 hB6
                  clear HB2 b6 b1
                  go_wp2_with fail
                  go_ret
                  exact ⟨by simp, by rw [HB.out]; exact b7⟩
                · rw [decide_eq_false hxy] at HSM
                  have hne := str_ne (fun e => hxy (joinL_inj (p := p) (q := p) HT100.out HY100.out (stx_inj e)).2)
                  clear hq1 hxy
                  go_wp2_with fail
                  refine HSM.out.mono ?_
                  rintro e w2 ⟨rfl, b1⟩
                  have b4 := below_past b0 b1 hBr
                  have hB4 := Nat.le_trans hBr b1.size
                  have T1 := T0.out.below b1
                  have SX4 := Lib.hid (SX.out.below b1)
                  have SY4 := Lib.hid (SY.out.below b1)
                  clear b0 b1 HSM SX SY T0 hBr
                  have HA := Lib.hid (awake3 w2 T1)
                  clear T1
                  go_wp2_with fail
                  refine HA.out.mono ?_
                  rintro e w5 ⟨rfl, b1⟩
                  have b5 := below_past b4 b1 hB4
                  have hB5 := Nat.le_trans hB4 b1.size
                  have SX5 := SX4.out.below b1
                  have SY5 := Lib.hid (SY4.out.below b1)
                  have HB1 := Lib.hid (r3Bytes_any p u9 tx w5 SX5 HTX8.out HT100.out)
                  clear b4 b1 HA hB4 SX4 SX5
                  go_wp2_with fail
                  refine HB1.out.mono ?_
                  rintro e w6 ⟨rfl, b1⟩
                  have b6 := below_past b5 b1 hB5
                  have hB6 := Nat.le_trans hB5 b1.size
                  have SY6 := SY5.out.below b1
                  have HB2 := Lib.hid (r3Bytes_any p u10 ty w6 SY6 HTY8.out HY100.out)
                  clear b5 b1 HB1 hB5 SY5 SY6
                  generalize stx (joinL p tx) = BX at *
                  generalize stx (joinL p ty) = BY at *
                  go_wp2_with fail
                  refine HB2.out.mono ?_
                  rintro e w7 ⟨rfl, b1⟩
                  have b7 := below_past b6 b1 hB6
                  clear HB2 b6 b1
                  go_wp2_with fail
                  go_ret
                  exact ⟨by simp, by rw [HB.out]; exact b7⟩
              · have hq1 : ((p.toNat : Int) == q.toNat) = false := by
                  rw [beq_eq_false_iff_ne]
                  intro e
                  exact hpq (UInt8.toNat_inj.1 (by omega))
                have hq1n : (p.toNat == q.toNat) = false := by
                  rw [beq_eq_false_iff_ne]
                  intro e
                  exact hpq (UInt8.toNat_inj.1 e)
                have hne := str_ne (fun e => hpq (joinL_inj (p := p) (q := q) HT100.out HY100.out (stx_inj e)).1)
                have b4 := b0
                have hB4 := hBr
                have T1 := T0.out
                have SX4 := SX
                have SY4 := SY
                clear hpq b0 SX SY T0 hBr
                have HA := Lib.hid (awake3 wr T1)
                clear T1
                go_wp2_with fail
                refine HA.out.mono ?_
                rintro e w5 ⟨rfl, b1⟩
                have b5 := below_past b4 b1 hB4
                have hB5 := Nat.le_trans hB4 b1.size
                have SX5 := SX4.out.below b1
                have SY5 := Lib.hid (SY4.out.below b1)
                have HB1 := Lib.hid (r3Bytes_any p u9 tx w5 SX5 HTX8.out HT100.out)
                clear b4 b1 HA hB4 SX4 SX5
                go_wp2_with fail
                refine HB1.out.mono ?_
                rintro e w6 ⟨rfl, b1⟩
                have b6 := below_past b5 b1 hB5
                have hB6 := Nat.le_trans hB5 b1.size
                have SY6 := SY5.out.below b1
                have HB2 := Lib.hid (r3Bytes_any q u10 ty w6 SY6 HTY8.out HY100.out)
                clear b5 b1 HB1 hB5 SY5 SY6
                generalize stx (joinL p tx) = BX at *
                generalize stx (joinL q ty) = BY at *
                go_wp2_with fail
                refine HB2.out.mono ?_
                rintro e w7 ⟨rfl, b1⟩
                have b7 := below_past b6 b1 hB6
                clear HB2 b6 b1
                go_wp2_with fail
                go_ret
                exact ⟨by simp, by rw [HB.out]; exact b7⟩
            · obtain rfl : i = len2 := by omega
              have g1' : decide (i < i) = false := decide_eq_false hg2
              obtain ⟨k, hk⟩ : ∃ k, k = i := ⟨_, rfl⟩
              rw [← hk] at oy
              have HK8 : Hid (k ≤ 8) := Lib.hid (by omega)
              clear hk hgo HAP
              have SX := Lib.hid ox.lie
              have SY := Lib.hid oy.lie
              obtain ⟨ty, hty⟩ : ∃ ty, cutsL S2 100 k = ty := ⟨_, rfl⟩
              have HTY8 : Hid (ty.length ≤ 8) := Lib.hid (by rw [← hty, cutsL_length]; exact HK8.out)
              have HY100 : Hid (∀ t ∈ ty, t.length ≤ 100) := Lib.hid (by rw [← hty]; exact cutsL_short _ _ _)
              rw [hty] at SY
              have T0 : Hid (Cubes wr) := Lib.hid (HT.out.below (by rw [HB.out]; exact b0))
              have hBr : B ≤ wr.heap.size := by rw [← HB.out]; exact b0.size
              clear oy ox hty HK8 hi1 hi2
              by_cases hpq : p = q
              · subst hpq
                have hq1 : ((p.toNat : Int) == p.toNat) = true := by rw [beq_iff_eq]
                have HSM : Hid (Calls Tryd.prog 22 #[u9, u10] wr fun e w' => e = .returned (.bool (decide (tx = ty))) ∧ Below wr.heap.size wr w') := Lib.hid (law3same_any _ _ _ _ _ SX.out SY.out (by have := HTX8.out; omega))
                by_cases hxy : tx = ty
                · subst hxy
                  rw [decide_eq_true (rfl : tx = tx)] at HSM
                  clear hq1
                  go_wp2_with fail
                  refine HSM.out.mono ?_
                  rintro e w2 ⟨rfl, b1⟩
                  have b2 := below_past b0 b1 hBr
                  have T1 := T0.out.below b1
                  have SX1 := SX.out.below b1
                  have SY1 := SY.out.below b1
                  have hB2 := Nat.le_trans hBr b1.size
                  have HJ := Lib.hid (Joined_any p u9 tx w2 SX1 T1 HTX8.out HT100.out)
                  have TT := Lib.hid T1
                  have SX2 := Lib.hid SX1
                  have SY2 := Lib.hid SY1
                  clear b0 b1 T1 SX1 SY1 HSM SX SY T0 hBr
                  go_wp2_with fail
                  refine HJ.out.mono ?_
                  rintro e w3 ⟨rfl, b1⟩
                  have b3 := below_past b2 b1 hB2
                  have T1 := TT.out.below b1
                  have SX1 := SX2.out.below b1
                  have SY1 := SY2.out.below b1
                  have hB3 := Nat.le_trans hB2 b1.size
                  have HJ2 := Lib.hid (Joined_any p u10 tx w3 SY1 T1 HTX8.out HT100.out)
                  have TT2 := Lib.hid T1
                  have SX3 := Lib.hid SX1
                  have SY3 := Lib.hid SY1
                  clear b2 b1 T1 SX1 SY1 SX2 SY2 TT HJ hB2
                  generalize shaLab (joinL p tx) = LJ at *
                  go_wp2_with fail
                  refine HJ2.out.mono ?_
                  rintro e w4 ⟨rfl, b1⟩
                  have b4 := below_past b3 b1 hB3
                  have hB4 := Nat.le_trans hB3 b1.size
                  have T1 := TT2.out.below b1
                  have SX4 := Lib.hid (SX3.out.below b1)
                  have SY4 := Lib.hid (SY3.out.below b1)
                  have HA := Lib.hid (awake3 w4 T1)
                  have hlj : decide (LJ = LJ) = true := decide_eq_true rfl
                  clear b3 b1 T1 TT2 SX3 SY3 HJ2 hB3
                  go_wp2_with fail
                  refine HA.out.mono ?_
                  rintro e w5 ⟨rfl, b1⟩
                  have b5 := below_past b4 b1 hB4
                  have hB5 := Nat.le_trans hB4 b1.size
                  have SX5 := SX4.out.below b1
                  have SY5 := Lib.hid (SY4.out.below b1)
                  have HB1 := Lib.hid (r3Bytes_any p u9 tx w5 SX5 HTX8.out HT100.out)
                  clear b4 b1 HA hB4 SX4 SX5
                  go_wp2_with fail
                  refine HB1.out.mono ?_
                  rintro e w6 ⟨rfl, b1⟩
                  have b6 := below_past b5 b1 hB5
                  have hB6 := Nat.le_trans hB5 b1.size
                  have SY6 := SY5.out.below b1
                  have HB2 := Lib.hid (r3Bytes_any p u10 tx w6 SY6 HTX8.out HT100.out)
                  clear b5 b1 HB1 hB5 SY5 SY6
                  generalize stx (joinL p tx) = BJ at *
                  go_wp2_with fail
                  refine HB2.out.mono ?_
                  rintro e w7 ⟨rfl, b1⟩
                  have b7 := below_past b6 b1 hB6
                  clear HB2 b6 b1
                  go_wp2_with fail
                  go_ret
                  exact ⟨by simp, by rw [HB.out]; exact b7⟩
                · rw [decide_eq_false hxy] at HSM
                  have hne := str_ne (fun e => hxy (joinL_inj (p := p) (q := p) HT100.out HY100.out (stx_inj e)).2)
                  clear hq1 hxy
                  go_wp2_with fail
                  refine HSM.out.mono ?_
                  rintro e w2 ⟨rfl, b1⟩
                  have b4 := below_past b0 b1 hBr
                  have hB4 := Nat.le_trans hBr b1.size
                  have T1 := T0.out.below b1
                  have SX4 := Lib.hid (SX.out.below b1)
                  have SY4 := Lib.hid (SY.out.below b1)
                  clear b0 b1 HSM SX SY T0 hBr
                  have HA := Lib.hid (awake3 w2 T1)
                  clear T1
                  go_wp2_with fail
                  refine HA.out.mono ?_
                  rintro e w5 ⟨rfl, b1⟩
                  have b5 := below_past b4 b1 hB4
                  have hB5 := Nat.le_trans hB4 b1.size
                  have SX5 := SX4.out.below b1
                  have SY5 := Lib.hid (SY4.out.below b1)
                  have HB1 := Lib.hid (r3Bytes_any p u9 tx w5 SX5 HTX8.out HT100.out)
                  clear b4 b1 HA hB4 SX4 SX5
                  go_wp2_with fail
                  refine HB1.out.mono ?_
                  rintro e w6 ⟨rfl, b1⟩
                  have b6 := below_past b5 b1 hB5
                  have hB6 := Nat.le_trans hB5 b1.size
                  have SY6 := SY5.out.below b1
                  have HB2 := Lib.hid (r3Bytes_any p u10 ty w6 SY6 HTY8.out HY100.out)
                  clear b5 b1 HB1 hB5 SY5 SY6
                  generalize stx (joinL p tx) = BX at *
                  generalize stx (joinL p ty) = BY at *
                  go_wp2_with fail
                  refine HB2.out.mono ?_
                  rintro e w7 ⟨rfl, b1⟩
                  have b7 := below_past b6 b1 hB6
                  clear HB2 b6 b1
                  go_wp2_with fail
                  go_ret
                  exact ⟨by simp, by rw [HB.out]; exact b7⟩
              · have hq1 : ((p.toNat : Int) == q.toNat) = false := by
                  rw [beq_eq_false_iff_ne]
                  intro e
                  exact hpq (UInt8.toNat_inj.1 (by omega))
                have hq1n : (p.toNat == q.toNat) = false := by
                  rw [beq_eq_false_iff_ne]
                  intro e
                  exact hpq (UInt8.toNat_inj.1 e)
                have hne := str_ne (fun e => hpq (joinL_inj (p := p) (q := q) HT100.out HY100.out (stx_inj e)).1)
                have b4 := b0
                have hB4 := hBr
                have T1 := T0.out
                have SX4 := SX
                have SY4 := SY
                clear hpq b0 SX SY T0 hBr
                have HA := Lib.hid (awake3 wr T1)
                clear T1
                go_wp2_with fail
                refine HA.out.mono ?_
                rintro e w5 ⟨rfl, b1⟩
                have b5 := below_past b4 b1 hB4
                have hB5 := Nat.le_trans hB4 b1.size
                have SX5 := SX4.out.below b1
                have SY5 := Lib.hid (SY4.out.below b1)
                have HB1 := Lib.hid (r3Bytes_any p u9 tx w5 SX5 HTX8.out HT100.out)
                clear b4 b1 HA hB4 SX4 SX5
                go_wp2_with fail
                refine HB1.out.mono ?_
                rintro e w6 ⟨rfl, b1⟩
                have b6 := below_past b5 b1 hB5
                have hB6 := Nat.le_trans hB5 b1.size
                have SY6 := SY5.out.below b1
                have HB2 := Lib.hid (r3Bytes_any q u10 ty w6 SY6 HTY8.out HY100.out)
                clear b5 b1 HB1 hB5 SY5 SY6
                generalize stx (joinL p tx) = BX at *
                generalize stx (joinL q ty) = BY at *
                go_wp2_with fail
                refine HB2.out.mono ?_
                rintro e w7 ⟨rfl, b1⟩
                have b7 := below_past b6 b1 hB6
                clear HB2 b6 b1
                go_wp2_with fail
                go_ret
                exact ⟨by simp, by rw [HB.out]; exact b7⟩
      · obtain rfl : i = len1 := by omega
        have g1' : decide (i < i) = false := decide_eq_false hg1
        obtain ⟨m, hm⟩ : ∃ m, m = i := ⟨_, rfl⟩
        rw [← hm] at ow
        have HM : Hid (m ≤ 8) := Lib.hid (by omega)
        clear hm hgo
        go_wp2_with fail
        have ap2 := HAP.out.symm
        obtain ⟨X, hX⟩ : ∃ X, u9 = X := ⟨_, rfl⟩
        rw [hX] at ow ap2
        subst hX
        have AP2 := Lib.hid ap2
        have hMB : B ≤ wr.heap.size := by rw [← HB.out]; exact b0.size
        obtain ⟨tx, htx⟩ : ∃ tx, cutsL S1 100 m = tx := ⟨_, rfl⟩
        have HTX8 : Hid (tx.length ≤ 8) := Lib.hid (by rw [← htx, cutsL_length]; exact HM.out)
        have HT100 : Hid (∀ t ∈ tx, t.length ≤ 100) := Lib.hid (by rw [← htx]; exact cutsL_short _ _ _)
        rw [htx] at ow
        clear ap2 htx HM HAP HS1 hi1 hi2
        go_loopw [10, 12] (fun y x wr => ∃ i : Nat, i ≤ len2 ∧ i ≤ 8 ∧ x = .int .i64 i ∧ OwnStrs wr B y (cutsL S2 100 i) ∧ OwnStrs wr B u9 tx ∧ Hid (Apart y u9) ∧ Below B w wr) (fun _ x _ => (8 - intOf x).toNat)
        case atStart => exact ⟨0, Nat.zero_le _, Nat.zero_le _, rfl, ou, ow, AP2, b0⟩
        case round =>
          obtain ⟨i, hi1, hi2, rfl, oy, ox, HAP, b0⟩ := hrel
          clear ou ow AP2
          by_cases hgo : i < len2 ∧ i < 8
          · obtain ⟨gg1, gg2⟩ := hgo
            have g1' : decide (i < len2) = true := decide_eq_true gg1
            have g2' : decide ((i : Int) < 8) = true := decide_eq_true (by omega)
            have g1n : (i : Int) < len2 := by omega
            obtain ⟨ad, hao, hc⟩ := HS2.out i gg1
            subst hao
            have c1 := (b0.cell (p := ad.add i) (by rw [← HB.out]; exact cellLt hc)).trans hc
            obtain ⟨L, hL⟩ : ∃ L, (S2 i).data.toList.take 100 = L := ⟨_, rfl⟩
            have HK : Hid (∀ w, Calls Tryd.prog 11 #[.string (S2 i), .int .i64 100] w fun e w' => e = .returned (.string (stx L)) ∧ w' = w) := Lib.hid fun w => by
              have := l3Cut_any (S2 i) 100 w (by decide)
              rwa [hL] at this
            have HTX : Hid (cutsL S2 100 (i + 1) = cutsL S2 100 i ++ [L]) := Lib.hid (by rw [cutsL_succ, hL])
            have hll : (cutsL S2 100 i).length ≤ 1000000 := by rw [cutsL_length]; omega
            have HLL := Lib.hid hll
            have hBr : B ≤ wr.heap.size := by rw [← HB.out]; exact b0.size
            have hi8 : (i : Int) ≤ 8 := by omega
            clear hL hll hc
            go_wp2_with fail
            refine (HK.out _).mono ?_
            rintro e w1 ⟨rfl, rfl⟩
            have bq : Below w1.heap.size w1 (w1.alloc (.cells #[.string (stx L)] 9)) := (Below.refl _ _).alloc (Nat.le_refl _) _
            have oy2 := oy.below bq
            have ox2 := ox.below bq
            have b1 := below_past b0 bq hBr
            have hcell := cell_of_rowAt (rowAt_alloc_at w1 #[.string (stx L)] 9 _ rfl) 0
            go_wp2_with (at_builtin; refine wpList_put_text rfl _ _ rfl B _ _ rfl oy2 L ⟨w1.heap.size, 0, none⟩ 1 rfl hcell (by simp; omega) HLL.out ?_)
            intro v' w' hown hgrow hat
            have ox3 := ox2.apart HAP.out hgrow
            have HAP2 := Lib.hid (HAP.out.grow ox2 hat (by simp))
            have b2 := oy2.grown hgrow b1 (by simp; omega)
            rw [← HTX.out] at hown
            clear oy ox oy2 ox2 hgrow hat b0 b1 bq hcell c1
            go_wp2_with fail
            exact ⟨⟨i + 1, gg1, gg2, by go_num, hown, ox3, HAP2, b2⟩, by simp [intOf]; omega⟩
          · by_cases hg2 : i < len2
            · obtain rfl : i = 8 := by omega
              have g1' : decide ((8 : Nat) < len2) = true := decide_eq_true hg2
              have g1n : ((8 : Nat) : Int) < len2 := by omega
              have g1m : (8 : Int) < len2 := by omega
              rw [show ((8 : Nat) : Int) = 8 from rfl]
              obtain ⟨k, hk⟩ : ∃ k, k = 8 := ⟨_, rfl⟩
              rw [← hk] at oy
              have HK8 : Hid (k ≤ 8) := Lib.hid (by omega)
              clear hk hgo HAP
              have SX := Lib.hid ox.lie
              have SY := Lib.hid oy.lie
              obtain ⟨ty, hty⟩ : ∃ ty, cutsL S2 100 k = ty := ⟨_, rfl⟩
              have HTY8 : Hid (ty.length ≤ 8) := Lib.hid (by rw [← hty, cutsL_length]; exact HK8.out)
              have HY100 : Hid (∀ t ∈ ty, t.length ≤ 100) := Lib.hid (by rw [← hty]; exact cutsL_short _ _ _)
              rw [hty] at SY
              have T0 : Hid (Cubes wr) := Lib.hid (HT.out.below (by rw [HB.out]; exact b0))
              have hBr : B ≤ wr.heap.size := by rw [← HB.out]; exact b0.size
              clear oy ox hty HK8 hi1 hi2
              by_cases hpq : p = q
              · subst hpq
                have hq1 : ((p.toNat : Int) == p.toNat) = true := by rw [beq_iff_eq]
                have HSM : Hid (Calls Tryd.prog 22 #[u9, u10] wr fun e w' => e = .returned (.bool (decide (tx = ty))) ∧ Below wr.heap.size wr w') := Lib.hid (law3same_any _ _ _ _ _ SX.out SY.out (by have := HTX8.out; omega))
                by_cases hxy : tx = ty
                · subst hxy
                  rw [decide_eq_true (rfl : tx = tx)] at HSM
                  clear hq1
                  go_wp2_with fail
                  refine HSM.out.mono ?_
                  rintro e w2 ⟨rfl, b1⟩
                  have b2 := below_past b0 b1 hBr
                  have T1 := T0.out.below b1
                  have SX1 := SX.out.below b1
                  have SY1 := SY.out.below b1
                  have hB2 := Nat.le_trans hBr b1.size
                  have HJ := Lib.hid (Joined_any p u9 tx w2 SX1 T1 HTX8.out HT100.out)
                  have TT := Lib.hid T1
                  have SX2 := Lib.hid SX1
                  have SY2 := Lib.hid SY1
                  clear b0 b1 T1 SX1 SY1 HSM SX SY T0 hBr
                  go_wp2_with fail
                  refine HJ.out.mono ?_
                  rintro e w3 ⟨rfl, b1⟩
                  have b3 := below_past b2 b1 hB2
                  have T1 := TT.out.below b1
                  have SX1 := SX2.out.below b1
                  have SY1 := SY2.out.below b1
                  have hB3 := Nat.le_trans hB2 b1.size
                  have HJ2 := Lib.hid (Joined_any p u10 tx w3 SY1 T1 HTX8.out HT100.out)
                  have TT2 := Lib.hid T1
                  have SX3 := Lib.hid SX1
                  have SY3 := Lib.hid SY1
                  clear b2 b1 T1 SX1 SY1 SX2 SY2 TT HJ hB2
                  generalize shaLab (joinL p tx) = LJ at *
                  go_wp2_with fail
                  refine HJ2.out.mono ?_
                  rintro e w4 ⟨rfl, b1⟩
                  have b4 := below_past b3 b1 hB3
                  have hB4 := Nat.le_trans hB3 b1.size
                  have T1 := TT2.out.below b1
                  have SX4 := Lib.hid (SX3.out.below b1)
                  have SY4 := Lib.hid (SY3.out.below b1)
                  have HA := Lib.hid (awake3 w4 T1)
                  have hlj : decide (LJ = LJ) = true := decide_eq_true rfl
                  clear b3 b1 T1 TT2 SX3 SY3 HJ2 hB3
                  go_wp2_with fail
                  refine HA.out.mono ?_
                  rintro e w5 ⟨rfl, b1⟩
                  have b5 := below_past b4 b1 hB4
                  have hB5 := Nat.le_trans hB4 b1.size
                  have SX5 := SX4.out.below b1
                  have SY5 := Lib.hid (SY4.out.below b1)
                  have HB1 := Lib.hid (r3Bytes_any p u9 tx w5 SX5 HTX8.out HT100.out)
                  clear b4 b1 HA hB4 SX4 SX5
                  go_wp2_with fail
                  refine HB1.out.mono ?_
                  rintro e w6 ⟨rfl, b1⟩
                  have b6 := below_past b5 b1 hB5
                  have hB6 := Nat.le_trans hB5 b1.size
                  have SY6 := SY5.out.below b1
                  have HB2 := Lib.hid (r3Bytes_any p u10 tx w6 SY6 HTX8.out HT100.out)
                  clear b5 b1 HB1 hB5 SY5 SY6
                  generalize stx (joinL p tx) = BJ at *
                  go_wp2_with fail
                  refine HB2.out.mono ?_
                  rintro e w7 ⟨rfl, b1⟩
                  have b7 := below_past b6 b1 hB6
                  clear HB2 b6 b1
                  go_wp2_with fail
                  go_ret
                  exact ⟨by simp, by rw [HB.out]; exact b7⟩
                · rw [decide_eq_false hxy] at HSM
                  have hne := str_ne (fun e => hxy (joinL_inj (p := p) (q := p) HT100.out HY100.out (stx_inj e)).2)
                  clear hq1 hxy
                  go_wp2_with fail
                  refine HSM.out.mono ?_
                  rintro e w2 ⟨rfl, b1⟩
                  have b4 := below_past b0 b1 hBr
                  have hB4 := Nat.le_trans hBr b1.size
                  have T1 := T0.out.below b1
                  have SX4 := Lib.hid (SX.out.below b1)
                  have SY4 := Lib.hid (SY.out.below b1)
                  clear b0 b1 HSM SX SY T0 hBr
                  have HA := Lib.hid (awake3 w2 T1)
                  clear T1
                  go_wp2_with fail
                  refine HA.out.mono ?_
                  rintro e w5 ⟨rfl, b1⟩
                  have b5 := below_past b4 b1 hB4
                  have hB5 := Nat.le_trans hB4 b1.size
                  have SX5 := SX4.out.below b1
                  have SY5 := Lib.hid (SY4.out.below b1)
                  have HB1 := Lib.hid (r3Bytes_any p u9 tx w5 SX5 HTX8.out HT100.out)
                  clear b4 b1 HA hB4 SX4 SX5
                  go_wp2_with fail
                  refine HB1.out.mono ?_
                  rintro e w6 ⟨rfl, b1⟩
                  have b6 := below_past b5 b1 hB5
                  have hB6 := Nat.le_trans hB5 b1.size
                  have SY6 := SY5.out.below b1
                  have HB2 := Lib.hid (r3Bytes_any p u10 ty w6 SY6 HTY8.out HY100.out)
                  clear b5 b1 HB1 hB5 SY5 SY6
                  generalize stx (joinL p tx) = BX at *
                  generalize stx (joinL p ty) = BY at *
                  go_wp2_with fail
                  refine HB2.out.mono ?_
                  rintro e w7 ⟨rfl, b1⟩
                  have b7 := below_past b6 b1 hB6
                  clear HB2 b6 b1
                  go_wp2_with fail
                  go_ret
                  exact ⟨by simp, by rw [HB.out]; exact b7⟩
              · have hq1 : ((p.toNat : Int) == q.toNat) = false := by
                  rw [beq_eq_false_iff_ne]
                  intro e
                  exact hpq (UInt8.toNat_inj.1 (by omega))
                have hq1n : (p.toNat == q.toNat) = false := by
                  rw [beq_eq_false_iff_ne]
                  intro e
                  exact hpq (UInt8.toNat_inj.1 e)
                have hne := str_ne (fun e => hpq (joinL_inj (p := p) (q := q) HT100.out HY100.out (stx_inj e)).1)
                have b4 := b0
                have hB4 := hBr
                have T1 := T0.out
                have SX4 := SX
                have SY4 := SY
                clear hpq b0 SX SY T0 hBr
                have HA := Lib.hid (awake3 wr T1)
                clear T1
                go_wp2_with fail
                refine HA.out.mono ?_
                rintro e w5 ⟨rfl, b1⟩
                have b5 := below_past b4 b1 hB4
                have hB5 := Nat.le_trans hB4 b1.size
                have SX5 := SX4.out.below b1
                have SY5 := Lib.hid (SY4.out.below b1)
                have HB1 := Lib.hid (r3Bytes_any p u9 tx w5 SX5 HTX8.out HT100.out)
                clear b4 b1 HA hB4 SX4 SX5
                go_wp2_with fail
                refine HB1.out.mono ?_
                rintro e w6 ⟨rfl, b1⟩
                have b6 := below_past b5 b1 hB5
                have hB6 := Nat.le_trans hB5 b1.size
                have SY6 := SY5.out.below b1
                have HB2 := Lib.hid (r3Bytes_any q u10 ty w6 SY6 HTY8.out HY100.out)
                clear b5 b1 HB1 hB5 SY5 SY6
                generalize stx (joinL p tx) = BX at *
                generalize stx (joinL q ty) = BY at *
                go_wp2_with fail
                refine HB2.out.mono ?_
                rintro e w7 ⟨rfl, b1⟩
                have b7 := below_past b6 b1 hB6
                clear HB2 b6 b1
                go_wp2_with fail
                go_ret
                exact ⟨by simp, by rw [HB.out]; exact b7⟩
            · obtain rfl : i = len2 := by omega
              have g1' : decide (i < i) = false := decide_eq_false hg2
              obtain ⟨k, hk⟩ : ∃ k, k = i := ⟨_, rfl⟩
              rw [← hk] at oy
              have HK8 : Hid (k ≤ 8) := Lib.hid (by omega)
              clear hk hgo HAP
              have SX := Lib.hid ox.lie
              have SY := Lib.hid oy.lie
              obtain ⟨ty, hty⟩ : ∃ ty, cutsL S2 100 k = ty := ⟨_, rfl⟩
              have HTY8 : Hid (ty.length ≤ 8) := Lib.hid (by rw [← hty, cutsL_length]; exact HK8.out)
              have HY100 : Hid (∀ t ∈ ty, t.length ≤ 100) := Lib.hid (by rw [← hty]; exact cutsL_short _ _ _)
              rw [hty] at SY
              have T0 : Hid (Cubes wr) := Lib.hid (HT.out.below (by rw [HB.out]; exact b0))
              have hBr : B ≤ wr.heap.size := by rw [← HB.out]; exact b0.size
              clear oy ox hty HK8 hi1 hi2
              by_cases hpq : p = q
              · subst hpq
                have hq1 : ((p.toNat : Int) == p.toNat) = true := by rw [beq_iff_eq]
                have HSM : Hid (Calls Tryd.prog 22 #[u9, u10] wr fun e w' => e = .returned (.bool (decide (tx = ty))) ∧ Below wr.heap.size wr w') := Lib.hid (law3same_any _ _ _ _ _ SX.out SY.out (by have := HTX8.out; omega))
                by_cases hxy : tx = ty
                · subst hxy
                  rw [decide_eq_true (rfl : tx = tx)] at HSM
                  clear hq1
                  go_wp2_with fail
                  refine HSM.out.mono ?_
                  rintro e w2 ⟨rfl, b1⟩
                  have b2 := below_past b0 b1 hBr
                  have T1 := T0.out.below b1
                  have SX1 := SX.out.below b1
                  have SY1 := SY.out.below b1
                  have hB2 := Nat.le_trans hBr b1.size
                  have HJ := Lib.hid (Joined_any p u9 tx w2 SX1 T1 HTX8.out HT100.out)
                  have TT := Lib.hid T1
                  have SX2 := Lib.hid SX1
                  have SY2 := Lib.hid SY1
                  clear b0 b1 T1 SX1 SY1 HSM SX SY T0 hBr
                  go_wp2_with fail
                  refine HJ.out.mono ?_
                  rintro e w3 ⟨rfl, b1⟩
                  have b3 := below_past b2 b1 hB2
                  have T1 := TT.out.below b1
                  have SX1 := SX2.out.below b1
                  have SY1 := SY2.out.below b1
                  have hB3 := Nat.le_trans hB2 b1.size
                  have HJ2 := Lib.hid (Joined_any p u10 tx w3 SY1 T1 HTX8.out HT100.out)
                  have TT2 := Lib.hid T1
                  have SX3 := Lib.hid SX1
                  have SY3 := Lib.hid SY1
                  clear b2 b1 T1 SX1 SY1 SX2 SY2 TT HJ hB2
                  generalize shaLab (joinL p tx) = LJ at *
                  go_wp2_with fail
                  refine HJ2.out.mono ?_
                  rintro e w4 ⟨rfl, b1⟩
                  have b4 := below_past b3 b1 hB3
                  have hB4 := Nat.le_trans hB3 b1.size
                  have T1 := TT2.out.below b1
                  have SX4 := Lib.hid (SX3.out.below b1)
                  have SY4 := Lib.hid (SY3.out.below b1)
                  have HA := Lib.hid (awake3 w4 T1)
                  have hlj : decide (LJ = LJ) = true := decide_eq_true rfl
                  clear b3 b1 T1 TT2 SX3 SY3 HJ2 hB3
                  go_wp2_with fail
                  refine HA.out.mono ?_
                  rintro e w5 ⟨rfl, b1⟩
                  have b5 := below_past b4 b1 hB4
                  have hB5 := Nat.le_trans hB4 b1.size
                  have SX5 := SX4.out.below b1
                  have SY5 := Lib.hid (SY4.out.below b1)
                  have HB1 := Lib.hid (r3Bytes_any p u9 tx w5 SX5 HTX8.out HT100.out)
                  clear b4 b1 HA hB4 SX4 SX5
                  go_wp2_with fail
                  refine HB1.out.mono ?_
                  rintro e w6 ⟨rfl, b1⟩
                  have b6 := below_past b5 b1 hB5
                  have hB6 := Nat.le_trans hB5 b1.size
                  have SY6 := SY5.out.below b1
                  have HB2 := Lib.hid (r3Bytes_any p u10 tx w6 SY6 HTX8.out HT100.out)
                  clear b5 b1 HB1 hB5 SY5 SY6
                  generalize stx (joinL p tx) = BJ at *
                  go_wp2_with fail
                  refine HB2.out.mono ?_
                  rintro e w7 ⟨rfl, b1⟩
                  have b7 := below_past b6 b1 hB6
                  clear HB2 b6 b1
                  go_wp2_with fail
                  go_ret
                  exact ⟨by simp, by rw [HB.out]; exact b7⟩
                · rw [decide_eq_false hxy] at HSM
                  have hne := str_ne (fun e => hxy (joinL_inj (p := p) (q := p) HT100.out HY100.out (stx_inj e)).2)
                  clear hq1 hxy
                  go_wp2_with fail
                  refine HSM.out.mono ?_
                  rintro e w2 ⟨rfl, b1⟩
                  have b4 := below_past b0 b1 hBr
                  have hB4 := Nat.le_trans hBr b1.size
                  have T1 := T0.out.below b1
                  have SX4 := Lib.hid (SX.out.below b1)
                  have SY4 := Lib.hid (SY.out.below b1)
                  clear b0 b1 HSM SX SY T0 hBr
                  have HA := Lib.hid (awake3 w2 T1)
                  clear T1
                  go_wp2_with fail
                  refine HA.out.mono ?_
                  rintro e w5 ⟨rfl, b1⟩
                  have b5 := below_past b4 b1 hB4
                  have hB5 := Nat.le_trans hB4 b1.size
                  have SX5 := SX4.out.below b1
                  have SY5 := Lib.hid (SY4.out.below b1)
                  have HB1 := Lib.hid (r3Bytes_any p u9 tx w5 SX5 HTX8.out HT100.out)
                  clear b4 b1 HA hB4 SX4 SX5
                  go_wp2_with fail
                  refine HB1.out.mono ?_
                  rintro e w6 ⟨rfl, b1⟩
                  have b6 := below_past b5 b1 hB5
                  have hB6 := Nat.le_trans hB5 b1.size
                  have SY6 := SY5.out.below b1
                  have HB2 := Lib.hid (r3Bytes_any p u10 ty w6 SY6 HTY8.out HY100.out)
                  clear b5 b1 HB1 hB5 SY5 SY6
                  generalize stx (joinL p tx) = BX at *
                  generalize stx (joinL p ty) = BY at *
                  go_wp2_with fail
                  refine HB2.out.mono ?_
                  rintro e w7 ⟨rfl, b1⟩
                  have b7 := below_past b6 b1 hB6
                  clear HB2 b6 b1
                  go_wp2_with fail
                  go_ret
                  exact ⟨by simp, by rw [HB.out]; exact b7⟩
              · have hq1 : ((p.toNat : Int) == q.toNat) = false := by
                  rw [beq_eq_false_iff_ne]
                  intro e
                  exact hpq (UInt8.toNat_inj.1 (by omega))
                have hq1n : (p.toNat == q.toNat) = false := by
                  rw [beq_eq_false_iff_ne]
                  intro e
                  exact hpq (UInt8.toNat_inj.1 e)
                have hne := str_ne (fun e => hpq (joinL_inj (p := p) (q := q) HT100.out HY100.out (stx_inj e)).1)
                have b4 := b0
                have hB4 := hBr
                have T1 := T0.out
                have SX4 := SX
                have SY4 := SY
                clear hpq b0 SX SY T0 hBr
                have HA := Lib.hid (awake3 wr T1)
                clear T1
                go_wp2_with fail
                refine HA.out.mono ?_
                rintro e w5 ⟨rfl, b1⟩
                have b5 := below_past b4 b1 hB4
                have hB5 := Nat.le_trans hB4 b1.size
                have SX5 := SX4.out.below b1
                have SY5 := Lib.hid (SY4.out.below b1)
                have HB1 := Lib.hid (r3Bytes_any p u9 tx w5 SX5 HTX8.out HT100.out)
                clear b4 b1 HA hB4 SX4 SX5
                go_wp2_with fail
                refine HB1.out.mono ?_
                rintro e w6 ⟨rfl, b1⟩
                have b6 := below_past b5 b1 hB5
                have hB6 := Nat.le_trans hB5 b1.size
                have SY6 := SY5.out.below b1
                have HB2 := Lib.hid (r3Bytes_any q u10 ty w6 SY6 HTY8.out HY100.out)
                clear b5 b1 HB1 hB5 SY5 SY6
                generalize stx (joinL p tx) = BX at *
                generalize stx (joinL q ty) = BY at *
                go_wp2_with fail
                refine HB2.out.mono ?_
                rintro e w7 ⟨rfl, b1⟩
                have b7 := below_past b6 b1 hB6
                clear HB2 b6 b1
                go_wp2_with fail
                go_ret
                exact ⟨by simp, by rw [HB.out]; exact b7⟩
set_option maxRecDepth 100000 in
theorem lifted (os : Os) (started : os.Started) (H : Type) (enc : TypeId × Value → H) :
    ReturnsInHanded {} Tryd.checked os 7 .any (fun w args => (Rows.shaApartSpec.pre enc Tryd.prog Tryd.f7 [] false w args ∧ laidMetH Tryd.prog laidSha w) ∧ sizedMet enc Tryd.prog Tryd.f7 (OpenSpec.ofChange Rows.shaApartSpec) false w args) (Rows.shaApartSpec.post enc Tryd.prog Tryd.f7 false true false false) := by
  refine returnsInHanded_of_change_and (C := Tryd.checked) (X := fun w _ => laidMetH Tryd.prog laidSha w) (fun _ _ _ hh h => h.of_heap hh) own started (by kernel_rfl) Tryd.func7
    (ChangeSpec.witness_shaped (enc := enc) (C := Tryd.checked) (os := os) (X := fun w _ => laidMetH Tryd.prog laidSha w) false (World.doorLaid Tryd.prog 2000 os) #[.int .u8 0, .int .u8 0, .slice none 0 0, .slice none 0 0] 8 rfl (World.shaped_of_RefB (by kernel_rfl) (by kernel_rfl)) (by kernel_rfl) (by kernel_rfl) (by kernel_rfl) (door_sha os _)) ?_
  intro W base args ds gs before hval0 hW _ _ hL _
  have hval : ∀ (j : Nat) t v, Tryd.f7.params[j]? = some t → args[j]? = some v → Value.okWide Tryd.prog W .any base t v := hval0
  clear hval0
  have hW' := hW
  obtain ⟨p, q, hA0, hV, rfl, hfz, hnd⟩ := hW
  have hA : DataW.TrodAll enc Tryd.prog W 0 (fun _ => true) true Tryd.f7.params.toList args.toList ds p := hA0
  rw [Tryd.params7] at hA hval
  clear hA0 hfz hnd hV
  have hr : Readable Tryd.f7.params.toList := by
    rw [Tryd.params7]
    exact readable_of_all (by kernel_rfl)
  have fin : ∀ W', Below W.heap.size W W' → Rows.shaApartSpec.post enc Tryd.prog Tryd.f7 false true false false W args (.bool true) W' := fun W' hb =>
    law_post rfl hW' hr (fun l hl => by
      rw [Tryd.params7] at hl
      match l, hl with
      | [d1, d2, d3, d4], _ => rfl) (by kernel_rfl) hb
  clear hW' hr
  have HT := cubes_of_laid hL
  obtain ⟨v0, v1, v2, v3, d0, d1, d2, d3, p0, p1, p2, p3, rfl, rfl, rfl, h0, h1, h2, h3⟩ := trodAll_four hA; obtain ⟨p8, rfl⟩ := in_byte Tryd.underlying5 (hval 0 5 v0 rfl rfl) h0; obtain ⟨q8, rfl⟩ := in_byte Tryd.underlying5 (hval 1 5 v1 rfl rfl) h1; obtain ⟨l1, S1, hs1⟩ := in_strs Tryd.underlying30 Tryd.underlying9 cellsOf_string (hval 2 30 v2 rfl rfl) h2; obtain ⟨l2, S2, hs2⟩ := in_strs Tryd.underlying30 Tryd.underlying9 cellsOf_string (hval 3 30 v3 rfl rfl) h3
  exact (walk p8 q8 v2 v3 l1 l2 S1 S2 W hs1 hs2 HT).mono fun e W' ⟨he, hb⟩ => ⟨_, he, fin W' hb⟩
theorem row_holds : Rows.ShaApartSaid :=
  OpenClaim.holds_of_wide 7 Tryd.f7 rfl rfl rfl rfl rfl rfl rfl ⟨rfl, rfl, rfl, rfl, rfl⟩ rfl rfl rfl rfl rfl (by kernel_rfl) Tryd.func7 (by kernel_rfl)
    (of_decide_eq_true (by kernel_rfl)) (by unfold Func.isWrapper; first | (rw [if_pos (by decide +kernel)]; kernel_rfl) | (rw [if_neg (by decide +kernel)]; exact ⟨rfl, rfl⟩))
    (fun os started H enc _ => lifted os started H enc)
theorem proved : Rows.ShaApartCardSaid :=
  Claim7.holds_tied_plain_at .later [] [.data] true _ false
    row_holds (fun _ h => by cases h) (by kernel_rfl) (fun _ h => by cases h) shaApart_row_tie rfl ⟨rfl, rfl⟩ (by kernel_rfl) rfl
    (fun f fn hf hfn => by
      obtain rfl : f = 7 := Option.some.inj ((show Tryd.prog.funcNamed "chirograph/chirographlaw03.ShaApart" = some 7 by kernel_rfl).symm.trans hf) |>.symm
      obtain rfl : fn = Tryd.f7 := (Option.some.inj (Tryd.func7.symm.trans hfn)).symm
      exact ⟨by kernel_rfl, fun j t ht => by
        rw [Tryd.params7] at ht
        have hm : t ∈ [5, 5, 30, 30] := by simpa using Array.mem_of_getElem? ht
        have hall : ([5, 5, 30, 30].all fun u => !Tryd.prog.wantsStandIn u) = true := by kernel_rfl
        exact (show Tryd.prog.wantsStandIn t = false by simpa using List.all_eq_true.1 hall t hm)⟩)
    (by kernel_rfl)
end Go.Proofs.YtgjhbfajonjhkaaDoor.apart
