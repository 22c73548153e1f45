/- For any two identities and versions the law LabelApart returns true. Conditions: the listed table is as the program lays it. -/
import Derived.Test.YtlldcgofjibdjaaDoorLabel3
import Derived.Test.YtlldcgofjibdjaaDoorShaTabs
import Derived.Test.YtlldcgofjibdjaaDoorTie
import Derived.Test.YtlldcgofjibdjaaDoorCards
import Derived.SevenTiedAt
namespace Go.Proofs.YtlldcgofjibdjaaDoor.lapart
open Go Go.ChangeShapes Go.WideShapes Go.ChangeAt Go.ChangeMaps Go.RowKit Go.Proofs.YtlldcgofjibdjaaDoor

theorem seedT_inj {a b : List UInt8} {n m : Nat} (ha : a.length ≤ 200) (hb : b.length ≤ 200) (hn : n ≤ 1073741824) (hm : m ≤ 1073741824) (h : seedT a n = seedT b m) : a = b ∧ n = m := by
  unfold seedT at h
  rw [List.append_assoc, List.append_assoc] at h
  obtain ⟨h1, h2⟩ := numBytes_inj (by omega) (by omega) h
  obtain ⟨h3, h4⟩ := List.append_inj h2 h1
  rw [← List.append_nil (numBytes n), ← List.append_nil (numBytes m)] at h4
  exact ⟨h3, (numBytes_inj (by omega) (by omega) h4).1⟩
theorem seedE_nat {k i : List UInt8} {v : Int} (h : seedE k i v = 0) : ∃ n : Nat, v = n ∧ n ≤ 1073741824 := by
  unfold seedE at h
  split at h
  · cases h
  · split at h
    · rename_i q
      exact absurd h q
    · split at h
      · cases h
      · exact ⟨v.toNat, by omega, by omega⟩
set_option maxRecDepth 100000 in
set_option maxHeartbeats 4000000 in
theorem walk (a0 b0 : ByteArray) (v u : Int) (w : World) (ht : Cubes w) : Calls Tryd.prog 5 #[.string a0, .string b0, .int .i64 v, .int .i64 u] w fun e w' => e = .returned (.bool true) ∧ Below w.heap.size w w' := by
  have HK := Lib.hid (fun w => l3Cut_any a0 200 w (by decide))
  have HK2 := Lib.hid (fun w => l3Cut_any b0 200 w (by decide))
  obtain ⟨A, hA⟩ : ∃ A, a0.data.toList.take 200 = A := ⟨_, rfl⟩
  obtain ⟨B, hB⟩ : ∃ B, b0.data.toList.take 200 = B := ⟨_, rfl⟩
  have hA2 : A.length ≤ 200 := by rw [← hA]; exact List.length_take_le _ _
  have hB2 : B.length ≤ 200 := by rw [← hB]; exact List.length_take_le _ _
  rw [hA] at HK
  rw [hB] at HK2
  clear hA hB
  have HA := Lib.hid (fun w (h : Cubes w) => awake14 w h)
  have HT := Lib.hid ht
  have HE1 : Hid (∀ w, Calls Tryd.prog 9 #[.string ⟨#[107]⟩, .string (stx A), .int .i64 v] w fun e w' => e = .returned (.int .i64 (seedE [107] A v)) ∧ Below w.heap.size w w') := Lib.hid fun w => r14Error_any [107] A v w (by decide) hA2
  have HE2 : Hid (∀ w, Calls Tryd.prog 9 #[.string ⟨#[107]⟩, .string (stx B), .int .i64 u] w fun e w' => e = .returned (.int .i64 (seedE [107] B u)) ∧ Below w.heap.size w w') := Lib.hid fun w => r14Error_any [107] B u w (by decide) hB2
  obtain ⟨E1, hE1⟩ : ∃ E1, seedE [107] A v = E1 := ⟨_, rfl⟩
  obtain ⟨E2, hE2⟩ : ∃ E2, seedE [107] B u = E2 := ⟨_, rfl⟩
  rw [hE1] at HE1
  rw [hE2] at HE2
  by_cases h1 : E1 = 0
  · subst h1
    by_cases h2 : E2 = 0
    · subst h2
      obtain ⟨n, rfl, hn⟩ := seedE_nat hE1
      obtain ⟨m, rfl, hm⟩ := seedE_nat hE2
      have HS1 : Hid (∀ w, Cubes w → Calls Tryd.prog 8 #[.string ⟨#[107]⟩, .string (stx A), .int .i64 n] w fun e w' => e = .returned (.tuple #[.agg (cellsL (macL [107] (seedT A n))), .int .i64 0]) ∧ Below w.heap.size w w') := Lib.hid fun w h => by
        have := Seed_any [107] A n w h (by decide) hA2
        rw [seedR_ok hE1, Int.toNat_natCast] at this
        exact this
      have HS2 : Hid (∀ w, Cubes w → Calls Tryd.prog 8 #[.string ⟨#[107]⟩, .string (stx B), .int .i64 m] w fun e w' => e = .returned (.tuple #[.agg (cellsL (macL [107] (seedT B m))), .int .i64 0]) ∧ Below w.heap.size w w') := Lib.hid fun w h => by
        have := Seed_any [107] B m w h (by decide) hB2
        rw [seedR_ok hE2, Int.toNat_natCast] at this
        exact this
      have HT1 := Lib.hid (fun w => r14Text_any A n w hA2 hn)
      have HT2 := Lib.hid (fun w => r14Text_any B m w hB2 hm)
      have hnn : (n : Int) ≤ 1073741824 := by omega
      have hmm : (m : Int) ≤ 1073741824 := by omega
      by_cases hs : A = B
      · subst hs
        by_cases hs2 : n = m
        · subst hs2
          generalize macL [107] (seedT A n) = L1 at *
          generalize seedT A n = T1 at *
          have q1 : decide (L1 = L1) = true := decide_eq_true rfl
          have q2 : ((stx A).toList == (stx A).toList) = true := beq_self_eq_true _
          have q3 : ((stx T1).toList == (stx T1).toList) = true := beq_self_eq_true _
          clear hA2 hB2 hE1 hE2 ht hn hm
          generalize stx A = sA at *
          generalize stx T1 = sT at *
          as_aux_lemma =>
            go_enter Tryd.func5, Tryd.ntmps5
            go_wp2_with fail
            refine (HK.out _).mono ?_
            rintro e w1 ⟨rfl, rfl⟩
            clear HK
            go_wp2_with fail
            refine (HK2.out _).mono ?_
            rintro e w1 ⟨rfl, rfl⟩
            clear HK2
            go_wp2_with fail
            refine (HE1.out _).mono ?_
            rintro e w1 ⟨rfl, b1⟩
            have T1 := Lib.hid (HT.out.below b1)
            clear HT
            clear HE1
            go_wp2_with fail
            refine (HE2.out _).mono ?_
            rintro e w2 ⟨rfl, b2⟩
            have T2 := Lib.hid (T1.out.below b2)
            have b3 := below_past b1 b2 b1.size
            clear HE2 b1 b2 T1
            go_wp2_with fail
            refine (HS1.out _ T2.out).mono ?_
            rintro e w3 ⟨rfl, b2⟩
            have bq : Below w3.heap.size w3 (w3.alloc (.cells (cellsL L1) 23)) := (Below.refl _ _).alloc (Nat.le_refl _) _
            have r4 := rowAt_alloc_at w3 (cellsL L1) 23 _ rfl
            have b4 := below_past (below_past b3 b2 b3.size) bq (Nat.le_trans b3.size b2.size)
            have T3 := Lib.hid ((T2.out.below b2).below bq)
            clear b2 b3 HS1 T2 bq
            go_wp2_with fail
            generalize w3.alloc (.cells (cellsL L1) 23) = W3 at *
            refine (HS2.out _ T3.out).mono ?_
            rintro e w4 ⟨rfl, b2⟩
            have bq : Below w4.heap.size w4 (w4.alloc (.cells (cellsL L1) 23)) := (Below.refl _ _).alloc (Nat.le_refl _) _
            have r5 := rowAt_alloc_at w4 (cellsL L1) 23 _ rfl
            have r6 := rowAt_past (b2.trans (bq.mono b2.size)) r4
            have b5 := below_past (below_past b4 b2 b4.size) bq (Nat.le_trans b4.size b2.size)
            have T4 := Lib.hid ((T3.out.below b2).below bq)
            clear b2 b4 HS2 T3 bq r4
            go_wp2_with fail
            generalize w4.alloc (.cells (cellsL L1) 23) = W4 at *
            refine (HA.out _ T4.out).mono ?_
            rintro e w5 ⟨rfl, b2⟩
            have b6 := below_past b5 b2 b5.size
            have r7 := rowAt_past b2 r5
            have r8 := rowAt_past b2 r6
            clear b2 b5 HA T4 r5 r6
            go_wp2_with fail
            refine (HT1.out _).mono ?_
            rintro e w6 ⟨rfl, b2⟩
            have b7 := below_past b6 b2 b6.size
            have r9 := rowAt_past b2 r7
            have r10 := rowAt_past b2 r8
            clear b2 b6 HT1 r7 r8
            go_wp2_with fail
            refine (HT2.out _).mono ?_
            rintro e w7 ⟨rfl, b2⟩
            have b8 := below_past b7 b2 b7.size
            have r11 := rowAt_past b2 r9
            have r12 := rowAt_past b2 r10
            clear b2 b7 HT2 r9 r10
            go_wp2_with fail
            go_ret
            exact ⟨by simp, b8⟩
        · have hq : seedT A n ≠ seedT A m := fun e => hs2 (seedT_inj hA2 hA2 hn hm e).2
          have q3 := str_ne (fun e => hq (stx_inj e))
          have q2 : ((stx A).toList == (stx A).toList) = true := beq_self_eq_true _
          have q4 : ((n : Int) == (m : Int)) = false := by rw [beq_eq_false_iff_ne]; omega
          have q4b : (n == m) = false := by rw [beq_eq_false_iff_ne]; exact hs2
          have q4c : decide (n = m) = false := decide_eq_false hs2
          generalize macL [107] (seedT A n) = L1 at *
          generalize macL [107] (seedT A m) = L2 at *
          clear hA2 hB2 hE1 hE2 ht hn hm hq hs2
          generalize stx A = sA at *
          generalize stx (seedT A n) = sT at *
          generalize stx (seedT A m) = sU at *
          as_aux_lemma =>
            go_enter Tryd.func5, Tryd.ntmps5
            go_wp2_with fail
            refine (HK.out _).mono ?_
            rintro e w1 ⟨rfl, rfl⟩
            clear HK
            go_wp2_with fail
            refine (HK2.out _).mono ?_
            rintro e w1 ⟨rfl, rfl⟩
            clear HK2
            go_wp2_with fail
            refine (HE1.out _).mono ?_
            rintro e w1 ⟨rfl, b1⟩
            have T1 := Lib.hid (HT.out.below b1)
            clear HT
            clear HE1
            go_wp2_with fail
            refine (HE2.out _).mono ?_
            rintro e w2 ⟨rfl, b2⟩
            have T2 := Lib.hid (T1.out.below b2)
            have b3 := below_past b1 b2 b1.size
            clear HE2 b1 b2 T1
            go_wp2_with fail
            refine (HS1.out _ T2.out).mono ?_
            rintro e w3 ⟨rfl, b2⟩
            have bq : Below w3.heap.size w3 (w3.alloc (.cells (cellsL L1) 23)) := (Below.refl _ _).alloc (Nat.le_refl _) _
            have r4 := rowAt_alloc_at w3 (cellsL L1) 23 _ rfl
            have b4 := below_past (below_past b3 b2 b3.size) bq (Nat.le_trans b3.size b2.size)
            have T3 := Lib.hid ((T2.out.below b2).below bq)
            clear b2 b3 HS1 T2 bq
            go_wp2_with fail
            generalize w3.alloc (.cells (cellsL L1) 23) = W3 at *
            refine (HS2.out _ T3.out).mono ?_
            rintro e w4 ⟨rfl, b2⟩
            have bq : Below w4.heap.size w4 (w4.alloc (.cells (cellsL L2) 23)) := (Below.refl _ _).alloc (Nat.le_refl _) _
            have r5 := rowAt_alloc_at w4 (cellsL L2) 23 _ rfl
            have r6 := rowAt_past (b2.trans (bq.mono b2.size)) r4
            have b5 := below_past (below_past b4 b2 b4.size) bq (Nat.le_trans b4.size b2.size)
            have T4 := Lib.hid ((T3.out.below b2).below bq)
            clear b2 b4 HS2 T3 bq r4
            go_wp2_with fail
            generalize w4.alloc (.cells (cellsL L2) 23) = W4 at *
            refine (HA.out _ T4.out).mono ?_
            rintro e w5 ⟨rfl, b2⟩
            have b6 := below_past b5 b2 b5.size
            have r7 := rowAt_past b2 r5
            have r8 := rowAt_past b2 r6
            clear b2 b5 HA T4 r5 r6
            go_wp2_with fail
            refine (HT1.out _).mono ?_
            rintro e w6 ⟨rfl, b2⟩
            have b7 := below_past b6 b2 b6.size
            have r9 := rowAt_past b2 r7
            have r10 := rowAt_past b2 r8
            clear b2 b6 HT1 r7 r8
            go_wp2_with fail
            refine (HT2.out _).mono ?_
            rintro e w7 ⟨rfl, b2⟩
            have b8 := below_past b7 b2 b7.size
            have r11 := rowAt_past b2 r9
            have r12 := rowAt_past b2 r10
            clear b2 b7 HT2 r9 r10
            go_wp2_with fail
            go_ret
            exact ⟨by simp, b8⟩
      · have hq : seedT A n ≠ seedT B m := fun e => hs (seedT_inj hA2 hB2 hn hm e).1
        have q3 := str_ne (fun e => hq (stx_inj e))
        have q2 := str_ne (fun e => hs (stx_inj e))
        generalize macL [107] (seedT A n) = L1 at *
        generalize macL [107] (seedT B m) = L2 at *
        clear hA2 hB2 hE1 hE2 ht hn hm hq hs
        generalize stx A = sA at *
        generalize stx B = sB at *
        generalize stx (seedT A n) = sT at *
        generalize stx (seedT B m) = sU at *
        as_aux_lemma =>
          go_enter Tryd.func5, Tryd.ntmps5
          go_wp2_with fail
          refine (HK.out _).mono ?_
          rintro e w1 ⟨rfl, rfl⟩
          clear HK
          go_wp2_with fail
          refine (HK2.out _).mono ?_
          rintro e w1 ⟨rfl, rfl⟩
          clear HK2
          go_wp2_with fail
          refine (HE1.out _).mono ?_
          rintro e w1 ⟨rfl, b1⟩
          have T1 := Lib.hid (HT.out.below b1)
          clear HT
          clear HE1
          go_wp2_with fail
          refine (HE2.out _).mono ?_
          rintro e w2 ⟨rfl, b2⟩
          have T2 := Lib.hid (T1.out.below b2)
          have b3 := below_past b1 b2 b1.size
          clear HE2 b1 b2 T1
          go_wp2_with fail
          refine (HS1.out _ T2.out).mono ?_
          rintro e w3 ⟨rfl, b2⟩
          have bq : Below w3.heap.size w3 (w3.alloc (.cells (cellsL L1) 23)) := (Below.refl _ _).alloc (Nat.le_refl _) _
          have r4 := rowAt_alloc_at w3 (cellsL L1) 23 _ rfl
          have b4 := below_past (below_past b3 b2 b3.size) bq (Nat.le_trans b3.size b2.size)
          have T3 := Lib.hid ((T2.out.below b2).below bq)
          clear b2 b3 HS1 T2 bq
          go_wp2_with fail
          generalize w3.alloc (.cells (cellsL L1) 23) = W3 at *
          refine (HS2.out _ T3.out).mono ?_
          rintro e w4 ⟨rfl, b2⟩
          have bq : Below w4.heap.size w4 (w4.alloc (.cells (cellsL L2) 23)) := (Below.refl _ _).alloc (Nat.le_refl _) _
          have r5 := rowAt_alloc_at w4 (cellsL L2) 23 _ rfl
          have r6 := rowAt_past (b2.trans (bq.mono b2.size)) r4
          have b5 := below_past (below_past b4 b2 b4.size) bq (Nat.le_trans b4.size b2.size)
          have T4 := Lib.hid ((T3.out.below b2).below bq)
          clear b2 b4 HS2 T3 bq r4
          go_wp2_with fail
          generalize w4.alloc (.cells (cellsL L2) 23) = W4 at *
          refine (HA.out _ T4.out).mono ?_
          rintro e w5 ⟨rfl, b2⟩
          have b6 := below_past b5 b2 b5.size
          have r7 := rowAt_past b2 r5
          have r8 := rowAt_past b2 r6
          clear b2 b5 HA T4 r5 r6
          go_wp2_with fail
          refine (HT1.out _).mono ?_
          rintro e w6 ⟨rfl, b2⟩
          have b7 := below_past b6 b2 b6.size
          have r9 := rowAt_past b2 r7
          have r10 := rowAt_past b2 r8
          clear b2 b6 HT1 r7 r8
          go_wp2_with fail
          refine (HT2.out _).mono ?_
          rintro e w7 ⟨rfl, b2⟩
          have b8 := below_past b7 b2 b7.size
          have r11 := rowAt_past b2 r9
          have r12 := rowAt_past b2 r10
          clear b2 b7 HT2 r9 r10
          go_wp2_with fail
          go_ret
          exact ⟨by simp, b8⟩
    · have q1 : ((E2 : Int) != 0) = true := by rw [bne_iff_ne]; omega
      have q1b : (E2 != 0) = true := by rw [bne_iff_ne]; exact h2
      clear hA2 hB2 hE1 hE2 ht
      generalize stx A = sA at *
      generalize stx B = sB at *
      as_aux_lemma =>
        go_enter Tryd.func5, Tryd.ntmps5
        go_wp2_with fail
        refine (HK.out _).mono ?_
        rintro e w1 ⟨rfl, rfl⟩
        clear HK
        go_wp2_with fail
        refine (HK2.out _).mono ?_
        rintro e w1 ⟨rfl, rfl⟩
        clear HK2
        go_wp2_with fail
        refine (HE1.out _).mono ?_
        rintro e w1 ⟨rfl, b1⟩
        have T1 := Lib.hid (HT.out.below b1)
        clear HT
        clear HE1
        go_wp2_with fail
        refine (HE2.out _).mono ?_
        rintro e w2 ⟨rfl, b2⟩
        have T2 := Lib.hid (T1.out.below b2)
        have b3 := below_past b1 b2 b1.size
        clear HE2 b1 b2 T1
        go_wp2_with fail
        refine (HA.out _ T2.out).mono ?_
        rintro e w3 ⟨rfl, b2⟩
        have b4 := below_past b3 b2 b3.size
        clear b2 b3 HA
        go_wp2_with fail
        go_ret
        exact ⟨rfl, b4⟩
  · have q1 : ((E1 : Int) != 0) = true := by rw [bne_iff_ne]; omega
    have q1b : (E1 != 0) = true := by rw [bne_iff_ne]; exact h1
    clear hA2 hB2 hE1 hE2 ht
    generalize stx A = sA at *
    generalize stx B = sB at *
    as_aux_lemma =>
      go_enter Tryd.func5, Tryd.ntmps5
      go_wp2_with fail
      refine (HK.out _).mono ?_
      rintro e w1 ⟨rfl, rfl⟩
      clear HK
      go_wp2_with fail
      refine (HK2.out _).mono ?_
      rintro e w1 ⟨rfl, rfl⟩
      clear HK2
      go_wp2_with fail
      refine (HE1.out _).mono ?_
      rintro e w1 ⟨rfl, b1⟩
      have T1 := Lib.hid (HT.out.below b1)
      clear HT
      clear HE1
      go_wp2_with fail
      refine (HA.out _ T1.out).mono ?_
      rintro e w3 ⟨rfl, b2⟩
      have b4 := below_past b1 b2 b1.size
      clear b2 b1 HA
      go_wp2_with fail
      go_ret
      exact ⟨rfl, b4⟩
set_option maxRecDepth 100000 in
theorem lifted (os : Os) (started : os.Started) (H : Type) (enc : TypeId × Value → H) :
    ReturnsInHanded {} Tryd.checked os 5 .any (fun w args => (Rows.labelApartSpec.pre enc Tryd.prog Tryd.f5 [] false w args ∧ laidMetH Tryd.prog laidSha w) ∧ sizedMet enc Tryd.prog Tryd.f5 (OpenSpec.ofChange Rows.labelApartSpec) false w args) (Rows.labelApartSpec.post enc Tryd.prog Tryd.f5 false true false false) := by
  refine returnsInHanded_of_change_and (C := Tryd.checked) (X := fun w _ => laidMetH Tryd.prog laidSha w) (fun _ _ _ hh h => h.of_heap hh) own started (by kernel_rfl) Tryd.func5
    (ChangeSpec.witness_shaped (enc := enc) (C := Tryd.checked) (os := os) (X := fun w _ => laidMetH Tryd.prog laidSha w) false (World.doorLaid Tryd.prog 2000 os) #[.string ⟨#[]⟩, .string ⟨#[]⟩, .int .i64 0, .int .i64 0] 8 rfl (World.shaped_of_RefB (by kernel_rfl) (by kernel_rfl)) (by kernel_rfl) (by kernel_rfl) (by kernel_rfl) (door_sha os _)) ?_
  intro W base args ds gs before hval0 hW _ _ hL _
  have hval : ∀ (j : Nat) t v, Tryd.f5.params[j]? = some t → args[j]? = some v → Value.okWide Tryd.prog W .any base t v := hval0
  clear hval0
  have hW' := hW
  obtain ⟨p, q, hA0, hV, rfl, hfz, hnd⟩ := hW
  have hA : DataW.TrodAll enc Tryd.prog W 0 (fun _ => true) true Tryd.f5.params.toList args.toList ds p := hA0
  rw [Tryd.params5] at hA hval
  clear hA0 hfz hnd hV
  have hr : Readable Tryd.f5.params.toList := by
    rw [Tryd.params5]
    exact readable_of_all (by kernel_rfl)
  have fin : ∀ W', Below W.heap.size W W' → Rows.labelApartSpec.post enc Tryd.prog Tryd.f5 false true false false W args (.bool true) W' := fun W' hb =>
    law_post rfl hW' hr (fun l hl => by
      rw [Tryd.params5] at hl
      match l, hl with
      | [d1, d2, d3, d4], _ => rfl) (by kernel_rfl) hb
  clear hW' hr
  have HT := cubes_of_laid hL
  obtain ⟨v0, v1, v2, v3, d0, d1, d2, d3, p0, p1, p2, p3, rfl, rfl, rfl, h0, h1, h2, h3⟩ := trodAll_four hA; obtain ⟨k, rfl, _, _, w0⟩ := open_string Tryd.underlying9 (hval 0 9 v0 rfl rfl) h0; obtain ⟨s, rfl, _, _, w1⟩ := open_string Tryd.underlying9 (hval 1 9 v1 rfl rfl) h1; obtain ⟨n2, rfl, _, _, w2⟩ := open_int Tryd.underlying3 (hval 2 3 v2 rfl rfl) h2; obtain ⟨n3, rfl, _, _, w3⟩ := open_int Tryd.underlying3 (hval 3 3 v3 rfl rfl) h3
  exact (walk k s n2 n3 W HT).mono fun e W' ⟨he, hb⟩ => ⟨_, he, fin W' hb⟩
theorem row_holds : Rows.LabelApartSaid :=
  OpenClaim.holds_of_wide 5 Tryd.f5 rfl rfl rfl rfl rfl rfl rfl ⟨rfl, rfl, rfl, rfl, rfl⟩ rfl rfl rfl rfl rfl (by kernel_rfl) Tryd.func5 (by kernel_rfl)
    (of_decide_eq_true (by kernel_rfl)) (by unfold Func.isWrapper; first | (rw [if_pos (by decide +kernel)]; kernel_rfl) | (rw [if_neg (by decide +kernel)]; exact ⟨rfl, rfl⟩))
    (fun os started H enc _ => lifted os started H enc)
theorem proved : Rows.LabelApartCardSaid :=
  Claim7.holds_tied_plain_at .later [] [.data] true _ false
    row_holds (fun _ h => by cases h) (by kernel_rfl) (fun _ h => by cases h) labelApart_row_tie rfl ⟨rfl, rfl⟩ (by kernel_rfl) rfl
    (fun f fn hf hfn => by
      obtain rfl : f = 5 := Option.some.inj ((show Tryd.prog.funcNamed "chirograph/chirographlaw14.LabelApart" = some 5 by kernel_rfl).symm.trans hf) |>.symm
      obtain rfl : fn = Tryd.f5 := (Option.some.inj (Tryd.func5.symm.trans hfn)).symm
      exact ⟨by kernel_rfl, fun j t ht => by
        rw [Tryd.params5] at ht
        have hm : t ∈ [9, 9, 3, 3] := by simpa using Array.mem_of_getElem? ht
        have hall : ([9, 9, 3, 3].all fun u => !Tryd.prog.wantsStandIn u) = true := by kernel_rfl
        exact (show Tryd.prog.wantsStandIn t = false by simpa using List.all_eq_true.1 hall t hm)⟩)
    (by kernel_rfl)
end Go.Proofs.YtlldcgofjibdjaaDoor.lapart
