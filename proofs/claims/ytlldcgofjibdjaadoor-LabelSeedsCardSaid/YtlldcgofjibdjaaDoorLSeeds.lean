/- For any key, identity, version and labels the law LabelSeeds returns true. Conditions: the listed table is as the program lays it. -/
import Derived.Test.YtlldcgofjibdjaaDoorLabel4
import Derived.Test.YtlldcgofjibdjaaDoorToks
import Derived.Test.YtlldcgofjibdjaaDoorShaTabs
import Derived.Test.YtlldcgofjibdjaaDoorTie
import Derived.Test.YtlldcgofjibdjaaDoorCards
import Derived.SevenTiedAt
namespace Go.Proofs.YtlldcgofjibdjaaDoor.lseeds
open Go Go.ChangeShapes Go.WideShapes Go.ChangeAt Go.ChangeMaps Go.RowKit Go.Proofs.YtlldcgofjibdjaaDoor

theorem trodAll_five {H : Type} {enc : TypeId × Value → H} {P : Program} {W : World} {base : Nat} {sp : Nat → Bool} {held : Bool} {t0 t1 t2 t3 t4 : TypeId} {args : Array Value} {ds : List (DataW H)} {ps : List MemPlace} (h : DataW.TrodAll enc P W base sp held [t0, t1, t2, t3, t4] args.toList ds ps) :
    ∃ v0 v1 v2 v3 v4 d0 d1 d2 d3 d4 p0 p1 p2 p3 p4, args = #[v0, v1, v2, v3, v4] ∧ ds = [d0, d1, d2, d3, d4] ∧ ps = p0 ++ (p1 ++ (p2 ++ (p3 ++ p4))) ∧ DataW.Trod enc P W base sp held t0 v0 d0 p0 ∧ DataW.Trod enc P W base sp held t1 v1 d1 p1 ∧ DataW.Trod enc P W base sp held t2 v2 d2 p2 ∧ DataW.Trod enc P W base sp held t3 v3 d3 p3 ∧ DataW.Trod enc P W base sp held t4 v4 d4 p4 := by
  obtain ⟨v0, vs0, d0, ds0, p0, q0, e0, rfl, rfl, h0, r0⟩ := trodAll_cons h
  obtain ⟨v1, vs1, d1, ds1, p1, q1, rfl, rfl, rfl, h1, r1⟩ := trodAll_cons r0
  obtain ⟨v2, vs2, d2, ds2, p2, q2, rfl, rfl, rfl, h2, r2⟩ := trodAll_cons r1
  obtain ⟨v3, vs3, d3, ds3, p3, q3, rfl, rfl, rfl, h3, r3⟩ := trodAll_cons r2
  obtain ⟨v4, vs4, d4, ds4, p4, q4, rfl, rfl, rfl, h4, r4⟩ := trodAll_cons r3
  obtain ⟨rfl, rfl, rfl⟩ := trodAll_nil r4
  refine ⟨v0, v1, v2, v3, v4, d0, d1, d2, d3, d4, p0, p1, p2, p3, p4, ?_, rfl, by simp, h0, h1, h2, h3, h4⟩
  cases args
  simp_all
theorem seedE_nat {k i : List UInt8} {v : Int} (h : seedE k i v = 0) : goodK k = true ∧ ∃ n : Nat, v = n ∧ n ≤ 1073741824 := by
  unfold seedE at h
  split at h
  · cases h
  · rename_i q
    split at h
    · rename_i q
      exact absurd h q
    · split at h
      · cases h
      · exact ⟨by simpa using q, v.toNat, by omega, by omega⟩
set_option maxRecDepth 100000 in
set_option maxHeartbeats 4000000 in
theorem seedsGood (k0 i0 sK sI tx tj : ByteArray) (n0 n : Nat) (p s P L : Lab) (bb : Bool) (w : World) (ht : Cubes w) (hz : sK.size = n) (h1n : 1 ≤ n) (hn64 : n ≤ 64) (hn0 : n0 ≤ 1073741824)
    (hbb : bb = (decide (s = L) && decide (p = P)))
    (HK0 : Hid (∀ w, Calls Tryd.prog 7 #[.string k0, .int .i64 100] w fun e w' => e = .returned (.string sK) ∧ w' = w))
    (HK : Hid (∀ w, Calls Tryd.prog 7 #[.string i0, .int .i64 200] w fun e w' => e = .returned (.string sI) ∧ w' = w))
    (HS : Hid (∀ w, Cubes w → Calls Tryd.prog 8 #[.string sK, .string sI, .int .i64 n0] w fun e w' => e = .returned (.tuple #[.agg (cellsL L), .int .i64 0]) ∧ Below w.heap.size w w'))
    (HE : Hid (∀ w, Calls Tryd.prog 9 #[.string sK, .string sI, .int .i64 n0] w fun e w' => e = .returned (.int .i64 0) ∧ Below w.heap.size w w'))
    (HG : Hid (∀ w, Calls Tryd.prog 11 #[.string sK] w fun e w' => e = .returned (.bool true) ∧ Below w.heap.size w w'))
    (HAW : Hid (∀ w, Cubes w → Calls Tryd.prog 10 #[] w fun e w' => e = .returned (.bool true) ∧ Below w.heap.size w w'))
    (HTX : Hid (∀ w, Calls Tryd.prog 16 #[.string sI, .int .i64 n0] w fun e w' => e = .returned (.string tx) ∧ Below w.heap.size w w'))
    (HM : Hid (∀ w, Cubes w → Calls Tryd.prog 15 #[.string sK, .string tx] w fun e w' => e = .returned (.agg (cellsL L)) ∧ Below w.heap.size w w'))
    (HP : Hid (∀ w, Cubes w → Calls Tryd.prog 17 #[.string sK] w fun e w' => e = .returned (.agg (cellsL P)) ∧ Below w.heap.size w w'))
    (HB : Hid (∀ w g, w.cell? ⟨g, 0, none⟩ = some (.string sK) → Calls Tryd.prog 14 #[.int .u8 1, .slice none 0 0, .slice (some ⟨g, 0, none⟩) 1 1] w fun e w' => e = .returned (.string tj) ∧ Below w.heap.size w w'))
    (HSM : Hid (∀ w, Cubes w → Calls Tryd.prog 13 #[.string tj] w fun e w' => e = .returned (.agg (cellsL P)) ∧ Below w.heap.size w w'))
    (HC1 : Hid (∀ w, Cubes w → Calls Tryd.prog 12 #[.agg (cellsL p), .string sK, .string sI, .int .i64 n0, .agg (cellsL s)] w fun e w' => e = .returned (.bool bb) ∧ Below w.heap.size w w'))
    (HC2 : Hid (∀ w, Cubes w → Calls Tryd.prog 12 #[.agg (cellsL P), .string sK, .string sI, .int .i64 n0, .agg (cellsL L)] w fun e w' => e = .returned (.bool true) ∧ Below w.heap.size w w')) :
    Calls Tryd.prog 3 #[.string k0, .string i0, .int .i64 n0, .agg (cellsL p), .agg (cellsL s)] w fun e w' => e = .returned (.bool true) ∧ Below w.heap.size w w' := by
  have b0 : Below w.heap.size w ((w.alloc (.cells (cellsL p) 23)).alloc (.cells (cellsL s) 23)) := ((Below.refl _ _).alloc (Nat.le_refl _) _).alloc (by simp only [World.size_alloc]; omega) _
  have r0 : rowAt ((w.alloc (.cells (cellsL p) 23)).alloc (.cells (cellsL s) 23)) w.heap.size = some (cellsL p) := (rowAt_alloc_past _ _ _ (by simp only [World.size_alloc]; omega)).trans (rowAt_alloc_at _ _ _ _ rfl)
  have r1 : rowAt ((w.alloc (.cells (cellsL p) 23)).alloc (.cells (cellsL s) 23)) (w.heap.size + 1) = some (cellsL s) := rowAt_alloc_at _ _ _ _ (by simp only [World.size_alloc])
  have HT := Lib.hid (ht.below b0)
  have hn0' : (n0 : Int) ≤ 1073741824 := by omega
  have m1 : (1 : Int) ≤ n := by omega
  have m2 : (n : Int) ≤ 64 := by omega
  have m3 : decide (1 ≤ n) = true := decide_eq_true h1n
  have m4 : decide (n ≤ 64) = true := decide_eq_true hn64
  have qP : decide (P = P) = true := decide_eq_true rfl
  have qL : decide (L = L) = true := decide_eq_true rfl
  clear ht h1n hn64 hn0
  by_cases h1 : s = L
  · have e1 : decide (s = L) = true := decide_eq_true h1
    by_cases h2 : p = P
    · have e2 : decide (p = P) = true := decide_eq_true h2
      obtain rfl : bb = true := by rw [hbb, e1, e2]; rfl
      clear hbb h1 h2
      go_enter Tryd.func3, Tryd.ntmps3
      go_wp2_with fail
      generalize (w.alloc (.cells (cellsL p) 23)).alloc (.cells (cellsL s) 23) = W at *
      refine (HK0.out _).mono ?_
      rintro e w1 ⟨rfl, rfl⟩
      clear HK0
      go_wp2_with fail
      refine (HK.out _).mono ?_
      rintro e w1 ⟨rfl, rfl⟩
      clear HK
      go_wp2_with fail
      refine (HS.out _ HT.out).mono ?_
      rintro e w2 ⟨rfl, b2⟩
      have bq : Below w2.heap.size w2 (w2.alloc (.cells (cellsL L) 23)) := (Below.refl _ _).alloc (Nat.le_refl _) _
      have r4 := rowAt_alloc_at w2 (cellsL L) 23 _ rfl
      have b22 := below_past b2 bq b2.size
      have b3 := below_past b0 b22 b0.size
      have r5 := rowAt_past b22 r0
      have r6 := rowAt_past b22 r1
      have T2 := Lib.hid (HT.out.below b22)
      clear b2 bq b22 b0 r0 r1 HT HS
      go_wp2_with fail
      generalize w2.alloc (.cells (cellsL L) 23) = W2 at *
      refine (HE.out _).mono ?_
      rintro e w3 ⟨rfl, b2⟩
      have b4 := below_past b3 b2 b3.size
      have T3 := Lib.hid (T2.out.below b2)
      have s4 := rowAt_past b2 r4
      have s5 := rowAt_past b2 r5
      have s6 := rowAt_past b2 r6
      clear b2 b3 T2 r4 r5 r6 HE
      go_wp2_with fail
      refine (HAW.out _ T3.out).mono ?_
      rintro e w4 ⟨rfl, b2⟩
      have b5 := below_past b4 b2 b4.size
      have T4 := Lib.hid (T3.out.below b2)
      have t4 := rowAt_past b2 s4
      have t5 := rowAt_past b2 s5
      have t6 := rowAt_past b2 s6
      clear b2 b4 T3 s4 s5 s6 HAW
      go_wp2_with fail
      refine (HG.out _).mono ?_
      rintro e w5 ⟨rfl, b2⟩
      have b6 := below_past b5 b2 b5.size
      have T5 := Lib.hid (T4.out.below b2)
      have u4 := rowAt_past b2 t4
      have u5 := rowAt_past b2 t5
      have u6 := rowAt_past b2 t6
      clear b2 b5 T4 t4 t5 t6 HG
      go_wp2_with fail
      have bq : Below w5.heap.size w5 (w5.alloc (.cells #[.string sK] 9)) := (Below.refl _ _).alloc (Nat.le_refl _) _
      have hc := cell_of_rowAt (rowAt_alloc_at w5 #[.string sK] 9 _ rfl) 0
      have HBB := Lib.hid (HB.out _ _ hc)
      have T6 := Lib.hid (T5.out.below bq)
      have b7 := below_past b6 bq b6.size
      have x4 := rowAt_past bq u4
      have x5 := rowAt_past bq u5
      have x6 := rowAt_past bq u6
      clear hc bq T5 b6 u4 u5 u6 HB
      generalize w5.alloc (.cells #[.string sK] 9) = W5 at *
      refine HBB.out.mono ?_
      rintro e w6 ⟨rfl, b2⟩
      have b8 := below_past b7 b2 b7.size
      have T7 := Lib.hid (T6.out.below b2)
      have y4 := rowAt_past b2 x4
      have y5 := rowAt_past b2 x5
      have y6 := rowAt_past b2 x6
      clear b2 b7 T6 x4 x5 x6 HBB
      go_wp2_with fail
      refine (HSM.out _ T7.out).mono ?_
      rintro e w7 ⟨rfl, b2⟩
      have bq : Below w7.heap.size w7 (w7.alloc (.cells (cellsL P) 23)) := (Below.refl _ _).alloc (Nat.le_refl _) _
      have z7 := rowAt_alloc_at w7 (cellsL P) 23 _ rfl
      have b23 := below_past b2 bq b2.size
      have b9 := below_past b8 b23 b8.size
      have T8 := Lib.hid (T7.out.below b23)
      have z4 := rowAt_past b23 y4
      have z5 := rowAt_past b23 y5
      have z6 := rowAt_past b23 y6
      clear b2 bq b23 b8 T7 y4 y5 y6 HSM
      go_upto_region 9 with fail
      generalize w7.alloc (.cells (cellsL P) 23) = W7 at *
      have f4 := fun x : Past W7 => rowAt_past x.h z4
      have f5 := fun x : Past W7 => rowAt_past x.h z5
      have f6 := fun x : Past W7 => rowAt_past x.h z6
      have f7 := fun x : Past W7 => rowAt_past x.h z7
      have C1 := fun x : Past W7 => HC1.out _ (T8.out.below x.h)
      have C2 := fun x : Past W7 => HC2.out _ (T8.out.below x.h)
      have CM := fun x : Past W7 => HM.out _ (T8.out.below x.h)
      have CP := fun x : Past W7 => HP.out _ (T8.out.below x.h)
      clear z4 z5 z6 z7 T8 HC1 HC2 HM HP
      refine wp_region_past (by kernel_rfl) (by kernel_rfl) ?_
      repeat (go_big_quiet_step (first | (go_at_call 16; exact Past.call (HTX.out _)) | (go_at_call 15; exact Past.call (CM _)) | (go_at_call 17; exact Past.call (CP _))))
      go_big_quiet_step ((go_at_call 12; exact Past.call (C2 _)))
      repeat (go_big_quiet_step (fail))
      go_big_quiet_step ((go_at_call 12; exact Past.call (C1 _)))
      repeat (go_big_quiet_step (fail))
      refine wpQuiet_nil ?_
      intro w9 hw9
      obtain ⟨⟨wn, hn⟩, rfl⟩ := hw9
      try dsimp only
      go_wp2_with fail
      go_ret
      exact ⟨rfl, below_past b9 hn b9.size⟩
    · have e2 : decide (p = P) = false := decide_eq_false h2
      obtain rfl : bb = false := by rw [hbb, e1, e2]; rfl
      clear hbb h1 h2
      go_enter Tryd.func3, Tryd.ntmps3
      go_wp2_with fail
      generalize (w.alloc (.cells (cellsL p) 23)).alloc (.cells (cellsL s) 23) = W at *
      refine (HK0.out _).mono ?_
      rintro e w1 ⟨rfl, rfl⟩
      clear HK0
      go_wp2_with fail
      refine (HK.out _).mono ?_
      rintro e w1 ⟨rfl, rfl⟩
      clear HK
      go_wp2_with fail
      refine (HS.out _ HT.out).mono ?_
      rintro e w2 ⟨rfl, b2⟩
      have bq : Below w2.heap.size w2 (w2.alloc (.cells (cellsL L) 23)) := (Below.refl _ _).alloc (Nat.le_refl _) _
      have r4 := rowAt_alloc_at w2 (cellsL L) 23 _ rfl
      have b22 := below_past b2 bq b2.size
      have b3 := below_past b0 b22 b0.size
      have r5 := rowAt_past b22 r0
      have r6 := rowAt_past b22 r1
      have T2 := Lib.hid (HT.out.below b22)
      clear b2 bq b22 b0 r0 r1 HT HS
      go_wp2_with fail
      generalize w2.alloc (.cells (cellsL L) 23) = W2 at *
      refine (HE.out _).mono ?_
      rintro e w3 ⟨rfl, b2⟩
      have b4 := below_past b3 b2 b3.size
      have T3 := Lib.hid (T2.out.below b2)
      have s4 := rowAt_past b2 r4
      have s5 := rowAt_past b2 r5
      have s6 := rowAt_past b2 r6
      clear b2 b3 T2 r4 r5 r6 HE
      go_wp2_with fail
      refine (HAW.out _ T3.out).mono ?_
      rintro e w4 ⟨rfl, b2⟩
      have b5 := below_past b4 b2 b4.size
      have T4 := Lib.hid (T3.out.below b2)
      have t4 := rowAt_past b2 s4
      have t5 := rowAt_past b2 s5
      have t6 := rowAt_past b2 s6
      clear b2 b4 T3 s4 s5 s6 HAW
      go_wp2_with fail
      refine (HG.out _).mono ?_
      rintro e w5 ⟨rfl, b2⟩
      have b6 := below_past b5 b2 b5.size
      have T5 := Lib.hid (T4.out.below b2)
      have u4 := rowAt_past b2 t4
      have u5 := rowAt_past b2 t5
      have u6 := rowAt_past b2 t6
      clear b2 b5 T4 t4 t5 t6 HG
      go_wp2_with fail
      have bq : Below w5.heap.size w5 (w5.alloc (.cells #[.string sK] 9)) := (Below.refl _ _).alloc (Nat.le_refl _) _
      have hc := cell_of_rowAt (rowAt_alloc_at w5 #[.string sK] 9 _ rfl) 0
      have HBB := Lib.hid (HB.out _ _ hc)
      have T6 := Lib.hid (T5.out.below bq)
      have b7 := below_past b6 bq b6.size
      have x4 := rowAt_past bq u4
      have x5 := rowAt_past bq u5
      have x6 := rowAt_past bq u6
      clear hc bq T5 b6 u4 u5 u6 HB
      generalize w5.alloc (.cells #[.string sK] 9) = W5 at *
      refine HBB.out.mono ?_
      rintro e w6 ⟨rfl, b2⟩
      have b8 := below_past b7 b2 b7.size
      have T7 := Lib.hid (T6.out.below b2)
      have y4 := rowAt_past b2 x4
      have y5 := rowAt_past b2 x5
      have y6 := rowAt_past b2 x6
      clear b2 b7 T6 x4 x5 x6 HBB
      go_wp2_with fail
      refine (HSM.out _ T7.out).mono ?_
      rintro e w7 ⟨rfl, b2⟩
      have bq : Below w7.heap.size w7 (w7.alloc (.cells (cellsL P) 23)) := (Below.refl _ _).alloc (Nat.le_refl _) _
      have z7 := rowAt_alloc_at w7 (cellsL P) 23 _ rfl
      have b23 := below_past b2 bq b2.size
      have b9 := below_past b8 b23 b8.size
      have T8 := Lib.hid (T7.out.below b23)
      have z4 := rowAt_past b23 y4
      have z5 := rowAt_past b23 y5
      have z6 := rowAt_past b23 y6
      clear b2 bq b23 b8 T7 y4 y5 y6 HSM
      go_upto_region 9 with fail
      generalize w7.alloc (.cells (cellsL P) 23) = W7 at *
      have f4 := fun x : Past W7 => rowAt_past x.h z4
      have f5 := fun x : Past W7 => rowAt_past x.h z5
      have f6 := fun x : Past W7 => rowAt_past x.h z6
      have f7 := fun x : Past W7 => rowAt_past x.h z7
      have C1 := fun x : Past W7 => HC1.out _ (T8.out.below x.h)
      have C2 := fun x : Past W7 => HC2.out _ (T8.out.below x.h)
      have CM := fun x : Past W7 => HM.out _ (T8.out.below x.h)
      have CP := fun x : Past W7 => HP.out _ (T8.out.below x.h)
      clear z4 z5 z6 z7 T8 HC1 HC2 HM HP
      refine wp_region_past (by kernel_rfl) (by kernel_rfl) ?_
      repeat (go_big_quiet_step (first | (go_at_call 16; exact Past.call (HTX.out _)) | (go_at_call 15; exact Past.call (CM _)) | (go_at_call 17; exact Past.call (CP _))))
      go_big_quiet_step ((go_at_call 12; exact Past.call (C2 _)))
      repeat (go_big_quiet_step (fail))
      go_big_quiet_step ((go_at_call 12; exact Past.call (C1 _)))
      repeat (go_big_quiet_step (fail))
      refine wpQuiet_nil ?_
      intro w9 hw9
      obtain ⟨⟨wn, hn⟩, rfl⟩ := hw9
      try dsimp only
      go_wp2_with fail
      go_ret
      exact ⟨rfl, below_past b9 hn b9.size⟩
  · have e1 : decide (s = L) = false := decide_eq_false h1
    obtain rfl : bb = false := by rw [hbb, e1]; rfl
    by_cases h2 : p = P
    · have e2 : decide (p = P) = true := decide_eq_true h2
      clear hbb h1 h2
      go_enter Tryd.func3, Tryd.ntmps3
      go_wp2_with fail
      generalize (w.alloc (.cells (cellsL p) 23)).alloc (.cells (cellsL s) 23) = W at *
      refine (HK0.out _).mono ?_
      rintro e w1 ⟨rfl, rfl⟩
      clear HK0
      go_wp2_with fail
      refine (HK.out _).mono ?_
      rintro e w1 ⟨rfl, rfl⟩
      clear HK
      go_wp2_with fail
      refine (HS.out _ HT.out).mono ?_
      rintro e w2 ⟨rfl, b2⟩
      have bq : Below w2.heap.size w2 (w2.alloc (.cells (cellsL L) 23)) := (Below.refl _ _).alloc (Nat.le_refl _) _
      have r4 := rowAt_alloc_at w2 (cellsL L) 23 _ rfl
      have b22 := below_past b2 bq b2.size
      have b3 := below_past b0 b22 b0.size
      have r5 := rowAt_past b22 r0
      have r6 := rowAt_past b22 r1
      have T2 := Lib.hid (HT.out.below b22)
      clear b2 bq b22 b0 r0 r1 HT HS
      go_wp2_with fail
      generalize w2.alloc (.cells (cellsL L) 23) = W2 at *
      refine (HE.out _).mono ?_
      rintro e w3 ⟨rfl, b2⟩
      have b4 := below_past b3 b2 b3.size
      have T3 := Lib.hid (T2.out.below b2)
      have s4 := rowAt_past b2 r4
      have s5 := rowAt_past b2 r5
      have s6 := rowAt_past b2 r6
      clear b2 b3 T2 r4 r5 r6 HE
      go_wp2_with fail
      refine (HAW.out _ T3.out).mono ?_
      rintro e w4 ⟨rfl, b2⟩
      have b5 := below_past b4 b2 b4.size
      have T4 := Lib.hid (T3.out.below b2)
      have t4 := rowAt_past b2 s4
      have t5 := rowAt_past b2 s5
      have t6 := rowAt_past b2 s6
      clear b2 b4 T3 s4 s5 s6 HAW
      go_wp2_with fail
      refine (HG.out _).mono ?_
      rintro e w5 ⟨rfl, b2⟩
      have b6 := below_past b5 b2 b5.size
      have T5 := Lib.hid (T4.out.below b2)
      have u4 := rowAt_past b2 t4
      have u5 := rowAt_past b2 t5
      have u6 := rowAt_past b2 t6
      clear b2 b5 T4 t4 t5 t6 HG
      go_wp2_with fail
      have bq : Below w5.heap.size w5 (w5.alloc (.cells #[.string sK] 9)) := (Below.refl _ _).alloc (Nat.le_refl _) _
      have hc := cell_of_rowAt (rowAt_alloc_at w5 #[.string sK] 9 _ rfl) 0
      have HBB := Lib.hid (HB.out _ _ hc)
      have T6 := Lib.hid (T5.out.below bq)
      have b7 := below_past b6 bq b6.size
      have x4 := rowAt_past bq u4
      have x5 := rowAt_past bq u5
      have x6 := rowAt_past bq u6
      clear hc bq T5 b6 u4 u5 u6 HB
      generalize w5.alloc (.cells #[.string sK] 9) = W5 at *
      refine HBB.out.mono ?_
      rintro e w6 ⟨rfl, b2⟩
      have b8 := below_past b7 b2 b7.size
      have T7 := Lib.hid (T6.out.below b2)
      have y4 := rowAt_past b2 x4
      have y5 := rowAt_past b2 x5
      have y6 := rowAt_past b2 x6
      clear b2 b7 T6 x4 x5 x6 HBB
      go_wp2_with fail
      refine (HSM.out _ T7.out).mono ?_
      rintro e w7 ⟨rfl, b2⟩
      have bq : Below w7.heap.size w7 (w7.alloc (.cells (cellsL P) 23)) := (Below.refl _ _).alloc (Nat.le_refl _) _
      have z7 := rowAt_alloc_at w7 (cellsL P) 23 _ rfl
      have b23 := below_past b2 bq b2.size
      have b9 := below_past b8 b23 b8.size
      have T8 := Lib.hid (T7.out.below b23)
      have z4 := rowAt_past b23 y4
      have z5 := rowAt_past b23 y5
      have z6 := rowAt_past b23 y6
      clear b2 bq b23 b8 T7 y4 y5 y6 HSM
      go_upto_region 9 with fail
      generalize w7.alloc (.cells (cellsL P) 23) = W7 at *
      have f4 := fun x : Past W7 => rowAt_past x.h z4
      have f5 := fun x : Past W7 => rowAt_past x.h z5
      have f6 := fun x : Past W7 => rowAt_past x.h z6
      have f7 := fun x : Past W7 => rowAt_past x.h z7
      have C1 := fun x : Past W7 => HC1.out _ (T8.out.below x.h)
      have C2 := fun x : Past W7 => HC2.out _ (T8.out.below x.h)
      have CM := fun x : Past W7 => HM.out _ (T8.out.below x.h)
      have CP := fun x : Past W7 => HP.out _ (T8.out.below x.h)
      clear z4 z5 z6 z7 T8 HC1 HC2 HM HP
      refine wp_region_past (by kernel_rfl) (by kernel_rfl) ?_
      repeat (go_big_quiet_step (first | (go_at_call 16; exact Past.call (HTX.out _)) | (go_at_call 15; exact Past.call (CM _)) | (go_at_call 17; exact Past.call (CP _))))
      go_big_quiet_step ((go_at_call 12; exact Past.call (C2 _)))
      repeat (go_big_quiet_step (fail))
      go_big_quiet_step ((go_at_call 12; exact Past.call (C1 _)))
      repeat (go_big_quiet_step (fail))
      refine wpQuiet_nil ?_
      intro w9 hw9
      obtain ⟨⟨wn, hn⟩, rfl⟩ := hw9
      try dsimp only
      go_wp2_with fail
      go_ret
      exact ⟨rfl, below_past b9 hn b9.size⟩
    · have e2 : decide (p = P) = false := decide_eq_false h2
      clear hbb h1 h2
      go_enter Tryd.func3, Tryd.ntmps3
      go_wp2_with fail
      generalize (w.alloc (.cells (cellsL p) 23)).alloc (.cells (cellsL s) 23) = W at *
      refine (HK0.out _).mono ?_
      rintro e w1 ⟨rfl, rfl⟩
      clear HK0
      go_wp2_with fail
      refine (HK.out _).mono ?_
      rintro e w1 ⟨rfl, rfl⟩
      clear HK
      go_wp2_with fail
      refine (HS.out _ HT.out).mono ?_
      rintro e w2 ⟨rfl, b2⟩
      have bq : Below w2.heap.size w2 (w2.alloc (.cells (cellsL L) 23)) := (Below.refl _ _).alloc (Nat.le_refl _) _
      have r4 := rowAt_alloc_at w2 (cellsL L) 23 _ rfl
      have b22 := below_past b2 bq b2.size
      have b3 := below_past b0 b22 b0.size
      have r5 := rowAt_past b22 r0
      have r6 := rowAt_past b22 r1
      have T2 := Lib.hid (HT.out.below b22)
      clear b2 bq b22 b0 r0 r1 HT HS
      go_wp2_with fail
      generalize w2.alloc (.cells (cellsL L) 23) = W2 at *
      refine (HE.out _).mono ?_
      rintro e w3 ⟨rfl, b2⟩
      have b4 := below_past b3 b2 b3.size
      have T3 := Lib.hid (T2.out.below b2)
      have s4 := rowAt_past b2 r4
      have s5 := rowAt_past b2 r5
      have s6 := rowAt_past b2 r6
      clear b2 b3 T2 r4 r5 r6 HE
      go_wp2_with fail
      refine (HAW.out _ T3.out).mono ?_
      rintro e w4 ⟨rfl, b2⟩
      have b5 := below_past b4 b2 b4.size
      have T4 := Lib.hid (T3.out.below b2)
      have t4 := rowAt_past b2 s4
      have t5 := rowAt_past b2 s5
      have t6 := rowAt_past b2 s6
      clear b2 b4 T3 s4 s5 s6 HAW
      go_wp2_with fail
      refine (HG.out _).mono ?_
      rintro e w5 ⟨rfl, b2⟩
      have b6 := below_past b5 b2 b5.size
      have T5 := Lib.hid (T4.out.below b2)
      have u4 := rowAt_past b2 t4
      have u5 := rowAt_past b2 t5
      have u6 := rowAt_past b2 t6
      clear b2 b5 T4 t4 t5 t6 HG
      go_wp2_with fail
      have bq : Below w5.heap.size w5 (w5.alloc (.cells #[.string sK] 9)) := (Below.refl _ _).alloc (Nat.le_refl _) _
      have hc := cell_of_rowAt (rowAt_alloc_at w5 #[.string sK] 9 _ rfl) 0
      have HBB := Lib.hid (HB.out _ _ hc)
      have T6 := Lib.hid (T5.out.below bq)
      have b7 := below_past b6 bq b6.size
      have x4 := rowAt_past bq u4
      have x5 := rowAt_past bq u5
      have x6 := rowAt_past bq u6
      clear hc bq T5 b6 u4 u5 u6 HB
      generalize w5.alloc (.cells #[.string sK] 9) = W5 at *
      refine HBB.out.mono ?_
      rintro e w6 ⟨rfl, b2⟩
      have b8 := below_past b7 b2 b7.size
      have T7 := Lib.hid (T6.out.below b2)
      have y4 := rowAt_past b2 x4
      have y5 := rowAt_past b2 x5
      have y6 := rowAt_past b2 x6
      clear b2 b7 T6 x4 x5 x6 HBB
      go_wp2_with fail
      refine (HSM.out _ T7.out).mono ?_
      rintro e w7 ⟨rfl, b2⟩
      have bq : Below w7.heap.size w7 (w7.alloc (.cells (cellsL P) 23)) := (Below.refl _ _).alloc (Nat.le_refl _) _
      have z7 := rowAt_alloc_at w7 (cellsL P) 23 _ rfl
      have b23 := below_past b2 bq b2.size
      have b9 := below_past b8 b23 b8.size
      have T8 := Lib.hid (T7.out.below b23)
      have z4 := rowAt_past b23 y4
      have z5 := rowAt_past b23 y5
      have z6 := rowAt_past b23 y6
      clear b2 bq b23 b8 T7 y4 y5 y6 HSM
      go_upto_region 9 with fail
      generalize w7.alloc (.cells (cellsL P) 23) = W7 at *
      have f4 := fun x : Past W7 => rowAt_past x.h z4
      have f5 := fun x : Past W7 => rowAt_past x.h z5
      have f6 := fun x : Past W7 => rowAt_past x.h z6
      have f7 := fun x : Past W7 => rowAt_past x.h z7
      have C1 := fun x : Past W7 => HC1.out _ (T8.out.below x.h)
      have C2 := fun x : Past W7 => HC2.out _ (T8.out.below x.h)
      have CM := fun x : Past W7 => HM.out _ (T8.out.below x.h)
      have CP := fun x : Past W7 => HP.out _ (T8.out.below x.h)
      clear z4 z5 z6 z7 T8 HC1 HC2 HM HP
      refine wp_region_past (by kernel_rfl) (by kernel_rfl) ?_
      repeat (go_big_quiet_step (first | (go_at_call 16; exact Past.call (HTX.out _)) | (go_at_call 15; exact Past.call (CM _)) | (go_at_call 17; exact Past.call (CP _))))
      go_big_quiet_step ((go_at_call 12; exact Past.call (C2 _)))
      repeat (go_big_quiet_step (fail))
      go_big_quiet_step ((go_at_call 12; exact Past.call (C1 _)))
      repeat (go_big_quiet_step (fail))
      refine wpQuiet_nil ?_
      intro w9 hw9
      obtain ⟨⟨wn, hn⟩, rfl⟩ := hw9
      try dsimp only
      go_wp2_with fail
      go_ret
      exact ⟨rfl, below_past b9 hn b9.size⟩
set_option maxRecDepth 100000 in
set_option maxHeartbeats 4000000 in
theorem walk (k0 i0 : ByteArray) (v : Int) (p s : Lab) (w : World) (ht : Cubes w) : Calls Tryd.prog 3 #[.string k0, .string i0, .int .i64 v, .agg (cellsL p), .agg (cellsL s)] w fun e w' => e = .returned (.bool true) ∧ Below w.heap.size w w' := by
  have HK0 := Lib.hid (fun w => l3Cut_any k0 100 w (by decide))
  have HK := Lib.hid (fun w => l3Cut_any i0 200 w (by decide))
  obtain ⟨K, hK⟩ : ∃ K, k0.data.toList.take 100 = K := ⟨_, rfl⟩
  have hK2 : K.length ≤ 100 := by rw [← hK]; exact List.length_take_le _ _
  obtain ⟨I, hI⟩ : ∃ I, i0.data.toList.take 200 = I := ⟨_, rfl⟩
  have hI2 : I.length ≤ 200 := by rw [← hI]; exact List.length_take_le _ _
  rw [hK] at HK0
  rw [hI] at HK
  clear hI hK
  have b0 : Below w.heap.size w ((w.alloc (.cells (cellsL p) 23)).alloc (.cells (cellsL s) 23)) := ((Below.refl _ _).alloc (Nat.le_refl _) _).alloc (by simp only [World.size_alloc]; omega) _
  have r0 : rowAt ((w.alloc (.cells (cellsL p) 23)).alloc (.cells (cellsL s) 23)) w.heap.size = some (cellsL p) := (rowAt_alloc_past _ _ _ (by simp only [World.size_alloc]; omega)).trans (rowAt_alloc_at _ _ _ _ rfl)
  have r1 : rowAt ((w.alloc (.cells (cellsL p) 23)).alloc (.cells (cellsL s) 23)) (w.heap.size + 1) = some (cellsL s) := rowAt_alloc_at _ _ _ _ (by simp only [World.size_alloc])
  have HT := Lib.hid (ht.below b0)
  have HS := Lib.hid (fun w (h : Cubes w) => Seed_any K I v w h hK2 hI2)
  have HE := Lib.hid (fun w => r14Error_any K I v w hK2 hI2)
  have HG := Lib.hid (fun w => laGood_any K w hK2)
  have HAW := Lib.hid (fun w (h : Cubes w) => awake14 w h)
  have HC1 := Lib.hid (fun w (h : Cubes w) => laCheck_any p K I v s w h hK2 hI2)
  have hz : (stx K).size = K.length := stx_size K
  unfold SeedR at HS
  by_cases hE : seedE K I v = 0
  · obtain ⟨hg, n0, rfl, hn0⟩ := seedE_nat hE
    have HTX := Lib.hid (fun w => r14Text_any I n0 w hI2 hn0)
    have HM := Lib.hid (fun w (h : Cubes w) => Mac_any K (seedT I n0) w h (by omega) (by have := seedT_len I n0 hI2 hn0; omega))
    have HP := Lib.hid (fun w (h : Cubes w) => Public_any K w h hK2)
    have HC2 := Lib.hid (fun w (h : Cubes w) => laCheck_any (tagL 1 [K]) K I n0 (seedL K I n0) w h hK2 hI2)
    have HB : Hid (∀ w g, w.cell? ⟨g, 0, none⟩ = some (.string (stx K)) → Calls Tryd.prog 14 #[.int .u8 1, .slice none 0 0, .slice (some ⟨g, 0, none⟩) 1 1] w fun e w' => e = .returned (.string (stx (joinL 1 [K]))) ∧ Below w.heap.size w w') := Lib.hid fun w g h => r14Bytes_one 1 _ _ [] [K] w (labs_at0 w) ⟨K, g, rfl, rfl, h⟩ (by simp) (by simp) (by intro t ht; obtain rfl := List.mem_singleton.1 ht; exact hK2)
    have HSM : Hid (∀ w, Cubes w → Calls Tryd.prog 13 #[.string (stx (joinL 1 [K]))] w fun e w' => e = .returned (.agg (cellsL (tagL 1 [K]))) ∧ Below w.heap.size w w') := Lib.hid fun w h => Sum_any (stx (joinL 1 [K])) w h (by
      rw [stx_size]
      have := joinL_len 1 [K] (by intro t ht; obtain rfl := List.mem_singleton.1 ht; exact hK2)
      have h1 : ([K] : List (List UInt8)).length = 1 := rfl
      omega)
    have hLq : seedL K I n0 = macL K (seedT I n0) := by rw [seedL, if_pos hE, Int.toNat_natCast]
    have hck2 : chkSeed (tagL 1 [K]) K I n0 (seedL K I n0) = true := by rw [chkSeed, hE, decide_eq_true rfl, decide_eq_true rfl, decide_eq_true rfl]; rfl
    rw [hck2] at HC2
    rw [chkSeed, hE, show decide (0 = 0) = true from rfl, Bool.true_and] at HC1
    rw [hE] at HS HE
    rw [hLq] at HS HC1 HC2
    rw [hg] at HG
    have hgg : 0 < K.length ∧ K.length ≤ 64 := by rw [goodK] at hg; simpa using hg
    exact seedsGood k0 i0 (stx K) (stx I) _ _ n0 K.length p s _ _ _ w ht hz hgg.1 hgg.2 hn0 rfl HK0 HK HS HE HG HAW HTX HM HP HB HSM HC1 HC2
  · have hL : seedL K I v = zeroLab := by rw [seedL, if_neg hE]
    have hck : chkSeed p K I v s = false := by rw [chkSeed, decide_eq_false hE, Bool.false_and]
    rw [hL] at HS
    rw [hck] at HC1
    obtain ⟨E, hEE⟩ : ∃ E, seedE K I v = E := ⟨_, rfl⟩
    rw [hEE] at HS HE hE
    have q0 : ((E : Int) != 0) = true := by rw [bne_iff_ne]; omega
    have q0b : (E != 0) = true := by rw [bne_iff_ne]; exact hE
    have q1 : ((E : Int) != (E : Int)) = false := by rw [bne_eq_false_iff_eq]
    have q1b : (E != E) = false := by rw [bne_eq_false_iff_eq]
    obtain ⟨n, hn⟩ : ∃ n, K.length = n := ⟨_, rfl⟩
    obtain ⟨G, hG⟩ : ∃ G, goodK K = G := ⟨_, rfl⟩
    have hGG : G = (decide (1 ≤ n) && decide (n ≤ 64)) := by rw [← hG, goodK, hn, Bool.decide_and]; rfl
    rw [hG] at HG
    rw [hn] at hz
    obtain ⟨L, hLL⟩ : ∃ L, zeroLab = L := ⟨_, rfl⟩
    have qz : decide (zeroLab = zeroLab) = true := decide_eq_true rfl
    clear hL hck hEE hG hn ht hK2 hI2 hE
    generalize stx K = sK at *
    generalize stx I = sI at *
    rw [hLL] at HS qz
    have hzl : zeroLab = L := hLL
    clear hLL
    by_cases n0 : n = 0
    · subst n0
      have hg0 : G = false := hGG
      clear hGG
      subst hg0
      as_aux_lemma =>
        go_enter Tryd.func3, Tryd.ntmps3
        go_wp2_with fail
        generalize (w.alloc (.cells (cellsL p) 23)).alloc (.cells (cellsL s) 23) = W at *
        refine (HK0.out _).mono ?_
        rintro e w1 ⟨rfl, rfl⟩
        clear HK0
        go_wp2_with fail
        refine (HK.out _).mono ?_
        rintro e w1 ⟨rfl, rfl⟩
        clear HK
        go_wp2_with fail
        refine (HS.out _ HT.out).mono ?_
        rintro e w2 ⟨rfl, b2⟩
        have bq : Below w2.heap.size w2 (w2.alloc (.cells (cellsL L) 23)) := (Below.refl _ _).alloc (Nat.le_refl _) _
        have r4 := rowAt_alloc_at w2 (cellsL L) 23 _ rfl
        have b22 := below_past b2 bq b2.size
        have b3 := below_past b0 b22 b0.size
        have r5 := rowAt_past b22 r0
        have r6 := rowAt_past b22 r1
        have T2 := Lib.hid (HT.out.below b22)
        clear b2 bq b22 b0 r0 r1 HT HS
        go_wp2_with fail
        generalize w2.alloc (.cells (cellsL L) 23) = W2 at *
        refine (HE.out _).mono ?_
        rintro e w3 ⟨rfl, b2⟩
        have b4 := below_past b3 b2 b3.size
        have T3 := Lib.hid (T2.out.below b2)
        have s4 := rowAt_past b2 r4
        have s5 := rowAt_past b2 r5
        have s6 := rowAt_past b2 r6
        clear b2 b3 T2 r4 r5 r6 HE
        go_wp2_with fail
        refine (HAW.out _ T3.out).mono ?_
        rintro e w4 ⟨rfl, b2⟩
        have b5 := below_past b4 b2 b4.size
        have T4 := Lib.hid (T3.out.below b2)
        have t4 := rowAt_past b2 s4
        have t5 := rowAt_past b2 s5
        have t6 := rowAt_past b2 s6
        clear b2 b4 T3 s4 s5 s6 HAW
        go_wp2_with fail
        refine (HG.out _).mono ?_
        rintro e w5 ⟨rfl, b2⟩
        have b6 := below_past b5 b2 b5.size
        have T5 := Lib.hid (T4.out.below b2)
        have u4 := rowAt_past b2 t4
        have u5 := rowAt_past b2 t5
        have u6 := rowAt_past b2 t6
        clear b2 b5 T4 t4 t5 t6 HG
        go_wp2_with fail
        refine (HC1.out _ T5.out).mono ?_
        rintro e w6 ⟨rfl, b2⟩
        have b7 := below_past b6 b2 b6.size
        clear b2 b6 T5 u4 u5 u6 HC1
        go_wp2_with fail
        go_ret
        exact ⟨rfl, b7⟩
    · by_cases n1 : n ≤ 64
      · obtain rfl : G = true := by rw [hGG, decide_eq_true n1, decide_eq_true (show 1 ≤ n by omega)]; rfl
        have m1 : (1 : Int) ≤ n := by omega
        have m2 : (n : Int) ≤ 64 := by omega
        have m3 : decide (1 ≤ n) = true := decide_eq_true (by omega)
        have m4 : decide (n ≤ 64) = true := decide_eq_true n1
        clear hGG n0
        as_aux_lemma =>
          go_enter Tryd.func3, Tryd.ntmps3
          go_wp2_with fail
          generalize (w.alloc (.cells (cellsL p) 23)).alloc (.cells (cellsL s) 23) = W at *
          refine (HK0.out _).mono ?_
          rintro e w1 ⟨rfl, rfl⟩
          clear HK0
          go_wp2_with fail
          refine (HK.out _).mono ?_
          rintro e w1 ⟨rfl, rfl⟩
          clear HK
          go_wp2_with fail
          refine (HS.out _ HT.out).mono ?_
          rintro e w2 ⟨rfl, b2⟩
          have bq : Below w2.heap.size w2 (w2.alloc (.cells (cellsL L) 23)) := (Below.refl _ _).alloc (Nat.le_refl _) _
          have r4 := rowAt_alloc_at w2 (cellsL L) 23 _ rfl
          have b22 := below_past b2 bq b2.size
          have b3 := below_past b0 b22 b0.size
          have r5 := rowAt_past b22 r0
          have r6 := rowAt_past b22 r1
          have T2 := Lib.hid (HT.out.below b22)
          clear b2 bq b22 b0 r0 r1 HT HS
          go_wp2_with fail
          generalize w2.alloc (.cells (cellsL L) 23) = W2 at *
          refine (HE.out _).mono ?_
          rintro e w3 ⟨rfl, b2⟩
          have b4 := below_past b3 b2 b3.size
          have T3 := Lib.hid (T2.out.below b2)
          have s4 := rowAt_past b2 r4
          have s5 := rowAt_past b2 r5
          have s6 := rowAt_past b2 r6
          clear b2 b3 T2 r4 r5 r6 HE
          go_wp2_with fail
          refine (HAW.out _ T3.out).mono ?_
          rintro e w4 ⟨rfl, b2⟩
          have b5 := below_past b4 b2 b4.size
          have T4 := Lib.hid (T3.out.below b2)
          have t4 := rowAt_past b2 s4
          have t5 := rowAt_past b2 s5
          have t6 := rowAt_past b2 s6
          clear b2 b4 T3 s4 s5 s6 HAW
          go_wp2_with fail
          refine (HG.out _).mono ?_
          rintro e w5 ⟨rfl, b2⟩
          have b6 := below_past b5 b2 b5.size
          have T5 := Lib.hid (T4.out.below b2)
          have u4 := rowAt_past b2 t4
          have u5 := rowAt_past b2 t5
          have u6 := rowAt_past b2 t6
          clear b2 b5 T4 t4 t5 t6 HG
          go_wp2_with fail
          refine (HC1.out _ T5.out).mono ?_
          rintro e w6 ⟨rfl, b2⟩
          have b7 := below_past b6 b2 b6.size
          clear b2 b6 T5 u4 u5 u6 HC1
          go_wp2_with fail
          go_ret
          exact ⟨rfl, b7⟩
      · obtain rfl : G = false := by rw [hGG, decide_eq_false n1, Bool.and_false]
        have m1 : (1 : Int) ≤ n := by omega
        have m2 : ¬ (n : Int) ≤ 64 := by omega
        have m3 : decide (1 ≤ n) = true := decide_eq_true (by omega)
        have m4 : decide (n ≤ 64) = false := decide_eq_false n1
        clear hGG n0
        as_aux_lemma =>
          go_enter Tryd.func3, Tryd.ntmps3
          go_wp2_with fail
          generalize (w.alloc (.cells (cellsL p) 23)).alloc (.cells (cellsL s) 23) = W at *
          refine (HK0.out _).mono ?_
          rintro e w1 ⟨rfl, rfl⟩
          clear HK0
          go_wp2_with fail
          refine (HK.out _).mono ?_
          rintro e w1 ⟨rfl, rfl⟩
          clear HK
          go_wp2_with fail
          refine (HS.out _ HT.out).mono ?_
          rintro e w2 ⟨rfl, b2⟩
          have bq : Below w2.heap.size w2 (w2.alloc (.cells (cellsL L) 23)) := (Below.refl _ _).alloc (Nat.le_refl _) _
          have r4 := rowAt_alloc_at w2 (cellsL L) 23 _ rfl
          have b22 := below_past b2 bq b2.size
          have b3 := below_past b0 b22 b0.size
          have r5 := rowAt_past b22 r0
          have r6 := rowAt_past b22 r1
          have T2 := Lib.hid (HT.out.below b22)
          clear b2 bq b22 b0 r0 r1 HT HS
          go_wp2_with fail
          generalize w2.alloc (.cells (cellsL L) 23) = W2 at *
          refine (HE.out _).mono ?_
          rintro e w3 ⟨rfl, b2⟩
          have b4 := below_past b3 b2 b3.size
          have T3 := Lib.hid (T2.out.below b2)
          have s4 := rowAt_past b2 r4
          have s5 := rowAt_past b2 r5
          have s6 := rowAt_past b2 r6
          clear b2 b3 T2 r4 r5 r6 HE
          go_wp2_with fail
          refine (HAW.out _ T3.out).mono ?_
          rintro e w4 ⟨rfl, b2⟩
          have b5 := below_past b4 b2 b4.size
          have T4 := Lib.hid (T3.out.below b2)
          have t4 := rowAt_past b2 s4
          have t5 := rowAt_past b2 s5
          have t6 := rowAt_past b2 s6
          clear b2 b4 T3 s4 s5 s6 HAW
          go_wp2_with fail
          refine (HG.out _).mono ?_
          rintro e w5 ⟨rfl, b2⟩
          have b6 := below_past b5 b2 b5.size
          have T5 := Lib.hid (T4.out.below b2)
          have u4 := rowAt_past b2 t4
          have u5 := rowAt_past b2 t5
          have u6 := rowAt_past b2 t6
          clear b2 b5 T4 t4 t5 t6 HG
          go_wp2_with fail
          refine (HC1.out _ T5.out).mono ?_
          rintro e w6 ⟨rfl, b2⟩
          have b7 := below_past b6 b2 b6.size
          clear b2 b6 T5 u4 u5 u6 HC1
          go_wp2_with fail
          go_ret
          exact ⟨rfl, b7⟩
set_option maxRecDepth 100000 in
theorem lifted (os : Os) (started : os.Started) (H : Type) (enc : TypeId × Value → H) :
    ReturnsInHanded {} Tryd.checked os 3 .any (fun w args => (Rows.labelSeedsSpec.pre enc Tryd.prog Tryd.f3 [] false w args ∧ laidMetH Tryd.prog laidSha w) ∧ sizedMet enc Tryd.prog Tryd.f3 (OpenSpec.ofChange Rows.labelSeedsSpec) false w args) (Rows.labelSeedsSpec.post enc Tryd.prog Tryd.f3 false true false false) := by
  refine returnsInHanded_of_change_and (C := Tryd.checked) (X := fun w _ => laidMetH Tryd.prog laidSha w) (fun _ _ _ hh h => h.of_heap hh) own started (by kernel_rfl) Tryd.func3
    (ChangeSpec.witness_shaped (enc := enc) (C := Tryd.checked) (os := os) (X := fun w _ => laidMetH Tryd.prog laidSha w) false (World.doorLaid Tryd.prog 2000 os) #[.string ⟨#[]⟩, .string ⟨#[]⟩, .int .i64 0, .agg (cellsL zeroLab), .agg (cellsL zeroLab)] 8 rfl (World.shaped_of_RefB (by kernel_rfl) (by kernel_rfl)) (by kernel_rfl) (by kernel_rfl) (by kernel_rfl) (door_sha os _)) ?_
  intro W base args ds gs before hval0 hW _ _ hL _
  have hval : ∀ (j : Nat) t v, Tryd.f3.params[j]? = some t → args[j]? = some v → Value.okWide Tryd.prog W .any base t v := hval0
  clear hval0
  have hW' := hW
  obtain ⟨p, q, hA0, hV, rfl, hfz, hnd⟩ := hW
  have hA : DataW.TrodAll enc Tryd.prog W 0 (fun _ => true) true Tryd.f3.params.toList args.toList ds p := hA0
  rw [Tryd.params3] at hA hval
  clear hA0 hfz hnd hV
  have hr : Readable Tryd.f3.params.toList := by
    rw [Tryd.params3]
    exact readable_of_all (by kernel_rfl)
  have fin : ∀ W', Below W.heap.size W W' → Rows.labelSeedsSpec.post enc Tryd.prog Tryd.f3 false true false false W args (.bool true) W' := fun W' hb =>
    law_post rfl hW' hr (fun l hl => by
      rw [Tryd.params3] at hl
      match l, hl with
      | [d1, d2, d3, d4, d5], _ => rfl) (by kernel_rfl) hb
  clear hW' hr
  have HT := cubes_of_laid hL
  obtain ⟨v0, v1, v2, v3, v4, d0, d1, d2, d3, d4, p0, p1, p2, p3, p4, rfl, rfl, rfl, h0, h1, h2, h3, h4⟩ := trodAll_five hA; obtain ⟨k, rfl, _, _, w0⟩ := open_string Tryd.underlying9 (hval 0 9 v0 rfl rfl) h0; obtain ⟨i, rfl, _, _, w1⟩ := open_string Tryd.underlying9 (hval 1 9 v1 rfl rfl) h1; obtain ⟨n, rfl, _, _, w2⟩ := open_int Tryd.underlying3 (hval 2 3 v2 rfl rfl) h2; obtain ⟨a, rfl⟩ := open_lab Tryd.underlying23 Tryd.underlying5 cellsOf_u8 cellsOf_lab (hval 3 23 v3 rfl rfl) h3; obtain ⟨b, rfl⟩ := open_lab Tryd.underlying23 Tryd.underlying5 cellsOf_u8 cellsOf_lab (hval 4 23 v4 rfl rfl) h4
  exact (walk k i n a b W HT).mono fun e W' ⟨he, hb⟩ => ⟨_, he, fin W' hb⟩
theorem row_holds : Rows.LabelSeedsSaid :=
  OpenClaim.holds_of_wide 3 Tryd.f3 rfl rfl rfl rfl rfl rfl rfl ⟨rfl, rfl, rfl, rfl, rfl⟩ rfl rfl rfl rfl rfl (by kernel_rfl) Tryd.func3 (by kernel_rfl)
    (of_decide_eq_true (by kernel_rfl)) (by unfold Func.isWrapper; first | (rw [if_pos (by decide +kernel)]; kernel_rfl) | (rw [if_neg (by decide +kernel)]; exact ⟨rfl, rfl⟩))
    (fun os started H enc _ => lifted os started H enc)
theorem proved : Rows.LabelSeedsCardSaid :=
  Claim7.holds_tied_plain_at .later [] [.data] true _ false
    row_holds (fun _ h => by cases h) (by kernel_rfl) (fun _ h => by cases h) labelSeeds_row_tie rfl ⟨rfl, rfl⟩ (by kernel_rfl) rfl
    (fun f fn hf hfn => by
      obtain rfl : f = 3 := Option.some.inj ((show Tryd.prog.funcNamed "chirograph/chirographlaw14.LabelSeeds" = some 3 by kernel_rfl).symm.trans hf) |>.symm
      obtain rfl : fn = Tryd.f3 := (Option.some.inj (Tryd.func3.symm.trans hfn)).symm
      exact ⟨by kernel_rfl, fun j t ht => by
        rw [Tryd.params3] at ht
        have hm : t ∈ [9, 9, 3, 23, 23] := by simpa using Array.mem_of_getElem? ht
        have hall : ([9, 9, 3, 23, 23].all fun u => !Tryd.prog.wantsStandIn u) = true := by kernel_rfl
        exact (show Tryd.prog.wantsStandIn t = false by simpa using List.all_eq_true.1 hall t hm)⟩)
    (by kernel_rfl)
end Go.Proofs.YtlldcgofjibdjaaDoor.lseeds
